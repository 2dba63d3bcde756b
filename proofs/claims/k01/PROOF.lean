import PyProof.Rows.All
import Wide.All
import OpenK.AllK
import Wide.FinOn
import HandS.ForMost
import HandS.Evl
import HandS.Style
import HandS.Walk
import HandS.IsInst
import HandS.Deep
import HandS.StrMore
import HandS.More
import PySem.Challenge.RW_wholetraces_k01_errors_and_what_they_kee
import PyProof.ReprLen
import PyProof.ReprReads
import PyProof.ReprHeadsEmpty
import PyProof.CallFns
import HandS.ExcIs
import HandS.ExcInit
import HandS.ExcField
import KE.KExcInit
import PyProof.ExcBaseAll.LookupError
import PyProof.ExcBaseAll.IndexError
import HandS.ExcValue
import HandS.ExcOwn
set_option Elab.async false
set_option maxRecDepth 100000
set_option maxHeartbeats 4000000
set_option linter.all false
/-! ## Words of my own that speak of no program -/
namespace My
open PySem L2
/-- the box of draws: three ints -/
def bx (w s c : Int) : HO := .lst [.int w, .int s, .int c]
theorem small_ {n : Nat} (h : n ≤ 1000) : n ≤ sizeLine := Nat.le_of_lt (small1000 h)
theorem at_some {xs : List V} {k : Int} (h0 : 0 ≤ k) (h1 : k < (xs.length : Int)) : ∃ v : V, atI xs k = some v ∧ xs[k.toNat]? = some v := by
  have hk : k.toNat < xs.length := by omega
  have h2 : xs[k.toNat]? = some xs[k.toNat] := List.getElem?_eq_getElem hk
  have h3 := atI_nat h2
  rw [show ((k.toNat : Nat) : Int) = k by omega] at h3
  exact ⟨_, h3, h2⟩
theorem int_at {ns : List Int} {k : Int} (h0 : 0 ≤ k) (h1 : k < (ns.length : Int)) : ∃ z : Int, atI (ns.map V.int) k = some (.int z) := by
  obtain ⟨v, h, e⟩ := at_some (xs := ns.map V.int) h0 (by rw [List.length_map]; exact h1)
  rw [List.getElem?_map] at e
  cases q : ns[k.toNat]? with
  | none => rw [q] at e; cases e
  | some z => rw [q] at e; cases e; exact ⟨z, h⟩
/-! ### the heap grows, the box alone changes -/
structure Gr (b : Addr) (H H' : Hp) : Prop where
  keep : ∀ a o, a ≠ b → H a = some o → H' a = some o
  box : ∃ w s c, H' b = some (bx w s c)
/-- at a, which is not the box, stands o -/
structure At (b : Addr) (H : Hp) (a : Addr) (o : HO) : Prop where
  ne : a ≠ b
  at_ : H a = some o
theorem Gr.refl {b : Addr} {H : Hp} {w s c : Int} (h : H b = some (bx w s c)) : Gr b H H := ⟨fun _ _ _ e => e, w, s, c, h⟩
theorem Gr.trans {b : Addr} {H H1 H2 : Hp} (x : Gr b H H1) (y : Gr b H1 H2) : Gr b H H2 := ⟨fun a o n e => y.keep a o n (x.keep a o n e), y.box⟩
theorem Gr.draw {b : Addr} {H H1 : Hp} (x : Gr b H H1) (w s c : Int) : Gr b H (upd H1 b (bx w s c)) := ⟨fun a o n e => by rw [upd_ne n]; exact x.keep a o n e, w, s, c, upd_same⟩
theorem Gr.ne_new {b p : Addr} {H H1 : Hp} (x : Gr b H H1) (h : H1 p = none) : p ≠ b := fun e => by
  obtain ⟨w, s, c, q⟩ := x.box
  rw [e, q] at h
  cases h
theorem Gr.free {b p : Addr} {H H1 : Hp} (x : Gr b H H1) (h : H1 p = none) : H p = none := by
  cases q : H p with
  | none => rfl
  | some o =>
    rw [x.keep p o (x.ne_new h) q] at h
    cases h
theorem Gr.new {b p : Addr} {H H1 : Hp} (x : Gr b H H1) (h : H1 p = none) (o : HO) : Gr b H (upd H1 p o) := by
  have np := x.ne_new h
  refine ⟨fun a u n e => ?_, ?_⟩
  · rw [upd_ne (ne_of_none (x.keep a u n e) h)]
    exact x.keep a u n e
  · obtain ⟨w, s, c, q⟩ := x.box
    exact ⟨w, s, c, by rw [upd_ne np.symm]; exact q⟩
/-- what H does not know may be changed -/
theorem Gr.mut {b p : Addr} {H H1 : Hp} (x : Gr b H H1) (h : H p = none) (np : p ≠ b) (o : HO) : Gr b H (upd H1 p o) := by
  refine ⟨fun a u n e => ?_, ?_⟩
  · rw [upd_ne (ne_of_none e h)]
    exact x.keep a u n e
  · obtain ⟨w, s, c, q⟩ := x.box
    exact ⟨w, s, c, by rw [upd_ne np.symm]; exact q⟩
theorem At.gr {b a : Addr} {H H' : Hp} {o : HO} (h : At b H a o) (g : Gr b H H') : At b H' a o := ⟨h.ne, g.keep a o h.ne h.at_⟩
theorem At.l {K : PySem.W.Frag} {b a : Addr} {H : Hp} {xs : List V} (h : At b H a (.lst xs)) : SqL K H a xs := SqL.of h.at_
theorem At.t {K : PySem.W.Frag} {b a : Addr} {H : Hp} {xs : List V} (h : At b H a (.tup xs)) : SqT K H a xs := SqT.of h.at_
theorem Gr.at_new {b p : Addr} {H H1 : Hp} (x : Gr b H H1) (h : H1 p = none) (o : HO) : At b (upd H1 p o) p o := ⟨x.ne_new h, upd_same⟩
theorem At.new {b a p : Addr} {H : Hp} {o u : HO} (h : At b H a o) (hp : H p = none) : At b (upd H p u) a o := ⟨h.ne, by rw [upd_ne (ne_of_none h.at_ hp)]; exact h.at_⟩
theorem At.nep {b a p : Addr} {H : Hp} {o : HO} (h : At b H a o) (hp : H p = none) : a ≠ p := ne_of_none h.at_ hp
theorem Gr.of_new {b p : Addr} {H : Hp} {w s c : Int} (hb : H b = some (bx w s c)) (h : H p = none) (o : HO) : Gr b H (upd H p o) := (Gr.refl hb).new h o
theorem At.mk_new {b p : Addr} {H H1 : Hp} (x : Gr b H H1) (h : H1 p = none) (o : HO) : At b (upd H1 p o) p o := ⟨x.ne_new h, upd_same⟩
theorem Same.gr {b : Addr} {H H' : Hp} {w s c : Int} (e : Same H H') (h : H b = some (bx w s c)) : Gr b H H' := ⟨fun a o _ q => e a o q, w, s, c, e _ _ h⟩
theorem same_upd {H : Hp} {p : Addr} (h : H p = none) (o : HO) : Same H (upd H p o) := fun b u q => by rw [upd_ne (ne_of_none q h)]; exact q

/-! ### a list against an empty list -/
section
variable {X : Cx}
def rEqE (K : PySem.W.Frag) (neg : Bool) : R2 := fun x y H Q => ∃ (a q : Addr) (xs : List V), x = .ref a ∧ y = .ref q ∧ SqL K H a xs ∧ SqL K H q [] ∧ Q (.bl (if neg then !xs.isEmpty else xs.isEmpty)) H
theorem op_eqE (hu : X.A.units < cLine) : OpR X (compareOp .Eq) (rEqE X.K false) := by
  intro pins s σ H x y u v Q I rx ry h
  obtain ⟨a, q, xs, rfl, rfl, h1, h2, k⟩ := h
  cases rx
  cases ry
  obtain ⟨is, r, p, _⟩ := I.list h1
  obtain ⟨js, r', p', _⟩ := I.list h2
  cases r'
  cases xs with
  | nil =>
    cases r
    exact SeqAt.RcAt.lists (e := fun _ => true) p.isList p'.isList rfl hu (fun j h1 _ => absurd h1 (by simp)) X.prog X.w X.xe _ ⟨.bl true, H, I, rfl, k⟩
  | cons x xs =>
    cases r with
    | cons r1 r2 => exact SeqAt.RcAt.lists_lengths p.isList p'.isList (by simp) hu X.prog X.w X.xe _ ⟨.bl false, H, I, rfl, k⟩
theorem op_neE (hu : X.A.units < cLine) : OpR X (compareOp .NotEq) (rEqE X.K true) := by
  intro pins s σ H x y u v Q I rx ry h
  obtain ⟨a, q, xs, rfl, rfl, h1, h2, k⟩ := h
  cases rx
  cases ry
  obtain ⟨is, r, p, _⟩ := I.list h1
  obtain ⟨js, r', p', _⟩ := I.list h2
  cases r'
  cases xs with
  | nil =>
    cases r
    exact SeqAt.RcNeAt.lists (e := fun _ => true) p.isList p'.isList rfl hu (fun j h1 _ => absurd h1 (by simp)) X.prog X.w X.xe _ ⟨.bl false, H, I, rfl, k⟩
  | cons x xs =>
    cases r with
    | cons r1 r2 => exact SeqAt.RcNeAt.lists_lengths p.isList p'.isList (by simp) hu X.prog X.w X.xe _ ⟨.bl true, H, I, rfl, k⟩
/-- a text so many times -/
def timesL (x : List Nat) : Nat → List Nat
  | 0 => []
  | n + 1 => x ++ timesL x n
end
end My

/-! ## Further rules of my own: a text so many times -/
namespace My
open PySem L2
theorem timesL_one (x : List Nat) : timesL x 1 = x := by simp [timesL]
theorem fold_times (x : Array Nat) : ∀ (n : Nat) (acc : Array Nat), ((List.replicate n x).foldl (· ++ ·) acc).toList = acc.toList ++ timesL x.toList n
  | 0, acc => by simp [timesL]
  | n + 1, acc => by
    rw [List.replicate_succ, List.foldl_cons, fold_times x n, Array.toList_append, List.append_assoc]
    rfl
theorem timesL_len (x : List Nat) : ∀ n : Nat, (timesL x n).length = n * x.length
  | 0 => by simp [timesL]
  | n + 1 => by
    show (x ++ timesL x n).length = (n + 1) * x.length
    rw [List.length_append, timesL_len x n, Nat.add_mul, Nat.one_mul, Nat.add_comm]
theorem timesL_nil : ∀ n : Nat, timesL [] n = []
  | 0 => rfl
  | n + 1 => by
    show [] ++ timesL [] n = []
    rw [timesL_nil n]
    rfl
section
variable {X : Cx}
theorem op_mul_str : OpR X (binaryOp .Mult) (fun x y H Q => ∃ (z : Str) (n : Int), x = .str z ∧ y = .int n ∧ 0 ≤ n ∧ n ≤ 1000 ∧ z.length ≤ 1000 ∧ Q (.str ⟨(timesL z.cps.toList n.toNat).toArray⟩) H) := by
  intro pins s σ H x y v u Q I rx ry h
  obtain ⟨z, n, rfl, rfl, h0, h1, hz, k⟩ := h
  obtain ⟨t, rfl⟩ := rx
  obtain ⟨t', rfl⟩ := ry
  have hs : z.cps.size ≤ 1000 := hz
  refine PySem.P.mul_str (by rw [decide_eq_false (by omega), decide_eq_false (by omega)]; rfl) (fun h2 _ => ?_) (fun h2 _ => ?_) ?_
  · have h3 : (1000 : Int) ≤ (2 ^ 63 - 1) / n := by
      rw [Int.le_ediv_iff_mul_le (by omega)]
      have : (1000 : Int) * n ≤ 1000000 := by omega
      omega
    omega
  · have h3 : z.length * n.toNat ≤ 1000 * 1000 := Nat.mul_le_mul hz (by omega)
    have h4 : z.length * n.toNat ≤ sizeLine := by rw [sizeLine_eq]; omega
    show decide (z.length * n.toNat > sizeLine) = false
    exact decide_eq_false (by omega)
  · by_cases n0 : n < 1
    · have e : n = 0 := by omega
      subst e
      exact ⟨Nat.zero_le _, .str ⟨#[]⟩, H, I.tok _, ⟨_, rfl⟩, k⟩
    · rw [if_neg n0]
      by_cases e : (n == 1 || z.length == 0) = true
      · rw [if_pos e]
        have q : timesL z.cps.toList n.toNat = z.cps.toList := by
          rcases Bool.or_eq_true_iff.mp e with e | e
          · have e' : n = 1 := by simpa using e
            subst e'
            exact timesL_one _
          · have e' : z.cps.toList = [] := by
              have : z.cps.size = 0 := by simpa [Str.length] using e
              exact List.eq_nil_of_length_eq_zero (by simpa using this)
            rw [e', timesL_nil]
        rw [q] at k
        exact ⟨.str z, H, I, ⟨t, rfl⟩, by simpa using k⟩
      · rw [if_neg e]
        have q : (⟨(List.replicate n.toNat z.cps).foldl (· ++ ·) #[]⟩ : Str) = ⟨(timesL z.cps.toList n.toNat).toArray⟩ := by
          have f := fold_times z.cps n.toNat #[]
          have g : (List.replicate n.toNat z.cps).foldl (· ++ ·) #[] = (timesL z.cps.toList n.toNat).toArray := by
            apply Array.toList_inj.mp
            rw [f]
            simp
          rw [g]
        rw [← q] at k
        refine ⟨?_, .str _, H, I.tok _, ⟨_, rfl⟩, k⟩
        show ((List.replicate n.toNat z.cps).foldl (· ++ ·) #[]).size ≤ sizeLine
        rw [← Array.length_toList, fold_times, List.length_append, timesL_len]
        have h3 : n.toNat * z.cps.toList.length ≤ 1000 * 1000 := Nat.mul_le_mul (by omega) (by simpa using hs)
        rw [sizeLine_eq]
        simpa using (by omega : n.toNat * z.cps.toList.length ≤ 16777216)
end
end My

/-! ## The rules that read the written part, with it named (within a comprehension's block it must not hang on the block) -/
namespace My
open PySem L2
section
variable {X : Cx} {e a b o : Expr} {es : List Expr} {te ta tb to : TE} {t : TA} {f name : Str} {pos cpos p apos : Pos} {id T : String}
theorem pe_fldK (K : PySem.W.Frag) (he : PE X e ta) (hK : X.K = K := by rfl) (hb : attributeBase e f X.env (eval e X.env) = eval e X.env := by rfl) : PE X (.Attribute e f pos) (tFld K ta f) := hK ▸ pe_fld he hb
theorem ix_listK (K : PySem.W.Frag) (hK : X.K = K := by rfl) : IxR X (rIxL K) := hK ▸ ix_list
theorem ix_tupK (K : PySem.W.Frag) (hK : X.K = K := by rfl) : IxR X (rIxT K) := hK ▸ ix_tup
theorem sl_listK (K : PySem.W.Frag) (hK : X.K = K := by rfl) : SlR X (rSlL K) := hK ▸ sl_list
theorem sl_tupK (K : PySem.W.Frag) (hK : X.K = K := by rfl) : SlR X (rSlT K) := hK ▸ sl_tup
def rLenS (K : PySem.W.Frag) : List V → Hp → VK → Prop := fun xs H Q => ∃ p ys, xs = [.ref p] ∧ (SqL K H p ys ∨ SqT K H p ys) ∧ Q (.int ys.length) H
theorem call_lenK (K : PySem.W.Frag) (hK : X.K = K := by rfl) : CallR X (.builtin "len") (rLenS K) := hK ▸ call_len_seq
def rListO (K : PySem.W.Frag) : List V → Hp → VK → Prop := fun xs H Q => ∃ p ys, xs = [.ref p] ∧ (SqL K H p ys ∨ SqT K H p ys) ∧ ∀ l, H l = none → Q (.ref l) (upd H l (.lst ys))
theorem call_listK (K : PySem.W.Frag) (hK : X.K = K := by rfl) : CallR X (.type "list") (rListO K) := hK ▸ call_list_of
def rTupO (K : PySem.W.Frag) : List V → Hp → VK → Prop := fun xs H Q => ∃ p ys, xs = [.ref p] ∧ ((SqL K H p ys ∧ ∀ l, H l = none → Q (.ref l) (upd H l (.tup ys))) ∨ (SqT K H p ys ∧ Q (.ref p) H))
theorem call_tupleK (K : PySem.W.Frag) (hK : X.K = K := by rfl) : CallR X (.type "tuple") (rTupO K) := hK ▸ call_tuple_of
theorem op_inK (K : PySem.W.Frag) (hK : X.K = K := by rfl) : OpR X (compareOp .In) (rIn K false) := hK ▸ op_in_seq
theorem op_notInK (K : PySem.W.Frag) (hK : X.K = K := by rfl) : OpR X (compareOp .NotIn) (rIn K true) := hK ▸ op_notIn_seq
theorem op_eqDK (K : PySem.W.Frag) (hu : X.A.units + 64 < cLine) (hK : X.K = K := by rfl) : OpR X (compareOp .Eq) (rEqD K) := hK ▸ op_eqD hu
theorem op_neDK (K : PySem.W.Frag) (hu : X.A.units + 64 < cLine) (hK : X.K = K := by rfl) : OpR X (compareOp .NotEq) (rNeD K) := hK ▸ op_neD hu
theorem op_eqEK (K : PySem.W.Frag) (hu : X.A.units < cLine) (hK : X.K = K := by rfl) : OpR X (compareOp .Eq) (rEqE K false) := hK ▸ op_eqE hu
theorem op_neEK (K : PySem.W.Frag) (hu : X.A.units < cLine) (hK : X.K = K := by rfl) : OpR X (compareOp .NotEq) (rEqE K true) := hK ▸ op_neE hu
def rJoin (K : PySem.W.Frag) : V → List V → Hp → VK → Prop := fun x xs H Q => ∃ a p, ∃ ys : List Str, x = .str a ∧ xs = [.ref p] ∧ (SqL K H p (ys.map V.str) ∨ SqT K H p (ys.map V.str)) ∧
  (ys.map (·.length)).sum + ys.length * a.length ≤ 16777216 ∧ Q (.str (Txt.join a ys)) H
theorem mt_joinK (K : PySem.W.Frag) (hK : X.K = K := by rfl) : MtR X "str.join" (rJoin K) := hK ▸ mt_join
theorem pi_listK (K : PySem.W.Frag) {tg : Expr} (hl : PE X e te) (hK : X.K = K := by rfl) : PI X tg e (iList K te) := hK ▸ pi_list hl
theorem pi_tupK (K : PySem.W.Frag) {tg : Expr} (hl : PE X e te) (hK : X.K = K := by rfl) : PI X tg e (iTup K te) := hK ▸ pi_tup hl
theorem call_isiV (K : PySem.W.Frag) (hK : X.K = K := by rfl) : CallR X (.builtin "isinstance") (rIsi K) := hK ▸ call_isi
theorem call_isiTV (K : PySem.W.Frag) (hK : X.K = K := by rfl) : CallR X (.builtin "isinstance") (rIsiT K) := hK ▸ call_isiT
theorem cr_allK (K : PySem.W.Frag) (hc : X.calm = true) (hK : X.K = K := by rfl) : CallR X (.builtin "all") (rAll K) := hK ▸ cr_all hc
end
end My

/-! ## Data: values that are nested lists and tuples -/
namespace My
open PySem L2
mutual
theorem Dp.same {K : PySem.W.Frag} {H H' : Hp} (e : Same H H') : ∀ (d : PyData) (v : V), Dp K H v d → Dp K H' v d
  | .none, _, h => by cases h; exact .non
  | .bool b, _, h => by cases h; exact .bl b
  | .int i, _, h => by cases h; exact .int i
  | .str x, _, h => by cases h; exact .str x
  | .list ds, _, h => by
    cases h with
    | lst hs ha => exact .lst (e.seq hs) (DpAll.same e ds _ ha)
  | .tuple ds, _, h => by
    cases h with
    | tup hs ha =>
      refine .tup ?_ (DpAll.same e ds _ ha)
      rcases hs with (hs | ⟨o, hs⟩) | hs
      · exact .inl (.inl (e _ _ hs))
      · exact .inl (.inr ⟨o, e _ _ hs⟩)
      · exact .inr hs
  | .dict _, _, h => by cases h
theorem DpAll.same {K : PySem.W.Frag} {H H' : Hp} (e : Same H H') : ∀ (ds : List PyData) (vs : List V), DpAll K H vs ds → DpAll K H' vs ds
  | [], _, h => by cases h; exact .nil
  | d :: ds, _, h => by
    cases h with
    | cons h1 h2 => exact .cons (Dp.same e d _ h1) (DpAll.same e ds _ h2)
end
theorem seqL_same {K : PySem.W.Frag} {H H' : Hp} (e : Same H H') {a : Addr} {xs : List V} (h : SqL K H a xs) : SqL K H' a xs := e.seq h
theorem seqT_same {K : PySem.W.Frag} {H H' : Hp} (e : Same H H') {a : Addr} {xs : List V} (hs : SqT K H a xs) : SqT K H' a xs := by
  rcases hs with (hs | ⟨o, hs⟩) | hs
  · exact .inl (.inl (e _ _ hs))
  · exact .inl (.inr ⟨o, e _ _ hs⟩)
  · exact .inr hs
theorem tyL {K : PySem.W.Frag} {H : Hp} {a : Addr} {xs : List V} (h : SqL K H a xs) : TyX K H (.ref a) (.type "list") := by
  rcases h with (h | ⟨o, h⟩) | ⟨o, its, n, h, hc, _⟩
  · exact .base (.lst h)
  · exact .base (.frz h)
  · exact .kList h hc
theorem tyT {K : PySem.W.Frag} {H : Hp} {a : Addr} {xs : List V} (h : SqT K H a xs) : TyX K H (.ref a) (.type "tuple") := by
  rcases h with (h | ⟨o, h⟩) | ⟨o, its, n, h, hc, _⟩
  · exact .base (.tup h)
  · exact .fTuple h
  · exact .kTuple h hc
/-- the type of a datum -/
def tyD : PyData → String
  | .none => "NoneType"
  | .bool _ => "bool"
  | .int _ => "int"
  | .str _ => "str"
  | .list _ => "list"
  | .tuple _ => "tuple"
  | .dict _ => "dict"
theorem Dp.ty {K : PySem.W.Frag} {H : Hp} {v : V} {d : PyData} (h : Dp K H v d) : TyX K H v (.type (tyD d)) := by
  cases h with
  | non => exact .base .non
  | bl b => exact .base (.bl b)
  | int i => exact .base (.int i)
  | str x => exact .base (.str x)
  | lst hs _ => exact tyL hs
  | tup hs _ => exact tyT hs
/-- a datum of bounded depth whose text, if it is one, is short -/
structure Dv (K : PySem.W.Frag) (H : Hp) (v : V) (d : PyData) : Prop where
  dp : Dp K H v d
  sh : SeqAt.shaped d = true
  tx : ∀ x, d = .str x → x.length ≤ 2000
theorem Dv.same {K : PySem.W.Frag} {H H' : Hp} {v : V} {d : PyData} (h : Dv K H v d) (e : Same H H') : Dv K H' v d := ⟨Dp.same e d v h.dp, h.sh, h.tx⟩
/-- a short text of code points -/
def okS (x : Str) : Bool := decide (x.length ≤ 2000) && PyData.strOk x
theorem shaped_str {x : Str} (h : PyData.strOk x = true) : SeqAt.shaped (.str x) = true := by
  unfold SeqAt.shaped
  simp [PyData.canLay0, PyData.depth, h]
theorem Dv.str {K : PySem.W.Frag} {H : Hp} {x : Str} (h : okS x = true) : Dv K H (.str x) (.str x) := by
  have h' := Bool.and_eq_true_iff.mp h
  exact ⟨.str x, shaped_str h'.2, fun y e => by cases e; exact of_decide_eq_true h'.1⟩
theorem Dp.all_strs {K : PySem.W.Frag} {H : Hp} : ∀ l : List Str, DpAll K H (l.map V.str) (l.map PyData.str)
  | [] => .nil
  | x :: l => .cons (.str x) (Dp.all_strs l)
/-- a datum as a text among some -/
def txD (l : List Str) : PyData → Bool
  | .str x => l.contains x
  | _ => false
theorem any_strs (l : List Str) (d : PyData) : ((l.map PyData.str).any fun z => PyData.eqv z d) = txD l d := by
  induction l with
  | nil => cases d <;> rfl
  | cons y l ih =>
    rw [List.map_cons, List.any_cons, ih]
    cases d with
    | str x =>
      show (PyData.eqv (.str y) (.str x) || l.contains x) = (y :: l).contains x
      rw [List.contains_cons, show PyData.eqv (.str y) (.str x) = (y == x) from by simp [PyData.eqv], BEq.comm]
    | _ =>
      show (PyData.eqv (.str y) _ || false) = false
      simp [PyData.eqv]
theorem canLay_strs : ∀ l : List Str, (l.all PyData.strOk) = true → PyData.canLayAll0 (l.map PyData.str) = true
  | [], _ => rfl
  | y :: l, h => by
    rw [List.all_cons, Bool.and_eq_true] at h
    have ih := canLay_strs l h.2
    simp [PyData.canLayAll0, PyData.canLay0, h.1, ih]
theorem depth_strs : ∀ l : List Str, PyData.depthAll (l.map PyData.str) = 0
  | [] => by simp [PyData.depthAll]
  | y :: l => by
    have ih := depth_strs l
    simp [PyData.depthAll, PyData.depth, ih]
theorem shaped_strs {l : List Str} (h : (l.all PyData.strOk) = true) : SeqAt.shaped (.tuple (l.map PyData.str)) = true := by
  unfold SeqAt.shaped
  simp [PyData.canLay0, PyData.depth, canLay_strs l h, depth_strs l]
theorem shapedL_strs {l : List Str} (h : (l.all PyData.strOk) = true) : SeqAt.shaped (.list (l.map PyData.str)) = true := by
  unfold SeqAt.shaped
  simp [PyData.canLay0, PyData.depth, canLay_strs l h, depth_strs l]
section
variable {X : Cx}
def rInT (K : PySem.W.Frag) (neg : Bool) : R2 := fun x y H Q => ∃ d ds, Dp K H x d ∧ Dp K H y (.tuple ds) ∧ SeqAt.shaped d = true ∧ SeqAt.shaped (.tuple ds) = true ∧ Q (.bl (if neg then !ds.any fun z => PyData.eqv z d else ds.any fun z => PyData.eqv z d)) H
theorem op_inT (K : PySem.W.Frag) (hu : X.A.units + 65 < cLine) (hK : X.K = K := by rfl) : OpR X (compareOp .In) (rInT K false) := by
  subst hK
  intro pins s σ H x y v u Q I rx ry h
  obtain ⟨d, ds, hd, he, sd, se, q⟩ := h
  obtain ⟨as, r1⟩ := Dp.reads I d x v hd rx
  obtain ⟨bs, r2⟩ := Dp.reads I (.tuple ds) y u he ry
  exact SeqAt.in_tuple_reads r2 r1 (by simpa [PyData.canLay0] using SeqAt.canLay_of_shaped se) (SeqAt.canLay_of_shaped sd) (by have := SeqAt.depth_of_shaped sd; have := Nat.min_le_right (PyData.depthAll ds) d.depth; omega) ⟨.bl _, H, I, rfl, q⟩
theorem op_notInT (K : PySem.W.Frag) (hu : X.A.units + 65 < cLine) (hK : X.K = K := by rfl) : OpR X (compareOp .NotIn) (rInT K true) := by
  subst hK
  intro pins s σ H x y v u Q I rx ry h
  obtain ⟨d, ds, hd, he, sd, se, q⟩ := h
  obtain ⟨as, r1⟩ := Dp.reads I d x v hd rx
  obtain ⟨bs, r2⟩ := Dp.reads I (.tuple ds) y u he ry
  exact SeqAt.notIn_tuple_reads r2 r1 (by simpa [PyData.canLay0] using SeqAt.canLay_of_shaped se) (SeqAt.canLay_of_shaped sd) (by have := SeqAt.depth_of_shaped sd; have := Nat.min_le_right (PyData.depthAll ds) d.depth; omega) ⟨.bl _, H, I, rfl, q⟩
end
theorem room65 {k : Nat} {A : Around} (r : Room k A) : A.units + 65 < cLine := by have := r.un; omega
end My

/-! ## The law's draws: the box, a draw, a pick -/
namespace My
open PySem L2
def top (i : Nat) : Stmt := PySem.Challenge.pw_wholetraces_k01_errors_and_what_they_kee.main.body.getD i (.Pass ⟨0, 0, 0, 0⟩)
abbrev s_box : Stmt := top 13
abbrev N_box : List Str := ["_law_script", "_law_k", "_law_cell", "_law_seed", "_law_wide"]
abbrev P_box : List Str := ["_law_script", "_law_k"]
theorem sc_box : FnScope N_box P_box (defScope s_box) := ⟨rfl, rfl, rfl, by decide +kernel, rfl, by decide +kernel, by decide +kernel⟩
abbrev s_take : Stmt := top 14
abbrev N_take : List Str := ["_law_box_here", "_law_many", "_law_digit", "_law_near"]
abbrev P_take : List Str := ["_law_box_here", "_law_many"]
theorem sc_take : FnScope N_take P_take (defScope s_take) := ⟨rfl, rfl, rfl, by decide +kernel, rfl, by decide +kernel, by decide +kernel⟩
abbrev s_pick : Stmt := top 15
abbrev N_pick : List Str := ["_law_box_here", "_law_some"]
abbrev P_pick : List Str := ["_law_box_here", "_law_some"]
theorem sc_pick : FnScope N_pick P_pick (defScope s_pick) := ⟨rfl, rfl, rfl, by decide +kernel, rfl, by decide +kernel, by decide +kernel⟩
structure TxDraw (w : World) (K : PySem.W.Frag) (mg : Str → Option Value) where
  z_len : mg "len" = none
  z_int : mg "int" = none
  z_abs : mg "abs" = none
  f_take : Addr
  d_take : FuncData
  F_take : Fun K "_law_take" "_law_take" s_take f_take d_take
  m_take : mg "_law_take" = some (.ref f_take)
  b_take : Binds K d_take P_take []
  f_box : Addr
  d_box : FuncData
  F_box : Fun K "_law_box" "_law_box" s_box f_box d_box
  m_box : mg "_law_box" = some (.ref f_box)
  b_box : Binds K d_box P_box []
  f_pick : Addr
  d_pick : FuncData
  F_pick : Fun K "_law_pick" "_law_pick" s_pick f_pick d_pick
  m_pick : mg "_law_pick" = some (.ref f_pick)
  b_pick : Binds K d_pick P_pick []
def spBox (K : PySem.W.Frag) : Sp := fun vs H Q _ => ∃ (a : Addr) (ns : List Int) (k : Int), vs = [.ref a, .int k] ∧ SqL K H a (ns.map V.int) ∧ ns.length ≤ 63 ∧ 0 ≤ k ∧
  ∀ (b : Addr) (w s : Int), H b = none → Q (.ref b) (upd H b (bx w s 0))
def spTake : Sp := fun vs H Q _ => ∃ (b : Addr) (w s c m : Int), vs = [.ref b, .int m] ∧ H b = some (bx w s c) ∧ 0 < m ∧ m < 1073741824 ∧
  ∀ (d w' s' c' : Int), 0 ≤ d → d < m → Q (.int d) (upd H b (bx w' s' c'))
/-- an item of a list that stands at a, another object than the box -/
def spPick (K : PySem.W.Frag) : Sp := fun vs H Q _ => ∃ (b a : Addr) (w s c : Int) (xs : List V), vs = [.ref b, .ref a] ∧ H b = some (bx w s c) ∧ SqL K H a xs ∧ (∀ u, SqL K (upd H b u) a xs) ∧ xs ≠ [] ∧ xs.length ≤ 1000 ∧
  ∀ (x : V) (w' s' c' : Int), x ∈ xs → Q x (upd H b (bx w' s' c'))
section
variable {P : Program} {w : World} {K : PySem.W.Frag} {mg : Str → Option Value} {base : Heap}
theorem ok_take (T : TxDraw w K mg) : FnOk P w K mg base CX0 1 T.f_take T.d_take P_take spTake := by
  refine T.F_take.ok sc_take (fun vs H Q E h => ?_) (fun cdv A outer s H vs Q E hr h => ?_)
  · obtain ⟨b, w, s, c, m, rfl, _⟩ := h
    rfl
  obtain ⟨b, w, s, c, m, rfl, hb, m0, m1, k⟩ := h
  refine ⟨_, (pss_cons (ps_if (pt_cmpR op_gt (pe_ix (ix_listK K) (pv 0) pe_int (fun _ _ => rfl)) pe_int (nomark _)) (pss_cons (ps_set (i := 2) sc_take.nd rfl (Or.inl rfl) (pe_op op_mod (pe_callTy call_int1 (by rfl) T.z_int (by decide +kernel) (pa_cons (pe_ix (ix_listK K) (pv 0) pe_int (fun _ _ => rfl)) pa_nil)) (pv 1)))
      (pss_cons (ps_asg (pe_op op_fdiv (pe_ix (ix_listK K) (pv 0) pe_int (fun _ _ => rfl)) (pv 1)) (pg_sub (pv 0) pe_int set_list))
      (pss_one (ps_ret (pv 2))))) pss_nil)
      (pss_cons (ps_asg (pe_op op_add (pe_ix (ix_listK K) (pv 0) pe_int (fun _ _ => rfl)) pe_int) (pg_sub (pv 0) pe_int set_list))
      (pss_cons (ps_set (i := 3) sc_take.nd rfl (Or.inl rfl) (pe_op op_mod (pe_callTy call_int1 (by rfl) T.z_int (by decide +kernel) (pa_cons (pe_op op_mul (pe_op op_add (pe_ix (ix_listK K) (pv 0) pe_int (fun _ _ => rfl)) (pe_op op_mul pe_int (pe_ix (ix_listK K) (pv 0) pe_int (fun _ _ => rfl)))) pe_int) pa_nil)) pe_int))
      (pss_cons (ps_asg (pe_op op_add (pe_op op_mod (pe_callTy call_int1 (by rfl) T.z_int (by decide +kernel) (pa_cons (pe_op op_add (pe_op op_mul (pv 3) pe_int) pe_int) pa_nil)) pe_int) pe_int) (pg_sub (pv 0) pe_int set_list))
      (pss_one (ps_ret (pe_op op_mod (pe_callTy call_int1 (by rfl) T.z_int (by decide +kernel) (pa_cons (pe_op op_fdiv (pe_op op_add (pe_op op_mul (pv 3) pe_int) (pe_ix (ix_listK K) (pv 0) pe_int (fun _ _ => rfl))) pe_int) pa_nil)) (pv 1)))))))), ?_⟩
  refine ⟨_, rfl, _, _, _, _, rfl, rfl, SqL.of hb, rfl, _, _, rfl, rfl, _, rfl, ?_⟩
  refine ite2 (fun h => ?_) (fun h => ?_)
  · refine ⟨_, rfl, _, _, _, _, rfl, rfl, SqL.of hb, rfl, .inl ⟨_, rfl, _, rfl, _, _, rfl, rfl, m0, ?_⟩⟩
    refine ⟨_, rfl, _, _, _, _, rfl, rfl, SqL.of hb, rfl, _, rfl, _, _, rfl, rfl, ⟨m0, m1⟩, _, rfl, b, _, _, 0, rfl, rfl, hb, rfl, _, rfl, ?_⟩
    exact k _ _ _ _ (Int.emod_nonneg _ (by omega)) (Int.emod_lt_of_pos _ m0)
  · refine ⟨_, rfl, _, _, _, _, rfl, rfl, SqL.of hb, rfl, _, _, rfl, rfl, _, rfl, b, _, _, 2, rfl, rfl, hb, rfl, ?_⟩
    refine ⟨_, rfl, _, _, _, _, rfl, rfl, SqL.of upd_same, rfl, _, rfl, _, _, _, _, rfl, rfl, SqL.of upd_same, rfl, _, _, rfl, rfl, .inl ⟨by decide, by decide⟩, _, _, rfl, rfl, _, _, rfl, rfl, .inr ⟨by decide, by decide⟩, .inl ⟨_, rfl, _, _, rfl, rfl, (by show (0 : Int) < _; decide), ?_⟩⟩
    refine ⟨_, rfl, _, _, rfl, rfl, .inr ⟨by decide, by decide⟩, _, _, rfl, rfl, .inl ⟨_, rfl, _, _, rfl, rfl, (by show (0 : Int) < _; decide), _, _, rfl, rfl, _, rfl, b, _, _, 1, rfl, rfl, upd_same, rfl, ?_⟩⟩
    rw [upd_upd]
    refine ⟨_, rfl, _, _, rfl, rfl, .inr ⟨by decide, by decide⟩, _, rfl, _, _, _, _, rfl, rfl, SqL.of upd_same, rfl, _, _, rfl, rfl, _, _, rfl, rfl, ⟨by decide, by decide⟩, .inl ⟨_, rfl, _, rfl, _, _, rfl, rfl, m0, ?_⟩⟩
    exact k _ _ _ _ (Int.emod_nonneg _ (by omega)) (Int.emod_lt_of_pos _ m0)
theorem ok_box (T : TxDraw w K mg) : FnOk P w K mg base CX0 1 T.f_box T.d_box P_box (spBox K) := by
  refine T.F_box.ok sc_box (fun vs H Q E h => ?_) (fun cdv A outer s H vs Q E hr h => ?_)
  · obtain ⟨a, ns, k, rfl, _⟩ := h
    rfl
  obtain ⟨a, ns, k, rfl, hS, h63, k0, q⟩ := h
  have hl : (ns.map V.int).length = ns.length := List.length_map _
  refine ⟨_, (pss_cons (ps_set (i := 2) sc_box.nd rfl (Or.inl rfl) (pe_op op_add (pe_op op_mul pe_int (pv 1)) pe_int))
      (Evl.pss_cut (ps_if (pt_cmpR op_lt (pv 1) (pe_callB (call_lenK K) (by rfl) T.z_len (by decide +kernel) (pa_cons (pv 0) pa_nil)) (nomark _)) (pss_one (ps_set (i := 2) sc_box.nd rfl (Or.inl rfl) (pe_callB call_abs (by rfl) T.z_abs (by decide +kernel) (pa_cons (pe_callTy call_int1 (by rfl) T.z_int (by decide +kernel) (pa_cons (pe_ix (ix_listK K) (pv 0) (pv 1) (fun _ _ => rfl)) pa_nil)) pa_nil)))) (pss_one (ps_if (pt_cmpR op_gt (pe_callB (call_lenK K) (by rfl) T.z_len (by decide +kernel) (pa_cons (pv 0) pa_nil)) pe_int (nomark _)) (pss_one (ps_set (i := 2) sc_box.nd rfl (Or.inl rfl) (pe_op op_add (pv 2) (pe_op op_mul (pe_op op_mod (pe_callTy call_int1 (by rfl) T.z_int (by decide +kernel) (pa_cons (pe_ix (ix_listK K) (pv 0) (pe_op op_mod (pe_callTy call_int1 (by rfl) T.z_int (by decide +kernel) (pa_cons (pv 1) pa_nil)) (pe_callB (call_lenK K) (by rfl) T.z_len (by decide +kernel) (pa_cons (pv 0) pa_nil))) (fun _ _ => rfl)) pa_nil)) pe_int) pe_int)))) pss_nil)))
      (pss_cons (ps_set (i := 3) sc_box.nd rfl (Or.inl rfl) (pe_op op_add (pe_op op_mod (pe_callTy call_int1 (by rfl) T.z_int (by decide +kernel) (pa_cons (pe_op op_add (pe_op op_add (pe_op op_mul (pe_op op_mod (pe_callTy call_int1 (by rfl) T.z_int (by decide +kernel) (pa_cons (pv 2) pa_nil)) pe_int) pe_int) (pe_op op_mul pe_int (pv 1))) pe_int) pa_nil)) pe_int) pe_int))
      (pss_cons (ps_set (i := 4) sc_box.nd rfl (Or.inl rfl) (pe_ifExp (pt_cmpR op_ge (pv 2) (pe_op op_pow pe_int pe_int) (nomark _)) (pv 2) pe_int))
      (pss_one (ps_ret (pe_lst (pa_cons (pv 4) (pa_cons (pv 3) (pa_cons pe_int pa_nil)))))))))), ?_⟩
  refine ⟨_, rfl, _, _, rfl, rfl, .inl ⟨by decide, by decide⟩, _, _, rfl, rfl, ?_⟩
  refine ⟨fun σ H' => H' = H ∧ ∃ cell : Int, σ = [some (.ref a), some (.int k), some (.int cell), none, none], ?_, ?_⟩
  · refine ⟨_, rfl, _, rfl, _, _, rfl, .inl hS, _, _, rfl, rfl, _, rfl, ?_⟩
    refine ite2 (fun h => ?_) (fun h => ?_)
    · have h' := of_decide_eq_true h
      rw [hl] at h'
      obtain ⟨z, hz⟩ := int_at k0 h'
      exact ⟨_, rfl, _, rfl, _, _, _, _, rfl, rfl, hS, hz, .inl ⟨_, rfl, _, rfl, rfl, _, rfl⟩⟩
    · refine ⟨_, rfl, _, _, rfl, .inl hS, _, _, rfl, rfl, _, rfl, ?_⟩
      refine ite2 (fun h2 => ?_) (fun h2 => ?_)
      · have h2' := of_decide_eq_true h2
        obtain ⟨z, hz⟩ := int_at (ns := ns) (k := k % (((ns.map V.int).length : Nat) : Int)) (Int.emod_nonneg _ (by omega)) (by rw [hl] at h2' ⊢; exact Int.emod_lt_of_pos _ h2')
        exact ⟨_, rfl, _, rfl, _, rfl, .inl ⟨_, rfl, _, rfl, _, _, rfl, .inl hS, _, _, rfl, rfl, h2', _, _, _, _, rfl, rfl, hS, hz, .inl ⟨_, rfl, _, _, rfl, rfl, (by show (0 : Int) < _; decide), _, _, rfl, rfl, .inr ⟨by decide, by decide⟩, _, _, rfl, rfl, rfl, _, rfl⟩⟩⟩
      · exact ⟨rfl, _, rfl⟩
  · rintro σ H' ⟨rfl, cell, rfl⟩
    refine ⟨_, rfl, .inl ⟨_, rfl, _, _, rfl, rfl, (by show (0 : Int) < _; decide), _, _, rfl, rfl, .inr ⟨by decide, by decide⟩, _, rfl, _, _, rfl, rfl, .inl ⟨by decide, by decide⟩, _, _, rfl, rfl, _, _, rfl, rfl, .inl ⟨_, rfl, _, _, rfl, rfl, (by show (0 : Int) < _; decide), _, _, rfl, rfl, ?_⟩⟩⟩
    refine ⟨_, rfl, _, _, rfl, rfl, ⟨by decide, by decide, by decide⟩, _, _, rfl, rfl, _, rfl, ?_⟩
    refine ite2 (fun h => ?_) (fun h => ?_)
    · exact ⟨_, rfl, _, rfl, _, rfl, by show 3 ≤ sizeLine; decide, fun b hb => q b _ _ hb⟩
    · exact ⟨_, rfl, _, rfl, by show 3 ≤ sizeLine; decide, fun b hb => q b _ _ hb⟩
theorem ok_pick (T : TxDraw w K mg) : FnOk P w K mg base CX0 2 T.f_pick T.d_pick P_pick (spPick K) := by
  have G_take : FnOk P w K mg base CX0 1 T.f_take T.d_take P_take spTake := ok_take T
  refine T.F_pick.ok sc_pick (fun vs H Q E h => ?_) (fun cdv A outer s H vs Q E hr h => ?_)
  · obtain ⟨b, a, w, s, c, xs, rfl, _⟩ := h
    rfl
  obtain ⟨b, a, w, s, c, xs, rfl, hb, hS, hk, hne, hlen, q⟩ := h
  refine ⟨_, (pss_one (ps_ret (pe_ix (ix_listK K) (pv 1) (pe_call G_take (hr.mono (by decide)) (by rfl) T.m_take T.F_take.kp T.b_take .nil pass0 (pa_cons (pv 0) (pa_cons (pe_callB (call_lenK K) (by rfl) T.z_len (by decide +kernel) (pa_cons (pv 1) pa_nil)) pa_nil))) (fun _ _ => rfl)))), ?_⟩
  have hp : 0 < xs.length := List.length_pos_iff.mpr hne
  refine ⟨_, rfl, _, rfl, _, rfl, _, _, rfl, .inl hS, b, w, s, c, _, rfl, hb, by omega, by omega, fun d w' s' c' d0 d1 => ?_⟩
  obtain ⟨v, hv, he⟩ := at_some (xs := xs) d0 d1
  exact ⟨_, _, _, _, rfl, rfl, hk _, hv, q v w' s' c' (List.mem_of_getElem? he)⟩
/-- the same, the heap behind told by what stands -/
def spTakeG : Sp := fun vs H Q _ => ∃ (b : Addr) (m : Int), vs = [.ref b, .int m] ∧ Gr b H H ∧ 0 < m ∧ m < 1073741824 ∧
  ∀ (d : Int) (H' : Hp), 0 ≤ d → d < m → Gr b H H' → Q (.int d) H'
def spPickG : Sp := fun vs H Q _ => ∃ (b a : Addr) (xs : List V), vs = [.ref b, .ref a] ∧ Gr b H H ∧ At b H a (.lst xs) ∧ xs ≠ [] ∧ xs.length ≤ 1000 ∧
  ∀ (x : V) (H' : Hp), x ∈ xs → Gr b H H' → Q x H'
theorem ok_takeG (T : TxDraw w K mg) : FnOk P w K mg base CX0 1 T.f_take T.d_take P_take spTakeG := (ok_take T).imp fun vs H Q E h => by
  obtain ⟨b, m, rfl, g, m0, m1, k⟩ := h
  obtain ⟨w, s, c, hb⟩ := g.box
  exact ⟨b, w, s, c, m, rfl, hb, m0, m1, fun d w' s' c' d0 d1 => k d _ d0 d1 (g.draw _ _ _)⟩
theorem ok_pickG (T : TxDraw w K mg) : FnOk P w K mg base CX0 2 T.f_pick T.d_pick P_pick spPickG := (ok_pick T).imp fun vs H Q E h => by
  obtain ⟨b, a, xs, rfl, g, ha, hne, hl, k⟩ := h
  obtain ⟨w, s, c, hb⟩ := g.box
  exact ⟨b, a, w, s, c, xs, rfl, hb, ha.l, fun u => SqL.of (by rw [upd_ne ha.ne]; exact ha.at_), hne, hl, fun x w' s' c' hx => k x _ hx (g.draw _ _ _)⟩
end
end My

/-! ## Any values: drawn data -/
namespace My
open PySem L2
mutual
/-- a datum at v, all its objects of a kind -/
inductive Da (ok : Addr → Prop) (H : Hp) : V → PyData → Prop
  | non : Da ok H .non .none
  | bl (b : Bool) : Da ok H (.bl b) (.bool b)
  | int (i : Int) : Da ok H (.int i) (.int i)
  | str (x : Str) : Da ok H (.str x) (.str x)
  | lst {a : Addr} {xs : List V} {ds : List PyData} : ok a → H a = some (.lst xs) → DaAll ok H xs ds → Da ok H (.ref a) (.list ds)
  | tup {a : Addr} {xs : List V} {ds : List PyData} : ok a → H a = some (.tup xs) → DaAll ok H xs ds → Da ok H (.ref a) (.tuple ds)
inductive DaAll (ok : Addr → Prop) (H : Hp) : List V → List PyData → Prop
  | nil : DaAll ok H [] []
  | cons {v : V} {vs : List V} {d : PyData} {ds : List PyData} : Da ok H v d → DaAll ok H vs ds → DaAll ok H (v :: vs) (d :: ds)
end
mutual
theorem Da.mono {ok ok' : Addr → Prop} {H H' : Hp} (h1 : ∀ a, ok a → ok' a) (h2 : ∀ a o, ok a → H a = some o → H' a = some o) : ∀ (d : PyData) (v : V), Da ok H v d → Da ok' H' v d
  | .none, _, h => by cases h; exact .non
  | .bool b, _, h => by cases h; exact .bl b
  | .int i, _, h => by cases h; exact .int i
  | .str x, _, h => by cases h; exact .str x
  | .list ds, _, h => by
    cases h with
    | lst k hs ha => exact .lst (h1 _ k) (h2 _ _ k hs) (DaAll.mono h1 h2 ds _ ha)
  | .tuple ds, _, h => by
    cases h with
    | tup k hs ha => exact .tup (h1 _ k) (h2 _ _ k hs) (DaAll.mono h1 h2 ds _ ha)
  | .dict _, _, h => by cases h
theorem DaAll.mono {ok ok' : Addr → Prop} {H H' : Hp} (h1 : ∀ a, ok a → ok' a) (h2 : ∀ a o, ok a → H a = some o → H' a = some o) : ∀ (ds : List PyData) (vs : List V), DaAll ok H vs ds → DaAll ok' H' vs ds
  | [], _, h => by cases h; exact .nil
  | d :: ds, _, h => by
    cases h with
    | cons k1 k2 => exact .cons (Da.mono h1 h2 d _ k1) (DaAll.mono h1 h2 ds _ k2)
end
mutual
theorem Da.dp {K : PySem.W.Frag} {ok : Addr → Prop} {H : Hp} : ∀ (d : PyData) (v : V), Da ok H v d → Dp K H v d
  | .none, _, h => by cases h; exact .non
  | .bool b, _, h => by cases h; exact .bl b
  | .int i, _, h => by cases h; exact .int i
  | .str x, _, h => by cases h; exact .str x
  | .list ds, _, h => by
    cases h with
    | lst k hs ha => exact .lst (SqL.of hs) (DaAll.dp ds _ ha)
  | .tuple ds, _, h => by
    cases h with
    | tup k hs ha => exact .tup (SqT.of hs) (DaAll.dp ds _ ha)
  | .dict _, _, h => by cases h
theorem DaAll.dp {K : PySem.W.Frag} {ok : Addr → Prop} {H : Hp} : ∀ (ds : List PyData) (vs : List V), DaAll ok H vs ds → DpAll K H vs ds
  | [], _, h => by cases h; exact .nil
  | d :: ds, _, h => by
    cases h with
    | cons k1 k2 => exact .cons (Da.dp d _ k1) (DaAll.dp ds _ k2)
end
theorem DaAll.snoc {ok : Addr → Prop} {H : Hp} {v : V} {d : PyData} : ∀ {vs : List V} {ds : List PyData}, DaAll ok H vs ds → Da ok H v d → DaAll ok H (vs ++ [v]) (ds ++ [d])
  | _, _, .nil, h => .cons h .nil
  | _, _, .cons a t, h => .cons a (DaAll.snoc t h)
mutual
/-- all texts and all rows of items are short -/
def shortD : PyData → Bool
  | .str x => decide (x.length ≤ 2000)
  | .list ds => decide (ds.length ≤ 900) && shortDs ds
  | .tuple ds => decide (ds.length ≤ 900) && shortDs ds
  | _ => true
def shortDs : List PyData → Bool
  | [] => true
  | d :: ds => shortD d && shortDs ds
end
theorem shortDs_mem : ∀ {ds : List PyData}, (∀ d ∈ ds, shortD d = true) → shortDs ds = true
  | [], _ => rfl
  | d :: ds, h => by
    unfold shortDs
    rw [h d List.mem_cons_self, shortDs_mem fun x hx => h x (List.mem_cons_of_mem _ hx)]
    rfl
theorem shortDs_of : ∀ {ds : List PyData}, shortDs ds = true → ∀ d ∈ ds, shortD d = true
  | d :: ds, h, x, hx => by
    unfold shortDs at h
    rw [Bool.and_eq_true] at h
    rcases List.mem_cons.mp hx with z | z
    · rw [z]; exact h.1
    · exact shortDs_of h.2 x z
theorem DaAll.size {ok : Addr → Prop} {H : Hp} : ∀ {vs : List V} {ds : List PyData}, DaAll ok H vs ds → vs.length = ds.length
  | _, _, .nil => rfl
  | _, _, .cons _ t => by rw [List.length_cons, List.length_cons, DaAll.size t]
/-- what is said of a drawn datum: its texts are short and of code points, its depth at most k -/
structure GoodD (k : Nat) (d : PyData) : Prop where
  lay : d.canLay0 = true
  dep : d.depth ≤ k
  txt : ∀ x, d = .str x → x.length ≤ 2000
  sht : shortD d = true
theorem GoodD.mono {k l : Nat} {d : PyData} (h : GoodD k d) (e : k ≤ l) : GoodD l d := ⟨h.lay, Nat.le_trans h.dep e, h.txt, h.sht⟩
theorem GoodD.str {x : Str} {k : Nat} (h : okS x = true) : GoodD k (.str x) := by
  have h' := Bool.and_eq_true_iff.mp h
  exact ⟨by simpa [PyData.canLay0] using h'.2, by simp [PyData.depth], fun y e => (by cases e; exact of_decide_eq_true h'.1), h'.1⟩
theorem good_list {k : Nat} : ∀ {ds : List PyData}, ds.length ≤ 900 → (∀ d ∈ ds, GoodD k d) → GoodD (k + 1) (.list ds) ∧ GoodD (k + 1) (.tuple ds) := by
  intro ds hl h
  have sh : (decide (ds.length ≤ 900) && shortDs ds) = true := by rw [decide_eq_true hl, shortDs_mem fun d hd => (h d hd).sht]; rfl
  have h1 : PyData.canLayAll0 ds = true ∧ PyData.depthAll ds ≤ k := by
    clear sh hl
    induction ds with
    | nil => exact ⟨rfl, Nat.zero_le _⟩
    | cons d ds ih =>
      have a := h d List.mem_cons_self
      have b := ih fun x hx => h x (List.mem_cons_of_mem _ hx)
      refine ⟨by simp [PyData.canLayAll0, a.lay, b.1], ?_⟩
      simp only [PyData.depthAll]
      exact Nat.max_le.mpr ⟨a.dep, b.2⟩
  exact ⟨⟨by simpa [PyData.canLay0] using h1.1, by simp only [PyData.depth]; omega, fun _ e => (by cases e), sh⟩, ⟨by simpa [PyData.canLay0] using h1.1, by simp only [PyData.depth]; omega, fun _ e => (by cases e), sh⟩⟩
theorem Da.dv {K : PySem.W.Frag} {ok : Addr → Prop} {H : Hp} {v : V} {d : PyData} {k : Nat} (h : Da ok H v d) (g : GoodD k d) (hk : k ≤ 60) : Dv K H v d := by
  refine ⟨Da.dp d v h, ?_, g.txt⟩
  unfold SeqAt.shaped
  rw [g.lay, decide_eq_true (show d.depth ≤ 64 by have := g.dep; omega)]
  rfl
end My

/-! ## Any values drawn, and how long they are shown -/
namespace My
open PySem PySem.Spec PyProof.Rows L2
abbrev s_any : Stmt := top 16
abbrev N_any : List Str := ["_law_box_here", "_law_deep", "_law_form", "_law_some", "_law_k", "_law_words", "_law_plain"]
abbrev P_any : List Str := ["_law_box_here", "_law_deep"]
theorem sc_any : FnScope N_any P_any (defScope s_any) := ⟨rfl, rfl, rfl, by decide +kernel, rfl, by decide +kernel, by decide +kernel⟩
structure TxAny01 (w : World) (K : PySem.W.Frag) (mg : Str → Option Value) extends TxDraw w K mg where
  z_range : mg "range" = none
  z_tuple : mg "tuple" = none
  f_any : Addr
  d_any : FuncData
  F_any : Fun K "_law_any" "_law_any" s_any f_any d_any
  m_any : mg "_law_any" = some (.ref f_any)
  b_any : Binds K d_any P_any []
/-- what is said of it besides: how it is shown -/
def capS : Nat → Nat
  | 0 => 30
  | n + 1 => 4 * capS n
structure GoodS (k : Nat) (d : PyData) : Prop extends GoodD k d where
  shw : d.showable = true
  nod : d.hasDict = false
  len : d.shown.length ≤ capS k
theorem capS_30 : ∀ k, 30 ≤ capS k
  | 0 => Nat.le_refl _
  | k + 1 => by have := capS_30 k; show 30 ≤ 4 * capS k; omega
theorem good_listS {k : Nat} {ds : List PyData} (hl : ds.length ≤ 2) (h : ∀ d ∈ ds, GoodS k d) : GoodS (k + 1) (.list ds) ∧ GoodS (k + 1) (.tuple ds) := by
  have g := good_list (k := k) (ds := ds) (by omega) fun d hd => (h d hd).toGoodD
  have c := capS_30 k
  have e : capS (k + 1) = 4 * capS k := rfl
  have all_ : PyData.showableAll ds = true ∧ PyData.hasDictAll ds = false ∧ ((PyData.shownAll ds).map (·.length)).sum ≤ 2 * capS k ∧ (PyData.shownAll ds).length ≤ 2 := by
    match ds, hl, h with
    | [], _, _ => exact ⟨rfl, rfl, Nat.zero_le _, Nat.zero_le _⟩
    | [d], _, h =>
      have a := h d (by simp)
      exact ⟨by simp [PyData.showableAll, a.shw], by simp [PyData.hasDictAll, a.nod], by simp only [PyData.shownAll, List.map_cons, List.map_nil, List.sum_cons, List.sum_nil]; have := a.len; omega, by simp [PyData.shownAll]⟩
    | [d, d2], _, h =>
      have a := h d (by simp)
      have b := h d2 (by simp)
      exact ⟨by simp [PyData.showableAll, a.shw, b.shw], by simp [PyData.hasDictAll, a.nod, b.nod], by simp only [PyData.shownAll, List.map_cons, List.map_nil, List.sum_cons, List.sum_nil]; have := a.len; have := b.len; omega, by simp [PyData.shownAll]⟩
  obtain ⟨s1, s2, s3, s4⟩ := all_
  refine ⟨⟨g.1, by simpa [PyData.showable] using s1, by simpa [PyData.hasDict] using s2, ?_⟩, ⟨g.2, by simpa [PyData.showable] using s1, by simpa [PyData.hasDict] using s2, ?_⟩⟩
  · simp only [PyData.shown]
    have l := listText_len_le (PyData.shownAll ds)
    omega
  · simp only [PyData.shown]
    have l := tupleText_len_le (PyData.shownAll ds)
    omega
def spAnyS (n : Nat) : Sp := fun vs H Q _ => ∃ b : Addr, vs = [.ref b, .int (n : Int)] ∧ Gr b H H ∧
  ∀ (v : V) (d : PyData) (H' : Hp), Gr b H H' → Da (fun a => H a = none) H' v d → GoodS (n + 1) d → Q v H'
section
variable {P : Program} {w : World} {K : PySem.W.Frag} {mg : Str → Option Value} {base : Heap}
def ANYW : List Str := ["", "a", "none", "any", "same", "keep", "old", "abcde", "Ab", "a b", "x1", "good", "both", "\n", "zz"]
theorem ANYW_ok : ANYW.all okS = true := by decide +kernel
theorem ANYW_shown : ∀ y ∈ ANYW, (PyData.shown (.str y)).length ≤ 30 := by decide +kernel
theorem any_step (T : TxAny01 w K mg) (n : Nat) {lev : Nat} {spR : Sp} (hR : ∀ m, n = m + 1 → spR = spAnyS m) (G_any : FnOk P w K mg base CX0 lev T.f_any T.d_any P_any spR) (hl : 2 ≤ lev) :
    FnOk P w K mg base CX0 (lev + 1) T.f_any T.d_any P_any (spAnyS n) := by
  have G_take : FnOk P w K mg base CX0 1 T.f_take T.d_take P_take spTakeG := ok_takeG T.toTxDraw
  have G_pick : FnOk P w K mg base CX0 2 T.f_pick T.d_pick P_pick (spPickG) := ok_pickG T.toTxDraw
  refine T.F_any.ok sc_any (fun vs H Q E h => ?_) (fun cdv A outer s H vs Q E hr' h => ?_)
  · obtain ⟨b, rfl, _⟩ := h
    rfl
  obtain ⟨b, rfl, g0, q⟩ := h
  have hr : Room 2 _ := hr'.mono hl
  refine ⟨_, (pss_cons (ps_set (i := 2) sc_any.nd rfl (Or.inl rfl) (pe_call G_take (hr.mono (by decide)) (by rfl) T.m_take T.F_take.kp T.b_take .nil pass0 (pa_cons (pv 0) (pa_cons pe_int pa_nil))))
      (Evl.pss_cut (ps_if (PW.pt (pw_and (pt_cmpR op_lt (pv 2) pe_int (nomark _)) (pw_and1 (pt_cmpR op_gt (pv 1) pe_int (nomark _))))) (pss_cons (ps_setLc (i := 3) (own := [("_law_k", 4)]) (g := gName 4) (by rfl) sc_any.nd rfl rfl (sw_true rfl rfl rfl (by decide +kernel)) (pi_range1 (by rfl) T.z_range (pa_cons (pe_call G_take (hr.mono (by decide)) (by rfl) T.m_take T.F_take.kp T.b_take .nil pass0 (pa_cons (pv 0) (pa_cons pe_int pa_nil))) pa_nil)) (blkOk_by (own := [("_law_k", 4)]) (N := N_any) (sc := defScope s_any) (by decide +kernel)) (fun _ _ _ _ _ => (pg_name (i := 4) sc_any.nd rfl (Or.inl rfl))) (fun _ _ _ _ _ => pts_nil) (fun _ _ _ _ _ => (pe_call G_any hr' (by rfl) T.m_any T.F_any.kp T.b_any .nil pass0 (pa_cons (pv 0) (pa_cons (pe_op op_sub (pv 1) pe_int) pa_nil)))))
      (pss_one (ps_ret (pe_ifExp (pt_cmpR op_lt (pv 2) pe_int (nomark _)) (pv 3) (pe_callTy (call_tupleK K) (by rfl) T.z_tuple (by decide +kernel) (pa_cons (pv 3) pa_nil)))))) pss_nil)
      (pss_cons (ps_set (i := 5) sc_any.nd rfl (Or.inl rfl) (pe_lst (pa_cons pe_str (pa_cons pe_str (pa_cons pe_str (pa_cons pe_str (pa_cons pe_str (pa_cons pe_str (pa_cons pe_str (pa_cons pe_str (pa_cons pe_str (pa_cons pe_str (pa_cons pe_str (pa_cons pe_str (pa_cons pe_str (pa_cons pe_str (pa_cons pe_str pa_nil)))))))))))))))))
      (pss_cons (ps_set (i := 6) sc_any.nd rfl (Or.inl rfl) (pe_lst (pa_cons pe_non (pa_cons pe_bl (pa_cons pe_bl (pa_cons pe_int (pa_cons pe_int (pa_cons (pe_op op_sub pe_int pe_int) (pa_cons (pe_op op_pow pe_int pe_int) (pa_cons (pe_lst (pa_cons pe_str pa_nil)) (pa_cons (pe_tup (pa_cons pe_str pa_nil)) (pa_cons pe_int pa_nil))))))))))))
      (pss_one (ps_ret (pe_ifExp (pt_cmpR op_lt (pv 2) pe_int (nomark _)) (pe_call G_pick (hr.mono (by decide)) (by rfl) T.m_pick T.F_pick.kp T.b_pick .nil pass0 (pa_cons (pv 0) (pa_cons (pv 5) pa_nil))) (pe_call G_pick (hr.mono (by decide)) (by rfl) T.m_pick T.F_pick.kp T.b_pick .nil pass0 (pa_cons (pv 0) (pa_cons (pv 6) pa_nil)))))))))), ?_⟩
  refine ⟨_, rfl, b, _, rfl, g0, by decide, by decide, fun fo H1 fo0 fo1 g1 => ?_⟩
  refine ⟨fun σ H2 => H2 = H1 ∧ σ = [some (.ref b), some (.int (n : Int)), some (.int fo), none, none, none, none], ?_, ?_⟩
  · refine ⟨_, rfl, _, _, rfl, rfl, _, rfl, ?_⟩
    refine ite2 (fun c1 => ?_) (fun c1 => ?_)
    · refine ⟨_, rfl, _, _, rfl, rfl, _, rfl, ?_⟩
      refine ite2 (fun c2 => ?_) (fun c2 => ?_)
      · have n0 : (0 : Int) < (n : Int) := of_decide_eq_true c2
        obtain ⟨m, rfl⟩ : ∃ m, n = m + 1 := ⟨n - 1, by omega⟩
        refine ⟨_, rfl, b, _, rfl, ⟨fun _ _ _ e => e, g1.box⟩, by decide, by decide, fun k H2 k0 k1 g2 => ⟨k, rfl, by omega, by omega, fun D hD => ?_⟩⟩
        have g12 := g1.trans g2
        refine lc_range (lo := 0) (n := k.toNat) (fun i H' => Gr b H H' ∧ D ≠ b ∧ ∃ (xs : List V) (ds : List PyData), H' D = some (.lst xs) ∧ DaAll (fun a => H a = none ∧ a ≠ D) H' xs ds ∧ xs.length = i ∧ (∀ d ∈ ds, GoodS (m + 1) d)) ⟨g12.new hD _, g12.ne_new hD, [], [], upd_same, .nil, rfl, fun _ h => nomatch h⟩ ?_ ?_
        · rintro i H' hi ⟨g5, nDb, xs, ds, hD', hda, hlen, hgood⟩
          refine ⟨rfl, ?_⟩
          have e := hR m rfl
          subst e
          refine ⟨_, rfl, _, rfl, _, _, rfl, rfl, b, by show [V.ref b, V.int (((m + 1 : Nat) : Int) - 1)] = _; rw [show (((m + 1 : Nat) : Int) - 1) = (m : Int) by omega], ⟨fun _ _ _ e => e, g5.box⟩, fun v d H6 g6 hv gd => ?_⟩
          have hD6 := g6.keep D _ nDb hD'
          refine ⟨xs, hD6, small1000 (by omega), (g5.trans g6).mut (g12.free hD) nDb _, nDb, xs ++ [v], ds ++ [d], upd_same, ?_, by rw [List.length_append, hlen]; rfl, fun y hy => ?_⟩
          · refine DaAll.snoc (DaAll.mono (fun a h => h) (fun a o h e => ?_) ds xs hda) (Da.mono (fun a h => ⟨g5.free h, fun z => by rw [z, hD'] at h; cases h⟩) (fun a o h e => ?_) d v hv)
            · rw [upd_ne h.2]
              exact g6.keep a o (g0.ne_new h.1) e
            · rw [upd_ne (fun z => by rw [z, hD'] at h; cases h)]
              exact e
          · rcases List.mem_append.mp hy with hy | hy
            · exact hgood y hy
            · rw [List.mem_singleton.mp hy]
              exact gd
        · rintro H' ⟨g5, nDb, xs, ds, hD', hda, hlen, hgood⟩
          refine ⟨_, rfl, _, _, rfl, rfl, _, rfl, ?_⟩
          have gl := good_listS (by rw [← hda.size, hlen]; omega) hgood
          have hda' : DaAll (fun a => H a = none) H' xs ds := DaAll.mono (fun a h => h.1) (fun a o _ e => e) ds xs hda
          refine ite2 (fun c3 => ?_) (fun c3 => ?_)
          · exact ⟨_, rfl, q _ _ H' g5 (.lst (g12.free hD) hD' hda') gl.1⟩
          · refine ⟨_, rfl, D, xs, rfl, .inl ⟨SqL.of hD', fun p hp => ?_⟩⟩
            exact q _ _ _ (g5.new hp _) (.tup (g5.free hp) upd_same (DaAll.mono (fun a h => h) (fun a o h e => by rw [upd_ne (ne_of_none e hp)]; exact e) ds xs hda')) gl.2
      · exact ⟨rfl, rfl⟩
    · exact ⟨rfl, rfl⟩
  · rintro σ H2 ⟨rfl, rfl⟩
    refine ⟨by show 15 ≤ sizeLine; decide, fun wa hwa => ?_⟩
    have g3 := g1.new hwa (.lst (ANYW.map V.str))
    have aw : At b _ wa (.lst (ANYW.map V.str)) := .mk_new g1 hwa _
    refine ⟨_, _, rfl, rfl, _, _, rfl, rfl, ⟨by decide, by decide, by decide⟩, by show 1 ≤ sizeLine; decide, fun l1 hl1 => ?_⟩
    have g4 := g3.new hl1 (.lst [.str "a"])
    refine ⟨by show 1 ≤ sizeLine; decide, fun l2 hl2 => ?_⟩
    have g5 := g4.new hl2 (.tup [.str "a"])
    refine ⟨by show 10 ≤ sizeLine; decide, fun pl hpl => ?_⟩
    have g6 := g5.new hpl (.lst [.non, .bl true, .bl false, .int 0, .int 1, .int (0 - 1), .int (10 ^ 20), .ref l1, .ref l2, .int 7])
    have ap : At b _ pl (.lst [.non, .bl true, .bl false, .int 0, .int 1, .int (0 - 1), .int (10 ^ 20), .ref l1, .ref l2, .int 7]) := .mk_new g5 hpl _
    have aw6 := ((aw.new (u := .lst [.str "a"]) hl1).new (u := .tup [.str "a"]) hl2).new (u := .lst [.non, .bl true, .bl false, .int 0, .int 1, .int (0 - 1), .int (10 ^ 20), .ref l1, .ref l2, .int 7]) hpl
    refine ⟨_, rfl, _, _, rfl, rfl, _, rfl, ?_⟩
    have c30 := capS_30 (n + 1)
    have c30n := capS_30 n
    have gs : ∀ y : Str, y ∈ ANYW → GoodS (n + 1) (.str y) := fun y h => ⟨GoodD.str (List.all_eq_true.mp ANYW_ok y h), by simp [PyData.showable], by simp [PyData.hasDict], Nat.le_trans (ANYW_shown y h) c30⟩
    have ga : ∀ d ∈ [PyData.str "a"], GoodS n d := fun d hd => by
      rw [List.mem_singleton.mp hd]
      exact ⟨GoodD.str (by decide +kernel), by simp [PyData.showable], by simp [PyData.hasDict], Nat.le_trans (by decide +kernel) c30n⟩
    refine ite2 (fun c3 => ?_) (fun c3 => ?_)
    · refine ⟨_, rfl, _, rfl, b, wa, _, rfl, ⟨fun _ _ _ e => e, g6.box⟩, aw6, by simp [ANYW], by decide, fun x H7 hx g7 => ?_⟩
      obtain ⟨y, hy, rfl⟩ := List.mem_map.mp hx
      exact q _ (.str y) H7 (g6.trans g7) (.str y) (gs y hy)
    · refine ⟨_, rfl, _, rfl, b, pl, _, rfl, ⟨fun _ _ _ e => e, g6.box⟩, ap, by simp, by show 10 ≤ 1000; decide, fun x H7 hx g7 => ?_⟩
      have l1a : H7 l1 = some (.lst [.str "a"]) := g7.keep l1 _ (g3.ne_new hl1) (by rw [upd_ne (fun z => by rw [← z, upd_ne (fun z2 => by rw [← z2, upd_same] at hl2; cases hl2), upd_same] at hpl; cases hpl), upd_ne (fun z2 => by rw [← z2, upd_same] at hl2; cases hl2), upd_same])
      have l2a : H7 l2 = some (.tup [.str "a"]) := g7.keep l2 _ (g4.ne_new hl2) (by rw [upd_ne (fun z => by rw [← z, upd_same] at hpl; cases hpl), upd_same])
      have f1 : H l1 = none := g3.free hl1
      have f2 : H l2 = none := g4.free hl2
      have gi : ∀ i ∈ [(0 : Int), 1, 0 - 1, 10 ^ 20, 7], GoodS (n + 1) (.int i) := fun i hi => ⟨⟨rfl, by simp [PyData.depth], fun _ e => (by cases e), rfl⟩, (by decide +kernel : ∀ i ∈ [(0 : Int), 1, 0 - 1, 10 ^ 20, 7], PyData.showable (.int i) = true) i hi, by simp [PyData.hasDict], Nat.le_trans ((by decide +kernel : ∀ i ∈ [(0 : Int), 1, 0 - 1, 10 ^ 20, 7], (PyData.shown (.int i)).length ≤ 30) i hi) c30⟩
      have gb : ∀ i : Bool, GoodS (n + 1) (.bool i) := fun i => ⟨⟨rfl, by simp [PyData.depth], fun _ e => (by cases e), rfl⟩, by simp [PyData.showable], by simp [PyData.hasDict], Nat.le_trans ((by decide +kernel : ∀ i : Bool, (PyData.shown (.bool i)).length ≤ 30) i) c30⟩
      simp only [List.mem_cons, List.not_mem_nil, or_false] at hx
      rcases hx with rfl | rfl | rfl | rfl | rfl | rfl | rfl | rfl | rfl | rfl
      · exact q _ .none H7 (g6.trans g7) .non ⟨⟨rfl, by simp [PyData.depth], fun _ e => (by cases e), rfl⟩, by simp [PyData.showable], by simp [PyData.hasDict], Nat.le_trans (by decide +kernel) c30⟩
      · exact q _ _ H7 (g6.trans g7) (.bl _) (gb _)
      · exact q _ _ H7 (g6.trans g7) (.bl _) (gb _)
      · exact q _ _ H7 (g6.trans g7) (.int _) (gi _ (by simp))
      · exact q _ _ H7 (g6.trans g7) (.int _) (gi _ (by simp))
      · exact q _ _ H7 (g6.trans g7) (.int _) (gi _ (by simp))
      · exact q _ _ H7 (g6.trans g7) (.int _) (gi _ (by simp))
      · exact q _ _ H7 (g6.trans g7) (.lst f1 l1a (.cons (.str _) .nil)) (good_listS (by decide) ga).1
      · exact q _ _ H7 (g6.trans g7) (.tup f2 l2a (.cons (.str _) .nil)) (good_listS (by decide) ga).2
      · exact q _ _ H7 (g6.trans g7) (.int _) (gi _ (by simp))
theorem ok_any (T : TxAny01 w K mg) : ∀ n : Nat, FnOk P w K mg base CX0 (n + 3) T.f_any T.d_any P_any (spAnyS n)
  | 0 => any_step T 0 (spR := fun _ _ _ _ => False) (fun m e => by omega) ⟨fun _ _ _ _ h => h.elim, fun _ _ _ _ _ _ _ _ _ _ _ _ _ h => h.elim⟩ (Nat.le_refl 2)
  | n + 1 => any_step T (n + 1) (spR := spAnyS n) (fun m e => by
      have e' : n = m := by omega
      rw [e']) (ok_any T n) (by omega)
end
end My

/-! ## The law's def called by the claim's caller: no guard stands -/
namespace My
open PySem PySem.Spec PyProof.Rows L2
/-- what a def does where no guard stands around it -/
structure FnTop (P : Program) (w : World) (K : PySem.W.Frag) (mg : Str → Option Value) (base : Heap) (k : Nat) (f : Addr) (fd : FuncData) (ps : List Str) (sp : Sp) : Prop where
  go : ∀ (A : Around) (out : List Env) (s : Shared) (H : Hp) (us : List Value) (vs : List V) (Q : VK), A.guards = some [] → Room k A → Env0 P w K mg base A out s H → BindsTo s fd ⟨us, []⟩ (ps.zip us) → Vals vs us → sp vs H Q E0 →
    codeAny (model P w) A (.call (.ref f) ⟨us, []⟩) (CR CX0 out P w H s Q E0) s
section
variable {P : Program} {w : World} {K : PySem.W.Frag} {mg : Str → Option Value} {base : Heap} {k : Nat} {f : Addr} {fd : FuncData} {N ps : List Str} {sp : Sp} {x q : Str} {st : Stmt}
set_option maxHeartbeats 400000 in
theorem top_of (F : Fun K x q st f fd) (S : FnScope N ps (defScope st)) (ln : ∀ vs H Q E, sp vs H Q E → vs.length = ps.length)
    (body : ∀ (cdv : Value) (A : Around) (out : List Env) (s : Shared) (H : Hp) (vs : List V) (Q : VK), A.guards = some [] → Room k (A.deeper (envOfC q (defScope st) s.heap.objs.size f cdv)) → sp vs H Q E0 →
      ∃ t, PSs (cxOf CX0 P w K mg base N q (defScope st) f cdv A out s H E0).nox (defBody st) t ∧ t { nx := fun _ H' => Q .non H', rt := Q } (start N vs) H) : FnTop P w K mg base (k + 1) f fd ps sp := by
  obtain ⟨oc, od, kV, dc, pm, an, cdv, ct, sl, rfl, l, c⟩ := F.ex
  constructor
  intro A out s H us vs Q gu room e0 bt rv h
  have n := ln _ _ _ _ h
  have Y : K.In s.heap := e0.mod.kin.keeps fun b o e => (e0.bs b o e).1
  have nl : s.heap.NoLimit := e0.mod.nolimit.keeps fun b o e => (e0.bs b o e).1
  have kinds : ∀ y ∈ ps.zip us, (defScope st).names.lookup y.1 = some .local ∨ ((defScope st).names.lookup y.1 = some .cell ∧ ((cellsFrom (s.heap.objs.size + 1) (defScope st).names []).lookup y.1).isSome = true) := by
    rintro ⟨a, b⟩ hy
    exact (S.par a (List.of_mem_zip hy).1).imp id fun z => ⟨z, PySem.W.cellsFrom_some _ _ _ (.inl z)⟩
  refine codeAny_call_function room.depth (Y _ _ l) rfl S.co S.gen rfl (PySem.W.codeRec_of Y c) (bt _ _ _ _ ?_)
  refine wpAny_newFunctionEnv_cells S.kind kinds fun env he s1 IC => ?_
  subst he
  refine ⟨nl.keeps IC.toInCall.keep, codeAny_func ?_⟩
  obtain ⟨t, ht, hq⟩ := body cdv A out s H vs Q gu (room.deeper _) h
  have I : Inv (cxOf CX0 P w K mg base N q (defScope st) f cdv A out s H E0) [] (start N vs) H s1 := inv_start S room.hd e0 n rv IC
  have go := ht.nox.run [] s1 (start N vs) H _ I hq
  refine wpAny_mono go (fun fl s2 h2 => ?_) fun _ _ z => z
  cases fl with
  | ret u =>
    obtain ⟨v, σ2, H2, J, r, z⟩ := h2
    exact ⟨v, H2, J.os, J.bare, J.base, J.hok, r, z⟩
  | next =>
    obtain ⟨σ2, H2, J, z⟩ := h2
    exact ⟨.non, H2, J.os, J.bare, J.base, J.hok, rfl, z⟩
  | brk =>
    obtain ⟨_, _, _, z⟩ := h2
    exact False.elim z
  | cont =>
    obtain ⟨_, _, _, z⟩ := h2
    exact False.elim z
/-- the heap in which the script alone is tracked, or nothing -/
def scr (K : PySem.W.Frag) (a : Addr) (us : List Value) (ns : List Int) : Hp := fun b => if b = a ∧ K.lookup a = none then some (.frz { cls := .type "list", data := .seq us.toArray } (.lst (ns.map V.int))) else none
theorem scr_at {K : PySem.W.Frag} {a b : Addr} {us : List Value} {ns : List Int} {o : HO} (h : scr K a us ns b = some o) : b = a ∧ K.lookup a = none ∧ o = .frz { cls := .type "list", data := .seq us.toArray } (.lst (ns.map V.int)) := by
  unfold scr at h
  split at h
  · rename_i z
    cases h
    exact ⟨z.1, z.2, rfl⟩
  · cases h
set_option maxHeartbeats 400000 in
theorem top_call {mb : Str → Option Value} {fa a : Addr} {s₁ : Shared} {us : List Value} {ns : List Int} {y : Str} (Y : K.In s₁.heap) (n1 : s₁.heap.Ns mainGlobals mg) (n2 : s₁.heap.Ns builtinsNs mb) (n3 : ∀ z : Str, z ≠ "__name__" → mb z = bootBuiltins z)
    (nl : s₁.heap.NoLimit) (gn : s₁.gens = #[]) (ha : s₁.heap.get? a = some { cls := .type "list", data := .seq us.toArray }) (hi : IntsAre us ns) (sz : ns.length ≤ sizeLine) (room : Room k callerA)
    (F : ∀ base : Heap, K.In base → base.Ns mainGlobals mg → FnTop P w K mg base k fa fd [y] sp) (bd : ∀ (s : Shared) (u : Value), BindsTo s fd ⟨[u], []⟩ [(y, u)])
    (pr : ∀ H : Hp, SqL K H a (ns.map V.int) → sp [.ref a] H (fun v _ => v = .bl true) E0) :
    codeAny (model P w) callerA (.call (.ref fa) ⟨[.ref a], []⟩) (fun r s' => r = .ok (.ret (.bool true)) ∧ OldK s₁.heap s'.heap ∧ s'.os = s₁.os ∧ AllBare s'.gens) s₁ := by
  have lenV : us.length = ns.length := hi.length
  have rv := vals_ints hi
  have seq : SqL K (scr K a us ns) a (ns.map V.int) := by
    cases z : K.lookup a with
    | none => exact .inl (.inr ⟨_, if_pos ⟨rfl, z⟩⟩)
    | some o =>
      have e := Y a o z
      rw [ha] at e
      cases e
      exact .inr ⟨_, us.toArray, _, z, rfl, rfl, rfl, by rw [List.size_toArray, lenV]; exact sz, by simpa using rv⟩
  have hok : HOk P w (scr K a us ns) s₁.heap := fun b o e => by
    obtain ⟨rfl, _, rfl⟩ := scr_at e
    exact ⟨ha, by rw [List.length_map]; exact sz, us, _, rv, ha⟩
  have other : ∀ {b : Addr} {o : Obj} {es : Array DictEntry} {ep : Nat}, s₁.heap.get? b = some o → o.data = .dict es ep → scr K a us ns b = none := fun {b o es ep} e d => by
    cases z : scr K a us ns b with
    | none => rfl
    | some u =>
      obtain ⟨rfl, _, _⟩ := scr_at z
      rw [ha] at e
      cases e
      cases d
  have part : ∀ {b : Addr} {m : Str → Option Value}, s₁.heap.Ns b m → (hidT s₁.heap (scr K a us ns)).Ns b m := fun ⟨o, es, ep, e, d, r⟩ => ⟨o, es, ep, hidT_get e (other e d), d, r⟩
  have Kb : K.In (hidT s₁.heap (scr K a us ns)) := fun b o e => hidT_get (Y b o e) (by
    cases z : scr K a us ns b with
    | none => rfl
    | some u =>
      obtain ⟨rfl, z2, _⟩ := scr_at z
      rw [z2] at e
      cases e)
  have lim : (hidT s₁.heap (scr K a us ns)).NoLimit := by
    obtain ⟨mc, h1, h2⟩ := nl
    exact ⟨mc, part h1, h2⟩
  have e0 : Env0 P w K mg (hidT s₁.heap (scr K a us ns)) callerA [] s₁ (scr K a us ns) :=
    ⟨rfl, ⟨Kb, part n1, ⟨mb, part n2, n3⟩, lim⟩, fun b o e => of_hidT e, Nat.le_of_eq (hidT_size _ _), trivial, fun b hb => absurd (show b ∈ ([] : List Addr) from hb) (by simp), hok, .of_eq gn⟩
  have run := (F _ Kb (part n1)).go callerA [] s₁ _ [.ref a] [.ref a] _ rfl room e0 (bd s₁ (.ref a)) (.cons rfl .nil) (pr _ seq)
  refine codeAny_mono run fun r s' h => ?_
  cases r with
  | error e => exact False.elim h
  | ok fl =>
    cases fl with
    | ret u =>
      obtain ⟨v, H', os, bare, un, hok', r', z⟩ := h
      have z' : v = .bl true := z
      subst z'
      have u1 : u = Value.bool true := r'
      subst u1
      refine ⟨rfl, OldK.of_keep (fun b o e => ?_), os, bare⟩
      cases zz : scr K a us ns b with
      | none => exact un.keep b o e zz (by intro t; exact absurd (show b ∈ ([] : List Addr) from t) (by simp)) (by simp)
      | some u =>
        obtain ⟨rfl, _, rfl⟩ := scr_at zz
        obtain ⟨e2, _⟩ := hok' b _ (un.frzs b _ _ zz)
        rw [ha] at e
        cases e
        exact e2
    | next => exact False.elim h
    | brk => exact False.elim h
    | cont => exact False.elim h
theorem walk_top {l : PySem.W.OpenLaw} {n k : Nat} {q : Program} {loose : List Str} {XP : (Str → Option Value) → Heap → Prop} {YP : World → Heap → Prop} {d : DefRec} {K : Params → PySem.W.Frag} {sp : World → Sp} {y : Str}
    (hn : l.most = some n) (n2 : n ≤ sizeLine) (hdf : d.params.defaults = []) (room : Room k callerA) (hY : ∀ (w : World) (h : Heap), YP w h → (K w.params).In h)
    (F : ∀ (w : World) (mg : Str → Option Value) (fa : Addr) (h : Heap), (K w.params).In h → h.Ns mainGlobals mg → mg d.name = some (.ref fa) →
      ∃ fd : FuncData, (∀ (s : Shared) (u : Value), BindsTo s fd ⟨[u], []⟩ [(y, u)]) ∧ ∀ base : Heap, (K w.params).In base → base.Ns mainGlobals mg → FnTop l.prog w (K w.params) mg base k fa fd [y] (sp w))
    (pr : ∀ (w : World) (H : Hp) (a : Addr) (ns : List Int), ns.length ≤ n → SqL (K w.params) H a (ns.map V.int) → sp w [.ref a] H (fun v _ => v = .bl true) E0) :
    PySem.W.WalkO q loose XP YP l.row.toRowW d [] (fun f vs => PySem.call f vs) := by
  refine Att.attach_call hn hdf fun w _ _ mg _ fa _ _ _ _ a us ns top fit _ _ _ at_ obj nums many gens => ?_
  have inK := hY w _ fit
  obtain ⟨fd, bd, all⟩ := F w mg fa _ inK top.T.g at_
  exact top_call inK top.T.g top.T.b top.T.builtins top.T.nolimit gens obj nums (Nat.le_trans many n2) room all bd fun H q => pr w H a ns many q
end
end My

/-! ## repr of nested data where no guard stands -/
namespace My
open PySem PySem.Spec PyProof.Rows L2
def rReprD (K : PySem.W.Frag) : List V → Hp → VK → Prop := fun xs H Q => ∃ (v : V) (d : PyData), xs = [v] ∧ Dp K H v d ∧ d.showable = true ∧ d.hasDict = false ∧ d.depth ≤ 60 ∧ d.shown.length ≤ sizeLine ∧ Q (.str d.shown) H
section
variable {X : Cx}
set_option maxHeartbeats 400000 in
theorem call_reprD (K : PySem.W.Frag) (gu : X.A.guards = some []) (hu : X.A.units + 64 < cLine) (hK : X.K = K := by rfl) : CallR X (.builtin "repr") (rReprD K) := by
  subst hK
  intro pins s σ H xs us Q I r h
  obtain ⟨v, d, rfl, hd, hs, hx, hdep, hz, q⟩ := h
  cases r with
  | cons rv rr =>
  cases rr
  rename_i u
  obtain ⟨as, rd⟩ := Dp.reads I d v u hd rv
  have fin : ∀ h' u' tk, (∀ b o, s.heap.get? b = some o → h'.get? b = some o) → EP X pins σ Q (.str d.shown u') { s with heap := h', toks := tk } := fun h' u' tk k => ⟨.str d.shown, H, I.kept k, ⟨u', rfl⟩, q⟩
  cases rd with
  | none => exact P.repr_of_none (fin _ _ _ fun _ _ e => e)
  | bool b => exact P.repr_of_bool (fin _ _ _ fun _ _ e => e)
  | int i t => exact P.repr_of_int (by simpa [PyData.showable] using hs) (fin _ _ _ fun _ _ e => e)
  | str x t => exact P.repr_of_str (fin _ _ _ fun _ _ e => e) (by simpa only [PyData.shown] using hz)
  | @list a o vs n xs as' h1 h2 h3 h4 =>
    have hz' : (listText (PyData.shownAll xs)).length ≤ sizeLine := by simpa only [PyData.shown] using hz
    obtain ⟨bs, hb, hk⟩ := ReprAllK.of_readsAll (prog := X.prog) (w := X.w) h4 (by simpa [PyData.showable] using hs) (fun hy => by
      have z : PyData.hasDictAll xs = false := by simpa [PyData.hasDict] using hx
      rw [z] at hy
      cases hy) (fun t ht => Nat.le_trans (listText_mem_le ht) hz')
    have rr : Reads s.heap (.ref a) (.list xs) _ := .list h1 h2 h3 h4
    have hna : a ∉ bs := not_mem_of_deeper rr (by simp only [PyData.depth]; omega) hb
    simp only [PyData.depth] at hdep
    simp only [PyData.shown] at fin
    refine call_repr_slot (T := "list") (by omega) ⟨o, h1, h2⟩ F.slot_list_repr.toG ?_
    obtain ⟨l⟩ := vs
    cases l with
    | nil =>
      have h4' : ReadsAll s.heap [] xs _ := h4
      cases h4'
      simp only [PyData.shownAll, listText_nil] at fin
      exact call_list_repr_empty ⟨o, h1, h2⟩ h1 h3 ⟨_, _, rfl, fin _ _ _ fun _ _ e => e⟩
    | cons y l => exact call_list_reprK h1 h2 h3 hna (by simpa using hk.length_eq) (fun i y e => hk.item i y (by simpa using e)) (g := []) gu (fun b _ => Clear.nil b) (by show X.A.units + 1 + _ < cLine; omega) (fun _ _ e => e) (fun h' u' tk k => ⟨_, u', rfl, fin h' u' tk k⟩) hz'
  | @tuple a o vs n xs as' h1 h2 h3 h4 =>
    have hz' : (tupleText (PyData.shownAll xs)).length ≤ sizeLine := by simpa only [PyData.shown] using hz
    obtain ⟨bs, hb, hk⟩ := ReprAllK.of_readsAll (prog := X.prog) (w := X.w) h4 (by simpa [PyData.showable] using hs) (fun hy => by
      have z : PyData.hasDictAll xs = false := by simpa [PyData.hasDict] using hx
      rw [z] at hy
      cases hy) (fun t ht => Nat.le_trans (tupleText_mem_le ht) hz')
    have rr : Reads s.heap (.ref a) (.tuple xs) _ := .tuple h1 h2 h3 h4
    have hna : a ∉ bs := not_mem_of_deeper rr (by simp only [PyData.depth]; omega) hb
    simp only [PyData.depth] at hdep
    simp only [PyData.shown] at fin
    refine call_repr_slot (T := "tuple") (by omega) ⟨o, h1, h2⟩ F.slot_tuple_repr ?_
    exact call_tuple_reprK h1 h2 h3 hna hk (g := []) gu (fun b _ => Clear.nil b) (by show X.A.units + 1 + _ < cLine; omega) (fun _ _ e => e) (fun h' u' tk k => ⟨_, u', rfl, fin h' u' tk k⟩) hz'
  | dict => cases hx
end
end My

/-! ## isinstance of a caught error that has a dict of its own -/
namespace PySem.W
open PySem PySem.Spec PySem.Calls PyProof.Rows
section
variable {prog : Program} {w : World} {A : Around} {E : Value → Shared → Prop} {s : Shared} {K : Frag} {x D : Addr} {ox dd : Obj}
theorem my_classD {Q : Option Value → Shared → Prop} (c1 : findIn K (.ref D) "__getattribute__" = some (some (.builtin "BaseException.__getattribute__"))) (c2 : findIn K (.ref D) "__getattr__" = some none)
    (c3 : subIn K (.ref D) (.type "BaseException") = some true) (c4 : hasDictIn K D = true) (c5 : findIn K (.ref D) "__class__" = some (some (.builtin "object.__class__")))
    (c6 : specialIn K (.builtin "object.__class__") "__get__" = some (some (.builtin "getset_descriptor.__get__"))) (c7 : takesIn K (.builtin "object.__class__") = some true) (c8 : mroIn K D (.type "object") = some true)
    (Y : K.In s.heap) (J : InstAt s.heap x ox D (some dd)) (q : Q (some (.ref D)) { s with toks := s.toks + 1 }) : wpAny (model prog w) A (getAttr? (.ref x) "__class__") Q E s := by
  have fo : findObj K D (some dd) "__class__" = some (.bind (.builtin "getset_descriptor.__get__") (.builtin "object.__class__")) := findObj_data (by obtain ⟨cd, e, _⟩ := any_some c4; rw [e]; rfl) c5 c6 c7
  obtain ⟨hh, gg, dr, tt, oo⟩ := s
  have M0 := J.type (M := model prog w); have M1 := looks_findIn (M := model prog w) Y c1; have M2 := looks_findIn (M := model prog w) Y c2; have M3 := looks_find (M := model prog w) Y J fo
  have isb : Looks (model prog w) hh (isInstance (.ref x) (.type "BaseException")) true := M0.andThen (looks_subIn Y c3)
  have n2 : (Value.builtin "BaseException.__getattribute__" == Value.builtin "object.__getattribute__") = false := by decide +kernel
  have n1 : (onTheHeap (Value.ref D) && Value.builtin "BaseException.__getattribute__" == Value.builtin "object.__getattribute__") = false := by rw [n2]; rfl
  unfold getAttr? getAttrBy? getAttrBy; refine wpAny_bind (wpAny_mkText (wpAny_bind (wpAny_attempt (wpAny_holding (wpAny_bind (M0.at (wpAny_bind (M1.at ?_))))))))
  show wpAny _ _ (if (onTheHeap (Value.ref D) && Value.builtin "BaseException.__getattribute__" == Value.builtin "object.__getattribute__") = true then _ else _) _ _ _; rw [n1, if_neg Bool.false_ne_true]
  unfold getAttrByItsOwn hookBefore; refine wpAny_bind ?_; rw [if_pos (show onTheHeap (Value.ref D) = true from rfl)]; refine M2.at ?_
  refine wpAny_bind (wpAny_attempt (wpAny_holding ?_)); unfold callGetattribute; rw [show (false && onTheHeap (Value.builtin "BaseException.__getattribute__")) = false from rfl, if_neg Bool.false_ne_true]
  unfold boundAndCalled; rw [PySem.F.excAttr_ValueError.ga.bind (.ref x)]; refine wpAny_bind (wpAny_pure ?_)
  show wpAny _ _ (call (.builtin "BaseException.__getattribute__") [.ref x, .str "__class__" tt]) _ _ _
  refine wpAny_call (codeAny_call_builtin PySem.F.excAttr_ValueError.ga.plain PySem.F.entry_bexc_ga (@check_slot (model prog w) _ _ ⟨hh, gg, dr, tt + 1, oo⟩ "BaseException.__getattribute__" "BaseException" "__getattribute__" (.ref x) [.str "__class__" tt] [] _ (by decide +kernel) (by decide +kernel) isb (PySem.F.args_bexc_ga (.ref x) (.str "__class__" tt)) ?_))
  unfold Builtin.«object.__getattribute__»; refine wpAny_bind (wpAny_of_eq (a := ((Value.ref x : Value), [Value.str "__class__" tt])) (by first | rfl | (simp only [slotArgs]; rfl)) (wpAny_bind (wpAny_pure (wpAny_bind (M0.at (wpAny_bind (M3.at ?_)))))))
  show wpAny _ _ (holding [Value.builtin "object.__class__"] (call (.builtin "getset_descriptor.__get__") [.builtin "object.__class__", .ref x, .ref D]) >>= ret) _ _ _
  refine wpAny_bind (wpAny_holding (wpAny_call (class_get (s := ⟨hh, gg, dr, tt + 1, oo⟩) (ox := ox) (od := some dd) Y J c8 (wpAny_pure ?_))))
  show wpAny _ _ (handedOut (.ref D)) _ _ _; rw [handedOut_of (v := .ref D) rfl]
  first | exact wpAny_pure (wpAny_pure q) | exact wpAny_pure q | exact wpAny_pure (wpAny_bind (wpAny_pure (wpAny_pure q)))
theorem my_kitD (c1 : findIn K (.ref D) "__getattribute__" = some (some (.builtin "BaseException.__getattribute__"))) (c2 : findIn K (.ref D) "__getattr__" = some none)
    (c3 : subIn K (.ref D) (.type "BaseException") = some true) (c4 : hasDictIn K D = true) (c5 : findIn K (.ref D) "__class__" = some (some (.builtin "object.__class__")))
    (c6 : specialIn K (.builtin "object.__class__") "__get__" = some (some (.builtin "getset_descriptor.__get__"))) (c7 : takesIn K (.builtin "object.__class__") = some true) (c8 : mroIn K D (.type "object") = some true) :
    KitX K (.ref x) (.ref D) (fun h => InstAt h x ox D (some dd)) where
  ty := fun _ _ _ J => J.type
  it := fun _ _ Y _ => by
    obtain ⟨cd, e, _⟩ := any_some c4; unfold clsIn at e
    split at e
    · rename_i a1 a2 a3 a4 e2
      intro A2 Q2 E2 s2 k q; unfold isType loadHead; exact wpAny_bind (wpAny_loadPart (k _ _ (Y _ _ e2)) (wpAny_pure q))
    · cases e
  ne := (handS_kitx_exc (x := x) (ox := ox) c1 c2 c3 c4 c5 c6 c7 c8).ne
  ca := fun Y J k => my_classD c1 c2 c3 c4 c5 c6 c7 c8 Y J k
end
end PySem.W
namespace My
open PySem L2
/-- isinstance(e, c), e the error that the suite holds, with its own dict -/
def rIsD (K : PySem.W.Frag) (a : Addr) (cls : Value) (d : Option Addr) : List V → Hp → VK → Prop := fun xs H Q => ∃ (D dd : Addr) (fs : List (Str × V)) (c : V) (cv : Value) (b : Bool), xs = [.ref a, c] ∧ cls = .ref D ∧ d = some dd ∧ H dd = some (.xd fs) ∧ ExcC K D ∧ (∀ u, RelV c u → u = cv) ∧
  PySem.W.kitOne K (.ref D) cv = some b ∧ Q (.bl b) H
theorem call_isD {X : Cx} {a : Addr} {cls : Value} {d : Option Addr} {oe : Obj} {pn : List (Addr × Obj)} (hz : Zc cls d oe) (hf : ∃ vs, oe.data = .fields vs) : CallR (X.suite a ((a, oe) :: pn)) (.builtin "isinstance") (rIsD X.K a cls d) := by
  intro pins s σ H xs us Q I r h
  obtain ⟨D, dd, fs, c, cv, b, rfl, e1, e2, hd, C, hcv, e, q⟩ := h
  subst e1 e2
  cases r with
  | cons rx rr =>
  cases rr with
  | cons rt rr =>
  cases rr
  cases rx
  have ec := hcv _ rt
  subst ec
  obtain ⟨hget, _⟩ := I.pin (a, oe) (List.mem_append_left _ List.mem_cons_self)
  obtain ⟨mA, hns, hr⟩ := I.hok dd _ hd
  obtain ⟨od, ho, hl⟩ := lookIn_ns hns
  obtain ⟨vs, hv⟩ := hf
  have J : PySem.W.InstAt s.heap a oe D (some od) := ⟨hget, hz.1, by unfold PySem.W.notCls; rw [hv] <;> rfl, by rw [hz.2]; exact ho⟩
  exact PySem.W.kia_one (PySem.W.my_kitD C.hg C.hk C.hs C.hd C.ha C.hn C.ht C.hm) I.kIn J e (fun z => nomatch z) fun tk => ⟨.bl b, H, I.tok tk, rfl, q⟩
end My

/-! ## Errors over any built-in error that keep what they were made with -/
namespace PySem.MyX
open PySem PySem.W PySem.Calls PyProof.Rows PySem.HandSPX Builtin.ObjectAttr
section
variable {M : Model} {prog : Program} {w : World} {A : Around} {E : Value → Shared → Prop} {R : Result → Shared → Prop} {h : Heap} {g : Array GenState} {d : Drawn} {t : Nat} {os : OsState}
variable {nm q : Str} {C N : Addr} {bs bm bmB : List Value} {hdct : Bool} {sn : List Str} {sub : List Value} {ab : Bool} {col : Option Bool} {dd : Option Addr} {k0 k1 k2 k3 k5 : Option Value} {B nid iid : String}
/-- the built-in B makes an instance of an own class that has B among its bases, however far off: its call is let through -/
theorem let_make (F : ExcBaseFacts B nid iid bmB) (cB : bm.contains (.type B) = true) {args : List Value} {Q : Unit → Shared → Prop}
    (c : h.get? C = some (excClassObj nm q C N bs bm hdct sn sub ab col dd k0 k1 k2 k3 k5 nid)) (done : Q () ⟨h, g, d, t, os⟩) : wpAny M A (checkBuiltinCall nid ⟨.ref C :: args, []⟩) Q E ⟨h, g, d, t, os⟩ := by
  have has : (Value.ref C :: bm).contains (.type B) = true := by rw [List.contains_cons, cB, Bool.or_true]
  have far := F.noStar; simp only [checkBuiltinCall, F.newKind, F.newSplit, F.newRow]
  repeat (first | refine wpAny_loadPart_at c ?_ | (refine wpAny_isSubtype_exc c ?_; rw [has]) | refine wpAny_staticBase_exc c ?_ | refine wpAny_madeBy_exc c ?_ | simp only [bne_self_eq_false, Bool.false_eq_true, if_false] | wp_step)
  exact done
/-- the instance and its arguments are laid -/
theorem laid_make (F : ExcBaseFacts B nid iid bmB) (cB : bm.contains (.type B) = true) (nA : bm.contains (.type "AttributeError") = false) (nN : bm.contains (.type "NameError") = false) {args : List Value}
    (c : h.get? C = some (excClassObj nm q C N bs bm hdct sn sub ab col dd k0 k1 k2 k3 k5 nid)) (len : args.length ≤ sizeLine)
    (done : R (.ok (.ret (.ref (h.objs.size + 1)))) ⟨(h.push (W.kdv_tup args)).push (excO C h.objs.size), g, d, t, os⟩) : codeAny (model prog w) A (.builtin nid ⟨.ref C :: args, []⟩) R ⟨h, g, d, t, os⟩ := by
  have far := F.ends
  have has : (Value.ref C :: bm).contains (.type B) = true := by rw [List.contains_cons, cB, Bool.or_true]
  have noA : (Value.ref C :: bm).contains (.type "AttributeError") = false := by rw [List.contains_cons, nA]; rfl
  have noN : (Value.ref C :: bm).contains (.type "NameError") = false := by rw [List.contains_cons, nN]; rfl
  refine codeAny_builtinAt F.entry ?_; unfold Builtin.«BaseException.__new__»; refine wpAt_bind ?_
  show wpAt _ _ _ (stack >>= _) _ _ _; refine wpAt_bind (wpAt_stack fun p below => wpAt_of_wpAny ?_)
  wp_walk; refine wpAt_of_wpAny ?_; rw [F.owner]
  repeat (first | with_reducible refine wpAny_madeHere_exc F.canon c ?_ | with_reducible refine wpAny_loadPart_at c ?_ | (with_reducible refine wpAny_isSubtype_exc c ?_; first | rw [has] | rw [noA] | rw [noN]) | wp_step)
  show R _ _; rw [Heap.size_push]; exact done
/-- C(..) for such a class: the instance is laid, then its own __init__ runs -/
theorem made_then (F : ExcBaseFacts B nid iid bmB) (cB : bm.contains (.type B) = true) (nA : bm.contains (.type "AttributeError") = false) (nN : bm.contains (.type "NameError") = false) {args : List Value} {fI : Addr} {Q : Fin → Shared → Prop}
    (c : h.get? C = some (excClassObj nm q C N bs bm hdct sn sub ab col dd k0 k1 k2 k3 k5 nid)) (hi : W.Looks (model prog w) h (typeLookup (.ref C) "__init__") (some (.ref fI)))
    (hb : ∀ self, W.Looks (model prog w) h (bindSpecial (.ref fI) self) (.ref fI, [self])) (len : args.length ≤ sizeLine)
    (go : codeAny (model prog w) A (.call (.ref fI) ⟨.ref (h.objs.size + 1) :: args, []⟩) (fun r s' => match r with | .ok (.ret v) => v = .none ∧ Q (.done (.ret (.ref (h.objs.size + 1)))) s' | .ok _ => False | .error e => E e s')
      ⟨(h.push (W.kdv_tup args)).push (excO C h.objs.size), g, d, t, os⟩) : wpAny (model prog w) A (Builtin.«type.__call__» ⟨.ref C :: args, []⟩) Q E ⟨h, g, d, t, os⟩ := by
  repeat (first | with_reducible refine wpAny_loadPart_at c ?_ | with_reducible refine wpAny_madeBy_exc c ?_ | wp_step)
  refine codeAny_call_builtin_code (Code.quiet_builtin _ F.quiet) (let_make F cB c (laid_make F cB nA nN c len ?_))
  show wpAny _ _ _ _ _ _
  have kp : ∀ b o, h.get? b = some o → ((h.push (W.kdv_tup args)).push (excO C h.objs.size)).get? b = some o := fun b o z => Heap.get?_push_of_some _ (Heap.get?_push_of_some _ z)
  have c1 := kp _ _ c; have i1 := hi.keeps kp; have b1 := (hb (.ref (h.objs.size + 1))).keeps kp
  have new : ((h.push (W.kdv_tup args)).push (excO C h.objs.size)).get? (h.objs.size + 1) = some (excO C h.objs.size) := by heap_get
  have own : (Value.ref C :: bm).contains (.ref C) = true := by simp
  unfold isInstance; repeat (first | with_reducible refine wpAny_loadPart_at new ?_ | (with_reducible refine wpAny_isSubtype_exc c1 ?_; rw [own]) | wp_step)
  show wpAny _ _ (typeLookup (.ref C) _) _ _ _; refine i1.at (wpAny_holding (wpAny_bind (b1.at (wpAny_bind (wpAny_call (codeAny_mono go fun r s' z => ?_))))))
  rcases r with e | (v | _ | _ | _) <;> first | exact z | exact False.elim z | (obtain ⟨rfl, z⟩ := z; first | exact wpAny_pure (wpAny_pure z) | (wp_walk; exact z))
theorem call_made (F : ExcBaseFacts B nid iid bmB) (cB : bm.contains (.type B) = true) (nA : bm.contains (.type "AttributeError") = false) (nN : bm.contains (.type "NameError") = false) {args : List Value} {fI : Addr}
    (c : h.get? C = some (excClassObj nm q C N bs bm hdct sn sub ab col dd k0 k1 k2 k3 k5 nid)) (hi : W.Looks (model prog w) h (typeLookup (.ref C) "__init__") (some (.ref fI)))
    (hb : ∀ self, W.Looks (model prog w) h (bindSpecial (.ref fI) self) (.ref fI, [self])) (len : args.length ≤ sizeLine)
    (go : codeAny (model prog w) (A.under (.builtin "type.__call__" ⟨.ref C :: args, []⟩)) (.call (.ref fI) ⟨.ref (h.objs.size + 1) :: args, []⟩) (W.InitBack (h.objs.size + 1) R) ⟨(h.push (W.kdv_tup args)).push (excO C h.objs.size), g, d, t, os⟩) :
    codeAny (model prog w) A (.call (.ref C) ⟨args, []⟩) R ⟨h, g, d, t, os⟩ := by
  have a1 := tc_lookup; have a2 := tc_bind (.ref C); have a3 : (⟨h, g, d, t, os⟩ : Shared).TypeIs (.ref C) "type" := ⟨_, c, rfl⟩
  refine codeAny_of_tree ?_; show wpAny _ _ (callAny (.ref C) _) _ _ _
  repeat (any_goals (first | assumption | with_reducible refine wpAny_loadPart_at c ?_ | wp_step))
  refine ⟨rfl, codeAny_call_builtin_at (Code.quiet_builtin _ (by decide +kernel)) entry_typeCall (wpAny_check_type_call_sub c (made_then F cB nA nN c hi hb len (codeAny_mono go fun r s' z => ?_)))⟩
  rcases r with e | (v | _ | _ | _)
  all_goals exact z
/-- self.name = v, the first store into an error: its dict is made -/
theorem first_store {K : W.Frag} {name : Str} {tk : Tok} {v : Value} {x : Addr} {fv : Array Value} {cd : ClassData} (Y : K.In h) (hx : h.get? x = some { cls := .ref C, data := .fields fv }) (hcd : W.clsIn K C = some cd)
    (ne : cd.mro.isEmpty = false) (ob : cd.mro.contains (.type "object") = true) (pass : refuseLoop (.ref x) "__setattr__" cd.mro = pure ()) (hd : cd.hasDict = true) (no : W.findIn K (.ref C) name = some none)
    (go : ∀ h' tk' dx, (∀ b o, b ≠ x → h.get? b = some o → h'.get? b = some o) → h.objs.size ≤ dx → dx ≠ x → h'.get? x = some { cls := .ref C, dict := some dx, data := .fields fv } →
      h'.Ns1 dx (fun y => if y = name then some v else none) → R (.ok (.ret .none)) ⟨h', g, d, tk', os⟩) : codeAny (model prog w) A (.call (.builtin "object.__setattr__") ⟨[.ref x, .str name tk, v], []⟩) R ⟨h, g, d, t, os⟩ := by
  have S := F.store_object; have J : W.InstAt h x { cls := .ref C, data := .fields fv } C none := ⟨hx, rfl, rfl, trivial⟩
  have new : x ≠ h.objs.size := Nat.ne_of_lt (Heap.lt_size hx)
  have top : W.Looks (model prog w) h (isInstance (.ref x) (.type "object")) true := J.type.andThen (W.looks_mroIn Y (by unfold W.mroIn; rw [hcd, Option.bind_some, if_neg (by rw [ne]; decide), ob]))
  have lm : W.Looks (model prog w) h (mroOf (.ref C)) cd.mro := (W.looks_clsIn Y hcd).andThen .now
  have l0 : W.Looks (model prog w) h (storeTaker? none) none := .now; have lc : W.Looks (model prog w) h (classData C) cd := W.looks_clsIn Y hcd
  refine codeAny_call_builtin S.slot.plain S.entry (@W.check_slot (model prog w) _ _ ⟨h, g, d, t, os⟩ "object.__setattr__" "object" "__setattr__" (.ref x) [.str name tk, v] [] _ S.kind S.split top (S.args (.ref x) (.str name tk) v) ?_)
  rw [W.osa_eq, refuse_eq]; refine wpAny_bind (wpAny_bind (J.type.at (wpAny_bind (lm.at ?_)))); rw [pass]
  refine wpAny_pure (wpAny_bind (J.type.at (wpAny_bind ((W.looks_findIn Y no).at (wpAny_bind (l0.at ?_)))))); show wpAny _ _ (storeInOwnDict (.ref x) (.ref C) (.str name tk) name v false) _ _ _
  obtain ⟨n1, n2, n3, n4, n5, n6, n7, n8, n9, n10, n11⟩ := cd; dsimp only at hd; subst hd; unfold storeInOwnDict ownDictForStores
  repeat (first | with_reducible refine store_in_new ?_ ?_ | with_reducible refine wpAny_loadPart_at hx ?_ | with_reducible refine lc.at ?_ | wp_step)
  · exact ⟨_, #[], _, (Heap.get?_update_ne _ _ _ _ new.symm).trans (Heap.get?_push_at rfl rfl), rfl, fun e he => absurd he (by simp), fun _ => rfl⟩
  intro h' tk' ns sb
  have hx1 : (h.push { cls := .type "dict", data := .dict #[] }).get? x = some { cls := .ref C, data := .fields fv } := Heap.get?_push_of_some _ hx
  refine go h' tk' h.objs.size (fun b o nb ho => (sb.2 b (Nat.ne_of_lt (Heap.lt_size ho))).trans ((Heap.get?_update_ne _ _ _ _ nb).trans (Heap.get?_push_of_some _ ho))) (Nat.le_refl _) new.symm ?_ ns
  exact (sb.2 x new).trans (Heap.get?_update_self _ hx1 rfl)
end
/-- what is wanted of the built-in error that own ones derive from: nid makes them, tail is its mro -/
structure BaseOf (nid : String) (tail : List Value) : Prop where
  ex : ∃ B iid bmB, ExcBaseFacts B nid iid bmB ∧ tail.contains (.type B) = true
  noA : tail.contains (.type "AttributeError") = false
  noN : tail.contains (.type "NameError") = false
  obj : tail.contains (.type "object") = true
  pass : ∀ self, refuseLoop self "__setattr__" tail = pure ()
abbrev tailVal : List Value := [.type "ValueError", .type "Exception", .type "BaseException", .type "object"]
abbrev tailIdx : List Value := [.type "IndexError", .type "LookupError", .type "Exception", .type "BaseException", .type "object"]
abbrev tailKey : List Value := [.type "KeyError", .type "LookupError", .type "Exception", .type "BaseException", .type "object"]
theorem tail_val1 {c : Addr} : PySem.W.excTail tailVal (.ref c :: tailVal) = true := by
  show PySem.W.excTail tailVal tailVal = true
  decide +kernel
theorem tail_idx0 : PySem.W.excTail tailIdx tailIdx = true := by decide +kernel
theorem tail_key0 : PySem.W.excTail tailKey tailKey = true := by decide +kernel
theorem base_val : BaseOf "ValueError.__new__" tailVal := ⟨⟨_, _, _, F.excBase_ValueError, by decide +kernel⟩, by decide +kernel, by decide +kernel, by decide +kernel, fun self => by kernel_rfl⟩
theorem base_idx : BaseOf "IndexError.__new__" tailIdx := ⟨⟨_, _, _, F.excBase_IndexError, by decide +kernel⟩, by decide +kernel, by decide +kernel, by decide +kernel, fun self => by kernel_rfl⟩
theorem base_key : BaseOf "LookupError.__new__" tailKey := ⟨⟨_, _, _, F.excBase_LookupError, by decide +kernel⟩, by decide +kernel, by decide +kernel, by decide +kernel, fun self => by kernel_rfl⟩
end PySem.MyX
namespace My
open PySem PySem.Spec PyProof.Rows L2 PySem.MyX
/-- what the written part says of an own error with an __init__ over a built-in one -/
structure OexB (K : PySem.W.Frag) (C : Addr) (nid : String) (tail : List Value) : Prop where
  base : BaseOf nid tail
  cls : ∃ nm q N bs bm sn sub ab col dd k0 k1 k2 k3 k5, K.lookup C = some (excClassObj nm q C N bs bm true sn sub ab col dd k0 k1 k2 k3 k5 nid) ∧ PySem.W.excTail tail bm = true
  sa : PySem.W.findIn K (.ref C) "__setattr__" = some (some (.builtin "object.__setattr__"))
  exC : PySem.W.subIn K (.ref C) (.type "BaseException") = some true
  tyC : PySem.W.typeIn K (.ref C) = some (.type "type")
  kC : PySem.W.keepIn K (.ref C) = true
section
variable {X : Cx} {pins : List (Addr × Obj)} {σ : L2.St} {H : Hp} {s : Shared} {a C dx : Addr} {f : Str} {y : V} {u : Value} {Q : Unit → Shared → Prop} {E : Value → Shared → Prop} {A : Around} {nid : String} {tail : List Value}
/-- self.f = y, the first store -/
theorem stored_new (T : OexB X.K C nid tail) (I : Inv X pins σ H s) (e : H a = some (exo a C none)) (no : PySem.W.findIn X.K (.ref C) f = some none) (ry : RelV y u)
    (go : ∀ dx s', H dx = none → dx ≠ a → Inv X pins σ (upd (upd H dx (exd dx [(f, y)])) a (exo a C (some dx))) s' → Q () s') : wpAny (model X.prog X.w) A (setAttr (.ref a) f u) Q E s := by
  obtain ⟨nm, q, N, bs, bm, sn, sub, ab, col, dd, k0, k1, k2, k3, k5, hC, hbm⟩ := T.cls
  have cl : PySem.W.clsIn X.K C = some { name := nm, bases := bs, mro := .ref C :: bm, ns := N, qualname := q, hasDict := true, slotNames := sn, subclasses := sub, abstract := ab, collection := col, hasDel := false } := by unfold PySem.W.clsIn; rw [hC] <;> rfl
  obtain ⟨t1, ho⟩ := exo_at I.hok e
  obtain ⟨hp, g, d, t, os⟩ := s
  have ps : refuseLoop (.ref a) "__setattr__" (Value.ref C :: bm) = pure () := by rw [refuseLoop_ref]; exact PySem.W.excTail_pass _ (T.base.pass _) bm hbm
  have ob : (Value.ref C :: bm).contains (.type "object") = true := by rw [List.contains_cons, PySem.W.excTail_contains "object" bm hbm, T.base.obj, Bool.or_true]
  refine PySem.W.set_plain I.kIn (ox := { cls := .ref C, dict := none, data := .fields #[.ref t1, .none, .none, .none, .bool false, .none] }) (od := none) ⟨ho, rfl, rfl, trivial⟩ T.sa (first_store I.kIn ho cl rfl ob ps rfl no fun h' tk' dx k dn dne hx hn => ?_)
  have free : H dx = none := I.hok.fresh dn
  have nd : ∀ {b : Addr} {o : Obj}, hp.get? b = some o → b ≠ dx := fun {b o} z => Nat.ne_of_lt (Nat.lt_of_lt_of_le (Heap.lt_size z) dn)
  have na : ∀ {b : Addr}, H b = none → b ≠ a := fun {b} n z => by rw [z, e] at n; cases n
  have U : Un X.fs [] H (upd (upd H dx (exd dx [(f, y)])) a (exo a C (some dx))) hp h' := {
    keep := fun b o z n _ _ => k b o (na n) z
    slot := fun b o z n _ _ => ⟨o.slots, k b o (na n) z⟩
    free := fun b o z n _ => by rw [upd_ne (na n), upd_ne (nd z)]; exact n
    there := fun b o z _ => (Classical.em (b = a)).elim (fun hb => ⟨_, (congrArg h'.get? hb).trans hx⟩) fun hb => ⟨o, k b o hb z⟩
    tups := fun b xs z => by rw [upd_ne (at_ne e z exo_tup), upd_ne (ne_of_none z free)]; exact z
    frzs := fun b o v z => by rw [upd_ne (at_ne e z exo_frz), upd_ne (ne_of_none z free)]; exact z
    tbls := fun b ps z => ⟨#[], by rw [upd_ne (at_ne e z exo_tbl), upd_ne (ne_of_none z free), z]; simp⟩ }
  refine go dx _ free dne (I.un (t' := tk') U fun b o z => ?_)
  by_cases hb : b = a
  · subst hb; rw [upd_same] at z; cases z; exact exo_ok hx
  rw [upd_ne hb] at z
  by_cases hd : b = dx
  · subst hd; rw [upd_same] at z; cases z; exact exd_ok hn (relO_put (fs := []) ry fun g => True.intro)
  rw [upd_ne hd] at z
  refine (I.hok b o z).stay (fun c v hc y => k c v (hc.elim (fun w => by rw [w]; exact hb) fun w => at_ne e w exo_own) y) (fun c hc => by rw [upd_ne (at_ne e hc exo_own), upd_ne (ne_of_none hc free)]; exact hc) (fun c xs hc => ?_)
  rw [upd_ne (at_ne e hc exo_tup), upd_ne (ne_of_none hc free)]; exact hc
/-- self.f = e, the first store into an error that is being made -/
def tOsB (K : PySem.W.Frag) (f : Str) (to te : TE) : TS := fun D σ H => te σ H fun y H1 => to σ H1 fun x H2 => ∃ (a C : Addr) (nid : String) (tail : List Value), x = .ref a ∧ OexB K C nid tail ∧ PySem.W.findIn K (.ref C) f = some none ∧ H2 a = some (exo a C none) ∧
  ∀ dx, H2 dx = none → dx ≠ a → D.nx σ (upd (upd H2 dx (exd dx [(f, y)])) a (exo a C (some dx)))
theorem ps_osB {o e : Expr} {to te : TE} {p' pos : Pos} (ho : PE X o to) (he : PE X e te) (hs : swapsWith e (some (.Attribute o f p')) pos.line X.env = pure false := by rfl) : PS X (.Assign [.Attribute o f p'] e pos) (tOsB X.K f to te) := by
  refine ⟨fun pins s σ H D I h => plainObj_wpAny_Assign_Attribute (thn (he.run pins s σ H _ I h) fun v s1 ⟨y, H1, I1, r1, q1⟩ => thn (ho.run pins s1 σ H1 _ I1 q1) fun u s2 ⟨x, H2, I2, r2, a, C, nid, tail, ex, T, no, ea, q⟩ => ?_) hs⟩
  subst ex
  obtain rfl : u = Value.ref a := r2
  exact stored_new T I2 ea no r1 fun dx s' n ne J => ⟨σ, _, J, q dx n ne⟩
end
end My

/-! ## An own error made: to be raised, or kept as a value; what it is and keeps -/
namespace My
open PySem PySem.Spec PyProof.Rows L2 PySem.MyX
section
variable {X : Cx} {e o : Expr} {es : List Expr} {ta : TA} {to te : TE} {p pos : Pos} {pins : List (Addr × Obj)} {σ : L2.St} {H1 : Hp}
theorem run_exB {CX : CXT} {C fI : Addr} {k : Nat} {fd : FuncData} {ps : List Str} {sp : Sp} {ds us : List Value} {dvs vs : List V} {nid : String} {tail : List Value} {J : Hp → Prop} {G : Value → Shared → Prop} {hp : Heap} {g : Array GenState} {dr : Drawn} {tk : Nat} {os : OsState}
    (T : OexB X.K C nid tail) (iC : PySem.W.findIn X.K (.ref C) "__init__" = some (some (.ref fI))) (tI : PySem.W.typeIn X.K (.ref fI) = some (.type "function")) (F1 : FnOk X.prog X.w X.K X.mg X.base CX k fI fd ps sp) (hr : Room (k + 1) X.A) (hb : Binds X.K fd ps ds) (hd : Vals dvs ds)
    (hx : Passes CX X (fun _ _ _ => False)) (I1 : Inv X pins σ H1 ⟨hp, g, dr, tk, os⟩) (r1 : Vals vs us) (len : vs.length ≤ 1000)
    (q1 : sp (.ref (hp.objs.size + 1) :: (vs ++ dvs)) (upd H1 (hp.objs.size + 1) (exo (hp.objs.size + 1) C none)) (fun v H2 => v = .non ∧ J H2) (fun _ _ _ => False))
    (fin : ∀ H2 h2 g2 d2 t2, Inv X pins σ (upd H1 (hp.objs.size + 1) (exo (hp.objs.size + 1) C none)) ⟨(hp.push (PySem.W.kdv_tup us)).push (PySem.HandSPX.excO C hp.objs.size), g, dr, tk, os⟩ →
      Un (frs X.stack) [] (upd H1 (hp.objs.size + 1) (exo (hp.objs.size + 1) C none)) H2 ((hp.push (PySem.W.kdv_tup us)).push (PySem.HandSPX.excO C hp.objs.size)) h2 → HOk X.prog X.w H2 h2 → AllBare g2 → J H2 → G (.ref (hp.objs.size + 1)) ⟨h2, g2, d2, t2, os⟩) :
    wpAny (model X.prog X.w) X.A (call (.ref C) us) G X.xe ⟨hp, g, dr, tk, os⟩ := by
  obtain ⟨nm, q, N, bs, bm, sn, sub, ab, col, dd, k0, k1, k2, k3, k5, hC, hbm⟩ := T.cls
  obtain ⟨B, iid, bmB, FB, cB⟩ := T.base.ex
  have has : ∀ Y : String, bm.contains (.type Y) = tail.contains (.type Y) := fun Y => PySem.W.excTail_contains Y bm hbm
  have sz : hp.objs.size ≤ hp.objs.size + 1 := Nat.le_succ _
  have kk : ∀ b o, hp.get? b = some o → ((hp.push (PySem.W.kdv_tup us)).push (PySem.HandSPX.excO C hp.objs.size)).get? b = some o := fun b o z => Heap.get?_push_of_some _ (Heap.get?_push_of_some _ z)
  have new : ((hp.push (PySem.W.kdv_tup us)).push (PySem.HandSPX.excO C hp.objs.size)).get? (hp.objs.size + 1) = some (PySem.HandSPX.excO C hp.objs.size) := by heap_get
  have I2 : Inv X pins σ (upd H1 (hp.objs.size + 1) (exo (hp.objs.size + 1) C none)) ⟨(hp.push (PySem.W.kdv_tup us)).push (PySem.HandSPX.excO C hp.objs.size), g, dr, tk, os⟩ := I1.laid (t' := tk) (a := hp.objs.size + 1) (o := exo (hp.objs.size + 1) C none) kk sz (exo_ok new)
  have r2 : Vals (V.ref (hp.objs.size + 1) :: (vs ++ dvs)) (Value.ref (hp.objs.size + 1) :: (us ++ ds)) := .cons rfl (r1.append hd)
  have hl : (Value.ref (hp.objs.size + 1) :: us ++ ds).length = ps.length := r2.length.symm.trans (F1.len _ _ _ _ q1)
  have hus : us.length ≤ sizeLine := by rw [← Paired.length r1, sizeLine_eq]; omega
  refine wpAny_call (call_made FB ((has B).trans cB) ((has _).trans T.base.noA) ((has _).trans T.base.noN) (I1.kIn _ _ hC) (PySem.W.looks_findIn I1.kIn iC) (fun self => PySem.W.bind_fn I1.kIn self tI) hus
    (codeAny_mono (F1.run _ X.stack _ _ ⟨Value.ref (hp.objs.size + 1) :: us, []⟩ (Value.ref (hp.objs.size + 1) :: (us ++ ds)) _ _ (fun _ _ _ => False) (hr.make C us []) (I2.env0.make C us []) (hb _ (Value.ref (hp.objs.size + 1) :: us) I2.kIn hl) r2 q1) fun r s' z => ?_))
  cases r with
  | error er => exact hx pins σ _ _ er s' I2 z
  | ok fl =>
    cases fl with
    | ret u =>
      obtain ⟨v, H2, os2, bare2, un2, hok2, rv, ev, j⟩ := z
      subst ev
      obtain ⟨h2, g2, d2, t2, os'⟩ := s'
      cases os2
      exact ⟨rv, fin H2 h2 g2 d2 t2 I2 un2 hok2 bare2 j⟩
    | next => exact False.elim z
    | brk => exact False.elim z
    | cont => exact False.elim z
/-- C(e, ..) to be raised -/
theorem pmk_oexB {CX : CXT} {x : Str} {C fI : Addr} {k : Nat} {fd : FuncData} {ps : List Str} {sp : Sp} {ds : List Value} {dvs : List V} {nid : String} {tail : List Value} (T : OexB X.K C nid tail) (iC : PySem.W.findIn X.K (.ref C) "__init__" = some (some (.ref fI))) (tI : PySem.W.typeIn X.K (.ref fI) = some (.type "function"))
    (F1 : FnOk X.prog X.w X.K X.mg X.base CX k fI fd ps sp) (hr : Room (k + 1) X.A) (hb : Binds X.K fd ps ds) (hd : Vals dvs ds) (hx : Passes CX X (fun _ _ _ => False)) (hg : Gl X x) (hm : X.mg x = some (.ref C)) (ha : PA X (e :: es) ta)
    (hdb : (x == ("__debug__" : Str)) = false := by decide) (he : starEach (e :: es) X.env = (false, eval e X.env) :: starEach es X.env := by rfl) (hpl : (backTo pos (starEach es X.env)).any (·.1) = false := by rfl) : PMk X (.Call (.Name x p) (e :: es) [] pos) (tMkO C sp dvs ta) := by
  intro pins s σ H Q I h
  refine wpAny_Call_Name_kw (ld_glob I hg hm (PySem.W.callWith_K (h₀ := X.base) I.ok.mod.kin T.kC (thn (ha.run pos pins s σ H _ I h) fun us s1 ⟨vs, H1, I1, r1, len, q1⟩ => ⟨I1.kIn, ?_⟩) he hpl) hdb)
  obtain ⟨hp, g, dr, tk, os⟩ := s1
  have kk : ∀ b o, hp.get? b = some o → ((hp.push (PySem.W.kdv_tup us)).push (PySem.HandSPX.excO C hp.objs.size)).get? b = some o := fun b o z => Heap.get?_push_of_some _ (Heap.get?_push_of_some _ z)
  refine run_exB T iC tI F1 hr hb hd hx I1 r1 len (J := fun H2 => ∃ (d : Addr) (fs : List (Str × V)), H2 (hp.objs.size + 1) = some (exo (hp.objs.size + 1) C (some d)) ∧ H2 d = some (exd d fs) ∧ H1 d = none ∧ Q (.ref C) (some d) (upd (del H2 (hp.objs.size + 1)) d (.xd fs)))
    (q1 _ (I1.hok.fresh (Nat.le_succ _))) fun H2 h2 g2 d2 t2 I2 un hok bare ⟨d, fs, ea, ed, hd1, q⟩ => ?_
  exact mk_end (raises_own T.exC T.tyC) I1 (Nat.le_succ _) kk un hok rfl bare ea ed hd1 q
/-- C(e, ..) as a value: the error stands with the dict that its __init__ made -/
def tMkV (C : Addr) (sp : Sp) (dvs : List V) (ta : TA) : TE := fun σ H Q => ta σ H fun vs H1 => vs.length ≤ 1000 ∧ ∀ a, H1 a = none → sp (.ref a :: (vs ++ dvs)) (upd H1 a (exo a C none)) (fun v H2 => v = .non ∧ Q (.ref a) H2) (fun _ _ _ => False)
theorem pe_oexB {CX : CXT} {x : Str} {C fI : Addr} {k : Nat} {fd : FuncData} {ps : List Str} {sp : Sp} {ds : List Value} {dvs : List V} {nid : String} {tail : List Value} (T : OexB X.K C nid tail) (iC : PySem.W.findIn X.K (.ref C) "__init__" = some (some (.ref fI))) (tI : PySem.W.typeIn X.K (.ref fI) = some (.type "function"))
    (F1 : FnOk X.prog X.w X.K X.mg X.base CX k fI fd ps sp) (hr : Room (k + 1) X.A) (hb : Binds X.K fd ps ds) (hd : Vals dvs ds) (hx : Passes CX X (fun _ _ _ => False)) (hg : Gl X x) (hm : X.mg x = some (.ref C)) (ha : PA X (e :: es) ta)
    (hdb : (x == ("__debug__" : Str)) = false := by decide) (he : starEach (e :: es) X.env = (false, eval e X.env) :: starEach es X.env := by rfl) (hpl : (backTo pos (starEach es X.env)).any (·.1) = false := by rfl) : PE X (.Call (.Name x p) (e :: es) [] pos) (tMkV C sp dvs ta) := by
  refine ⟨fun pins s σ H Q I h => ?_⟩
  refine wpAny_Call_Name_kw (ld_glob I hg hm (PySem.W.callWith_K (h₀ := X.base) I.ok.mod.kin T.kC (thn (ha.run pos pins s σ H _ I h) fun us s1 ⟨vs, H1, I1, r1, len, q1⟩ => ⟨I1.kIn, ?_⟩) he hpl) hdb)
  obtain ⟨hp, g, dr, tk, os⟩ := s1
  refine run_exB T iC tI F1 hr hb hd hx I1 r1 len (J := fun H2 => Q (.ref (hp.objs.size + 1)) H2) (q1 _ (I1.hok.fresh (Nat.le_succ _))) fun H2 h2 g2 d2 t2 I2 un hok bare q => ?_
  exact ⟨.ref (hp.objs.size + 1), H2, I2.call' (ch := []) rfl un hok bare (fun b z => absurd z (by simp)), rfl, q⟩
/-- an error that stands as a value, with its dict: what isinstance tells of it -/
def rIsV (K : PySem.W.Frag) : List V → Hp → VK → Prop := fun xs H Q => ∃ (a D : Addr) (dd : Option Addr) (c : V) (cv : Value) (b : Bool), xs = [.ref a, c] ∧ H a = some (exo a D dd) ∧ (∀ d, dd = some d → ∃ fs, H d = some (exd d fs)) ∧ ExcC K D ∧ (∀ u, RelV c u → u = cv) ∧ PySem.W.kitOne K (.ref D) cv = some b ∧ Q (.bl b) H
theorem call_isX : CallR X (.builtin "isinstance") (rIsV X.K) := by
  intro pins s σ H xs us Q I r h
  obtain ⟨a, D, dd, c, cv, b, rfl, ha, hdd, C, hcv, e, q⟩ := h
  obtain ⟨u1, u2, rfl, r1, r2⟩ := vals2 r
  obtain rfl : u1 = Value.ref a := r1
  have ec := hcv _ r2
  subst ec
  obtain ⟨t1, ho⟩ := exo_at I.hok ha
  have fin : ∀ tk, EP X pins σ Q (.bool b) { s with toks := tk } := fun tk => ⟨.bl b, H, I.tok tk, rfl, q⟩
  cases dd with
  | none => exact PySem.W.kia_one (PySem.W.handS_kitx_exc C.hg C.hk C.hs C.hd C.ha C.hn C.ht C.hm) I.kIn (⟨ho, rfl, rfl, trivial⟩ : PySem.W.InstAt s.heap a _ D none) e (fun z => nomatch z) fin
  | some d =>
    obtain ⟨fs, hd⟩ := hdd d rfl
    obtain ⟨mA, hns, hr⟩ := exd_at I.hok hd
    obtain ⟨od, hod, hl⟩ := lookIn_ns hns
    exact PySem.W.kia_one (PySem.W.my_kitD C.hg C.hk C.hs C.hd C.ha C.hn C.ht C.hm) I.kIn (⟨ho, rfl, rfl, hod⟩ : PySem.W.InstAt s.heap a _ D (some od)) e (fun z => nomatch z) fin
/-- o.f, o an error that stands as a value -/
def tXv (K : PySem.W.Frag) (f : Str) (te : TE) : TE := fun σ H Q => te σ H fun x H1 => ∃ (a D d : Addr) (fs : List (Str × V)) (v : V), x = .ref a ∧ H1 a = some (exo a D (some d)) ∧ H1 d = some (exd d fs) ∧ XfC K D ∧ PySem.W.findIn K (.ref D) f = some none ∧ fs.lookup f = some v ∧ Q v H1
theorem pe_xv {n : Str} (he : PE X e te) (hb : attributeBase e n X.env (eval e X.env) = eval e X.env := by rfl) : PE X (.Attribute e n pos) (tXv X.K n te) := by
  refine ⟨fun pins s σ H Q I h => ?_⟩
  refine attr_of hb (thn (he.run pins s σ H _ I h) fun u s1 ⟨x, H1, I1, rx, a, D, d, fs, v, ex, ha, hd, T, no, l, q⟩ => ?_)
  subst ex
  obtain rfl : u = Value.ref a := rx
  obtain ⟨t1, ho⟩ := exo_at I1.hok ha
  obtain ⟨mA, hns, hr⟩ := exd_at I1.hok hd
  obtain ⟨od, hod, hl⟩ := lookIn_ns hns
  obtain ⟨u, hu, ru⟩ := RelO.some_of (v := v) (o := mA n) (by rw [← l]; exact hr n)
  exact HandSPX.exc_get I1.kIn (⟨ho, rfl, rfl, hod⟩ : PySem.W.InstAt s1.heap a _ D (some od)) T.ga T.gg T.exC (PySem.W.findObj_own T.hdC no rfl (by rw [hl, hu])) (handed_of ru) ⟨v, H1, I1.tok _, ru, q⟩
/-- C(), an own error without an __init__ of its own -/
def tExc0 (C : Addr) : TE := fun _ H Q => ∀ a, H a = none → Q (.ref a) (upd H a (exo a C none))
theorem pe_exc0 {C : Addr} {bmB : List Value} {B nid iid : String} {x : Str} (F : ExcBaseFacts B nid iid bmB) (q : PySem.W.excIn X.K C bmB nid = true) (gC : X.mg x = some (.ref C)) (kC : PySem.W.keepIn X.K (.ref C) = true) (hg : Gl X x) (hdb : (x == ("__debug__" : Str)) = false := by decide) : PE X (.Call (.Name x p) [] [] pos) (tExc0 C) := by
  refine ⟨fun pins s σ H Q I h => wpAny_Call_Name_kw (ld_glob I hg gC (PySem.W.callWith_K0 I.kIn kC ?_) hdb)⟩
  obtain ⟨bm, N, nm, qn, bs, hdct, sn, sub, ab, col, dd, k0, k1, k2, k3, k5, mN, hC, hN, hni, T⟩ := exc_obj I.kIn q
  refine wpAny_call_exc_subT F T hC hN hni (fun h' e hm => ?_) (Nat.zero_le _)
  obtain ⟨t, he, _⟩ := hm.there
  have free := I.hok.gone hm.new
  exact ⟨.ref e, _, I.laidN hm.keeps hm.new free (exo_ok he), rfl, h e free⟩
end
end My

/-! ## An error's __init__ that keeps its argument; its raising -/
namespace My
open PySem PySem.Spec PyProof.Rows L2 PySem.MyX
/-- an error's __init__ that keeps its argument by this name -/
def spXAt (C : Addr) (f : Str) : Sp := fun vs H Q _ => ∃ (a : Addr) (y : V), vs = [.ref a, y] ∧ H a = some (exo a C none) ∧ ∀ dx, H dx = none → dx ≠ a → Q .non (upd (upd H dx (exd dx [(f, y)])) a (exo a C (some dx)))
/-- raise X(y), X's own __init__ keeping y -/
theorem mk_at {C : Addr} {f : Str} {σ : L2.St} {H H1 : Hp} {y : V} {ta : TA} {Q : XK} (h : ∀ R : List V → Hp → Prop, R [y] H1 → ta σ H R) (q : ∀ (d : Addr) (H' : Hp), Same H1 H' → H1 d = none → H' d = some (.xd [(f, y)]) → Q (.ref C) (some d) H') : tMkO C (spXAt C f) [] ta σ H Q := by
  refine h _ ⟨by show 1 ≤ 1000; decide, fun a na => ⟨a, y, rfl, upd_same, fun dx h1 h2 => ⟨rfl, dx, [(f, y)], upd_same, ?_, ?_, ?_⟩⟩⟩
  · rw [upd_ne h2, upd_same]
  · rw [upd_ne h2] at h1
    exact h1
  · rw [upd_ne h2] at h1
    refine q dx _ (fun b u e => ?_) h1 upd_same
    have hb : b ≠ a := ne_of_none e na
    have hd : b ≠ dx := ne_of_none e h1
    rw [upd_ne hd, del_ne hb, upd_ne hb, upd_ne hd, upd_ne hb]
    exact e
end My

/-! ## k01: the errors -/
namespace My
open PySem PySem.Spec PyProof.Rows L2 PySem.MyX
abbrev s_InvalidRow_init : Stmt := inClass (top 2) 0
abbrev N_InvalidRow_init : List Str := ["self", "word"]
abbrev P_InvalidRow_init : List Str := ["self", "word"]
theorem sc_InvalidRow_init : FnScope N_InvalidRow_init P_InvalidRow_init (defScope s_InvalidRow_init) := ⟨rfl, rfl, rfl, by decide +kernel, rfl, by decide +kernel, by decide +kernel⟩
abbrev s_InvalidService_init : Stmt := inClass (top 3) 0
abbrev N_InvalidService_init : List Str := ["self", "word"]
abbrev P_InvalidService_init : List Str := ["self", "word"]
theorem sc_InvalidService_init : FnScope N_InvalidService_init P_InvalidService_init (defScope s_InvalidService_init) := ⟨rfl, rfl, rfl, by decide +kernel, rfl, by decide +kernel, by decide +kernel⟩
abbrev s_InvalidBook_init : Stmt := inClass (top 4) 0
abbrev N_InvalidBook_init : List Str := ["self", "word"]
abbrev P_InvalidBook_init : List Str := ["self", "word"]
theorem sc_InvalidBook_init : FnScope N_InvalidBook_init P_InvalidBook_init (defScope s_InvalidBook_init) := ⟨rfl, rfl, rfl, by decide +kernel, rfl, by decide +kernel, by decide +kernel⟩
abbrev s_InvalidText_init : Stmt := inClass (top 5) 0
abbrev N_InvalidText_init : List Str := ["self", "at"]
abbrev P_InvalidText_init : List Str := ["self", "at"]
theorem sc_InvalidText_init : FnScope N_InvalidText_init P_InvalidText_init (defScope s_InvalidText_init) := ⟨rfl, rfl, rfl, by decide +kernel, rfl, by decide +kernel, by decide +kernel⟩
abbrev s_InvalidTree_init : Stmt := inClass (top 6) 0
abbrev N_InvalidTree_init : List Str := ["self", "word"]
abbrev P_InvalidTree_init : List Str := ["self", "word"]
theorem sc_InvalidTree_init : FnScope N_InvalidTree_init P_InvalidTree_init (defScope s_InvalidTree_init) := ⟨rfl, rfl, rfl, by decide +kernel, rfl, by decide +kernel, by decide +kernel⟩
abbrev s_Refused_init : Stmt := inClass (top 9) 0
abbrev N_Refused_init : List Str := ["self", "word"]
abbrev P_Refused_init : List Str := ["self", "word"]
theorem sc_Refused_init : FnScope N_Refused_init P_Refused_init (defScope s_Refused_init) := ⟨rfl, rfl, rfl, by decide +kernel, rfl, by decide +kernel, by decide +kernel⟩
abbrev s_NoRow_init : Stmt := inClass (top 10) 0
abbrev N_NoRow_init : List Str := ["self", "at"]
abbrev P_NoRow_init : List Str := ["self", "at"]
theorem sc_NoRow_init : FnScope N_NoRow_init P_NoRow_init (defScope s_NoRow_init) := ⟨rfl, rfl, rfl, by decide +kernel, rfl, by decide +kernel, by decide +kernel⟩
abbrev s_NoService_init : Stmt := inClass (top 11) 0
abbrev N_NoService_init : List Str := ["self", "name"]
abbrev P_NoService_init : List Str := ["self", "name"]
theorem sc_NoService_init : FnScope N_NoService_init P_NoService_init (defScope s_NoService_init) := ⟨rfl, rfl, rfl, by decide +kernel, rfl, by decide +kernel, by decide +kernel⟩
set_option maxHeartbeats 0 in
structure TxErrs (w : World) (K : PySem.W.Frag) (mg : Str → Option Value) extends TxAny01 w K mg where
  C_InvalidRow : Addr
  m_InvalidRow : mg "InvalidRow" = some (.ref C_InvalidRow)
  ox_InvalidRow : OexB K C_InvalidRow "ValueError.__new__" tailVal
  nw_InvalidRow : PySem.W.findIn K (.ref C_InvalidRow) "word" = some none
  f_InvalidRow_init : Addr
  d_InvalidRow_init : FuncData
  i_InvalidRow : PySem.W.findIn K (.ref C_InvalidRow) "__init__" = some (some (.ref f_InvalidRow_init))
  t_InvalidRow : PySem.W.typeIn K (.ref f_InvalidRow_init) = some (.type "function")
  F_InvalidRow_init : Fun K "__init__" "InvalidRow.__init__" s_InvalidRow_init f_InvalidRow_init d_InvalidRow_init
  b_InvalidRow_init : Binds K d_InvalidRow_init P_InvalidRow_init []
  xf_InvalidRow : XfC K C_InvalidRow
  C_InvalidService : Addr
  m_InvalidService : mg "InvalidService" = some (.ref C_InvalidService)
  ox_InvalidService : OexB K C_InvalidService "ValueError.__new__" tailVal
  nw_InvalidService : PySem.W.findIn K (.ref C_InvalidService) "word" = some none
  f_InvalidService_init : Addr
  d_InvalidService_init : FuncData
  i_InvalidService : PySem.W.findIn K (.ref C_InvalidService) "__init__" = some (some (.ref f_InvalidService_init))
  t_InvalidService : PySem.W.typeIn K (.ref f_InvalidService_init) = some (.type "function")
  F_InvalidService_init : Fun K "__init__" "InvalidService.__init__" s_InvalidService_init f_InvalidService_init d_InvalidService_init
  b_InvalidService_init : Binds K d_InvalidService_init P_InvalidService_init []
  xf_InvalidService : XfC K C_InvalidService
  C_InvalidBook : Addr
  m_InvalidBook : mg "InvalidBook" = some (.ref C_InvalidBook)
  ox_InvalidBook : OexB K C_InvalidBook "ValueError.__new__" tailVal
  nw_InvalidBook : PySem.W.findIn K (.ref C_InvalidBook) "word" = some none
  f_InvalidBook_init : Addr
  d_InvalidBook_init : FuncData
  i_InvalidBook : PySem.W.findIn K (.ref C_InvalidBook) "__init__" = some (some (.ref f_InvalidBook_init))
  t_InvalidBook : PySem.W.typeIn K (.ref f_InvalidBook_init) = some (.type "function")
  F_InvalidBook_init : Fun K "__init__" "InvalidBook.__init__" s_InvalidBook_init f_InvalidBook_init d_InvalidBook_init
  b_InvalidBook_init : Binds K d_InvalidBook_init P_InvalidBook_init []
  xf_InvalidBook : XfC K C_InvalidBook
  C_InvalidText : Addr
  m_InvalidText : mg "InvalidText" = some (.ref C_InvalidText)
  ox_InvalidText : OexB K C_InvalidText "ValueError.__new__" tailVal
  nw_InvalidText : PySem.W.findIn K (.ref C_InvalidText) "at" = some none
  f_InvalidText_init : Addr
  d_InvalidText_init : FuncData
  i_InvalidText : PySem.W.findIn K (.ref C_InvalidText) "__init__" = some (some (.ref f_InvalidText_init))
  t_InvalidText : PySem.W.typeIn K (.ref f_InvalidText_init) = some (.type "function")
  F_InvalidText_init : Fun K "__init__" "InvalidText.__init__" s_InvalidText_init f_InvalidText_init d_InvalidText_init
  b_InvalidText_init : Binds K d_InvalidText_init P_InvalidText_init []
  xf_InvalidText : XfC K C_InvalidText
  C_InvalidTree : Addr
  m_InvalidTree : mg "InvalidTree" = some (.ref C_InvalidTree)
  ox_InvalidTree : OexB K C_InvalidTree "ValueError.__new__" tailVal
  nw_InvalidTree : PySem.W.findIn K (.ref C_InvalidTree) "word" = some none
  f_InvalidTree_init : Addr
  d_InvalidTree_init : FuncData
  i_InvalidTree : PySem.W.findIn K (.ref C_InvalidTree) "__init__" = some (some (.ref f_InvalidTree_init))
  t_InvalidTree : PySem.W.typeIn K (.ref f_InvalidTree_init) = some (.type "function")
  F_InvalidTree_init : Fun K "__init__" "InvalidTree.__init__" s_InvalidTree_init f_InvalidTree_init d_InvalidTree_init
  b_InvalidTree_init : Binds K d_InvalidTree_init P_InvalidTree_init []
  xf_InvalidTree : XfC K C_InvalidTree
  C_Refused : Addr
  m_Refused : mg "Refused" = some (.ref C_Refused)
  ox_Refused : OexB K C_Refused "ValueError.__new__" tailVal
  nw_Refused : PySem.W.findIn K (.ref C_Refused) "word" = some none
  f_Refused_init : Addr
  d_Refused_init : FuncData
  i_Refused : PySem.W.findIn K (.ref C_Refused) "__init__" = some (some (.ref f_Refused_init))
  t_Refused : PySem.W.typeIn K (.ref f_Refused_init) = some (.type "function")
  F_Refused_init : Fun K "__init__" "Refused.__init__" s_Refused_init f_Refused_init d_Refused_init
  b_Refused_init : Binds K d_Refused_init P_Refused_init []
  xf_Refused : XfC K C_Refused
  C_NoRow : Addr
  m_NoRow : mg "NoRow" = some (.ref C_NoRow)
  ox_NoRow : OexB K C_NoRow "IndexError.__new__" tailIdx
  nw_NoRow : PySem.W.findIn K (.ref C_NoRow) "at" = some none
  f_NoRow_init : Addr
  d_NoRow_init : FuncData
  i_NoRow : PySem.W.findIn K (.ref C_NoRow) "__init__" = some (some (.ref f_NoRow_init))
  t_NoRow : PySem.W.typeIn K (.ref f_NoRow_init) = some (.type "function")
  F_NoRow_init : Fun K "__init__" "NoRow.__init__" s_NoRow_init f_NoRow_init d_NoRow_init
  b_NoRow_init : Binds K d_NoRow_init P_NoRow_init []
  xf_NoRow : XfC K C_NoRow
  C_NoService : Addr
  m_NoService : mg "NoService" = some (.ref C_NoService)
  ox_NoService : OexB K C_NoService "LookupError.__new__" tailKey
  nw_NoService : PySem.W.findIn K (.ref C_NoService) "name" = some none
  f_NoService_init : Addr
  d_NoService_init : FuncData
  i_NoService : PySem.W.findIn K (.ref C_NoService) "__init__" = some (some (.ref f_NoService_init))
  t_NoService : PySem.W.typeIn K (.ref f_NoService_init) = some (.type "function")
  F_NoService_init : Fun K "__init__" "NoService.__init__" s_NoService_init f_NoService_init d_NoService_init
  b_NoService_init : Binds K d_NoService_init P_NoService_init []
  xf_NoService : XfC K C_NoService
  C_Mismatch : Addr
  m_Mismatch : mg "Mismatch" = some (.ref C_Mismatch)
  xc_Mismatch : PySem.W.excIn K C_Mismatch [.type "ValueError", .type "Exception", .type "BaseException", .type "object"] "ValueError.__new__" = true
  kp_Mismatch : PySem.W.keepIn K (.ref C_Mismatch) = true
  C_InvalidCommand : Addr
  m_InvalidCommand : mg "InvalidCommand" = some (.ref C_InvalidCommand)
  xc_InvalidCommand : PySem.W.excIn K C_InvalidCommand [.type "ValueError", .type "Exception", .type "BaseException", .type "object"] "ValueError.__new__" = true
  kp_InvalidCommand : PySem.W.keepIn K (.ref C_InvalidCommand) = true
  C_TraceError : Addr
  m_TraceError : mg "TraceError" = some (.ref C_TraceError)
  z_ValueError : mg "ValueError" = none
  z_IndexError : mg "IndexError" = none
  z_KeyError : mg "KeyError" = none
  z_isinstance : mg "isinstance" = none
  z_enumerate : mg "enumerate" = none
  z_repr : mg "repr" = none
  ex_InvalidRow : ExcC K C_InvalidRow
  ex_InvalidService : ExcC K C_InvalidService
  ex_InvalidBook : ExcC K C_InvalidBook
  ex_InvalidText : ExcC K C_InvalidText
  ex_InvalidTree : ExcC K C_InvalidTree
  ex_Refused : ExcC K C_Refused
  ex_NoRow : ExcC K C_NoRow
  ex_NoService : ExcC K C_NoService
  ex_Mismatch : ExcC K C_Mismatch
  ex_InvalidCommand : ExcC K C_InvalidCommand
  ke_0_0 : PySem.W.kitOne K (.ref C_InvalidRow) (.ref C_InvalidRow) = some true
  ke_0_1 : PySem.W.kitOne K (.ref C_InvalidRow) (.ref C_InvalidService) = some false
  ke_0_2 : PySem.W.kitOne K (.ref C_InvalidRow) (.ref C_InvalidBook) = some false
  ke_0_3 : PySem.W.kitOne K (.ref C_InvalidRow) (.ref C_InvalidText) = some false
  ke_0_4 : PySem.W.kitOne K (.ref C_InvalidRow) (.ref C_InvalidTree) = some false
  ke_0_5 : PySem.W.kitOne K (.ref C_InvalidRow) (.ref C_Refused) = some false
  ke_0_6 : PySem.W.kitOne K (.ref C_InvalidRow) (.ref C_NoRow) = some false
  ke_0_7 : PySem.W.kitOne K (.ref C_InvalidRow) (.ref C_NoService) = some false
  ke_0_8 : PySem.W.kitOne K (.ref C_InvalidRow) (.ref C_Mismatch) = some false
  ke_0_9 : PySem.W.kitOne K (.ref C_InvalidRow) (.ref C_InvalidCommand) = some false
  ke_1_0 : PySem.W.kitOne K (.ref C_InvalidService) (.ref C_InvalidRow) = some false
  ke_1_1 : PySem.W.kitOne K (.ref C_InvalidService) (.ref C_InvalidService) = some true
  ke_1_2 : PySem.W.kitOne K (.ref C_InvalidService) (.ref C_InvalidBook) = some false
  ke_1_3 : PySem.W.kitOne K (.ref C_InvalidService) (.ref C_InvalidText) = some false
  ke_1_4 : PySem.W.kitOne K (.ref C_InvalidService) (.ref C_InvalidTree) = some false
  ke_1_5 : PySem.W.kitOne K (.ref C_InvalidService) (.ref C_Refused) = some false
  ke_1_6 : PySem.W.kitOne K (.ref C_InvalidService) (.ref C_NoRow) = some false
  ke_1_7 : PySem.W.kitOne K (.ref C_InvalidService) (.ref C_NoService) = some false
  ke_1_8 : PySem.W.kitOne K (.ref C_InvalidService) (.ref C_Mismatch) = some false
  ke_1_9 : PySem.W.kitOne K (.ref C_InvalidService) (.ref C_InvalidCommand) = some false
  ke_2_0 : PySem.W.kitOne K (.ref C_InvalidBook) (.ref C_InvalidRow) = some false
  ke_2_1 : PySem.W.kitOne K (.ref C_InvalidBook) (.ref C_InvalidService) = some false
  ke_2_2 : PySem.W.kitOne K (.ref C_InvalidBook) (.ref C_InvalidBook) = some true
  ke_2_3 : PySem.W.kitOne K (.ref C_InvalidBook) (.ref C_InvalidText) = some false
  ke_2_4 : PySem.W.kitOne K (.ref C_InvalidBook) (.ref C_InvalidTree) = some false
  ke_2_5 : PySem.W.kitOne K (.ref C_InvalidBook) (.ref C_Refused) = some false
  ke_2_6 : PySem.W.kitOne K (.ref C_InvalidBook) (.ref C_NoRow) = some false
  ke_2_7 : PySem.W.kitOne K (.ref C_InvalidBook) (.ref C_NoService) = some false
  ke_2_8 : PySem.W.kitOne K (.ref C_InvalidBook) (.ref C_Mismatch) = some false
  ke_2_9 : PySem.W.kitOne K (.ref C_InvalidBook) (.ref C_InvalidCommand) = some false
  ke_3_0 : PySem.W.kitOne K (.ref C_InvalidText) (.ref C_InvalidRow) = some false
  ke_3_1 : PySem.W.kitOne K (.ref C_InvalidText) (.ref C_InvalidService) = some false
  ke_3_2 : PySem.W.kitOne K (.ref C_InvalidText) (.ref C_InvalidBook) = some false
  ke_3_3 : PySem.W.kitOne K (.ref C_InvalidText) (.ref C_InvalidText) = some true
  ke_3_4 : PySem.W.kitOne K (.ref C_InvalidText) (.ref C_InvalidTree) = some false
  ke_3_5 : PySem.W.kitOne K (.ref C_InvalidText) (.ref C_Refused) = some false
  ke_3_6 : PySem.W.kitOne K (.ref C_InvalidText) (.ref C_NoRow) = some false
  ke_3_7 : PySem.W.kitOne K (.ref C_InvalidText) (.ref C_NoService) = some false
  ke_3_8 : PySem.W.kitOne K (.ref C_InvalidText) (.ref C_Mismatch) = some false
  ke_3_9 : PySem.W.kitOne K (.ref C_InvalidText) (.ref C_InvalidCommand) = some false
  ke_4_0 : PySem.W.kitOne K (.ref C_InvalidTree) (.ref C_InvalidRow) = some false
  ke_4_1 : PySem.W.kitOne K (.ref C_InvalidTree) (.ref C_InvalidService) = some false
  ke_4_2 : PySem.W.kitOne K (.ref C_InvalidTree) (.ref C_InvalidBook) = some false
  ke_4_3 : PySem.W.kitOne K (.ref C_InvalidTree) (.ref C_InvalidText) = some false
  ke_4_4 : PySem.W.kitOne K (.ref C_InvalidTree) (.ref C_InvalidTree) = some true
  ke_4_5 : PySem.W.kitOne K (.ref C_InvalidTree) (.ref C_Refused) = some false
  ke_4_6 : PySem.W.kitOne K (.ref C_InvalidTree) (.ref C_NoRow) = some false
  ke_4_7 : PySem.W.kitOne K (.ref C_InvalidTree) (.ref C_NoService) = some false
  ke_4_8 : PySem.W.kitOne K (.ref C_InvalidTree) (.ref C_Mismatch) = some false
  ke_4_9 : PySem.W.kitOne K (.ref C_InvalidTree) (.ref C_InvalidCommand) = some false
  ke_5_0 : PySem.W.kitOne K (.ref C_Refused) (.ref C_InvalidRow) = some false
  ke_5_1 : PySem.W.kitOne K (.ref C_Refused) (.ref C_InvalidService) = some false
  ke_5_2 : PySem.W.kitOne K (.ref C_Refused) (.ref C_InvalidBook) = some false
  ke_5_3 : PySem.W.kitOne K (.ref C_Refused) (.ref C_InvalidText) = some false
  ke_5_4 : PySem.W.kitOne K (.ref C_Refused) (.ref C_InvalidTree) = some false
  ke_5_5 : PySem.W.kitOne K (.ref C_Refused) (.ref C_Refused) = some true
  ke_5_6 : PySem.W.kitOne K (.ref C_Refused) (.ref C_NoRow) = some false
  ke_5_7 : PySem.W.kitOne K (.ref C_Refused) (.ref C_NoService) = some false
  ke_5_8 : PySem.W.kitOne K (.ref C_Refused) (.ref C_Mismatch) = some false
  ke_5_9 : PySem.W.kitOne K (.ref C_Refused) (.ref C_InvalidCommand) = some false
  ke_6_0 : PySem.W.kitOne K (.ref C_NoRow) (.ref C_InvalidRow) = some false
  ke_6_1 : PySem.W.kitOne K (.ref C_NoRow) (.ref C_InvalidService) = some false
  ke_6_2 : PySem.W.kitOne K (.ref C_NoRow) (.ref C_InvalidBook) = some false
  ke_6_3 : PySem.W.kitOne K (.ref C_NoRow) (.ref C_InvalidText) = some false
  ke_6_4 : PySem.W.kitOne K (.ref C_NoRow) (.ref C_InvalidTree) = some false
  ke_6_5 : PySem.W.kitOne K (.ref C_NoRow) (.ref C_Refused) = some false
  ke_6_6 : PySem.W.kitOne K (.ref C_NoRow) (.ref C_NoRow) = some true
  ke_6_7 : PySem.W.kitOne K (.ref C_NoRow) (.ref C_NoService) = some false
  ke_6_8 : PySem.W.kitOne K (.ref C_NoRow) (.ref C_Mismatch) = some false
  ke_6_9 : PySem.W.kitOne K (.ref C_NoRow) (.ref C_InvalidCommand) = some false
  ke_7_0 : PySem.W.kitOne K (.ref C_NoService) (.ref C_InvalidRow) = some false
  ke_7_1 : PySem.W.kitOne K (.ref C_NoService) (.ref C_InvalidService) = some false
  ke_7_2 : PySem.W.kitOne K (.ref C_NoService) (.ref C_InvalidBook) = some false
  ke_7_3 : PySem.W.kitOne K (.ref C_NoService) (.ref C_InvalidText) = some false
  ke_7_4 : PySem.W.kitOne K (.ref C_NoService) (.ref C_InvalidTree) = some false
  ke_7_5 : PySem.W.kitOne K (.ref C_NoService) (.ref C_Refused) = some false
  ke_7_6 : PySem.W.kitOne K (.ref C_NoService) (.ref C_NoRow) = some false
  ke_7_7 : PySem.W.kitOne K (.ref C_NoService) (.ref C_NoService) = some true
  ke_7_8 : PySem.W.kitOne K (.ref C_NoService) (.ref C_Mismatch) = some false
  ke_7_9 : PySem.W.kitOne K (.ref C_NoService) (.ref C_InvalidCommand) = some false
  ke_8_0 : PySem.W.kitOne K (.ref C_Mismatch) (.ref C_InvalidRow) = some false
  ke_8_1 : PySem.W.kitOne K (.ref C_Mismatch) (.ref C_InvalidService) = some false
  ke_8_2 : PySem.W.kitOne K (.ref C_Mismatch) (.ref C_InvalidBook) = some false
  ke_8_3 : PySem.W.kitOne K (.ref C_Mismatch) (.ref C_InvalidText) = some false
  ke_8_4 : PySem.W.kitOne K (.ref C_Mismatch) (.ref C_InvalidTree) = some false
  ke_8_5 : PySem.W.kitOne K (.ref C_Mismatch) (.ref C_Refused) = some false
  ke_8_6 : PySem.W.kitOne K (.ref C_Mismatch) (.ref C_NoRow) = some false
  ke_8_7 : PySem.W.kitOne K (.ref C_Mismatch) (.ref C_NoService) = some false
  ke_8_8 : PySem.W.kitOne K (.ref C_Mismatch) (.ref C_Mismatch) = some true
  ke_8_9 : PySem.W.kitOne K (.ref C_Mismatch) (.ref C_InvalidCommand) = some false
  ke_9_0 : PySem.W.kitOne K (.ref C_InvalidCommand) (.ref C_InvalidRow) = some false
  ke_9_1 : PySem.W.kitOne K (.ref C_InvalidCommand) (.ref C_InvalidService) = some false
  ke_9_2 : PySem.W.kitOne K (.ref C_InvalidCommand) (.ref C_InvalidBook) = some false
  ke_9_3 : PySem.W.kitOne K (.ref C_InvalidCommand) (.ref C_InvalidText) = some false
  ke_9_4 : PySem.W.kitOne K (.ref C_InvalidCommand) (.ref C_InvalidTree) = some false
  ke_9_5 : PySem.W.kitOne K (.ref C_InvalidCommand) (.ref C_Refused) = some false
  ke_9_6 : PySem.W.kitOne K (.ref C_InvalidCommand) (.ref C_NoRow) = some false
  ke_9_7 : PySem.W.kitOne K (.ref C_InvalidCommand) (.ref C_NoService) = some false
  ke_9_8 : PySem.W.kitOne K (.ref C_InvalidCommand) (.ref C_Mismatch) = some false
  ke_9_9 : PySem.W.kitOne K (.ref C_InvalidCommand) (.ref C_InvalidCommand) = some true
  kt_0 : PySem.W.kitOne K (.ref C_InvalidRow) (.ref C_TraceError) = some true
  kt_1 : PySem.W.kitOne K (.ref C_InvalidService) (.ref C_TraceError) = some true
  kt_2 : PySem.W.kitOne K (.ref C_InvalidBook) (.ref C_TraceError) = some true
  kt_3 : PySem.W.kitOne K (.ref C_InvalidText) (.ref C_TraceError) = some true
  kt_4 : PySem.W.kitOne K (.ref C_InvalidTree) (.ref C_TraceError) = some true
  kt_5 : PySem.W.kitOne K (.ref C_Refused) (.ref C_TraceError) = some true
  kt_6 : PySem.W.kitOne K (.ref C_NoRow) (.ref C_TraceError) = some false
  kt_7 : PySem.W.kitOne K (.ref C_NoService) (.ref C_TraceError) = some false
  kt_8 : PySem.W.kitOne K (.ref C_Mismatch) (.ref C_TraceError) = some true
  kt_9 : PySem.W.kitOne K (.ref C_InvalidCommand) (.ref C_TraceError) = some true
  kv_0 : PySem.W.kitOne K (.ref C_InvalidRow) (.type "ValueError") = some true
  kv_1 : PySem.W.kitOne K (.ref C_InvalidService) (.type "ValueError") = some true
  kv_2 : PySem.W.kitOne K (.ref C_InvalidBook) (.type "ValueError") = some true
  kv_3 : PySem.W.kitOne K (.ref C_InvalidText) (.type "ValueError") = some true
  kv_4 : PySem.W.kitOne K (.ref C_InvalidTree) (.type "ValueError") = some true
  kv_5 : PySem.W.kitOne K (.ref C_Refused) (.type "ValueError") = some true
  kv_8 : PySem.W.kitOne K (.ref C_Mismatch) (.type "ValueError") = some true
  kv_9 : PySem.W.kitOne K (.ref C_InvalidCommand) (.type "ValueError") = some true
  ki_6 : PySem.W.kitOne K (.ref C_NoRow) (.type "IndexError") = some true
  ki_7 : PySem.W.kitOne K (.ref C_NoService) (.type "KeyError") = some true
/-- the class with a number -/
def clsE {w : World} {K : PySem.W.Frag} {mg : Str → Option Value} (T : TxErrs w K mg) : Nat → Addr
  | 0 => T.C_InvalidRow
  | 1 => T.C_InvalidService
  | 2 => T.C_InvalidBook
  | 3 => T.C_InvalidText
  | 4 => T.C_InvalidTree
  | 5 => T.C_Refused
  | 6 => T.C_NoRow
  | 7 => T.C_NoService
  | 8 => T.C_Mismatch
  | _ => T.C_InvalidCommand
def atE : Nat → Str
  | 3 => "at"
  | 6 => "at"
  | 7 => "name"
  | _ => "word"
section
variable {w : World} {K : PySem.W.Frag} {mg : Str → Option Value}
theorem kit_all (T : TxErrs w K mg) {i j : Nat} (hi : i < 10) (hj : j < 10) : PySem.W.kitOne K (.ref (clsE T i)) (.ref (clsE T j)) = some (decide (i = j)) := by
  match i, hi with
  | 0, _ =>
    match j, hj with
    | 0, _ => exact T.ke_0_0
    | 1, _ => exact T.ke_0_1
    | 2, _ => exact T.ke_0_2
    | 3, _ => exact T.ke_0_3
    | 4, _ => exact T.ke_0_4
    | 5, _ => exact T.ke_0_5
    | 6, _ => exact T.ke_0_6
    | 7, _ => exact T.ke_0_7
    | 8, _ => exact T.ke_0_8
    | 9, _ => exact T.ke_0_9
  | 1, _ =>
    match j, hj with
    | 0, _ => exact T.ke_1_0
    | 1, _ => exact T.ke_1_1
    | 2, _ => exact T.ke_1_2
    | 3, _ => exact T.ke_1_3
    | 4, _ => exact T.ke_1_4
    | 5, _ => exact T.ke_1_5
    | 6, _ => exact T.ke_1_6
    | 7, _ => exact T.ke_1_7
    | 8, _ => exact T.ke_1_8
    | 9, _ => exact T.ke_1_9
  | 2, _ =>
    match j, hj with
    | 0, _ => exact T.ke_2_0
    | 1, _ => exact T.ke_2_1
    | 2, _ => exact T.ke_2_2
    | 3, _ => exact T.ke_2_3
    | 4, _ => exact T.ke_2_4
    | 5, _ => exact T.ke_2_5
    | 6, _ => exact T.ke_2_6
    | 7, _ => exact T.ke_2_7
    | 8, _ => exact T.ke_2_8
    | 9, _ => exact T.ke_2_9
  | 3, _ =>
    match j, hj with
    | 0, _ => exact T.ke_3_0
    | 1, _ => exact T.ke_3_1
    | 2, _ => exact T.ke_3_2
    | 3, _ => exact T.ke_3_3
    | 4, _ => exact T.ke_3_4
    | 5, _ => exact T.ke_3_5
    | 6, _ => exact T.ke_3_6
    | 7, _ => exact T.ke_3_7
    | 8, _ => exact T.ke_3_8
    | 9, _ => exact T.ke_3_9
  | 4, _ =>
    match j, hj with
    | 0, _ => exact T.ke_4_0
    | 1, _ => exact T.ke_4_1
    | 2, _ => exact T.ke_4_2
    | 3, _ => exact T.ke_4_3
    | 4, _ => exact T.ke_4_4
    | 5, _ => exact T.ke_4_5
    | 6, _ => exact T.ke_4_6
    | 7, _ => exact T.ke_4_7
    | 8, _ => exact T.ke_4_8
    | 9, _ => exact T.ke_4_9
  | 5, _ =>
    match j, hj with
    | 0, _ => exact T.ke_5_0
    | 1, _ => exact T.ke_5_1
    | 2, _ => exact T.ke_5_2
    | 3, _ => exact T.ke_5_3
    | 4, _ => exact T.ke_5_4
    | 5, _ => exact T.ke_5_5
    | 6, _ => exact T.ke_5_6
    | 7, _ => exact T.ke_5_7
    | 8, _ => exact T.ke_5_8
    | 9, _ => exact T.ke_5_9
  | 6, _ =>
    match j, hj with
    | 0, _ => exact T.ke_6_0
    | 1, _ => exact T.ke_6_1
    | 2, _ => exact T.ke_6_2
    | 3, _ => exact T.ke_6_3
    | 4, _ => exact T.ke_6_4
    | 5, _ => exact T.ke_6_5
    | 6, _ => exact T.ke_6_6
    | 7, _ => exact T.ke_6_7
    | 8, _ => exact T.ke_6_8
    | 9, _ => exact T.ke_6_9
  | 7, _ =>
    match j, hj with
    | 0, _ => exact T.ke_7_0
    | 1, _ => exact T.ke_7_1
    | 2, _ => exact T.ke_7_2
    | 3, _ => exact T.ke_7_3
    | 4, _ => exact T.ke_7_4
    | 5, _ => exact T.ke_7_5
    | 6, _ => exact T.ke_7_6
    | 7, _ => exact T.ke_7_7
    | 8, _ => exact T.ke_7_8
    | 9, _ => exact T.ke_7_9
  | 8, _ =>
    match j, hj with
    | 0, _ => exact T.ke_8_0
    | 1, _ => exact T.ke_8_1
    | 2, _ => exact T.ke_8_2
    | 3, _ => exact T.ke_8_3
    | 4, _ => exact T.ke_8_4
    | 5, _ => exact T.ke_8_5
    | 6, _ => exact T.ke_8_6
    | 7, _ => exact T.ke_8_7
    | 8, _ => exact T.ke_8_8
    | 9, _ => exact T.ke_8_9
  | 9, _ =>
    match j, hj with
    | 0, _ => exact T.ke_9_0
    | 1, _ => exact T.ke_9_1
    | 2, _ => exact T.ke_9_2
    | 3, _ => exact T.ke_9_3
    | 4, _ => exact T.ke_9_4
    | 5, _ => exact T.ke_9_5
    | 6, _ => exact T.ke_9_6
    | 7, _ => exact T.ke_9_7
    | 8, _ => exact T.ke_9_8
    | 9, _ => exact T.ke_9_9
theorem kit_tr (T : TxErrs w K mg) {i : Nat} (hi : i < 10) : PySem.W.kitOne K (.ref (clsE T i)) (.ref T.C_TraceError) = some (!(decide (i = 6) || decide (i = 7))) := by
  match i, hi with
  | 0, _ => exact T.kt_0
  | 1, _ => exact T.kt_1
  | 2, _ => exact T.kt_2
  | 3, _ => exact T.kt_3
  | 4, _ => exact T.kt_4
  | 5, _ => exact T.kt_5
  | 6, _ => exact T.kt_6
  | 7, _ => exact T.kt_7
  | 8, _ => exact T.kt_8
  | 9, _ => exact T.kt_9
theorem kit_va (T : TxErrs w K mg) {i : Nat} (hi : i < 10) (h6 : i ≠ 6) (h7 : i ≠ 7) : PySem.W.kitOne K (.ref (clsE T i)) (.type "ValueError") = some true := by
  match i, hi with
  | 0, _ => exact T.kv_0
  | 1, _ => exact T.kv_1
  | 2, _ => exact T.kv_2
  | 3, _ => exact T.kv_3
  | 4, _ => exact T.kv_4
  | 5, _ => exact T.kv_5
  | 6, _ => exact absurd rfl h6
  | 7, _ => exact absurd rfl h7
  | 8, _ => exact T.kv_8
  | 9, _ => exact T.kv_9
theorem exc_all (T : TxErrs w K mg) {i : Nat} (hi : i < 10) : ExcC K (clsE T i) := by
  match i, hi with
  | 0, _ => exact T.ex_InvalidRow
  | 1, _ => exact T.ex_InvalidService
  | 2, _ => exact T.ex_InvalidBook
  | 3, _ => exact T.ex_InvalidText
  | 4, _ => exact T.ex_InvalidTree
  | 5, _ => exact T.ex_Refused
  | 6, _ => exact T.ex_NoRow
  | 7, _ => exact T.ex_NoService
  | 8, _ => exact T.ex_Mismatch
  | 9, _ => exact T.ex_InvalidCommand
theorem xf_all (T : TxErrs w K mg) {i : Nat} (hi : i < 8) : XfC K (clsE T i) ∧ PySem.W.findIn K (.ref (clsE T i)) (atE i) = some none := by
  match i, hi with
  | 0, _ => exact ⟨T.xf_InvalidRow, T.nw_InvalidRow⟩
  | 1, _ => exact ⟨T.xf_InvalidService, T.nw_InvalidService⟩
  | 2, _ => exact ⟨T.xf_InvalidBook, T.nw_InvalidBook⟩
  | 3, _ => exact ⟨T.xf_InvalidText, T.nw_InvalidText⟩
  | 4, _ => exact ⟨T.xf_InvalidTree, T.nw_InvalidTree⟩
  | 5, _ => exact ⟨T.xf_Refused, T.nw_Refused⟩
  | 6, _ => exact ⟨T.xf_NoRow, T.nw_NoRow⟩
  | 7, _ => exact ⟨T.xf_NoService, T.nw_NoService⟩
/-- the error with this number stands at a; it keeps v -/
structure ErrAt (T : TxErrs w K mg) (H : Hp) (a : Addr) (k : Nat) (v : V) : Prop where
  ex : ∃ dd : Option Addr, H a = some (exo a (clsE T k) dd) ∧ (∀ d, dd = some d → H d = some (exd d [(atE k, v)])) ∧ (k < 8 → ∃ d, dd = some d)
theorem ErrAt.same {T : TxErrs w K mg} {H H' : Hp} {a : Addr} {k : Nat} {v : V} (h : ErrAt T H a k v) (e : Same H H') : ErrAt T H' a k v := by
  obtain ⟨dd, h1, h2, h3⟩ := h.ex
  exact ⟨dd, e _ _ h1, fun d z => e _ _ (h2 d z), h3⟩
end
section
variable {P : Program} {w : World} {K : PySem.W.Frag} {mg : Str → Option Value} {base : Heap}
theorem ok_InvalidRow (T : TxErrs w K mg) : FnOk P w K mg base CX0 1 T.f_InvalidRow_init T.d_InvalidRow_init P_InvalidRow_init (spXAt T.C_InvalidRow "word") := by
  refine T.F_InvalidRow_init.ok sc_InvalidRow_init (fun vs H Q E h => ?_) (fun cdv A outer s H vs Q E hr h => ?_)
  · obtain ⟨a, y, rfl, _⟩ := h
    rfl
  obtain ⟨a, y, rfl, ha, q⟩ := h
  refine ⟨_, (pss_one (ps_osB (pv 0) (pv 1))), ?_⟩
  exact ⟨_, rfl, _, rfl, a, T.C_InvalidRow, _, _, rfl, T.ox_InvalidRow, T.nw_InvalidRow, ha, fun dx h1 h2 => q dx h1 h2⟩
theorem ok_InvalidService (T : TxErrs w K mg) : FnOk P w K mg base CX0 1 T.f_InvalidService_init T.d_InvalidService_init P_InvalidService_init (spXAt T.C_InvalidService "word") := by
  refine T.F_InvalidService_init.ok sc_InvalidService_init (fun vs H Q E h => ?_) (fun cdv A outer s H vs Q E hr h => ?_)
  · obtain ⟨a, y, rfl, _⟩ := h
    rfl
  obtain ⟨a, y, rfl, ha, q⟩ := h
  refine ⟨_, (pss_one (ps_osB (pv 0) (pv 1))), ?_⟩
  exact ⟨_, rfl, _, rfl, a, T.C_InvalidService, _, _, rfl, T.ox_InvalidService, T.nw_InvalidService, ha, fun dx h1 h2 => q dx h1 h2⟩
theorem ok_InvalidBook (T : TxErrs w K mg) : FnOk P w K mg base CX0 1 T.f_InvalidBook_init T.d_InvalidBook_init P_InvalidBook_init (spXAt T.C_InvalidBook "word") := by
  refine T.F_InvalidBook_init.ok sc_InvalidBook_init (fun vs H Q E h => ?_) (fun cdv A outer s H vs Q E hr h => ?_)
  · obtain ⟨a, y, rfl, _⟩ := h
    rfl
  obtain ⟨a, y, rfl, ha, q⟩ := h
  refine ⟨_, (pss_one (ps_osB (pv 0) (pv 1))), ?_⟩
  exact ⟨_, rfl, _, rfl, a, T.C_InvalidBook, _, _, rfl, T.ox_InvalidBook, T.nw_InvalidBook, ha, fun dx h1 h2 => q dx h1 h2⟩
theorem ok_InvalidText (T : TxErrs w K mg) : FnOk P w K mg base CX0 1 T.f_InvalidText_init T.d_InvalidText_init P_InvalidText_init (spXAt T.C_InvalidText "at") := by
  refine T.F_InvalidText_init.ok sc_InvalidText_init (fun vs H Q E h => ?_) (fun cdv A outer s H vs Q E hr h => ?_)
  · obtain ⟨a, y, rfl, _⟩ := h
    rfl
  obtain ⟨a, y, rfl, ha, q⟩ := h
  refine ⟨_, (pss_one (ps_osB (pv 0) (pv 1))), ?_⟩
  exact ⟨_, rfl, _, rfl, a, T.C_InvalidText, _, _, rfl, T.ox_InvalidText, T.nw_InvalidText, ha, fun dx h1 h2 => q dx h1 h2⟩
theorem ok_InvalidTree (T : TxErrs w K mg) : FnOk P w K mg base CX0 1 T.f_InvalidTree_init T.d_InvalidTree_init P_InvalidTree_init (spXAt T.C_InvalidTree "word") := by
  refine T.F_InvalidTree_init.ok sc_InvalidTree_init (fun vs H Q E h => ?_) (fun cdv A outer s H vs Q E hr h => ?_)
  · obtain ⟨a, y, rfl, _⟩ := h
    rfl
  obtain ⟨a, y, rfl, ha, q⟩ := h
  refine ⟨_, (pss_one (ps_osB (pv 0) (pv 1))), ?_⟩
  exact ⟨_, rfl, _, rfl, a, T.C_InvalidTree, _, _, rfl, T.ox_InvalidTree, T.nw_InvalidTree, ha, fun dx h1 h2 => q dx h1 h2⟩
theorem ok_Refused (T : TxErrs w K mg) : FnOk P w K mg base CX0 1 T.f_Refused_init T.d_Refused_init P_Refused_init (spXAt T.C_Refused "word") := by
  refine T.F_Refused_init.ok sc_Refused_init (fun vs H Q E h => ?_) (fun cdv A outer s H vs Q E hr h => ?_)
  · obtain ⟨a, y, rfl, _⟩ := h
    rfl
  obtain ⟨a, y, rfl, ha, q⟩ := h
  refine ⟨_, (pss_one (ps_osB (pv 0) (pv 1))), ?_⟩
  exact ⟨_, rfl, _, rfl, a, T.C_Refused, _, _, rfl, T.ox_Refused, T.nw_Refused, ha, fun dx h1 h2 => q dx h1 h2⟩
theorem ok_NoRow (T : TxErrs w K mg) : FnOk P w K mg base CX0 1 T.f_NoRow_init T.d_NoRow_init P_NoRow_init (spXAt T.C_NoRow "at") := by
  refine T.F_NoRow_init.ok sc_NoRow_init (fun vs H Q E h => ?_) (fun cdv A outer s H vs Q E hr h => ?_)
  · obtain ⟨a, y, rfl, _⟩ := h
    rfl
  obtain ⟨a, y, rfl, ha, q⟩ := h
  refine ⟨_, (pss_one (ps_osB (pv 0) (pv 1))), ?_⟩
  exact ⟨_, rfl, _, rfl, a, T.C_NoRow, _, _, rfl, T.ox_NoRow, T.nw_NoRow, ha, fun dx h1 h2 => q dx h1 h2⟩
theorem ok_NoService (T : TxErrs w K mg) : FnOk P w K mg base CX0 1 T.f_NoService_init T.d_NoService_init P_NoService_init (spXAt T.C_NoService "name") := by
  refine T.F_NoService_init.ok sc_NoService_init (fun vs H Q E h => ?_) (fun cdv A outer s H vs Q E hr h => ?_)
  · obtain ⟨a, y, rfl, _⟩ := h
    rfl
  obtain ⟨a, y, rfl, ha, q⟩ := h
  refine ⟨_, (pss_one (ps_osB (pv 0) (pv 1))), ?_⟩
  exact ⟨_, rfl, _, rfl, a, T.C_NoService, _, _, rfl, T.ox_NoService, T.nw_NoService, ha, fun dx h1 h2 => q dx h1 h2⟩
end
end My

/-! ## k01: an error made; what it is; what it keeps -/
namespace My
open PySem PySem.Spec PyProof.Rows L2 PySem.MyX
abbrev s_made : Stmt := top 17
abbrev N_made : List Str := ["_law_at", "_law_value"]
abbrev P_made : List Str := ["_law_at", "_law_value"]
theorem sc_made : FnScope N_made P_made (defScope s_made) := ⟨rfl, rfl, rfl, by decide +kernel, rfl, by decide +kernel, by decide +kernel⟩
abbrev s_sorts : Stmt := top 18
abbrev N_sorts : List Str := ["_law_e", "_law_found", "_law_at", "_law_is_so"]
abbrev P_sorts : List Str := ["_law_e"]
theorem sc_sorts : FnScope N_sorts P_sorts (defScope s_sorts) := ⟨rfl, rfl, rfl, by decide +kernel, rfl, by decide +kernel, by decide +kernel⟩
abbrev s_kept : Stmt := top 19
abbrev N_kept : List Str := ["_law_e", "_law_at"]
abbrev P_kept : List Str := ["_law_e", "_law_at"]
theorem sc_kept : FnScope N_kept P_kept (defScope s_kept) := ⟨rfl, rfl, rfl, by decide +kernel, rfl, by decide +kernel, by decide +kernel⟩
structure TxK01a (w : World) (K : PySem.W.Frag) (mg : Str → Option Value) extends TxErrs w K mg where
  f_made : Addr
  d_made : FuncData
  F_made : Fun K "_law_made" "_law_made" s_made f_made d_made
  m_made : mg "_law_made" = some (.ref f_made)
  b_made : Binds K d_made P_made []
  f_sorts : Addr
  d_sorts : FuncData
  F_sorts : Fun K "_law_sorts" "_law_sorts" s_sorts f_sorts d_sorts
  m_sorts : mg "_law_sorts" = some (.ref f_sorts)
  b_sorts : Binds K d_sorts P_sorts []
  f_kept : Addr
  d_kept : FuncData
  F_kept : Fun K "_law_kept" "_law_kept" s_kept f_kept d_kept
  m_kept : mg "_law_kept" = some (.ref f_kept)
  b_kept : Binds K d_kept P_kept []
def spMade {w : World} {K : PySem.W.Frag} {mg : Str → Option Value} (T : TxErrs w K mg) : Sp := fun us H Q _ => ∃ (k : Nat) (v : V), us = [.int (k : Int), v] ∧ k < 10 ∧ ∀ a H', Same H H' → ErrAt T H' a k v → Q (.ref a) H'
def spSorts {w : World} {K : PySem.W.Frag} {mg : Str → Option Value} (T : TxErrs w K mg) : Sp := fun us H Q _ => ∃ (a : Addr) (k : Nat) (v : V), us = [.ref a] ∧ k < 10 ∧ ErrAt T H a k v ∧ ∀ p H', Same H H' → H' p = some (.lst [.int (k : Int)]) → Q (.ref p) H'
def spKept {w : World} {K : PySem.W.Frag} {mg : Str → Option Value} (T : TxErrs w K mg) : Sp := fun us H Q _ => ∃ (a : Addr) (k : Nat) (v : V), us = [.ref a, .int (k : Int)] ∧ k < 8 ∧ ErrAt T H a k v ∧ ∀ H', Same H H' → Q v H'
section
variable {P : Program} {w : World} {K : PySem.W.Frag} {mg : Str → Option Value} {base : Heap}
/-- the heap behind an error's making -/
theorem made_at {T : TxErrs w K mg} {H : Hp} {a dx : Addr} {k : Nat} {v : V} (ha : H a = none) (h1 : upd H a (exo a (clsE T k) none) dx = none) (h2 : dx ≠ a) : Same H (upd (upd (upd H a (exo a (clsE T k) none)) dx (exd dx [(atE k, v)])) a (exo a (clsE T k) (some dx))) ∧ ErrAt T (upd (upd (upd H a (exo a (clsE T k) none)) dx (exd dx [(atE k, v)])) a (exo a (clsE T k) (some dx))) a k v := by
  have d0 : H dx = none := by rw [upd_ne h2] at h1; exact h1
  refine ⟨fun b o e => ?_, some dx, upd_same, fun d z => ?_, fun _ => ⟨dx, rfl⟩⟩
  · rw [upd_ne (ne_of_none e ha), upd_ne (ne_of_none e d0), upd_ne (ne_of_none e ha)]
    exact e
  · cases z
    rw [upd_ne h2, upd_same]

theorem ok_made (T : TxK01a w K mg) : FnOk P w K mg base CX0 3 T.f_made T.d_made P_made (spMade T.toTxErrs) := by
  have G_InvalidRow_init := ok_InvalidRow (P := P) (w := w) (base := base) T.toTxErrs
  have G_InvalidService_init := ok_InvalidService (P := P) (w := w) (base := base) T.toTxErrs
  have G_InvalidBook_init := ok_InvalidBook (P := P) (w := w) (base := base) T.toTxErrs
  have G_InvalidText_init := ok_InvalidText (P := P) (w := w) (base := base) T.toTxErrs
  have G_InvalidTree_init := ok_InvalidTree (P := P) (w := w) (base := base) T.toTxErrs
  have G_Refused_init := ok_Refused (P := P) (w := w) (base := base) T.toTxErrs
  have G_NoRow_init := ok_NoRow (P := P) (w := w) (base := base) T.toTxErrs
  have G_NoService_init := ok_NoService (P := P) (w := w) (base := base) T.toTxErrs
  refine T.F_made.ok sc_made (fun vs H Q E h => ?_) (fun cdv A outer s H vs Q E hr h => ?_)
  · obtain ⟨k, v, rfl, _⟩ := h
    rfl
  obtain ⟨k, v, rfl, hk, q⟩ := h
  refine ⟨_, (pss_cons (ps_if (pt_cmpR op_lt (pv 0) pe_int (nomark _)) (pss_cons (ps_if (pt_cmpR op_eq (pv 0) pe_int (nomark _)) (pss_one (ps_ret (pe_oexB T.ox_InvalidRow T.i_InvalidRow T.t_InvalidRow G_InvalidRow_init (hr.mono (by decide)) T.b_InvalidRow_init .nil pass0 (by rfl) T.m_InvalidRow (pa_cons (pv 1) pa_nil)))) pss_nil)
      (pss_one (ps_ret (pe_ifExp (pt_cmpR op_eq (pv 0) pe_int (nomark _)) (pe_oexB T.ox_InvalidService T.i_InvalidService T.t_InvalidService G_InvalidService_init (hr.mono (by decide)) T.b_InvalidService_init .nil pass0 (by rfl) T.m_InvalidService (pa_cons (pv 1) pa_nil)) (pe_oexB T.ox_InvalidBook T.i_InvalidBook T.t_InvalidBook G_InvalidBook_init (hr.mono (by decide)) T.b_InvalidBook_init .nil pass0 (by rfl) T.m_InvalidBook (pa_cons (pv 1) pa_nil)))))) pss_nil)
      (pss_cons (ps_if (pt_cmpR op_lt (pv 0) pe_int (nomark _)) (pss_cons (ps_if (pt_cmpR op_eq (pv 0) pe_int (nomark _)) (pss_one (ps_ret (pe_oexB T.ox_InvalidText T.i_InvalidText T.t_InvalidText G_InvalidText_init (hr.mono (by decide)) T.b_InvalidText_init .nil pass0 (by rfl) T.m_InvalidText (pa_cons (pv 1) pa_nil)))) pss_nil)
      (pss_one (ps_ret (pe_ifExp (pt_cmpR op_eq (pv 0) pe_int (nomark _)) (pe_oexB T.ox_InvalidTree T.i_InvalidTree T.t_InvalidTree G_InvalidTree_init (hr.mono (by decide)) T.b_InvalidTree_init .nil pass0 (by rfl) T.m_InvalidTree (pa_cons (pv 1) pa_nil)) (pe_oexB T.ox_Refused T.i_Refused T.t_Refused G_Refused_init (hr.mono (by decide)) T.b_Refused_init .nil pass0 (by rfl) T.m_Refused (pa_cons (pv 1) pa_nil)))))) pss_nil)
      (pss_cons (ps_if (pt_cmpR op_lt (pv 0) pe_int (nomark _)) (pss_one (ps_ret (pe_ifExp (pt_cmpR op_eq (pv 0) pe_int (nomark _)) (pe_oexB T.ox_NoRow T.i_NoRow T.t_NoRow G_NoRow_init (hr.mono (by decide)) T.b_NoRow_init .nil pass0 (by rfl) T.m_NoRow (pa_cons (pv 1) pa_nil)) (pe_oexB T.ox_NoService T.i_NoService T.t_NoService G_NoService_init (hr.mono (by decide)) T.b_NoService_init .nil pass0 (by rfl) T.m_NoService (pa_cons (pv 1) pa_nil))))) pss_nil)
      (pss_one (ps_ret (pe_ifExp (pt_cmpR op_eq (pv 0) pe_int (nomark _)) (pe_exc0 PySem.F.excBase_ValueError T.xc_Mismatch T.m_Mismatch T.kp_Mismatch (by rfl)) (pe_exc0 PySem.F.excBase_ValueError T.xc_InvalidCommand T.m_InvalidCommand T.kp_InvalidCommand (by rfl)))))))), ?_⟩
  match k, hk with
  | 0, _ =>
    refine ⟨_, rfl, _, _, rfl, rfl, _, rfl, ?_⟩
    refine iteT ?_
    refine ⟨_, rfl, rfl, _, rfl, ?_⟩
    refine iteT ?_
    exact ⟨_, rfl, by show 1 ≤ 1000; decide, fun a ha => ⟨a, v, rfl, upd_same, fun dx h1 h2 => ⟨rfl, q a _ (made_at (T := T.toTxErrs) (k := 0) ha h1 h2).1 (made_at (T := T.toTxErrs) (k := 0) ha h1 h2).2⟩⟩⟩
  | 1, _ =>
    refine ⟨_, rfl, _, _, rfl, rfl, _, rfl, ?_⟩
    refine iteT ?_
    refine ⟨_, rfl, rfl, _, rfl, ?_⟩
    refine iteF ?_
    refine ⟨_, rfl, rfl, _, rfl, ?_⟩
    refine iteT ?_
    exact ⟨_, rfl, by show 1 ≤ 1000; decide, fun a ha => ⟨a, v, rfl, upd_same, fun dx h1 h2 => ⟨rfl, q a _ (made_at (T := T.toTxErrs) (k := 1) ha h1 h2).1 (made_at (T := T.toTxErrs) (k := 1) ha h1 h2).2⟩⟩⟩
  | 2, _ =>
    refine ⟨_, rfl, _, _, rfl, rfl, _, rfl, ?_⟩
    refine iteT ?_
    refine ⟨_, rfl, rfl, _, rfl, ?_⟩
    refine iteF ?_
    refine ⟨_, rfl, rfl, _, rfl, ?_⟩
    refine iteF ?_
    exact ⟨_, rfl, by show 1 ≤ 1000; decide, fun a ha => ⟨a, v, rfl, upd_same, fun dx h1 h2 => ⟨rfl, q a _ (made_at (T := T.toTxErrs) (k := 2) ha h1 h2).1 (made_at (T := T.toTxErrs) (k := 2) ha h1 h2).2⟩⟩⟩
  | 3, _ =>
    refine ⟨_, rfl, _, _, rfl, rfl, _, rfl, ?_⟩
    refine iteF ?_
    refine ⟨_, rfl, _, _, rfl, rfl, _, rfl, ?_⟩
    refine iteT ?_
    refine ⟨_, rfl, rfl, _, rfl, ?_⟩
    refine iteT ?_
    exact ⟨_, rfl, by show 1 ≤ 1000; decide, fun a ha => ⟨a, v, rfl, upd_same, fun dx h1 h2 => ⟨rfl, q a _ (made_at (T := T.toTxErrs) (k := 3) ha h1 h2).1 (made_at (T := T.toTxErrs) (k := 3) ha h1 h2).2⟩⟩⟩
  | 4, _ =>
    refine ⟨_, rfl, _, _, rfl, rfl, _, rfl, ?_⟩
    refine iteF ?_
    refine ⟨_, rfl, _, _, rfl, rfl, _, rfl, ?_⟩
    refine iteT ?_
    refine ⟨_, rfl, rfl, _, rfl, ?_⟩
    refine iteF ?_
    refine ⟨_, rfl, rfl, _, rfl, ?_⟩
    refine iteT ?_
    exact ⟨_, rfl, by show 1 ≤ 1000; decide, fun a ha => ⟨a, v, rfl, upd_same, fun dx h1 h2 => ⟨rfl, q a _ (made_at (T := T.toTxErrs) (k := 4) ha h1 h2).1 (made_at (T := T.toTxErrs) (k := 4) ha h1 h2).2⟩⟩⟩
  | 5, _ =>
    refine ⟨_, rfl, _, _, rfl, rfl, _, rfl, ?_⟩
    refine iteF ?_
    refine ⟨_, rfl, _, _, rfl, rfl, _, rfl, ?_⟩
    refine iteT ?_
    refine ⟨_, rfl, rfl, _, rfl, ?_⟩
    refine iteF ?_
    refine ⟨_, rfl, rfl, _, rfl, ?_⟩
    refine iteF ?_
    exact ⟨_, rfl, by show 1 ≤ 1000; decide, fun a ha => ⟨a, v, rfl, upd_same, fun dx h1 h2 => ⟨rfl, q a _ (made_at (T := T.toTxErrs) (k := 5) ha h1 h2).1 (made_at (T := T.toTxErrs) (k := 5) ha h1 h2).2⟩⟩⟩
  | 6, _ =>
    refine ⟨_, rfl, _, _, rfl, rfl, _, rfl, ?_⟩
    refine iteF ?_
    refine ⟨_, rfl, _, _, rfl, rfl, _, rfl, ?_⟩
    refine iteF ?_
    refine ⟨_, rfl, _, _, rfl, rfl, _, rfl, ?_⟩
    refine iteT ?_
    refine ⟨_, rfl, rfl, _, rfl, ?_⟩
    refine iteT ?_
    exact ⟨_, rfl, by show 1 ≤ 1000; decide, fun a ha => ⟨a, v, rfl, upd_same, fun dx h1 h2 => ⟨rfl, q a _ (made_at (T := T.toTxErrs) (k := 6) ha h1 h2).1 (made_at (T := T.toTxErrs) (k := 6) ha h1 h2).2⟩⟩⟩
  | 7, _ =>
    refine ⟨_, rfl, _, _, rfl, rfl, _, rfl, ?_⟩
    refine iteF ?_
    refine ⟨_, rfl, _, _, rfl, rfl, _, rfl, ?_⟩
    refine iteF ?_
    refine ⟨_, rfl, _, _, rfl, rfl, _, rfl, ?_⟩
    refine iteT ?_
    refine ⟨_, rfl, rfl, _, rfl, ?_⟩
    refine iteF ?_
    exact ⟨_, rfl, by show 1 ≤ 1000; decide, fun a ha => ⟨a, v, rfl, upd_same, fun dx h1 h2 => ⟨rfl, q a _ (made_at (T := T.toTxErrs) (k := 7) ha h1 h2).1 (made_at (T := T.toTxErrs) (k := 7) ha h1 h2).2⟩⟩⟩
  | 8, _ =>
    refine ⟨_, rfl, _, _, rfl, rfl, _, rfl, ?_⟩
    refine iteF ?_
    refine ⟨_, rfl, _, _, rfl, rfl, _, rfl, ?_⟩
    refine iteF ?_
    refine ⟨_, rfl, _, _, rfl, rfl, _, rfl, ?_⟩
    refine iteF ?_
    refine ⟨_, rfl, rfl, _, rfl, ?_⟩
    refine iteT ?_
    exact fun a ha => q a _ (same_upd ha _) ⟨none, upd_same, (fun d z => nomatch z), fun z => absurd z (by decide)⟩
  | 9, _ =>
    refine ⟨_, rfl, _, _, rfl, rfl, _, rfl, ?_⟩
    refine iteF ?_
    refine ⟨_, rfl, _, _, rfl, rfl, _, rfl, ?_⟩
    refine iteF ?_
    refine ⟨_, rfl, _, _, rfl, rfl, _, rfl, ?_⟩
    refine iteF ?_
    refine ⟨_, rfl, rfl, _, rfl, ?_⟩
    refine iteF ?_
    exact fun a ha => q a _ (same_upd ha _) ⟨none, upd_same, (fun d z => nomatch z), fun z => absurd z (by decide)⟩
theorem ok_sorts (T : TxK01a w K mg) : FnOk P w K mg base CX0 1 T.f_sorts T.d_sorts P_sorts (spSorts T.toTxErrs) := by
  refine T.F_sorts.ok sc_sorts (fun vs H Q E h => ?_) (fun cdv A outer s H vs Q E hr h => ?_)
  · obtain ⟨a, k, v, rfl, _⟩ := h
    rfl
  obtain ⟨a, k, v, rfl, hk, EA, q⟩ := h
  refine ⟨_, (pss_cons (ps_set (i := 1) sc_sorts.nd rfl (Or.inl rfl) (pe_lst (pa_cons (pe_callB call_isX (by rfl) T.z_isinstance (by decide +kernel) (pa_cons (pv 0) (pa_cons (pe_glob (v := .ref T.C_InvalidRow) (by rfl) T.m_InvalidRow rfl) pa_nil))) (pa_cons (pe_callB call_isX (by rfl) T.z_isinstance (by decide +kernel) (pa_cons (pv 0) (pa_cons (pe_glob (v := .ref T.C_InvalidService) (by rfl) T.m_InvalidService rfl) pa_nil))) (pa_cons (pe_callB call_isX (by rfl) T.z_isinstance (by decide +kernel) (pa_cons (pv 0) (pa_cons (pe_glob (v := .ref T.C_InvalidBook) (by rfl) T.m_InvalidBook rfl) pa_nil))) pa_nil)))))
      (pss_cons (ps_set (i := 1) sc_sorts.nd rfl (Or.inl rfl) (pe_op op_cat (pv 1) (pe_lst (pa_cons (pe_callB call_isX (by rfl) T.z_isinstance (by decide +kernel) (pa_cons (pv 0) (pa_cons (pe_glob (v := .ref T.C_InvalidText) (by rfl) T.m_InvalidText rfl) pa_nil))) (pa_cons (pe_callB call_isX (by rfl) T.z_isinstance (by decide +kernel) (pa_cons (pv 0) (pa_cons (pe_glob (v := .ref T.C_InvalidTree) (by rfl) T.m_InvalidTree rfl) pa_nil))) (pa_cons (pe_callB call_isX (by rfl) T.z_isinstance (by decide +kernel) (pa_cons (pv 0) (pa_cons (pe_glob (v := .ref T.C_Refused) (by rfl) T.m_Refused rfl) pa_nil))) pa_nil))))))
      (pss_cons (ps_set (i := 1) sc_sorts.nd rfl (Or.inl rfl) (pe_op op_cat (pv 1) (pe_lst (pa_cons (pe_callB call_isX (by rfl) T.z_isinstance (by decide +kernel) (pa_cons (pv 0) (pa_cons (pe_glob (v := .ref T.C_NoRow) (by rfl) T.m_NoRow rfl) pa_nil))) (pa_cons (pe_callB call_isX (by rfl) T.z_isinstance (by decide +kernel) (pa_cons (pv 0) (pa_cons (pe_glob (v := .ref T.C_NoService) (by rfl) T.m_NoService rfl) pa_nil))) pa_nil)))))
      (pss_cons (ps_set (i := 1) sc_sorts.nd rfl (Or.inl rfl) (pe_op op_cat (pv 1) (pe_lst (pa_cons (pe_callB call_isX (by rfl) T.z_isinstance (by decide +kernel) (pa_cons (pv 0) (pa_cons (pe_glob (v := .ref T.C_Mismatch) (by rfl) T.m_Mismatch rfl) pa_nil))) (pa_cons (pe_callB call_isX (by rfl) T.z_isinstance (by decide +kernel) (pa_cons (pv 0) (pa_cons (pe_glob (v := .ref T.C_InvalidCommand) (by rfl) T.m_InvalidCommand rfl) pa_nil))) pa_nil)))))
      (pss_one (ps_ret (pe_lc (own := [("_law_at", 2), ("_law_is_so", 3)]) (g := gTup K 2 (gCons (gName 2) (gCons (gName 3) gNil))) (by rfl) sc_sorts.nd (pi_enum (by rfl) T.z_enumerate (pa_cons (pv 1) pa_nil)) (blkOk_by (own := [("_law_at", 2), ("_law_is_so", 3)]) (N := N_sorts) (sc := defScope s_sorts) (by decide +kernel)) (fun _ _ _ _ _ => (by exact (pg_tup rfl (pgs_cons (pg_name (i := 2) sc_sorts.nd rfl (Or.inl rfl)) (pgs_cons (pg_name (i := 3) sc_sorts.nd rfl (Or.inl rfl)) pgs_nil))))) (fun _ _ _ _ _ => pts_one (by exact (pt_val (pv 3)))) (fun _ _ _ _ _ => (pv 2))))))))), ?_⟩
  obtain ⟨dd, EA1, EA2, EA3⟩ := EA.ex
  have s0 := Same.refl H
  refine ⟨_, rfl, a, clsE T.toTxErrs k, dd, _, _, decide (k = 0), rfl, s0 _ _ EA1, (fun d z => ⟨_, s0 _ _ (EA2 d z)⟩), exc_all T.toTxErrs hk, fun u h => h, kit_all T.toTxErrs hk (j := 0) (by decide), ?_⟩
  refine ⟨_, rfl, a, clsE T.toTxErrs k, dd, _, _, decide (k = 1), rfl, s0 _ _ EA1, (fun d z => ⟨_, s0 _ _ (EA2 d z)⟩), exc_all T.toTxErrs hk, fun u h => h, kit_all T.toTxErrs hk (j := 1) (by decide), ?_⟩
  refine ⟨_, rfl, a, clsE T.toTxErrs k, dd, _, _, decide (k = 2), rfl, s0 _ _ EA1, (fun d z => ⟨_, s0 _ _ (EA2 d z)⟩), exc_all T.toTxErrs hk, fun u h => h, kit_all T.toTxErrs hk (j := 2) (by decide), ?_⟩
  refine ⟨by show 3 ≤ sizeLine; decide, fun l1 h1 => ?_⟩
  have s1 := same_upd h1 (.lst [.bl (decide (k = 0)), .bl (decide (k = 1)), .bl (decide (k = 2))])
  have e1 := upd_same (H := H) (a := l1) (o := .lst [.bl (decide (k = 0)), .bl (decide (k = 1)), .bl (decide (k = 2))])
  generalize upd H l1 (.lst [.bl (decide (k = 0)), .bl (decide (k = 1)), .bl (decide (k = 2))]) = H1 at s1 e1 ⊢
  refine ⟨_, rfl, _, rfl, a, clsE T.toTxErrs k, dd, _, _, decide (k = 3), rfl, s1 _ _ EA1, (fun d z => ⟨_, s1 _ _ (EA2 d z)⟩), exc_all T.toTxErrs hk, fun u h => h, kit_all T.toTxErrs hk (j := 3) (by decide), ?_⟩
  refine ⟨_, rfl, a, clsE T.toTxErrs k, dd, _, _, decide (k = 4), rfl, s1 _ _ EA1, (fun d z => ⟨_, s1 _ _ (EA2 d z)⟩), exc_all T.toTxErrs hk, fun u h => h, kit_all T.toTxErrs hk (j := 4) (by decide), ?_⟩
  refine ⟨_, rfl, a, clsE T.toTxErrs k, dd, _, _, decide (k = 5), rfl, s1 _ _ EA1, (fun d z => ⟨_, s1 _ _ (EA2 d z)⟩), exc_all T.toTxErrs hk, fun u h => h, kit_all T.toTxErrs hk (j := 5) (by decide), ?_⟩
  refine ⟨by show 3 ≤ sizeLine; decide, fun l2 h2 => ?_⟩
  have y2 := same_upd h2 (.lst [.bl (decide (k = 3)), .bl (decide (k = 4)), .bl (decide (k = 5))])
  refine ⟨l1, l2, _, _, rfl, rfl, y2 _ _ e1, upd_same, by show 6 ≤ sizeLine; decide, fun l3 h3 => ?_⟩
  have s3 := (s1.trans y2).trans (same_upd h3 (.lst [.bl (decide (k = 0)), .bl (decide (k = 1)), .bl (decide (k = 2)), .bl (decide (k = 3)), .bl (decide (k = 4)), .bl (decide (k = 5))]))
  have e3 := upd_same (H := upd H1 l2 (.lst [.bl (decide (k = 3)), .bl (decide (k = 4)), .bl (decide (k = 5))])) (a := l3) (o := .lst [.bl (decide (k = 0)), .bl (decide (k = 1)), .bl (decide (k = 2)), .bl (decide (k = 3)), .bl (decide (k = 4)), .bl (decide (k = 5))])
  have go3 : ∀ {G : Hp → Prop}, (∀ H3, Same H H3 → H3 l3 = some (.lst [.bl (decide (k = 0)), .bl (decide (k = 1)), .bl (decide (k = 2)), .bl (decide (k = 3)), .bl (decide (k = 4)), .bl (decide (k = 5))]) → G H3) → G _ := fun h => h _ s3 e3
  refine go3 ?_
  clear go3 e3 s3 y2 s1 e1 h3 h2
  intro H3 s3 e3
  refine ⟨_, rfl, _, rfl, a, clsE T.toTxErrs k, dd, _, _, decide (k = 6), rfl, s3 _ _ EA1, (fun d z => ⟨_, s3 _ _ (EA2 d z)⟩), exc_all T.toTxErrs hk, fun u h => h, kit_all T.toTxErrs hk (j := 6) (by decide), ?_⟩
  refine ⟨_, rfl, a, clsE T.toTxErrs k, dd, _, _, decide (k = 7), rfl, s3 _ _ EA1, (fun d z => ⟨_, s3 _ _ (EA2 d z)⟩), exc_all T.toTxErrs hk, fun u h => h, kit_all T.toTxErrs hk (j := 7) (by decide), ?_⟩
  refine ⟨by show 2 ≤ sizeLine; decide, fun l4 h4 => ?_⟩
  have y4 := same_upd h4 (.lst [.bl (decide (k = 6)), .bl (decide (k = 7))])
  refine ⟨l3, l4, _, _, rfl, rfl, y4 _ _ e3, upd_same, by show 8 ≤ sizeLine; decide, fun l5 h5 => ?_⟩
  have s5 := (s3.trans y4).trans (same_upd h5 (.lst [.bl (decide (k = 0)), .bl (decide (k = 1)), .bl (decide (k = 2)), .bl (decide (k = 3)), .bl (decide (k = 4)), .bl (decide (k = 5)), .bl (decide (k = 6)), .bl (decide (k = 7))]))
  have e5 := upd_same (H := upd H3 l4 (.lst [.bl (decide (k = 6)), .bl (decide (k = 7))])) (a := l5) (o := .lst [.bl (decide (k = 0)), .bl (decide (k = 1)), .bl (decide (k = 2)), .bl (decide (k = 3)), .bl (decide (k = 4)), .bl (decide (k = 5)), .bl (decide (k = 6)), .bl (decide (k = 7))])
  have go5 : ∀ {G : Hp → Prop}, (∀ H5, Same H H5 → H5 l5 = some (.lst [.bl (decide (k = 0)), .bl (decide (k = 1)), .bl (decide (k = 2)), .bl (decide (k = 3)), .bl (decide (k = 4)), .bl (decide (k = 5)), .bl (decide (k = 6)), .bl (decide (k = 7))]) → G H5) → G _ := fun h => h _ s5 e5
  refine go5 ?_
  clear go5 e5 s5 y4 s3 e3 h5 h4
  intro H5 s5 e5
  refine ⟨_, rfl, _, rfl, a, clsE T.toTxErrs k, dd, _, _, decide (k = 8), rfl, s5 _ _ EA1, (fun d z => ⟨_, s5 _ _ (EA2 d z)⟩), exc_all T.toTxErrs hk, fun u h => h, kit_all T.toTxErrs hk (j := 8) (by decide), ?_⟩
  refine ⟨_, rfl, a, clsE T.toTxErrs k, dd, _, _, decide (k = 9), rfl, s5 _ _ EA1, (fun d z => ⟨_, s5 _ _ (EA2 d z)⟩), exc_all T.toTxErrs hk, fun u h => h, kit_all T.toTxErrs hk (j := 9) (by decide), ?_⟩
  refine ⟨by show 2 ≤ sizeLine; decide, fun l6 h6 => ?_⟩
  have y6 := same_upd h6 (.lst [.bl (decide (k = 8)), .bl (decide (k = 9))])
  refine ⟨l5, l6, _, _, rfl, rfl, y6 _ _ e5, upd_same, by show 10 ≤ sizeLine; decide, fun l7 h7 => ?_⟩
  have s7 := (s5.trans y6).trans (same_upd h7 (.lst ((List.range 10).map fun j => V.bl (decide (k = j)))))
  have e7 := upd_same (H := upd H5 l6 (.lst [.bl (decide (k = 8)), .bl (decide (k = 9))])) (a := l7) (o := .lst ((List.range 10).map fun j => V.bl (decide (k = j))))
  have go7 : ∀ {G : Hp → Prop}, (∀ H7, Same H H7 → H7 l7 = some (.lst ((List.range 10).map fun j => V.bl (decide (k = j)))) → G H7) → G _ := fun h => h _ s7 e7
  refine go7 ?_
  clear go7 e7 s7 y6 s5 e5 h7 h6
  intro H7 s7 e7
  refine ⟨_, rfl, l7, _, rfl, SqL.of e7, fun D hD => ?_⟩
  refine lc_it (walk_enum (xs := (List.range 10).map fun j => V.bl (decide (k = j)))) (fun i H' => Same H7 H' ∧ H' D = some (.lst (if k < i then [.int (k : Int)] else []))) ⟨same_upd hD _, upd_same⟩ (fun i H' _ h => SqL.of (h.1 _ _ e7)) ?_ ?_
  · rintro i x H1 H2 hi ⟨s1, h1⟩ ⟨t, kx, y, rfl, ht, rfl, ek, ey⟩
    cases ek
    have hi' : i < 10 := by simpa using hi
    have ey' : V.bl (decide (k = i)) = y := by
      have ey : ((List.range 10).map fun j => V.bl (decide (k = j)))[i]? = some y := ey
      rw [List.getElem?_map, List.getElem?_range hi'] at ey
      exact Option.some.inj ey
    subst ey'
    have z1 := same_upd ht (.tup [.int ((i : Nat) : Int), .bl (decide (k = i))])
    have ft := upd_same (H := H1) (a := t) (o := .tup [.int ((i : Nat) : Int), .bl (decide (k = i))])
    have h2 := z1 _ _ h1
    generalize upd H1 t (.tup [.int ((i : Nat) : Int), .bl (decide (k = i))]) = H2 at z1 ft h2 ⊢
    refine ⟨t, _, rfl, SqT.of ft, rfl, _, _, rfl, _, _, rfl, rfl, rfl, _, rfl, _, rfl, ?_⟩
    by_cases c : k = i
    · rw [decide_eq_true c]
      refine iteT ?_
      refine ⟨_, rfl, _, h2, small1000 (by split <;> simp), fun b o e => ?_, ?_⟩
      · rw [upd_ne (ne_of_none e hD)]
        exact z1 _ _ (s1 _ _ e)
      · rw [upd_same, if_neg (by omega), if_pos (by omega), c]
        rfl
    · rw [decide_eq_false c]
      refine iteF ?_
      refine ⟨s1.trans z1, ?_⟩
      rw [h2]
      by_cases c2 : k < i
      · rw [if_pos c2, if_pos (by omega)]
      · rw [if_neg c2, if_neg (by omega)]
  rintro H8 ⟨s8, h8⟩
  rw [List.length_map, List.length_range, if_pos hk] at h8
  exact q D H8 (s7.trans s8) h8
theorem ok_kept (T : TxK01a w K mg) : FnOk P w K mg base CX0 1 T.f_kept T.d_kept P_kept (spKept T.toTxErrs) := by
  refine T.F_kept.ok sc_kept (fun vs H Q E h => ?_) (fun cdv A outer s H vs Q E hr h => ?_)
  · obtain ⟨a, k, v, rfl, _⟩ := h
    rfl
  obtain ⟨a, k, v, rfl, hk, EA, q⟩ := h
  refine ⟨_, (pss_cons (ps_if (pt_cmpR (op_inK K) (pv 1) (pe_tup (pa_cons pe_int (pa_cons pe_int pa_nil))) (by rfl)) (pss_one (ps_ret (pe_xv (pv 0)))) pss_nil)
      (pss_one (ps_ret (pe_ifExp (pt_cmpR op_eq (pv 1) pe_int (nomark _)) (pe_xv (pv 0)) (pe_xv (pv 0)))))), ?_⟩
  obtain ⟨dd, EA1, EA2, EA3⟩ := EA.ex
  obtain ⟨d, rfl⟩ := EA3 hk
  have hd := EA2 d rfl
  obtain ⟨xf, nw⟩ := xf_all T.toTxErrs hk
  have get : ∀ (f : Str) (H' : Hp) (R : VK), Same H H' → f = atE k → R v H' → ∃ (a_1 D dd : Addr) (fs : List (Str × V)) (v : V), V.ref a = .ref a_1 ∧ H' a_1 = some (exo a_1 D (some dd)) ∧ H' dd = some (exd dd fs) ∧ XfC K D ∧ PySem.W.findIn K (.ref D) f = some none ∧ fs.lookup f = some v ∧ R v H' := fun f H' R s e r => by
    subst e
    exact ⟨a, _, d, _, v, rfl, s _ _ EA1, s _ _ hd, xf, nw, by simp [List.lookup], r⟩
  refine ⟨_, rfl, by show 2 ≤ sizeLine; decide, fun tp htp => ?_⟩
  have s1 := same_upd htp (.tup [.int 3, .int 6])
  have in36 : inV (.int (k : Int)) [.int 3, .int 6] = (decide (k = 3) || decide (k = 6)) := by
    match k, hk with
    | 0, _ => rfl
    | 1, _ => rfl
    | 2, _ => rfl
    | 3, _ => rfl
    | 4, _ => rfl
    | 5, _ => rfl
    | 6, _ => rfl
    | 7, _ => rfl
  refine ⟨tp, _, rfl, .inr (SqT.of upd_same), rfl, by decide +kernel, _, rfl, ?_⟩
  rw [in36]
  by_cases c : k = 3 ∨ k = 6
  · rw [show (decide (k = 3) || decide (k = 6)) = true by simpa using c]
    refine iteT ?_
    refine ⟨_, rfl, get _ _ _ s1 ?_ (q _ s1)⟩
    rcases c with rfl | rfl <;> rfl
  · rw [show (decide (k = 3) || decide (k = 6)) = false by simpa using c]
    refine iteF ?_
    refine ⟨_, rfl, rfl, _, rfl, ?_⟩
    by_cases c7 : k = 7
    · subst c7
      refine iteT ?_
      exact ⟨_, rfl, get _ _ _ s1 rfl (q _ s1)⟩
    · rw [decide_eq_false (fun z => c7 (by injection z with z; omega))]
      refine iteF ?_
      refine ⟨_, rfl, get _ _ _ s1 ?_ (q _ s1)⟩
      match k, hk with
      | 0, _ => rfl
      | 1, _ => rfl
      | 2, _ => rfl
      | 3, _ => exact absurd (.inl rfl) c
      | 4, _ => rfl
      | 5, _ => rfl
      | 6, _ => exact absurd (.inr rfl) c
      | 7, _ => exact absurd rfl c7
end
end My

/-! ## What the laws' loops share -/
namespace My
open PySem L2
theorem gr_same {b : Addr} {H H1 H2 : Hp} {o : HO} (s : Same H H1) (n : H1 b = none) (g : Gr b (upd H1 b o) H2) : Same H H2 := fun a u e => by
  have na : a ≠ b := fun z => by
    have z1 := s a u e
    rw [z, n] at z1
    cases z1
  exact g.keep a u na (by rw [upd_ne na]; exact s a u e)
theorem gr_box {b : Addr} {H1 : Hp} {w s c : Int} : Gr b (upd H1 b (bx w s c)) (upd H1 b (bx w s c)) := ⟨fun _ _ _ e => e, w, s, c, upd_same⟩
theorem gr_self {b : Addr} {H H' : Hp} (g : Gr b H H') : Gr b H' H' := ⟨fun _ _ _ e => e, g.box⟩
/-- max(1, min(n, len)) -/
theorem many_turns {n : Int} {l : Nat} (h : 1 ≤ n) (hn : n ≤ 10) : let m : Int := if (l : Int) < n then (l : Int) else n
    let t : Int := if m > 1 then m else 1
    1 ≤ t ∧ t ≤ n := by
  intro m t
  constructor
  · show 1 ≤ (if m > 1 then m else 1)
    split <;> omega
  · show (if m > 1 then m else 1) ≤ n
    have : m ≤ n := by
      show (if (l : Int) < n then (l : Int) else n) ≤ n
      split <;> omega
    split <;> omega
theorem gr_of_same {b : Addr} {H0 H H' : Hp} (g : Gr b H0 H) (s : Same H H') : Gr b H H' := ⟨fun a o _ e => s a o e, by
  obtain ⟨w, s', c, hb⟩ := g.box
  exact ⟨w, s', c, s _ _ hb⟩⟩
end My

/-! ## k01: the law's structure, a turn of it -/
namespace My
open PySem PySem.Spec PyProof.Rows L2 PySem.MyX
abbrev s_law : Stmt := top 20
abbrev N_law : List Str := ["_law_script", "_law_k", "_law_box_here", "_law_at", "_law_value", "_law_e", "_law_told"]
abbrev P_law : List Str := ["_law_script"]
theorem sc_law : FnScope N_law P_law (defScope s_law) := ⟨rfl, rfl, rfl, by decide +kernel, rfl, by decide +kernel, by decide +kernel⟩
structure TxK01 (w : World) (K : PySem.W.Frag) (mg : Str → Option Value) extends TxK01a w K mg where
  z_max : mg "max" = none
  z_min : mg "min" = none
  f_law : Addr
  d_law : FuncData
  F_law : Fun K "law" "law" s_law f_law d_law
def tE01 {w : World} {K : PySem.W.Frag} {mg : Str → Option Value} (T : TxK01 w K mg) : TS := (tIfS (tAnd (tTest (tOp (rI0 fun i j => V.bl (decide (i < j))) (tVar 3) (tC (V.int 8)))) (tTest (tOp (rNeD K) (tCall (spKept T.toTxK01a.toTxErrs) [] E0 (tCons (tVar 5) (tCons (tVar 3) tNil))) (tVar 6)))) (tRet (tC (V.bl false))) tNext)
def tD01 {w : World} {K : PySem.W.Frag} {mg : Str → Option Value} (T : TxK01 w K mg) : TS := (tSeq (tAsg (tLst (tCons (tCall (spAnyS 1) [] E0 (tCons (tVar 2) (tCons (tC (V.int 1)) tNil))) tNil)) (gName 6)) (tSeq (tAsg (tCall (spMade T.toTxK01a.toTxErrs) [] E0 (tCons (tVar 3) (tCons (tVar 6) tNil))) (gName 5)) (tSeq (tDrop (tBM K "list" rAppend (tVar 6) (tCons (tC (V.str (Str.ofString "more"))) tNil))) (tE01 T))))
def tC01 {w : World} {K : PySem.W.Frag} {mg : Str → Option Value} (T : TxK01 w K mg) : TS := (tSeq (tIfS (tAnd (tTest (tOp (rI0 fun i j => V.bl (decide (i < j))) (tVar 3) (tC (V.int 8)))) (tTest (tOp rNe (tCB (rReprD K) (tCons (tCall (spKept T.toTxK01a.toTxErrs) [] E0 (tCons (tVar 5) (tCons (tVar 3) tNil))) tNil)) (tCB (rReprD K) (tCons (tVar 4) tNil))))) (tRet (tC (V.bl false))) tNext) (tD01 T))
def tB01 {w : World} {K : PySem.W.Frag} {mg : Str → Option Value} (T : TxK01 w K mg) : TS := (tSeq (tIfS (tOr (tAnd (tTest (tOp rEq (tVar 3) (tC (V.int 6)))) (tNot (tB (tCB (rIsV K) (tCons (tVar 5) (tCons (tC (V.ty "IndexError")) tNil)))))) (tAnd (tTest (tOp rEq (tVar 3) (tC (V.int 7)))) (tNot (tB (tCB (rIsV K) (tCons (tVar 5) (tCons (tC (V.ty "KeyError")) tNil))))))) (tRet (tC (V.bl false))) tNext) (tC01 T))
def tA01 {w : World} {K : PySem.W.Frag} {mg : Str → Option Value} (T : TxK01 w K mg) : TS := (tSeq (tAsg (tCall (spAnyS 3) [] E0 (tCons (tVar 2) (tCons (tC (V.int 3)) tNil))) (gName 4)) (tSeq (tAsg (tCall (spMade T.toTxK01a.toTxErrs) [] E0 (tCons (tVar 3) (tCons (tVar 4) tNil))) (gName 5)) (tSeq (tIfS (tOr (tTest (tOp (rNeD K) (tCall (spSorts T.toTxK01a.toTxErrs) [] E0 (tCons (tVar 5) tNil)) (tLst (tCons (tVar 3) tNil)))) (tTest (tOp rNe (tCB (rIsV K) (tCons (tVar 5) (tCons (tC (V.ref T.C_TraceError)) tNil))) (tOp (rIn K true) (tVar 3) (tTup (tCons (tC (V.int 6)) (tCons (tC (V.int 7)) tNil))))))) (tRet (tC (V.bl false))) tNext) (tSeq (tIfS (tAnd (tB (tCB (rIsV K) (tCons (tVar 5) (tCons (tC (V.ref T.C_TraceError)) tNil)))) (tNot (tB (tCB (rIsV K) (tCons (tVar 5) (tCons (tC (V.ty "ValueError")) tNil)))))) (tRet (tC (V.bl false))) tNext) (tB01 T)))))
end My

/-! ## k01: a turn of the law -/
namespace My
open PySem PySem.Spec PyProof.Rows L2 PySem.MyX
theorem GoodD.shaped {k : Nat} {d : PyData} (g : GoodD k d) (hk : k ≤ 60) : SeqAt.shaped d = true := by
  unfold SeqAt.shaped
  rw [g.lay, decide_eq_true (show d.depth ≤ 64 by have := g.dep; omega)]
  rfl
theorem GoodD.refl {k : Nat} {d : PyData} (g : GoodD k d) : PyData.eqv d d = true := SeqAt.eqv_refl d g.lay
theorem ErrAt.put {w : World} {K : PySem.W.Frag} {mg : Str → Option Value} {T : TxErrs w K mg} {H : Hp} {a L : Addr} {k : Nat} {v : V} {xs ys : List V} (h : ErrAt T H a k v) (hL : H L = some (.lst xs)) : ErrAt T (upd H L (.lst ys)) a k v := by
  obtain ⟨dd, h1, h2, h3⟩ := h.ex
  have no : ∀ {b C : Addr} {d : Option Addr}, exo b C d ≠ .lst xs := fun z => by
    have z' : HO.ext _ = HO.lst xs := z
    cases z'
  have nd : ∀ {b : Addr} {fs : List (Str × V)}, exd b fs ≠ .lst xs := fun z => by
    have z' : HO.ext _ = HO.lst xs := z
    cases z'
  exact ⟨dd, by rw [upd_ne (at_ne hL h1 fun z => no z.symm)]; exact h1, fun d z => by rw [upd_ne (at_ne hL (h2 d z) fun z => nd z.symm)]; exact h2 d z, h3⟩
theorem int_good (k : Nat) : GoodD 2 (.list [.int (k : Int)]) := (good_list (k := 1) (by simp) fun d hd => by rw [List.mem_singleton.mp hd]; exact ⟨rfl, by simp [PyData.depth], fun _ e => (by cases e), rfl⟩).1
theorem cap4 : capS 4 ≤ sizeLine := by decide +kernel
section
variable {P : Program} {w : World} {K : PySem.W.Frag} {mg : Str → Option Value} {base : Heap}
theorem ok_tE01 (T : TxK01 w K mg) {D : Ends} {b a L : Addr} {v0 v1 v4 : Option V} {HB H4 : Hp} {k : Nat} {v : V} {d : PyData} {ok : Addr → Prop} (hk : k < 10) (g4 : Gr b HB H4) (E4 : ErrAt T.toTxErrs H4 a k (.ref L)) (hL4 : H4 L = some (.lst [v, .str "more"])) (hv4 : Da ok H4 v d) (gd : GoodS 2 d)
    (hn : ∀ v4 v5 v6 H', Gr b HB H' → D.nx [v0, v1, some (.ref b), some (.int (k : Int)), v4, v5, v6] H') :
    tE01 T D [v0, v1, some (.ref b), some (.int (k : Int)), v4, some (.ref a), some (.ref L)] H4 := by
  refine ⟨_, rfl, _, _, rfl, rfl, _, rfl, ?_⟩
  refine ite2 (fun c => ?_) (fun c => ?_)
  · have k8 : k < 8 := by have := of_decide_eq_true c; omega
    have gl : GoodD 3 (.list [d, .str "more"]) := (good_list (k := 2) (by simp) fun x hx => by
      rcases List.mem_cons.mp hx with z | z
      · rw [z]; exact gd.toGoodD
      · rw [List.mem_singleton.mp z]; exact GoodD.str (by decide +kernel)).1
    refine ⟨_, rfl, _, rfl, a, k, .ref L, rfl, k8, E4, fun H5 s5 => ?_⟩
    have dp : Dp K H5 (.ref L) (.list [d, .str "more"]) := .lst (SqL.of (s5 _ _ hL4)) (.cons (Dp.same s5 d v (Da.dp d v hv4)) (.cons (.str _) .nil))
    refine ⟨_, rfl, _, _, dp, dp, gl.shaped (by decide), gl.shaped (by decide), ?_⟩
    rw [gl.refl]
    refine ⟨_, rfl, ?_⟩
    refine ite2 (fun c => absurd c (by simp)) (fun _ => ?_)
    exact hn _ _ _ _ (g4.trans (gr_of_same g4 s5))
  · refine ite2 (fun c => absurd c (by simp)) (fun _ => ?_)
    exact hn _ _ _ _ g4
theorem ok_tD01 (T : TxK01 w K mg) {D : Ends} {b : Addr} {v0 v1 v4 v5 v6 : Option V} {HB H : Hp} {k : Nat} (hk : k < 10) (g : Gr b HB H)
    (hn : ∀ v4 v5 v6 H', Gr b HB H' → D.nx [v0, v1, some (.ref b), some (.int (k : Int)), v4, v5, v6] H') :
    tD01 T D [v0, v1, some (.ref b), some (.int (k : Int)), v4, v5, v6] H := by
  refine ⟨_, rfl, b, rfl, gr_self g, fun v d H1 g1 hv gd => ⟨by show 1 ≤ sizeLine; decide, fun L hL => ?_⟩⟩
  have g01 := g.trans g1
  have Lb := g01.ne_new hL
  have L0 : HB L = none := g01.free hL
  have y2 := same_upd hL (.lst [v])
  have hL2 := upd_same (H := H1) (a := L) (o := .lst [v])
  have g2 := g01.new hL (.lst [v])
  generalize upd H1 L (.lst [v]) = H2 at y2 hL2 g2 ⊢
  refine ⟨_, rfl, _, rfl, k, .ref L, rfl, hk, fun a H3 s3 EA => ?_⟩
  have hL3 := s3 _ _ hL2
  refine ⟨_, rfl, .inl ⟨rfl, _, SqL.of hL3⟩, L, _, _, rfl, rfl, hL3, small1000 (by simp), ?_⟩
  have E4 := EA.put hL3 (ys := [v, .str "more"])
  have g3 := g2.trans (gr_of_same (gr_self g2) s3)
  have g4 := g3.mut L0 Lb (.lst [v, .str "more"])
  have hL4 := upd_same (H := H3) (a := L) (o := .lst [v, .str "more"])
  have hv4 : Da (fun a => H a = none) (upd H3 L (.lst [v, .str "more"])) v d := Da.mono (fun a h => h) (fun a o _ e => by
    rw [upd_ne (ne_of_none e hL)]
    exact (y2.trans s3) _ _ e) d v hv
  exact ok_tE01 T hk g4 E4 hL4 hv4 gd hn
theorem ok_tC01 (T : TxK01 w K mg) {D : Ends} {b a : Addr} {v0 v1 v6 : Option V} {HB H : Hp} {k : Nat} {v : V} {d : PyData} {ok : Addr → Prop} (hk : k < 10) (g : Gr b HB H) (EA : ErrAt T.toTxErrs H a k v) (hv : Da ok H v d) (gd : GoodS 4 d)
    (hn : ∀ v4 v5 v6 H', Gr b HB H' → D.nx [v0, v1, some (.ref b), some (.int (k : Int)), v4, v5, v6] H') :
    tC01 T D [v0, v1, some (.ref b), some (.int (k : Int)), some v, some (.ref a), v6] H := by
  refine ⟨_, rfl, _, _, rfl, rfl, _, rfl, ?_⟩
  refine ite2 (fun c => ?_) (fun c => ?_)
  · have k8 : k < 8 := by have := of_decide_eq_true c; omega
    have len : d.shown.length ≤ sizeLine := Nat.le_trans gd.len cap4
    have dep : d.depth ≤ 60 := Nat.le_trans gd.dep (by decide)
    refine ⟨_, rfl, _, rfl, a, k, v, rfl, k8, EA, fun H5 s5 => ?_⟩
    have dp := Dp.same s5 d v (Da.dp (K := K) d v hv)
    refine ⟨v, d, rfl, dp, gd.shw, gd.nod, dep, len, ?_⟩
    refine ⟨_, rfl, v, d, rfl, dp, gd.shw, gd.nod, dep, len, rfl, _, rfl, ?_⟩
    refine ite2 (fun c => absurd c (by simp)) (fun _ => ?_)
    have g5 := gr_of_same g s5
    exact ok_tD01 T hk (g.trans g5) hn
  · refine ite2 (fun c => absurd c (by simp)) (fun _ => ?_)
    exact ok_tD01 T hk g hn
theorem ok_tB01 (T : TxK01 w K mg) {D : Ends} {b a : Addr} {v0 v1 v6 : Option V} {HB H : Hp} {k : Nat} {v : V} {d : PyData} {ok : Addr → Prop} (hk : k < 10) (g : Gr b HB H) (EA : ErrAt T.toTxErrs H a k v) (hv : Da ok H v d) (gd : GoodS 4 d)
    (hn : ∀ v4 v5 v6 H', Gr b HB H' → D.nx [v0, v1, some (.ref b), some (.int (k : Int)), v4, v5, v6] H') :
    tB01 T D [v0, v1, some (.ref b), some (.int (k : Int)), some v, some (.ref a), v6] H := by
  have fin := ok_tC01 (v6 := v6) T hk g EA hv gd hn
  obtain ⟨dd, e1, e2, e3⟩ := id EA.ex
  refine ⟨_, rfl, rfl, _, rfl, ?_⟩
  by_cases c6 : k = 6
  · subst c6
    refine iteT ?_
    refine ⟨_, rfl, a, T.C_NoRow, dd, _, _, _, rfl, e1, (fun d z => ⟨_, e2 d z⟩), T.ex_NoRow, fun u h => h, T.ki_6, _, rfl, ?_⟩
    refine iteF ?_
    refine ⟨_, rfl, rfl, _, rfl, ?_⟩
    refine iteF ?_
    exact iteF fin
  · rw [decide_eq_false (fun z => c6 (by injection z with z; omega))]
    refine iteF ?_
    refine iteF ?_
    refine ⟨_, rfl, rfl, _, rfl, ?_⟩
    by_cases c7 : k = 7
    · subst c7
      refine iteT ?_
      refine ⟨_, rfl, a, T.C_NoService, dd, _, _, _, rfl, e1, (fun d z => ⟨_, e2 d z⟩), T.ex_NoService, fun u h => h, T.ki_7, _, rfl, ?_⟩
      exact iteF fin
    · rw [decide_eq_false (fun z => c7 (by injection z with z; omega))]
      refine iteF ?_
      exact iteF fin
theorem ok_tA01 (T : TxK01 w K mg) {D : Ends} {b : Addr} {v0 v1 v4 v5 v6 : Option V} {HB H : Hp} {k : Nat} (hk : k < 10) (g : Gr b HB H)
    (hn : ∀ v4 v5 v6 H', Gr b HB H' → D.nx [v0, v1, some (.ref b), some (.int (k : Int)), v4, v5, v6] H') :
    tA01 T D [v0, v1, some (.ref b), some (.int (k : Int)), v4, v5, v6] H := by
  refine ⟨_, rfl, b, rfl, gr_self g, fun v d H1 g1 hv gd => ?_⟩
  have g01 := g.trans g1
  refine ⟨_, rfl, _, rfl, k, v, rfl, hk, fun a H2 s2 EA => ?_⟩
  -- what it is
  refine ⟨_, rfl, a, k, v, rfl, hk, EA, fun p H3 s3 hp => ?_⟩
  refine ⟨_, rfl, by show 1 ≤ sizeLine; decide, fun l hl => ?_⟩
  have y4 := same_upd hl (.lst [.int (k : Int)])
  refine ⟨.list [.int (k : Int)], .list [.int (k : Int)], .lst (SqL.of (y4 _ _ hp)) (.cons (.int _) .nil), .lst (SqL.of upd_same) (.cons (.int _) .nil), (int_good k).shaped (by decide), (int_good k).shaped (by decide), ?_⟩
  rw [(int_good k).refl]
  refine ⟨_, rfl, ?_⟩
  refine ite2 (fun c => absurd c (by simp)) (fun _ => ?_)
  have s24 := s3.trans y4
  generalize upd H3 l (.lst [.int (k : Int)]) = H4 at s24 ⊢
  have E4 := EA.same s24
  obtain ⟨dd, e1, e2, e3⟩ := id E4.ex
  refine ⟨_, rfl, a, clsE T.toTxErrs k, dd, _, _, _, rfl, e1, (fun d z => ⟨_, e2 d z⟩), exc_all T.toTxErrs hk, fun u h => h, kit_tr T.toTxErrs hk, _, rfl, by show 2 ≤ sizeLine; decide, fun tp htp => ?_⟩
  have y5 := same_upd htp (.tup [.int 6, .int 7])
  have in67 : inV (.int (k : Int)) [.int 6, .int 7] = (decide (k = 6) || decide (k = 7)) := by
    match k, hk with
    | 0, _ => rfl
    | 1, _ => rfl
    | 2, _ => rfl
    | 3, _ => rfl
    | 4, _ => rfl
    | 5, _ => rfl
    | 6, _ => rfl
    | 7, _ => rfl
    | 8, _ => rfl
    | 9, _ => rfl
  refine ⟨tp, _, rfl, .inr (SqT.of upd_same), rfl, by decide +kernel, rfl, _, rfl, ?_⟩
  rw [in67]
  refine ite2 (fun c => absurd c (by simp)) (fun _ => ?_)
  have s25 := s24.trans y5
  generalize upd H4 tp (.tup [.int 6, .int 7]) = H5 at s25 ⊢
  have E5 := EA.same s25
  obtain ⟨dd, e1, e2, e3⟩ := id E5.ex
  refine ⟨_, rfl, a, clsE T.toTxErrs k, dd, _, _, _, rfl, e1, (fun d z => ⟨_, e2 d z⟩), exc_all T.toTxErrs hk, fun u h => h, kit_tr T.toTxErrs hk, _, rfl, ?_⟩
  have hv5 : Da (fun a => H a = none) H5 v d := Da.mono (fun a h => h) (fun a o _ e => (s2.trans s25) _ _ e) d v hv
  have gr5 := gr_of_same g01 (s2.trans s25)
  have fin := ok_tB01 (v6 := v6) T hk (g01.trans gr5) E5 hv5 gd hn
  by_cases c67 : k = 6 ∨ k = 7
  · rw [show (decide (k = 6) || decide (k = 7)) = true by simpa using c67]
    refine iteF ?_
    exact iteF fin
  · rw [show (decide (k = 6) || decide (k = 7)) = false by simpa using c67]
    refine iteT ?_
    refine ⟨_, rfl, a, clsE T.toTxErrs k, dd, _, _, _, rfl, e1, (fun d z => ⟨_, e2 d z⟩), exc_all T.toTxErrs hk, fun u h => h, kit_va T.toTxErrs hk (fun z => c67 (.inl z)) (fun z => c67 (.inr z)), _, rfl, ?_⟩
    exact iteF fin
end
end My

/-! ## k01: the law -/
namespace My
open PySem PySem.Spec PyProof.Rows L2 PySem.MyX
def spLaw (K : PySem.W.Frag) : Sp := fun vs H Q _ => ∃ (a : Addr) (ns : List Int), vs = [.ref a] ∧ SqL K H a (ns.map V.int) ∧ ns.length ≤ 63 ∧ ∀ H', Q (.bl true) H'
section
variable {P : Program} {w : World} {K : PySem.W.Frag} {mg : Str → Option Value} {base : Heap}
theorem ok_law01 (T : TxK01 w K mg) : FnTop P w K mg base 9 T.f_law T.d_law P_law (spLaw K) := by
  have G_box : FnOk P w K mg base CX0 1 T.f_box T.d_box P_box (spBox K) := ok_box T.toTxDraw
  have G_any : FnOk P w K mg base CX0 6 T.f_any T.d_any P_any (spAnyS 3) := ok_any T.toTxAny01 3
  have G_any1 : FnOk P w K mg base CX0 4 T.f_any T.d_any P_any (spAnyS 1) := ok_any T.toTxAny01 1
  have G_made := ok_made (P := P) (w := w) (base := base) T.toTxK01a
  have G_sorts := ok_sorts (P := P) (w := w) (base := base) T.toTxK01a
  have G_kept := ok_kept (P := P) (w := w) (base := base) T.toTxK01a
  refine top_of T.F_law sc_law (fun vs H Q E h => ?_) (fun cdv A outer s H vs Q gu hr h => ?_)
  · obtain ⟨a, ns, rfl, _⟩ := h
    rfl
  obtain ⟨a, ns, rfl, hS, h63, q⟩ := h
  refine ⟨_, (pss_cons (ps_for PassesOwn.never rfl (pi_range1 (by rfl) T.z_range (pa_cons (pe_callB (call_max2 rfl) (by rfl) T.z_max (by decide +kernel) (pa_cons pe_int (pa_cons (pe_callB (call_min2 rfl) (by rfl) T.z_min (by decide +kernel) (pa_cons pe_int (pa_cons (pe_callB (call_lenK K) (by rfl) T.z_len (by decide +kernel) (pa_cons (pv 0) pa_nil)) pa_nil))) pa_nil))) pa_nil)) (pg_name (i := 1) sc_law.nd rfl (Or.inl rfl)) (pss_cons (ps_set (i := 2) sc_law.nd rfl (Or.inl rfl) (pe_call G_box (hr.mono (by decide)) (by rfl) T.m_box T.F_box.kp T.b_box .nil pass0 (pa_cons (pv 0) (pa_cons (pv 1) pa_nil))))
      (pss_one (ps_for PassesOwn.never rfl (pi_range1 (by rfl) T.z_range (pa_cons pe_int pa_nil)) (pg_name (i := 3) sc_law.nd rfl (Or.inl rfl)) (pss_cons (ps_set (i := 4) sc_law.nd rfl (Or.inl rfl) (pe_call G_any (hr.mono (by decide)) (by rfl) T.m_any T.F_any.kp T.b_any .nil pass0 (pa_cons (pv 2) (pa_cons pe_int pa_nil))))
      (pss_cons (ps_set (i := 5) sc_law.nd rfl (Or.inl rfl) (pe_call G_made (hr.mono (by decide)) (by rfl) T.m_made T.F_made.kp T.b_made .nil pass0 (pa_cons (pv 3) (pa_cons (pv 4) pa_nil))))
      (pss_cons (ps_if (PW.pt (pw_or (pt_cmpR (op_neDK K hr.units) (pe_call G_sorts (hr.mono (by decide)) (by rfl) T.m_sorts T.F_sorts.kp T.b_sorts .nil pass0 (pa_cons (pv 5) pa_nil)) (pe_lst (pa_cons (pv 3) pa_nil)) (nomark _)) (pw_or1 (pt_cmpR op_ne (pe_callB call_isX (by rfl) T.z_isinstance (by decide +kernel) (pa_cons (pv 5) (pa_cons (pe_glob (v := .ref T.C_TraceError) (by rfl) T.m_TraceError rfl) pa_nil))) (pe_cmpR (op_notInK K) (pv 3) (pe_tup (pa_cons pe_int (pa_cons pe_int pa_nil))) (by rfl)) (nomark _))))) (pss_one (ps_ret pe_bl)) pss_nil)
      (pss_cons (ps_if (PW.pt (pw_and (pt_val (pe_callB call_isX (by rfl) T.z_isinstance (by decide +kernel) (pa_cons (pv 5) (pa_cons (pe_glob (v := .ref T.C_TraceError) (by rfl) T.m_TraceError rfl) pa_nil)))) (pw_and1 (pt_not (pt_val (pe_callB call_isX (by rfl) T.z_isinstance (by decide +kernel) (pa_cons (pv 5) (pa_cons (pe_bltn (v := .ty "ValueError") (by rfl) T.z_ValueError (by decide +kernel) rfl) pa_nil)))))))) (pss_one (ps_ret pe_bl)) pss_nil)
      (pss_cons (ps_if (PW.pt (pw_or (PW.pt (pw_and (pt_cmpR op_eq (pv 3) pe_int (nomark _)) (pw_and1 (pt_not (pt_val (pe_callB call_isX (by rfl) T.z_isinstance (by decide +kernel) (pa_cons (pv 5) (pa_cons (pe_bltn (v := .ty "IndexError") (by rfl) T.z_IndexError (by decide +kernel) rfl) pa_nil)))))))) (pw_or1 (PW.pt (pw_and (pt_cmpR op_eq (pv 3) pe_int (nomark _)) (pw_and1 (pt_not (pt_val (pe_callB call_isX (by rfl) T.z_isinstance (by decide +kernel) (pa_cons (pv 5) (pa_cons (pe_bltn (v := .ty "KeyError") (by rfl) T.z_KeyError (by decide +kernel) rfl) pa_nil))))))))))) (pss_one (ps_ret pe_bl)) pss_nil)
      (pss_cons (ps_if (PW.pt (pw_and (pt_cmpR op_lt (pv 3) pe_int (nomark _)) (pw_and1 (pt_cmpR op_ne (pe_callB (call_reprD K gu hr.units) (by rfl) T.z_repr (by decide +kernel) (pa_cons (pe_call G_kept (hr.mono (by decide)) (by rfl) T.m_kept T.F_kept.kp T.b_kept .nil pass0 (pa_cons (pv 5) (pa_cons (pv 3) pa_nil))) pa_nil)) (pe_callB (call_reprD K gu hr.units) (by rfl) T.z_repr (by decide +kernel) (pa_cons (pv 4) pa_nil)) (nomark _))))) (pss_one (ps_ret pe_bl)) pss_nil)
      (pss_cons (ps_set (i := 6) sc_law.nd rfl (Or.inl rfl) (pe_lst (pa_cons (pe_call G_any1 (hr.mono (by decide)) (by rfl) T.m_any T.F_any.kp T.b_any .nil pass0 (pa_cons (pv 2) (pa_cons pe_int pa_nil))) pa_nil)))
      (pss_cons (ps_set (i := 5) sc_law.nd rfl (Or.inl rfl) (pe_call G_made (hr.mono (by decide)) (by rfl) T.m_made T.F_made.kp T.b_made .nil pass0 (pa_cons (pv 3) (pa_cons (pv 6) pa_nil))))
      (pss_cons (ps_expr (pe_bm PySem.F.plainAttrs_list PySem.F.slot_list_append PySem.F.type_list_append mt_append (pv 6) (pa_cons pe_str pa_nil)))
      (pss_one (ps_if (PW.pt (pw_and (pt_cmpR op_lt (pv 3) pe_int (nomark _)) (pw_and1 (pt_cmpR (op_neDK K hr.units) (pe_call G_kept (hr.mono (by decide)) (by rfl) T.m_kept T.F_kept.kp T.b_kept .nil pass0 (pa_cons (pv 5) (pa_cons (pv 3) pa_nil))) (pv 6) (nomark _))))) (pss_one (ps_ret pe_bl)) pss_nil)))))))))))))))
      (pss_one (ps_ret pe_bl))), ?_⟩
  obtain ⟨mt1, mt2⟩ := many_turns (n := 5) (l := (ns.map V.int).length) (by decide) (by decide)
  refine ⟨_, rfl, _, _, rfl, .inl hS, _, _, rfl, _, _, rfl, _, rfl, by omega, by omega, for_range (lo := 0) (fun i σ H' => (∃ v1 v2 v3 v4 v5 v6, σ = [some (.ref a), v1, v2, v3, v4, v5, v6]) ∧ Same H H') ⟨⟨_, _, _, _, _, _, rfl⟩, Same.refl _⟩ ?_ ?_⟩
  rotate_left
  · rintro σ H1 ⟨⟨v1, v2, v3, v4, v5, v6, rfl⟩, s1⟩
    exact q _
  rintro i0 σ H1 hi ⟨⟨v1, v2, v3, v4, v5, v6, rfl⟩, s1⟩
  refine ⟨_, rfl, _, rfl, a, ns, _, rfl, s1.seq hS, h63, by omega, fun b bw bs hb => ?_⟩
  have gB := gr_box (b := b) (H1 := H1) (w := bw) (s := bs) (c := 0)
  have sB : ∀ H', Gr b (upd H1 b (bx bw bs 0)) H' → Same H H' := fun H' g => s1.trans (gr_same (Same.refl _) hb g)
  generalize upd H1 b (bx bw bs 0) = HB at gB sB
  refine ⟨10, rfl, by decide, by decide, for_range (lo := 0) (fun i σ H' => (∃ v3 v4 v5 v6 : Option V, σ = [some (.ref a), some (.int (0 + (i0 : Int))), some (.ref b), v3, v4, v5, v6]) ∧ Gr b HB H') ⟨⟨_, _, _, _, rfl⟩, gB⟩ ?_ ?_⟩
  rotate_left
  · rintro σ H2 ⟨⟨v3, v4, v5, v6, rfl⟩, g2⟩
    exact ⟨⟨_, _, _, _, _, _, rfl⟩, sB H2 g2⟩
  rintro i1 σ H2 hi1 ⟨⟨v3, v4, v5, v6, rfl⟩, g2⟩
  rw [Int.zero_add (i1 : Int)]
  exact ok_tA01 T (k := i1) hi1 g2 fun v4 v5 v6 H' g => ⟨⟨_, _, _, _, rfl⟩, g⟩
end
end My

/-! ## The end: what the top has written, the theorem -/
namespace My
open PySem L2
theorem kit_yes {K : PySem.W.Frag} {t : Value} {C : Addr} (h1 : PySem.W.isClsIn K C = true) (h2 : PySem.W.typeIn K (.ref C) = some (.type "type")) (h3 : PySem.W.subIn K t (.ref C) = some true) : PySem.W.kitOne K t (.ref C) = some true := by
  have e : ((PySem.W.clsIn K C).isSome && PySem.W.typeIn K (.ref C) == some (.type "type")) = true := by
    have h1' : (PySem.W.clsIn K C).isSome = true := h1
    rw [h1', h2] <;> rfl
  unfold PySem.W.kitOne
  split
  · rfl
  · show (if ((PySem.W.clsIn K C).isSome && PySem.W.typeIn K (.ref C) == some (.type "type")) = true then PySem.W.subIn K t (.ref C) else none) = some true
    rw [if_pos e]
    exact h3
theorem kit_no {K : PySem.W.Frag} {A C : Addr} {b : Bool} (h1 : PySem.W.isClsIn K C = true) (h2 : PySem.W.typeIn K (.ref C) = some (.type "type")) (h3 : PySem.W.subIn K (.ref A) (.ref C) = some b) (n : A ≠ C) : PySem.W.kitOne K (.ref A) (.ref C) = some b := by
  have e : ((PySem.W.clsIn K C).isSome && PySem.W.typeIn K (.ref C) == some (.type "type")) = true := by
    have h1' : (PySem.W.clsIn K C).isSome = true := h1
    rw [h1', h2] <;> rfl
  unfold PySem.W.kitOne
  rw [if_neg (fun z => n (by have z2 := beq_iff_eq.mp z; cases z2; rfl))]
  show (if ((PySem.W.clsIn K C).isSome && PySem.W.typeIn K (.ref C) == some (.type "type")) = true then PySem.W.subIn K (.ref A) (.ref C) else none) = some b
  rw [if_pos e]
  exact h3
theorem kit_tyno {K : PySem.W.Frag} {A : String} {C : Addr} {b : Bool} (h1 : PySem.W.isClsIn K C = true) (h2 : PySem.W.typeIn K (.ref C) = some (.type "type")) (h3 : PySem.W.subIn K (.type A) (.ref C) = some b) : PySem.W.kitOne K (.type A) (.ref C) = some b := by
  have e : ((PySem.W.clsIn K C).isSome && PySem.W.typeIn K (.ref C) == some (.type "type")) = true := by
    have h1' : (PySem.W.clsIn K C).isSome = true := h1
    rw [h1', h2] <;> rfl
  unfold PySem.W.kitOne
  rw [if_neg (fun z => by have z2 := beq_iff_eq.mp z; cases z2)]
  show (if ((PySem.W.clsIn K C).isSome && PySem.W.typeIn K (.ref C) == some (.type "type")) = true then PySem.W.subIn K (.type A) (.ref C) else none) = some b
  rw [if_pos e]
  exact h3
theorem kit_reflist {K : PySem.W.Frag} {A : Addr} {b : Bool} (h3 : PySem.W.subIn K (.ref A) (.type "list") = some b) : PySem.W.kitOne K (.ref A) (.type "list") = some b := by
  unfold PySem.W.kitOne
  rw [if_neg (fun z => by have z2 := beq_iff_eq.mp z; cases z2)]
  unfold PySem.W.kitCls
  first | exact h3 | (simp; exact h3)
theorem kit_reftuple {K : PySem.W.Frag} {A : Addr} {b : Bool} (h3 : PySem.W.subIn K (.ref A) (.type "tuple") = some b) : PySem.W.kitOne K (.ref A) (.type "tuple") = some b := by
  unfold PySem.W.kitOne
  rw [if_neg (fun z => by have z2 := beq_iff_eq.mp z; cases z2)]
  unfold PySem.W.kitCls
  first | exact h3 | (simp; exact h3)
theorem kit_refIndexError {K : PySem.W.Frag} {A : Addr} {b : Bool} (h3 : PySem.W.subIn K (.ref A) (.type "IndexError") = some b) : PySem.W.kitOne K (.ref A) (.type "IndexError") = some b := by
  unfold PySem.W.kitOne
  rw [if_neg (fun z => by have z2 := beq_iff_eq.mp z; cases z2)]
  unfold PySem.W.kitCls
  first | exact h3 | (simp; exact h3)
theorem kit_refKeyError {K : PySem.W.Frag} {A : Addr} {b : Bool} (h3 : PySem.W.subIn K (.ref A) (.type "KeyError") = some b) : PySem.W.kitOne K (.ref A) (.type "KeyError") = some b := by
  unfold PySem.W.kitOne
  rw [if_neg (fun z => by have z2 := beq_iff_eq.mp z; cases z2)]
  unfold PySem.W.kitCls
  first | exact h3 | (simp; exact h3)
theorem kit_refValueError {K : PySem.W.Frag} {A : Addr} {b : Bool} (h3 : PySem.W.subIn K (.ref A) (.type "ValueError") = some b) : PySem.W.kitOne K (.ref A) (.type "ValueError") = some b := by
  unfold PySem.W.kitOne
  rw [if_neg (fun z => by have z2 := beq_iff_eq.mp z; cases z2)]
  unfold PySem.W.kitCls
  first | exact h3 | (simp; exact h3)
theorem exm_mk {K : PySem.W.Frag} {t : Value} {C : Addr} {b : Bool} (h0 : PySem.W.subIn K (.ref C) (.type "BaseException") = some true) (h1 : PySem.W.isClsIn K C = true) (h2 : PySem.W.typeIn K (.ref C) = some (.type "type")) (h3 : PySem.W.subIn K t (.ref C) = some b) : PySem.W.exmOne K t (.ref C) = some b := by
  have e : ((PySem.W.clsIn K C).isSome && PySem.W.typeIn K (.ref C) == some (.type "type")) = true := by
    have h1' : (PySem.W.clsIn K C).isSome = true := h1
    rw [h1', h2] <;> rfl
  have e0 : (PySem.W.subIn K (.ref C) (.type "BaseException") == some true) = true := by rw [h0] <;> rfl
  unfold PySem.W.exmOne
  rw [if_pos e0]
  show (if ((PySem.W.clsIn K C).isSome && PySem.W.typeIn K (.ref C) == some (.type "type")) = true then PySem.W.subIn K t (.ref C) else none) = some b
  rw [if_pos e]
  exact h3
theorem ve_one {C : Addr} : PySem.HandSPX.refsVE [.ref C, .type "ValueError", .type "Exception", .type "BaseException", .type "object"] = true := by
  show PySem.HandSPX.refsVE [.type "ValueError", .type "Exception", .type "BaseException", .type "object"] = true
  decide +kernel
theorem all_mk {P : Program} {w : World} {K : PySem.W.Frag} {h : Heap} {mg : Str → Option Value} {fa : Addr} (X : K.In h) (G : h.Ns mainGlobals mg) (hfa : mg "law" = some (.ref fa))
    {oc_take kV_take dc_take pm_take cd_take ct_take oc_box kV_box dc_box pm_box cd_box ct_box oc_pick kV_pick dc_pick pm_pick cd_pick ct_pick oc_any kV_any dc_any pm_any cd_any ct_any oc_InvalidRow_init kV_InvalidRow_init dc_InvalidRow_init pm_InvalidRow_init cd_InvalidRow_init ct_InvalidRow_init oc_InvalidService_init kV_InvalidService_init dc_InvalidService_init pm_InvalidService_init cd_InvalidService_init ct_InvalidService_init oc_InvalidBook_init kV_InvalidBook_init dc_InvalidBook_init pm_InvalidBook_init cd_InvalidBook_init ct_InvalidBook_init oc_InvalidText_init kV_InvalidText_init dc_InvalidText_init pm_InvalidText_init cd_InvalidText_init ct_InvalidText_init oc_InvalidTree_init kV_InvalidTree_init dc_InvalidTree_init pm_InvalidTree_init cd_InvalidTree_init ct_InvalidTree_init oc_Refused_init kV_Refused_init dc_Refused_init pm_Refused_init cd_Refused_init ct_Refused_init oc_NoRow_init kV_NoRow_init dc_NoRow_init pm_NoRow_init cd_NoRow_init ct_NoRow_init oc_NoService_init kV_NoService_init dc_NoService_init pm_NoService_init cd_NoService_init ct_NoService_init oc_made kV_made dc_made pm_made cd_made ct_made oc_sorts kV_sorts dc_sorts pm_sorts cd_sorts ct_sorts oc_kept kV_kept dc_kept pm_kept cd_kept ct_kept oc_law kV_law dc_law pm_law cd_law ct_law : Value}
    {od_take an_take od_box an_box od_pick an_pick od_any an_any od_InvalidRow_init an_InvalidRow_init od_InvalidService_init an_InvalidService_init od_InvalidBook_init an_InvalidBook_init od_InvalidText_init an_InvalidText_init od_InvalidTree_init an_InvalidTree_init od_Refused_init an_Refused_init od_NoRow_init an_NoRow_init od_NoService_init an_NoService_init od_made an_made od_sorts an_sorts od_kept an_kept od_law an_law dd_C_InvalidRow dd_C_InvalidService dd_C_InvalidBook dd_C_InvalidText dd_C_InvalidTree dd_C_Refused dd_C_NoRow dd_C_NoService : Option Addr}
    {sl_take sl_box sl_pick sl_any sl_InvalidRow_init sl_InvalidService_init sl_InvalidBook_init sl_InvalidText_init sl_InvalidTree_init sl_Refused_init sl_NoRow_init sl_NoService_init sl_made sl_sorts sl_kept sl_law : Array (Option Value)}
    {f_take f_box f_pick f_any C_InvalidRow N_C_InvalidRow bC_C_InvalidRow f_InvalidRow_init C_InvalidService N_C_InvalidService bC_C_InvalidService f_InvalidService_init C_InvalidBook N_C_InvalidBook bC_C_InvalidBook f_InvalidBook_init C_InvalidText N_C_InvalidText bC_C_InvalidText f_InvalidText_init C_InvalidTree N_C_InvalidTree bC_C_InvalidTree f_InvalidTree_init C_Refused N_C_Refused bC_C_Refused f_Refused_init C_NoRow N_C_NoRow f_NoRow_init C_NoService N_C_NoService f_NoService_init C_Mismatch C_InvalidCommand C_TraceError f_made f_sorts f_kept f_law : Addr}
    {nm_C_InvalidRow qn_C_InvalidRow nm_C_InvalidService qn_C_InvalidService nm_C_InvalidBook qn_C_InvalidBook nm_C_InvalidText qn_C_InvalidText nm_C_InvalidTree qn_C_InvalidTree nm_C_Refused qn_C_Refused nm_C_NoRow qn_C_NoRow nm_C_NoService qn_C_NoService : Str}
    {bs_C_InvalidRow sb_C_InvalidRow bs_C_InvalidService sb_C_InvalidService bs_C_InvalidBook sb_C_InvalidBook bs_C_InvalidText sb_C_InvalidText bs_C_InvalidTree sb_C_InvalidTree bs_C_Refused sb_C_Refused bs_C_NoRow sb_C_NoRow bs_C_NoService sb_C_NoService : List Value}
    {sn_C_InvalidRow sn_C_InvalidService sn_C_InvalidBook sn_C_InvalidText sn_C_InvalidTree sn_C_Refused sn_C_NoRow sn_C_NoService : List Str}
    {ab_C_InvalidRow ab_C_InvalidService ab_C_InvalidBook ab_C_InvalidText ab_C_InvalidTree ab_C_Refused ab_C_NoRow ab_C_NoService : Bool}
    {co_C_InvalidRow co_C_InvalidService co_C_InvalidBook co_C_InvalidText co_C_InvalidTree co_C_Refused co_C_NoRow co_C_NoService : Option Bool}
    {m0_C_InvalidRow m1_C_InvalidRow m2_C_InvalidRow m3_C_InvalidRow m5_C_InvalidRow m0_C_InvalidService m1_C_InvalidService m2_C_InvalidService m3_C_InvalidService m5_C_InvalidService m0_C_InvalidBook m1_C_InvalidBook m2_C_InvalidBook m3_C_InvalidBook m5_C_InvalidBook m0_C_InvalidText m1_C_InvalidText m2_C_InvalidText m3_C_InvalidText m5_C_InvalidText m0_C_InvalidTree m1_C_InvalidTree m2_C_InvalidTree m3_C_InvalidTree m5_C_InvalidTree m0_C_Refused m1_C_Refused m2_C_Refused m3_C_Refused m5_C_Refused m0_C_NoRow m1_C_NoRow m2_C_NoRow m3_C_NoRow m5_C_NoRow m0_C_NoService m1_C_NoService m2_C_NoService m3_C_NoService m5_C_NoService : Option Value}
    (a_law : PySem.W.nsIn K mainGlobals "law" = some (some (.ref f_law)))
    (a__law_take : PySem.W.nsIn K mainGlobals "_law_take" = some (some (.ref f_take)))
    (a__law_box : PySem.W.nsIn K mainGlobals "_law_box" = some (some (.ref f_box)))
    (a__law_pick : PySem.W.nsIn K mainGlobals "_law_pick" = some (some (.ref f_pick)))
    (a__law_any : PySem.W.nsIn K mainGlobals "_law_any" = some (some (.ref f_any)))
    (a_InvalidRow : PySem.W.nsIn K mainGlobals "InvalidRow" = some (some (.ref C_InvalidRow)))
    (a_InvalidService : PySem.W.nsIn K mainGlobals "InvalidService" = some (some (.ref C_InvalidService)))
    (a_InvalidBook : PySem.W.nsIn K mainGlobals "InvalidBook" = some (some (.ref C_InvalidBook)))
    (a_InvalidText : PySem.W.nsIn K mainGlobals "InvalidText" = some (some (.ref C_InvalidText)))
    (a_InvalidTree : PySem.W.nsIn K mainGlobals "InvalidTree" = some (some (.ref C_InvalidTree)))
    (a_Refused : PySem.W.nsIn K mainGlobals "Refused" = some (some (.ref C_Refused)))
    (a_NoRow : PySem.W.nsIn K mainGlobals "NoRow" = some (some (.ref C_NoRow)))
    (a_NoService : PySem.W.nsIn K mainGlobals "NoService" = some (some (.ref C_NoService)))
    (a_Mismatch : PySem.W.nsIn K mainGlobals "Mismatch" = some (some (.ref C_Mismatch)))
    (a_InvalidCommand : PySem.W.nsIn K mainGlobals "InvalidCommand" = some (some (.ref C_InvalidCommand)))
    (a_TraceError : PySem.W.nsIn K mainGlobals "TraceError" = some (some (.ref C_TraceError)))
    (a__law_made : PySem.W.nsIn K mainGlobals "_law_made" = some (some (.ref f_made)))
    (a__law_sorts : PySem.W.nsIn K mainGlobals "_law_sorts" = some (some (.ref f_sorts)))
    (a__law_kept : PySem.W.nsIn K mainGlobals "_law_kept" = some (some (.ref f_kept)))
    (in_f_InvalidRow_init : PySem.W.findIn K (.ref C_InvalidRow) "__init__" = some (some (.ref f_InvalidRow_init)))
    (in_f_InvalidService_init : PySem.W.findIn K (.ref C_InvalidService) "__init__" = some (some (.ref f_InvalidService_init)))
    (in_f_InvalidBook_init : PySem.W.findIn K (.ref C_InvalidBook) "__init__" = some (some (.ref f_InvalidBook_init)))
    (in_f_InvalidText_init : PySem.W.findIn K (.ref C_InvalidText) "__init__" = some (some (.ref f_InvalidText_init)))
    (in_f_InvalidTree_init : PySem.W.findIn K (.ref C_InvalidTree) "__init__" = some (some (.ref f_InvalidTree_init)))
    (in_f_Refused_init : PySem.W.findIn K (.ref C_Refused) "__init__" = some (some (.ref f_Refused_init)))
    (in_f_NoRow_init : PySem.W.findIn K (.ref C_NoRow) "__init__" = some (some (.ref f_NoRow_init)))
    (in_f_NoService_init : PySem.W.findIn K (.ref C_NoService) "__init__" = some (some (.ref f_NoService_init)))
    (l_take : K.lookup f_take = some ⟨oc_take, od_take, .func (PySem.W.fnOf "_law_take" "_law_take" (defArgs s_take) (defBody s_take) (defScope s_take) .none kV_take dc_take pm_take an_take cd_take ct_take), sl_take⟩)
    (l_box : K.lookup f_box = some ⟨oc_box, od_box, .func (PySem.W.fnOf "_law_box" "_law_box" (defArgs s_box) (defBody s_box) (defScope s_box) .none kV_box dc_box pm_box an_box cd_box ct_box), sl_box⟩)
    (l_pick : K.lookup f_pick = some ⟨oc_pick, od_pick, .func (PySem.W.fnOf "_law_pick" "_law_pick" (defArgs s_pick) (defBody s_pick) (defScope s_pick) .none kV_pick dc_pick pm_pick an_pick cd_pick ct_pick), sl_pick⟩)
    (l_any : K.lookup f_any = some ⟨oc_any, od_any, .func (PySem.W.fnOf "_law_any" "_law_any" (defArgs s_any) (defBody s_any) (defScope s_any) .none kV_any dc_any pm_any an_any cd_any ct_any), sl_any⟩)
    (l_InvalidRow_init : K.lookup f_InvalidRow_init = some ⟨oc_InvalidRow_init, od_InvalidRow_init, .func (PySem.W.fnOf "__init__" "InvalidRow.__init__" (defArgs s_InvalidRow_init) (defBody s_InvalidRow_init) (defScope s_InvalidRow_init) .none kV_InvalidRow_init dc_InvalidRow_init pm_InvalidRow_init an_InvalidRow_init cd_InvalidRow_init ct_InvalidRow_init), sl_InvalidRow_init⟩)
    (l_InvalidService_init : K.lookup f_InvalidService_init = some ⟨oc_InvalidService_init, od_InvalidService_init, .func (PySem.W.fnOf "__init__" "InvalidService.__init__" (defArgs s_InvalidService_init) (defBody s_InvalidService_init) (defScope s_InvalidService_init) .none kV_InvalidService_init dc_InvalidService_init pm_InvalidService_init an_InvalidService_init cd_InvalidService_init ct_InvalidService_init), sl_InvalidService_init⟩)
    (l_InvalidBook_init : K.lookup f_InvalidBook_init = some ⟨oc_InvalidBook_init, od_InvalidBook_init, .func (PySem.W.fnOf "__init__" "InvalidBook.__init__" (defArgs s_InvalidBook_init) (defBody s_InvalidBook_init) (defScope s_InvalidBook_init) .none kV_InvalidBook_init dc_InvalidBook_init pm_InvalidBook_init an_InvalidBook_init cd_InvalidBook_init ct_InvalidBook_init), sl_InvalidBook_init⟩)
    (l_InvalidText_init : K.lookup f_InvalidText_init = some ⟨oc_InvalidText_init, od_InvalidText_init, .func (PySem.W.fnOf "__init__" "InvalidText.__init__" (defArgs s_InvalidText_init) (defBody s_InvalidText_init) (defScope s_InvalidText_init) .none kV_InvalidText_init dc_InvalidText_init pm_InvalidText_init an_InvalidText_init cd_InvalidText_init ct_InvalidText_init), sl_InvalidText_init⟩)
    (l_InvalidTree_init : K.lookup f_InvalidTree_init = some ⟨oc_InvalidTree_init, od_InvalidTree_init, .func (PySem.W.fnOf "__init__" "InvalidTree.__init__" (defArgs s_InvalidTree_init) (defBody s_InvalidTree_init) (defScope s_InvalidTree_init) .none kV_InvalidTree_init dc_InvalidTree_init pm_InvalidTree_init an_InvalidTree_init cd_InvalidTree_init ct_InvalidTree_init), sl_InvalidTree_init⟩)
    (l_Refused_init : K.lookup f_Refused_init = some ⟨oc_Refused_init, od_Refused_init, .func (PySem.W.fnOf "__init__" "Refused.__init__" (defArgs s_Refused_init) (defBody s_Refused_init) (defScope s_Refused_init) .none kV_Refused_init dc_Refused_init pm_Refused_init an_Refused_init cd_Refused_init ct_Refused_init), sl_Refused_init⟩)
    (l_NoRow_init : K.lookup f_NoRow_init = some ⟨oc_NoRow_init, od_NoRow_init, .func (PySem.W.fnOf "__init__" "NoRow.__init__" (defArgs s_NoRow_init) (defBody s_NoRow_init) (defScope s_NoRow_init) .none kV_NoRow_init dc_NoRow_init pm_NoRow_init an_NoRow_init cd_NoRow_init ct_NoRow_init), sl_NoRow_init⟩)
    (l_NoService_init : K.lookup f_NoService_init = some ⟨oc_NoService_init, od_NoService_init, .func (PySem.W.fnOf "__init__" "NoService.__init__" (defArgs s_NoService_init) (defBody s_NoService_init) (defScope s_NoService_init) .none kV_NoService_init dc_NoService_init pm_NoService_init an_NoService_init cd_NoService_init ct_NoService_init), sl_NoService_init⟩)
    (l_made : K.lookup f_made = some ⟨oc_made, od_made, .func (PySem.W.fnOf "_law_made" "_law_made" (defArgs s_made) (defBody s_made) (defScope s_made) .none kV_made dc_made pm_made an_made cd_made ct_made), sl_made⟩)
    (l_sorts : K.lookup f_sorts = some ⟨oc_sorts, od_sorts, .func (PySem.W.fnOf "_law_sorts" "_law_sorts" (defArgs s_sorts) (defBody s_sorts) (defScope s_sorts) .none kV_sorts dc_sorts pm_sorts an_sorts cd_sorts ct_sorts), sl_sorts⟩)
    (l_kept : K.lookup f_kept = some ⟨oc_kept, od_kept, .func (PySem.W.fnOf "_law_kept" "_law_kept" (defArgs s_kept) (defBody s_kept) (defScope s_kept) .none kV_kept dc_kept pm_kept an_kept cd_kept ct_kept), sl_kept⟩)
    (l_law : K.lookup f_law = some ⟨oc_law, od_law, .func (PySem.W.fnOf "law" "law" (defArgs s_law) (defBody s_law) (defScope s_law) .none kV_law dc_law pm_law an_law cd_law ct_law), sl_law⟩)
    (xL_C_InvalidRow : K.lookup C_InvalidRow = some (excClassObj nm_C_InvalidRow qn_C_InvalidRow C_InvalidRow N_C_InvalidRow bs_C_InvalidRow [.ref bC_C_InvalidRow, .type "ValueError", .type "Exception", .type "BaseException", .type "object"] true sn_C_InvalidRow sb_C_InvalidRow ab_C_InvalidRow co_C_InvalidRow dd_C_InvalidRow m0_C_InvalidRow m1_C_InvalidRow m2_C_InvalidRow m3_C_InvalidRow m5_C_InvalidRow "ValueError.__new__"))
    (xL_C_InvalidService : K.lookup C_InvalidService = some (excClassObj nm_C_InvalidService qn_C_InvalidService C_InvalidService N_C_InvalidService bs_C_InvalidService [.ref bC_C_InvalidService, .type "ValueError", .type "Exception", .type "BaseException", .type "object"] true sn_C_InvalidService sb_C_InvalidService ab_C_InvalidService co_C_InvalidService dd_C_InvalidService m0_C_InvalidService m1_C_InvalidService m2_C_InvalidService m3_C_InvalidService m5_C_InvalidService "ValueError.__new__"))
    (xL_C_InvalidBook : K.lookup C_InvalidBook = some (excClassObj nm_C_InvalidBook qn_C_InvalidBook C_InvalidBook N_C_InvalidBook bs_C_InvalidBook [.ref bC_C_InvalidBook, .type "ValueError", .type "Exception", .type "BaseException", .type "object"] true sn_C_InvalidBook sb_C_InvalidBook ab_C_InvalidBook co_C_InvalidBook dd_C_InvalidBook m0_C_InvalidBook m1_C_InvalidBook m2_C_InvalidBook m3_C_InvalidBook m5_C_InvalidBook "ValueError.__new__"))
    (xL_C_InvalidText : K.lookup C_InvalidText = some (excClassObj nm_C_InvalidText qn_C_InvalidText C_InvalidText N_C_InvalidText bs_C_InvalidText [.ref bC_C_InvalidText, .type "ValueError", .type "Exception", .type "BaseException", .type "object"] true sn_C_InvalidText sb_C_InvalidText ab_C_InvalidText co_C_InvalidText dd_C_InvalidText m0_C_InvalidText m1_C_InvalidText m2_C_InvalidText m3_C_InvalidText m5_C_InvalidText "ValueError.__new__"))
    (xL_C_InvalidTree : K.lookup C_InvalidTree = some (excClassObj nm_C_InvalidTree qn_C_InvalidTree C_InvalidTree N_C_InvalidTree bs_C_InvalidTree [.ref bC_C_InvalidTree, .type "ValueError", .type "Exception", .type "BaseException", .type "object"] true sn_C_InvalidTree sb_C_InvalidTree ab_C_InvalidTree co_C_InvalidTree dd_C_InvalidTree m0_C_InvalidTree m1_C_InvalidTree m2_C_InvalidTree m3_C_InvalidTree m5_C_InvalidTree "ValueError.__new__"))
    (xL_C_Refused : K.lookup C_Refused = some (excClassObj nm_C_Refused qn_C_Refused C_Refused N_C_Refused bs_C_Refused [.ref bC_C_Refused, .type "ValueError", .type "Exception", .type "BaseException", .type "object"] true sn_C_Refused sb_C_Refused ab_C_Refused co_C_Refused dd_C_Refused m0_C_Refused m1_C_Refused m2_C_Refused m3_C_Refused m5_C_Refused "ValueError.__new__"))
    (xL_C_NoRow : K.lookup C_NoRow = some (excClassObj nm_C_NoRow qn_C_NoRow C_NoRow N_C_NoRow bs_C_NoRow [.type "IndexError", .type "LookupError", .type "Exception", .type "BaseException", .type "object"] true sn_C_NoRow sb_C_NoRow ab_C_NoRow co_C_NoRow dd_C_NoRow m0_C_NoRow m1_C_NoRow m2_C_NoRow m3_C_NoRow m5_C_NoRow "IndexError.__new__"))
    (xL_C_NoService : K.lookup C_NoService = some (excClassObj nm_C_NoService qn_C_NoService C_NoService N_C_NoService bs_C_NoService [.type "KeyError", .type "LookupError", .type "Exception", .type "BaseException", .type "object"] true sn_C_NoService sb_C_NoService ab_C_NoService co_C_NoService dd_C_NoService m0_C_NoService m1_C_NoService m2_C_NoService m3_C_NoService m5_C_NoService "LookupError.__new__"))
    (cc_take : PySem.W.codeIn K cd_take "_law_take" = true)
    (k_take : PySem.W.keepIn K (.ref f_take) = true)
    (cc_box : PySem.W.codeIn K cd_box "_law_box" = true)
    (k_box : PySem.W.keepIn K (.ref f_box) = true)
    (cc_pick : PySem.W.codeIn K cd_pick "_law_pick" = true)
    (k_pick : PySem.W.keepIn K (.ref f_pick) = true)
    (cc_any : PySem.W.codeIn K cd_any "_law_any" = true)
    (k_any : PySem.W.keepIn K (.ref f_any) = true)
    (cc_InvalidRow_init : PySem.W.codeIn K cd_InvalidRow_init "InvalidRow.__init__" = true)
    (k_InvalidRow_init : PySem.W.keepIn K (.ref f_InvalidRow_init) = true)
    (cc_InvalidService_init : PySem.W.codeIn K cd_InvalidService_init "InvalidService.__init__" = true)
    (k_InvalidService_init : PySem.W.keepIn K (.ref f_InvalidService_init) = true)
    (cc_InvalidBook_init : PySem.W.codeIn K cd_InvalidBook_init "InvalidBook.__init__" = true)
    (k_InvalidBook_init : PySem.W.keepIn K (.ref f_InvalidBook_init) = true)
    (cc_InvalidText_init : PySem.W.codeIn K cd_InvalidText_init "InvalidText.__init__" = true)
    (k_InvalidText_init : PySem.W.keepIn K (.ref f_InvalidText_init) = true)
    (cc_InvalidTree_init : PySem.W.codeIn K cd_InvalidTree_init "InvalidTree.__init__" = true)
    (k_InvalidTree_init : PySem.W.keepIn K (.ref f_InvalidTree_init) = true)
    (cc_Refused_init : PySem.W.codeIn K cd_Refused_init "Refused.__init__" = true)
    (k_Refused_init : PySem.W.keepIn K (.ref f_Refused_init) = true)
    (cc_NoRow_init : PySem.W.codeIn K cd_NoRow_init "NoRow.__init__" = true)
    (k_NoRow_init : PySem.W.keepIn K (.ref f_NoRow_init) = true)
    (cc_NoService_init : PySem.W.codeIn K cd_NoService_init "NoService.__init__" = true)
    (k_NoService_init : PySem.W.keepIn K (.ref f_NoService_init) = true)
    (cc_made : PySem.W.codeIn K cd_made "_law_made" = true)
    (k_made : PySem.W.keepIn K (.ref f_made) = true)
    (cc_sorts : PySem.W.codeIn K cd_sorts "_law_sorts" = true)
    (k_sorts : PySem.W.keepIn K (.ref f_sorts) = true)
    (cc_kept : PySem.W.codeIn K cd_kept "_law_kept" = true)
    (k_kept : PySem.W.keepIn K (.ref f_kept) = true)
    (cc_law : PySem.W.codeIn K cd_law "law" = true)
    (k_law : PySem.W.keepIn K (.ref f_law) = true)
    (z_len : PySem.W.nsIn K mainGlobals "len" = some none)
    (z_int : PySem.W.nsIn K mainGlobals "int" = some none)
    (z_abs : PySem.W.nsIn K mainGlobals "abs" = some none)
    (z_range : PySem.W.nsIn K mainGlobals "range" = some none)
    (z_tuple : PySem.W.nsIn K mainGlobals "tuple" = some none)
    (sa_C_InvalidRow : PySem.W.findIn K (.ref C_InvalidRow) "__setattr__" = some (some (.builtin "object.__setattr__")))
    (eb_C_InvalidRow : PySem.W.subIn K (.ref C_InvalidRow) (.type "BaseException") = some true)
    (tyC_C_InvalidRow : PySem.W.typeIn K (.ref C_InvalidRow) = some (.type "type"))
    (kc_C_InvalidRow : PySem.W.keepIn K (.ref C_InvalidRow) = true)
    (q_nw_InvalidRow : PySem.W.findIn K (.ref C_InvalidRow) "word" = some none)
    (q_t_InvalidRow : PySem.W.typeIn K (.ref f_InvalidRow_init) = some (.type "function"))
    (ga_C_InvalidRow : PySem.W.findIn K (.ref C_InvalidRow) "__getattribute__" = some (some (.builtin "BaseException.__getattribute__")))
    (gg_C_InvalidRow : PySem.W.findIn K (.ref C_InvalidRow) "__getattr__" = some none)
    (hd_C_InvalidRow : PySem.W.hasDictIn K C_InvalidRow = true)
    (sa_C_InvalidService : PySem.W.findIn K (.ref C_InvalidService) "__setattr__" = some (some (.builtin "object.__setattr__")))
    (eb_C_InvalidService : PySem.W.subIn K (.ref C_InvalidService) (.type "BaseException") = some true)
    (tyC_C_InvalidService : PySem.W.typeIn K (.ref C_InvalidService) = some (.type "type"))
    (kc_C_InvalidService : PySem.W.keepIn K (.ref C_InvalidService) = true)
    (q_nw_InvalidService : PySem.W.findIn K (.ref C_InvalidService) "word" = some none)
    (q_t_InvalidService : PySem.W.typeIn K (.ref f_InvalidService_init) = some (.type "function"))
    (ga_C_InvalidService : PySem.W.findIn K (.ref C_InvalidService) "__getattribute__" = some (some (.builtin "BaseException.__getattribute__")))
    (gg_C_InvalidService : PySem.W.findIn K (.ref C_InvalidService) "__getattr__" = some none)
    (hd_C_InvalidService : PySem.W.hasDictIn K C_InvalidService = true)
    (sa_C_InvalidBook : PySem.W.findIn K (.ref C_InvalidBook) "__setattr__" = some (some (.builtin "object.__setattr__")))
    (eb_C_InvalidBook : PySem.W.subIn K (.ref C_InvalidBook) (.type "BaseException") = some true)
    (tyC_C_InvalidBook : PySem.W.typeIn K (.ref C_InvalidBook) = some (.type "type"))
    (kc_C_InvalidBook : PySem.W.keepIn K (.ref C_InvalidBook) = true)
    (q_nw_InvalidBook : PySem.W.findIn K (.ref C_InvalidBook) "word" = some none)
    (q_t_InvalidBook : PySem.W.typeIn K (.ref f_InvalidBook_init) = some (.type "function"))
    (ga_C_InvalidBook : PySem.W.findIn K (.ref C_InvalidBook) "__getattribute__" = some (some (.builtin "BaseException.__getattribute__")))
    (gg_C_InvalidBook : PySem.W.findIn K (.ref C_InvalidBook) "__getattr__" = some none)
    (hd_C_InvalidBook : PySem.W.hasDictIn K C_InvalidBook = true)
    (sa_C_InvalidText : PySem.W.findIn K (.ref C_InvalidText) "__setattr__" = some (some (.builtin "object.__setattr__")))
    (eb_C_InvalidText : PySem.W.subIn K (.ref C_InvalidText) (.type "BaseException") = some true)
    (tyC_C_InvalidText : PySem.W.typeIn K (.ref C_InvalidText) = some (.type "type"))
    (kc_C_InvalidText : PySem.W.keepIn K (.ref C_InvalidText) = true)
    (q_nw_InvalidText : PySem.W.findIn K (.ref C_InvalidText) "at" = some none)
    (q_t_InvalidText : PySem.W.typeIn K (.ref f_InvalidText_init) = some (.type "function"))
    (ga_C_InvalidText : PySem.W.findIn K (.ref C_InvalidText) "__getattribute__" = some (some (.builtin "BaseException.__getattribute__")))
    (gg_C_InvalidText : PySem.W.findIn K (.ref C_InvalidText) "__getattr__" = some none)
    (hd_C_InvalidText : PySem.W.hasDictIn K C_InvalidText = true)
    (sa_C_InvalidTree : PySem.W.findIn K (.ref C_InvalidTree) "__setattr__" = some (some (.builtin "object.__setattr__")))
    (eb_C_InvalidTree : PySem.W.subIn K (.ref C_InvalidTree) (.type "BaseException") = some true)
    (tyC_C_InvalidTree : PySem.W.typeIn K (.ref C_InvalidTree) = some (.type "type"))
    (kc_C_InvalidTree : PySem.W.keepIn K (.ref C_InvalidTree) = true)
    (q_nw_InvalidTree : PySem.W.findIn K (.ref C_InvalidTree) "word" = some none)
    (q_t_InvalidTree : PySem.W.typeIn K (.ref f_InvalidTree_init) = some (.type "function"))
    (ga_C_InvalidTree : PySem.W.findIn K (.ref C_InvalidTree) "__getattribute__" = some (some (.builtin "BaseException.__getattribute__")))
    (gg_C_InvalidTree : PySem.W.findIn K (.ref C_InvalidTree) "__getattr__" = some none)
    (hd_C_InvalidTree : PySem.W.hasDictIn K C_InvalidTree = true)
    (sa_C_Refused : PySem.W.findIn K (.ref C_Refused) "__setattr__" = some (some (.builtin "object.__setattr__")))
    (eb_C_Refused : PySem.W.subIn K (.ref C_Refused) (.type "BaseException") = some true)
    (tyC_C_Refused : PySem.W.typeIn K (.ref C_Refused) = some (.type "type"))
    (kc_C_Refused : PySem.W.keepIn K (.ref C_Refused) = true)
    (q_nw_Refused : PySem.W.findIn K (.ref C_Refused) "word" = some none)
    (q_t_Refused : PySem.W.typeIn K (.ref f_Refused_init) = some (.type "function"))
    (ga_C_Refused : PySem.W.findIn K (.ref C_Refused) "__getattribute__" = some (some (.builtin "BaseException.__getattribute__")))
    (gg_C_Refused : PySem.W.findIn K (.ref C_Refused) "__getattr__" = some none)
    (hd_C_Refused : PySem.W.hasDictIn K C_Refused = true)
    (sa_C_NoRow : PySem.W.findIn K (.ref C_NoRow) "__setattr__" = some (some (.builtin "object.__setattr__")))
    (eb_C_NoRow : PySem.W.subIn K (.ref C_NoRow) (.type "BaseException") = some true)
    (tyC_C_NoRow : PySem.W.typeIn K (.ref C_NoRow) = some (.type "type"))
    (kc_C_NoRow : PySem.W.keepIn K (.ref C_NoRow) = true)
    (q_nw_NoRow : PySem.W.findIn K (.ref C_NoRow) "at" = some none)
    (q_t_NoRow : PySem.W.typeIn K (.ref f_NoRow_init) = some (.type "function"))
    (ga_C_NoRow : PySem.W.findIn K (.ref C_NoRow) "__getattribute__" = some (some (.builtin "BaseException.__getattribute__")))
    (gg_C_NoRow : PySem.W.findIn K (.ref C_NoRow) "__getattr__" = some none)
    (hd_C_NoRow : PySem.W.hasDictIn K C_NoRow = true)
    (sa_C_NoService : PySem.W.findIn K (.ref C_NoService) "__setattr__" = some (some (.builtin "object.__setattr__")))
    (eb_C_NoService : PySem.W.subIn K (.ref C_NoService) (.type "BaseException") = some true)
    (tyC_C_NoService : PySem.W.typeIn K (.ref C_NoService) = some (.type "type"))
    (kc_C_NoService : PySem.W.keepIn K (.ref C_NoService) = true)
    (q_nw_NoService : PySem.W.findIn K (.ref C_NoService) "name" = some none)
    (q_t_NoService : PySem.W.typeIn K (.ref f_NoService_init) = some (.type "function"))
    (ga_C_NoService : PySem.W.findIn K (.ref C_NoService) "__getattribute__" = some (some (.builtin "BaseException.__getattribute__")))
    (gg_C_NoService : PySem.W.findIn K (.ref C_NoService) "__getattr__" = some none)
    (hd_C_NoService : PySem.W.hasDictIn K C_NoService = true)
    (q_xc_Mismatch : PySem.W.excIn K C_Mismatch [.type "ValueError", .type "Exception", .type "BaseException", .type "object"] "ValueError.__new__" = true)
    (q_kp_Mismatch : PySem.W.keepIn K (.ref C_Mismatch) = true)
    (q_xc_InvalidCommand : PySem.W.excIn K C_InvalidCommand [.type "ValueError", .type "Exception", .type "BaseException", .type "object"] "ValueError.__new__" = true)
    (q_kp_InvalidCommand : PySem.W.keepIn K (.ref C_InvalidCommand) = true)
    (z_ValueError : PySem.W.nsIn K mainGlobals "ValueError" = some none)
    (z_IndexError : PySem.W.nsIn K mainGlobals "IndexError" = some none)
    (z_KeyError : PySem.W.nsIn K mainGlobals "KeyError" = some none)
    (z_isinstance : PySem.W.nsIn K mainGlobals "isinstance" = some none)
    (z_enumerate : PySem.W.nsIn K mainGlobals "enumerate" = some none)
    (z_repr : PySem.W.nsIn K mainGlobals "repr" = some none)
    (ca_C_InvalidRow : PySem.W.findIn K (.ref C_InvalidRow) "__class__" = some (some (.builtin "object.__class__")))
    (cg_ : PySem.W.specialIn K (.builtin "object.__class__") "__get__" = some (some (.builtin "getset_descriptor.__get__")))
    (ck_ : PySem.W.takesIn K (.builtin "object.__class__") = some true)
    (cm_C_InvalidRow : PySem.W.mroIn K C_InvalidRow (.type "object") = some true)
    (ca_C_InvalidService : PySem.W.findIn K (.ref C_InvalidService) "__class__" = some (some (.builtin "object.__class__")))
    (cm_C_InvalidService : PySem.W.mroIn K C_InvalidService (.type "object") = some true)
    (ca_C_InvalidBook : PySem.W.findIn K (.ref C_InvalidBook) "__class__" = some (some (.builtin "object.__class__")))
    (cm_C_InvalidBook : PySem.W.mroIn K C_InvalidBook (.type "object") = some true)
    (ca_C_InvalidText : PySem.W.findIn K (.ref C_InvalidText) "__class__" = some (some (.builtin "object.__class__")))
    (cm_C_InvalidText : PySem.W.mroIn K C_InvalidText (.type "object") = some true)
    (ca_C_InvalidTree : PySem.W.findIn K (.ref C_InvalidTree) "__class__" = some (some (.builtin "object.__class__")))
    (cm_C_InvalidTree : PySem.W.mroIn K C_InvalidTree (.type "object") = some true)
    (ca_C_Refused : PySem.W.findIn K (.ref C_Refused) "__class__" = some (some (.builtin "object.__class__")))
    (cm_C_Refused : PySem.W.mroIn K C_Refused (.type "object") = some true)
    (ca_C_NoRow : PySem.W.findIn K (.ref C_NoRow) "__class__" = some (some (.builtin "object.__class__")))
    (cm_C_NoRow : PySem.W.mroIn K C_NoRow (.type "object") = some true)
    (ca_C_NoService : PySem.W.findIn K (.ref C_NoService) "__class__" = some (some (.builtin "object.__class__")))
    (cm_C_NoService : PySem.W.mroIn K C_NoService (.type "object") = some true)
    (ga_C_Mismatch : PySem.W.findIn K (.ref C_Mismatch) "__getattribute__" = some (some (.builtin "BaseException.__getattribute__")))
    (gg_C_Mismatch : PySem.W.findIn K (.ref C_Mismatch) "__getattr__" = some none)
    (eb_C_Mismatch : PySem.W.subIn K (.ref C_Mismatch) (.type "BaseException") = some true)
    (hd_C_Mismatch : PySem.W.hasDictIn K C_Mismatch = true)
    (ca_C_Mismatch : PySem.W.findIn K (.ref C_Mismatch) "__class__" = some (some (.builtin "object.__class__")))
    (cm_C_Mismatch : PySem.W.mroIn K C_Mismatch (.type "object") = some true)
    (ga_C_InvalidCommand : PySem.W.findIn K (.ref C_InvalidCommand) "__getattribute__" = some (some (.builtin "BaseException.__getattribute__")))
    (gg_C_InvalidCommand : PySem.W.findIn K (.ref C_InvalidCommand) "__getattr__" = some none)
    (eb_C_InvalidCommand : PySem.W.subIn K (.ref C_InvalidCommand) (.type "BaseException") = some true)
    (hd_C_InvalidCommand : PySem.W.hasDictIn K C_InvalidCommand = true)
    (ca_C_InvalidCommand : PySem.W.findIn K (.ref C_InvalidCommand) "__class__" = some (some (.builtin "object.__class__")))
    (cm_C_InvalidCommand : PySem.W.mroIn K C_InvalidCommand (.type "object") = some true)
    (isC_C_InvalidRow : PySem.W.isClsIn K C_InvalidRow = true)
    (sub_C_InvalidRow_C_InvalidRow : PySem.W.subIn K (.ref C_InvalidRow) (.ref C_InvalidRow) = some true)
    (isC_C_InvalidService : PySem.W.isClsIn K C_InvalidService = true)
    (sub_C_InvalidRow_C_InvalidService : PySem.W.subIn K (.ref C_InvalidRow) (.ref C_InvalidService) = some false)
    (ne_C_InvalidRow_C_InvalidService : C_InvalidRow ≠ C_InvalidService)
    (isC_C_InvalidBook : PySem.W.isClsIn K C_InvalidBook = true)
    (sub_C_InvalidRow_C_InvalidBook : PySem.W.subIn K (.ref C_InvalidRow) (.ref C_InvalidBook) = some false)
    (ne_C_InvalidRow_C_InvalidBook : C_InvalidRow ≠ C_InvalidBook)
    (isC_C_InvalidText : PySem.W.isClsIn K C_InvalidText = true)
    (sub_C_InvalidRow_C_InvalidText : PySem.W.subIn K (.ref C_InvalidRow) (.ref C_InvalidText) = some false)
    (ne_C_InvalidRow_C_InvalidText : C_InvalidRow ≠ C_InvalidText)
    (isC_C_InvalidTree : PySem.W.isClsIn K C_InvalidTree = true)
    (sub_C_InvalidRow_C_InvalidTree : PySem.W.subIn K (.ref C_InvalidRow) (.ref C_InvalidTree) = some false)
    (ne_C_InvalidRow_C_InvalidTree : C_InvalidRow ≠ C_InvalidTree)
    (isC_C_Refused : PySem.W.isClsIn K C_Refused = true)
    (sub_C_InvalidRow_C_Refused : PySem.W.subIn K (.ref C_InvalidRow) (.ref C_Refused) = some false)
    (ne_C_InvalidRow_C_Refused : C_InvalidRow ≠ C_Refused)
    (isC_C_NoRow : PySem.W.isClsIn K C_NoRow = true)
    (sub_C_InvalidRow_C_NoRow : PySem.W.subIn K (.ref C_InvalidRow) (.ref C_NoRow) = some false)
    (ne_C_InvalidRow_C_NoRow : C_InvalidRow ≠ C_NoRow)
    (isC_C_NoService : PySem.W.isClsIn K C_NoService = true)
    (sub_C_InvalidRow_C_NoService : PySem.W.subIn K (.ref C_InvalidRow) (.ref C_NoService) = some false)
    (ne_C_InvalidRow_C_NoService : C_InvalidRow ≠ C_NoService)
    (isC_C_Mismatch : PySem.W.isClsIn K C_Mismatch = true)
    (tyC_C_Mismatch : PySem.W.typeIn K (.ref C_Mismatch) = some (.type "type"))
    (sub_C_InvalidRow_C_Mismatch : PySem.W.subIn K (.ref C_InvalidRow) (.ref C_Mismatch) = some false)
    (ne_C_InvalidRow_C_Mismatch : C_InvalidRow ≠ C_Mismatch)
    (isC_C_InvalidCommand : PySem.W.isClsIn K C_InvalidCommand = true)
    (tyC_C_InvalidCommand : PySem.W.typeIn K (.ref C_InvalidCommand) = some (.type "type"))
    (sub_C_InvalidRow_C_InvalidCommand : PySem.W.subIn K (.ref C_InvalidRow) (.ref C_InvalidCommand) = some false)
    (ne_C_InvalidRow_C_InvalidCommand : C_InvalidRow ≠ C_InvalidCommand)
    (sub_C_InvalidService_C_InvalidRow : PySem.W.subIn K (.ref C_InvalidService) (.ref C_InvalidRow) = some false)
    (ne_C_InvalidService_C_InvalidRow : C_InvalidService ≠ C_InvalidRow)
    (sub_C_InvalidService_C_InvalidService : PySem.W.subIn K (.ref C_InvalidService) (.ref C_InvalidService) = some true)
    (sub_C_InvalidService_C_InvalidBook : PySem.W.subIn K (.ref C_InvalidService) (.ref C_InvalidBook) = some false)
    (ne_C_InvalidService_C_InvalidBook : C_InvalidService ≠ C_InvalidBook)
    (sub_C_InvalidService_C_InvalidText : PySem.W.subIn K (.ref C_InvalidService) (.ref C_InvalidText) = some false)
    (ne_C_InvalidService_C_InvalidText : C_InvalidService ≠ C_InvalidText)
    (sub_C_InvalidService_C_InvalidTree : PySem.W.subIn K (.ref C_InvalidService) (.ref C_InvalidTree) = some false)
    (ne_C_InvalidService_C_InvalidTree : C_InvalidService ≠ C_InvalidTree)
    (sub_C_InvalidService_C_Refused : PySem.W.subIn K (.ref C_InvalidService) (.ref C_Refused) = some false)
    (ne_C_InvalidService_C_Refused : C_InvalidService ≠ C_Refused)
    (sub_C_InvalidService_C_NoRow : PySem.W.subIn K (.ref C_InvalidService) (.ref C_NoRow) = some false)
    (ne_C_InvalidService_C_NoRow : C_InvalidService ≠ C_NoRow)
    (sub_C_InvalidService_C_NoService : PySem.W.subIn K (.ref C_InvalidService) (.ref C_NoService) = some false)
    (ne_C_InvalidService_C_NoService : C_InvalidService ≠ C_NoService)
    (sub_C_InvalidService_C_Mismatch : PySem.W.subIn K (.ref C_InvalidService) (.ref C_Mismatch) = some false)
    (ne_C_InvalidService_C_Mismatch : C_InvalidService ≠ C_Mismatch)
    (sub_C_InvalidService_C_InvalidCommand : PySem.W.subIn K (.ref C_InvalidService) (.ref C_InvalidCommand) = some false)
    (ne_C_InvalidService_C_InvalidCommand : C_InvalidService ≠ C_InvalidCommand)
    (sub_C_InvalidBook_C_InvalidRow : PySem.W.subIn K (.ref C_InvalidBook) (.ref C_InvalidRow) = some false)
    (ne_C_InvalidBook_C_InvalidRow : C_InvalidBook ≠ C_InvalidRow)
    (sub_C_InvalidBook_C_InvalidService : PySem.W.subIn K (.ref C_InvalidBook) (.ref C_InvalidService) = some false)
    (ne_C_InvalidBook_C_InvalidService : C_InvalidBook ≠ C_InvalidService)
    (sub_C_InvalidBook_C_InvalidBook : PySem.W.subIn K (.ref C_InvalidBook) (.ref C_InvalidBook) = some true)
    (sub_C_InvalidBook_C_InvalidText : PySem.W.subIn K (.ref C_InvalidBook) (.ref C_InvalidText) = some false)
    (ne_C_InvalidBook_C_InvalidText : C_InvalidBook ≠ C_InvalidText)
    (sub_C_InvalidBook_C_InvalidTree : PySem.W.subIn K (.ref C_InvalidBook) (.ref C_InvalidTree) = some false)
    (ne_C_InvalidBook_C_InvalidTree : C_InvalidBook ≠ C_InvalidTree)
    (sub_C_InvalidBook_C_Refused : PySem.W.subIn K (.ref C_InvalidBook) (.ref C_Refused) = some false)
    (ne_C_InvalidBook_C_Refused : C_InvalidBook ≠ C_Refused)
    (sub_C_InvalidBook_C_NoRow : PySem.W.subIn K (.ref C_InvalidBook) (.ref C_NoRow) = some false)
    (ne_C_InvalidBook_C_NoRow : C_InvalidBook ≠ C_NoRow)
    (sub_C_InvalidBook_C_NoService : PySem.W.subIn K (.ref C_InvalidBook) (.ref C_NoService) = some false)
    (ne_C_InvalidBook_C_NoService : C_InvalidBook ≠ C_NoService)
    (sub_C_InvalidBook_C_Mismatch : PySem.W.subIn K (.ref C_InvalidBook) (.ref C_Mismatch) = some false)
    (ne_C_InvalidBook_C_Mismatch : C_InvalidBook ≠ C_Mismatch)
    (sub_C_InvalidBook_C_InvalidCommand : PySem.W.subIn K (.ref C_InvalidBook) (.ref C_InvalidCommand) = some false)
    (ne_C_InvalidBook_C_InvalidCommand : C_InvalidBook ≠ C_InvalidCommand)
    (sub_C_InvalidText_C_InvalidRow : PySem.W.subIn K (.ref C_InvalidText) (.ref C_InvalidRow) = some false)
    (ne_C_InvalidText_C_InvalidRow : C_InvalidText ≠ C_InvalidRow)
    (sub_C_InvalidText_C_InvalidService : PySem.W.subIn K (.ref C_InvalidText) (.ref C_InvalidService) = some false)
    (ne_C_InvalidText_C_InvalidService : C_InvalidText ≠ C_InvalidService)
    (sub_C_InvalidText_C_InvalidBook : PySem.W.subIn K (.ref C_InvalidText) (.ref C_InvalidBook) = some false)
    (ne_C_InvalidText_C_InvalidBook : C_InvalidText ≠ C_InvalidBook)
    (sub_C_InvalidText_C_InvalidText : PySem.W.subIn K (.ref C_InvalidText) (.ref C_InvalidText) = some true)
    (sub_C_InvalidText_C_InvalidTree : PySem.W.subIn K (.ref C_InvalidText) (.ref C_InvalidTree) = some false)
    (ne_C_InvalidText_C_InvalidTree : C_InvalidText ≠ C_InvalidTree)
    (sub_C_InvalidText_C_Refused : PySem.W.subIn K (.ref C_InvalidText) (.ref C_Refused) = some false)
    (ne_C_InvalidText_C_Refused : C_InvalidText ≠ C_Refused)
    (sub_C_InvalidText_C_NoRow : PySem.W.subIn K (.ref C_InvalidText) (.ref C_NoRow) = some false)
    (ne_C_InvalidText_C_NoRow : C_InvalidText ≠ C_NoRow)
    (sub_C_InvalidText_C_NoService : PySem.W.subIn K (.ref C_InvalidText) (.ref C_NoService) = some false)
    (ne_C_InvalidText_C_NoService : C_InvalidText ≠ C_NoService)
    (sub_C_InvalidText_C_Mismatch : PySem.W.subIn K (.ref C_InvalidText) (.ref C_Mismatch) = some false)
    (ne_C_InvalidText_C_Mismatch : C_InvalidText ≠ C_Mismatch)
    (sub_C_InvalidText_C_InvalidCommand : PySem.W.subIn K (.ref C_InvalidText) (.ref C_InvalidCommand) = some false)
    (ne_C_InvalidText_C_InvalidCommand : C_InvalidText ≠ C_InvalidCommand)
    (sub_C_InvalidTree_C_InvalidRow : PySem.W.subIn K (.ref C_InvalidTree) (.ref C_InvalidRow) = some false)
    (ne_C_InvalidTree_C_InvalidRow : C_InvalidTree ≠ C_InvalidRow)
    (sub_C_InvalidTree_C_InvalidService : PySem.W.subIn K (.ref C_InvalidTree) (.ref C_InvalidService) = some false)
    (ne_C_InvalidTree_C_InvalidService : C_InvalidTree ≠ C_InvalidService)
    (sub_C_InvalidTree_C_InvalidBook : PySem.W.subIn K (.ref C_InvalidTree) (.ref C_InvalidBook) = some false)
    (ne_C_InvalidTree_C_InvalidBook : C_InvalidTree ≠ C_InvalidBook)
    (sub_C_InvalidTree_C_InvalidText : PySem.W.subIn K (.ref C_InvalidTree) (.ref C_InvalidText) = some false)
    (ne_C_InvalidTree_C_InvalidText : C_InvalidTree ≠ C_InvalidText)
    (sub_C_InvalidTree_C_InvalidTree : PySem.W.subIn K (.ref C_InvalidTree) (.ref C_InvalidTree) = some true)
    (sub_C_InvalidTree_C_Refused : PySem.W.subIn K (.ref C_InvalidTree) (.ref C_Refused) = some false)
    (ne_C_InvalidTree_C_Refused : C_InvalidTree ≠ C_Refused)
    (sub_C_InvalidTree_C_NoRow : PySem.W.subIn K (.ref C_InvalidTree) (.ref C_NoRow) = some false)
    (ne_C_InvalidTree_C_NoRow : C_InvalidTree ≠ C_NoRow)
    (sub_C_InvalidTree_C_NoService : PySem.W.subIn K (.ref C_InvalidTree) (.ref C_NoService) = some false)
    (ne_C_InvalidTree_C_NoService : C_InvalidTree ≠ C_NoService)
    (sub_C_InvalidTree_C_Mismatch : PySem.W.subIn K (.ref C_InvalidTree) (.ref C_Mismatch) = some false)
    (ne_C_InvalidTree_C_Mismatch : C_InvalidTree ≠ C_Mismatch)
    (sub_C_InvalidTree_C_InvalidCommand : PySem.W.subIn K (.ref C_InvalidTree) (.ref C_InvalidCommand) = some false)
    (ne_C_InvalidTree_C_InvalidCommand : C_InvalidTree ≠ C_InvalidCommand)
    (sub_C_Refused_C_InvalidRow : PySem.W.subIn K (.ref C_Refused) (.ref C_InvalidRow) = some false)
    (ne_C_Refused_C_InvalidRow : C_Refused ≠ C_InvalidRow)
    (sub_C_Refused_C_InvalidService : PySem.W.subIn K (.ref C_Refused) (.ref C_InvalidService) = some false)
    (ne_C_Refused_C_InvalidService : C_Refused ≠ C_InvalidService)
    (sub_C_Refused_C_InvalidBook : PySem.W.subIn K (.ref C_Refused) (.ref C_InvalidBook) = some false)
    (ne_C_Refused_C_InvalidBook : C_Refused ≠ C_InvalidBook)
    (sub_C_Refused_C_InvalidText : PySem.W.subIn K (.ref C_Refused) (.ref C_InvalidText) = some false)
    (ne_C_Refused_C_InvalidText : C_Refused ≠ C_InvalidText)
    (sub_C_Refused_C_InvalidTree : PySem.W.subIn K (.ref C_Refused) (.ref C_InvalidTree) = some false)
    (ne_C_Refused_C_InvalidTree : C_Refused ≠ C_InvalidTree)
    (sub_C_Refused_C_Refused : PySem.W.subIn K (.ref C_Refused) (.ref C_Refused) = some true)
    (sub_C_Refused_C_NoRow : PySem.W.subIn K (.ref C_Refused) (.ref C_NoRow) = some false)
    (ne_C_Refused_C_NoRow : C_Refused ≠ C_NoRow)
    (sub_C_Refused_C_NoService : PySem.W.subIn K (.ref C_Refused) (.ref C_NoService) = some false)
    (ne_C_Refused_C_NoService : C_Refused ≠ C_NoService)
    (sub_C_Refused_C_Mismatch : PySem.W.subIn K (.ref C_Refused) (.ref C_Mismatch) = some false)
    (ne_C_Refused_C_Mismatch : C_Refused ≠ C_Mismatch)
    (sub_C_Refused_C_InvalidCommand : PySem.W.subIn K (.ref C_Refused) (.ref C_InvalidCommand) = some false)
    (ne_C_Refused_C_InvalidCommand : C_Refused ≠ C_InvalidCommand)
    (sub_C_NoRow_C_InvalidRow : PySem.W.subIn K (.ref C_NoRow) (.ref C_InvalidRow) = some false)
    (ne_C_NoRow_C_InvalidRow : C_NoRow ≠ C_InvalidRow)
    (sub_C_NoRow_C_InvalidService : PySem.W.subIn K (.ref C_NoRow) (.ref C_InvalidService) = some false)
    (ne_C_NoRow_C_InvalidService : C_NoRow ≠ C_InvalidService)
    (sub_C_NoRow_C_InvalidBook : PySem.W.subIn K (.ref C_NoRow) (.ref C_InvalidBook) = some false)
    (ne_C_NoRow_C_InvalidBook : C_NoRow ≠ C_InvalidBook)
    (sub_C_NoRow_C_InvalidText : PySem.W.subIn K (.ref C_NoRow) (.ref C_InvalidText) = some false)
    (ne_C_NoRow_C_InvalidText : C_NoRow ≠ C_InvalidText)
    (sub_C_NoRow_C_InvalidTree : PySem.W.subIn K (.ref C_NoRow) (.ref C_InvalidTree) = some false)
    (ne_C_NoRow_C_InvalidTree : C_NoRow ≠ C_InvalidTree)
    (sub_C_NoRow_C_Refused : PySem.W.subIn K (.ref C_NoRow) (.ref C_Refused) = some false)
    (ne_C_NoRow_C_Refused : C_NoRow ≠ C_Refused)
    (sub_C_NoRow_C_NoRow : PySem.W.subIn K (.ref C_NoRow) (.ref C_NoRow) = some true)
    (sub_C_NoRow_C_NoService : PySem.W.subIn K (.ref C_NoRow) (.ref C_NoService) = some false)
    (ne_C_NoRow_C_NoService : C_NoRow ≠ C_NoService)
    (sub_C_NoRow_C_Mismatch : PySem.W.subIn K (.ref C_NoRow) (.ref C_Mismatch) = some false)
    (ne_C_NoRow_C_Mismatch : C_NoRow ≠ C_Mismatch)
    (sub_C_NoRow_C_InvalidCommand : PySem.W.subIn K (.ref C_NoRow) (.ref C_InvalidCommand) = some false)
    (ne_C_NoRow_C_InvalidCommand : C_NoRow ≠ C_InvalidCommand)
    (sub_C_NoService_C_InvalidRow : PySem.W.subIn K (.ref C_NoService) (.ref C_InvalidRow) = some false)
    (ne_C_NoService_C_InvalidRow : C_NoService ≠ C_InvalidRow)
    (sub_C_NoService_C_InvalidService : PySem.W.subIn K (.ref C_NoService) (.ref C_InvalidService) = some false)
    (ne_C_NoService_C_InvalidService : C_NoService ≠ C_InvalidService)
    (sub_C_NoService_C_InvalidBook : PySem.W.subIn K (.ref C_NoService) (.ref C_InvalidBook) = some false)
    (ne_C_NoService_C_InvalidBook : C_NoService ≠ C_InvalidBook)
    (sub_C_NoService_C_InvalidText : PySem.W.subIn K (.ref C_NoService) (.ref C_InvalidText) = some false)
    (ne_C_NoService_C_InvalidText : C_NoService ≠ C_InvalidText)
    (sub_C_NoService_C_InvalidTree : PySem.W.subIn K (.ref C_NoService) (.ref C_InvalidTree) = some false)
    (ne_C_NoService_C_InvalidTree : C_NoService ≠ C_InvalidTree)
    (sub_C_NoService_C_Refused : PySem.W.subIn K (.ref C_NoService) (.ref C_Refused) = some false)
    (ne_C_NoService_C_Refused : C_NoService ≠ C_Refused)
    (sub_C_NoService_C_NoRow : PySem.W.subIn K (.ref C_NoService) (.ref C_NoRow) = some false)
    (ne_C_NoService_C_NoRow : C_NoService ≠ C_NoRow)
    (sub_C_NoService_C_NoService : PySem.W.subIn K (.ref C_NoService) (.ref C_NoService) = some true)
    (sub_C_NoService_C_Mismatch : PySem.W.subIn K (.ref C_NoService) (.ref C_Mismatch) = some false)
    (ne_C_NoService_C_Mismatch : C_NoService ≠ C_Mismatch)
    (sub_C_NoService_C_InvalidCommand : PySem.W.subIn K (.ref C_NoService) (.ref C_InvalidCommand) = some false)
    (ne_C_NoService_C_InvalidCommand : C_NoService ≠ C_InvalidCommand)
    (sub_C_Mismatch_C_InvalidRow : PySem.W.subIn K (.ref C_Mismatch) (.ref C_InvalidRow) = some false)
    (ne_C_Mismatch_C_InvalidRow : C_Mismatch ≠ C_InvalidRow)
    (sub_C_Mismatch_C_InvalidService : PySem.W.subIn K (.ref C_Mismatch) (.ref C_InvalidService) = some false)
    (ne_C_Mismatch_C_InvalidService : C_Mismatch ≠ C_InvalidService)
    (sub_C_Mismatch_C_InvalidBook : PySem.W.subIn K (.ref C_Mismatch) (.ref C_InvalidBook) = some false)
    (ne_C_Mismatch_C_InvalidBook : C_Mismatch ≠ C_InvalidBook)
    (sub_C_Mismatch_C_InvalidText : PySem.W.subIn K (.ref C_Mismatch) (.ref C_InvalidText) = some false)
    (ne_C_Mismatch_C_InvalidText : C_Mismatch ≠ C_InvalidText)
    (sub_C_Mismatch_C_InvalidTree : PySem.W.subIn K (.ref C_Mismatch) (.ref C_InvalidTree) = some false)
    (ne_C_Mismatch_C_InvalidTree : C_Mismatch ≠ C_InvalidTree)
    (sub_C_Mismatch_C_Refused : PySem.W.subIn K (.ref C_Mismatch) (.ref C_Refused) = some false)
    (ne_C_Mismatch_C_Refused : C_Mismatch ≠ C_Refused)
    (sub_C_Mismatch_C_NoRow : PySem.W.subIn K (.ref C_Mismatch) (.ref C_NoRow) = some false)
    (ne_C_Mismatch_C_NoRow : C_Mismatch ≠ C_NoRow)
    (sub_C_Mismatch_C_NoService : PySem.W.subIn K (.ref C_Mismatch) (.ref C_NoService) = some false)
    (ne_C_Mismatch_C_NoService : C_Mismatch ≠ C_NoService)
    (sub_C_Mismatch_C_Mismatch : PySem.W.subIn K (.ref C_Mismatch) (.ref C_Mismatch) = some true)
    (sub_C_Mismatch_C_InvalidCommand : PySem.W.subIn K (.ref C_Mismatch) (.ref C_InvalidCommand) = some false)
    (ne_C_Mismatch_C_InvalidCommand : C_Mismatch ≠ C_InvalidCommand)
    (sub_C_InvalidCommand_C_InvalidRow : PySem.W.subIn K (.ref C_InvalidCommand) (.ref C_InvalidRow) = some false)
    (ne_C_InvalidCommand_C_InvalidRow : C_InvalidCommand ≠ C_InvalidRow)
    (sub_C_InvalidCommand_C_InvalidService : PySem.W.subIn K (.ref C_InvalidCommand) (.ref C_InvalidService) = some false)
    (ne_C_InvalidCommand_C_InvalidService : C_InvalidCommand ≠ C_InvalidService)
    (sub_C_InvalidCommand_C_InvalidBook : PySem.W.subIn K (.ref C_InvalidCommand) (.ref C_InvalidBook) = some false)
    (ne_C_InvalidCommand_C_InvalidBook : C_InvalidCommand ≠ C_InvalidBook)
    (sub_C_InvalidCommand_C_InvalidText : PySem.W.subIn K (.ref C_InvalidCommand) (.ref C_InvalidText) = some false)
    (ne_C_InvalidCommand_C_InvalidText : C_InvalidCommand ≠ C_InvalidText)
    (sub_C_InvalidCommand_C_InvalidTree : PySem.W.subIn K (.ref C_InvalidCommand) (.ref C_InvalidTree) = some false)
    (ne_C_InvalidCommand_C_InvalidTree : C_InvalidCommand ≠ C_InvalidTree)
    (sub_C_InvalidCommand_C_Refused : PySem.W.subIn K (.ref C_InvalidCommand) (.ref C_Refused) = some false)
    (ne_C_InvalidCommand_C_Refused : C_InvalidCommand ≠ C_Refused)
    (sub_C_InvalidCommand_C_NoRow : PySem.W.subIn K (.ref C_InvalidCommand) (.ref C_NoRow) = some false)
    (ne_C_InvalidCommand_C_NoRow : C_InvalidCommand ≠ C_NoRow)
    (sub_C_InvalidCommand_C_NoService : PySem.W.subIn K (.ref C_InvalidCommand) (.ref C_NoService) = some false)
    (ne_C_InvalidCommand_C_NoService : C_InvalidCommand ≠ C_NoService)
    (sub_C_InvalidCommand_C_Mismatch : PySem.W.subIn K (.ref C_InvalidCommand) (.ref C_Mismatch) = some false)
    (ne_C_InvalidCommand_C_Mismatch : C_InvalidCommand ≠ C_Mismatch)
    (sub_C_InvalidCommand_C_InvalidCommand : PySem.W.subIn K (.ref C_InvalidCommand) (.ref C_InvalidCommand) = some true)
    (isC_C_TraceError : PySem.W.isClsIn K C_TraceError = true)
    (tyC_C_TraceError : PySem.W.typeIn K (.ref C_TraceError) = some (.type "type"))
    (sub_C_InvalidRow_C_TraceError : PySem.W.subIn K (.ref C_InvalidRow) (.ref C_TraceError) = some true)
    (sub_C_InvalidService_C_TraceError : PySem.W.subIn K (.ref C_InvalidService) (.ref C_TraceError) = some true)
    (sub_C_InvalidBook_C_TraceError : PySem.W.subIn K (.ref C_InvalidBook) (.ref C_TraceError) = some true)
    (sub_C_InvalidText_C_TraceError : PySem.W.subIn K (.ref C_InvalidText) (.ref C_TraceError) = some true)
    (sub_C_InvalidTree_C_TraceError : PySem.W.subIn K (.ref C_InvalidTree) (.ref C_TraceError) = some true)
    (sub_C_Refused_C_TraceError : PySem.W.subIn K (.ref C_Refused) (.ref C_TraceError) = some true)
    (sub_C_NoRow_C_TraceError : PySem.W.subIn K (.ref C_NoRow) (.ref C_TraceError) = some false)
    (ne_C_NoRow_C_TraceError : C_NoRow ≠ C_TraceError)
    (sub_C_NoService_C_TraceError : PySem.W.subIn K (.ref C_NoService) (.ref C_TraceError) = some false)
    (ne_C_NoService_C_TraceError : C_NoService ≠ C_TraceError)
    (sub_C_Mismatch_C_TraceError : PySem.W.subIn K (.ref C_Mismatch) (.ref C_TraceError) = some true)
    (sub_C_InvalidCommand_C_TraceError : PySem.W.subIn K (.ref C_InvalidCommand) (.ref C_TraceError) = some true)
    (sub_C_InvalidRow_TValueError : PySem.W.subIn K (.ref C_InvalidRow) (.type "ValueError") = some true)
    (sub_C_InvalidService_TValueError : PySem.W.subIn K (.ref C_InvalidService) (.type "ValueError") = some true)
    (sub_C_InvalidBook_TValueError : PySem.W.subIn K (.ref C_InvalidBook) (.type "ValueError") = some true)
    (sub_C_InvalidText_TValueError : PySem.W.subIn K (.ref C_InvalidText) (.type "ValueError") = some true)
    (sub_C_InvalidTree_TValueError : PySem.W.subIn K (.ref C_InvalidTree) (.type "ValueError") = some true)
    (sub_C_Refused_TValueError : PySem.W.subIn K (.ref C_Refused) (.type "ValueError") = some true)
    (sub_C_Mismatch_TValueError : PySem.W.subIn K (.ref C_Mismatch) (.type "ValueError") = some true)
    (sub_C_InvalidCommand_TValueError : PySem.W.subIn K (.ref C_InvalidCommand) (.type "ValueError") = some true)
    (sub_C_NoRow_TIndexError : PySem.W.subIn K (.ref C_NoRow) (.type "IndexError") = some true)
    (sub_C_NoService_TKeyError : PySem.W.subIn K (.ref C_NoService) (.type "KeyError") = some true)
    (z_max : PySem.W.nsIn K mainGlobals "max" = some none)
    (z_min : PySem.W.nsIn K mainGlobals "min" = some none)
    : ∃ fd : FuncData, (∀ (s : Shared) (v : Value), BindsTo s fd ⟨[v], []⟩ [("_law_script", v)]) ∧ ∀ base : Heap, K.In base → base.Ns mainGlobals mg → FnTop P w K mg base 9 fa fd ["_law_script"] (spLaw K) := by
  have e := hfa.symm.trans (PySem.W.mg_of X G a_law)
  have e2 : f_law = fa := by
    cases e
    rfl
  subst e2
  have F_take := (fun_mk (st := s_take) l_take cc_take k_take)
  have F_box := (fun_mk (st := s_box) l_box cc_box k_box)
  have F_pick := (fun_mk (st := s_pick) l_pick cc_pick k_pick)
  have F_any := (fun_mk (st := s_any) l_any cc_any k_any)
  have F_InvalidRow_init := (fun_mk (st := s_InvalidRow_init) l_InvalidRow_init cc_InvalidRow_init k_InvalidRow_init)
  have F_InvalidService_init := (fun_mk (st := s_InvalidService_init) l_InvalidService_init cc_InvalidService_init k_InvalidService_init)
  have F_InvalidBook_init := (fun_mk (st := s_InvalidBook_init) l_InvalidBook_init cc_InvalidBook_init k_InvalidBook_init)
  have F_InvalidText_init := (fun_mk (st := s_InvalidText_init) l_InvalidText_init cc_InvalidText_init k_InvalidText_init)
  have F_InvalidTree_init := (fun_mk (st := s_InvalidTree_init) l_InvalidTree_init cc_InvalidTree_init k_InvalidTree_init)
  have F_Refused_init := (fun_mk (st := s_Refused_init) l_Refused_init cc_Refused_init k_Refused_init)
  have F_NoRow_init := (fun_mk (st := s_NoRow_init) l_NoRow_init cc_NoRow_init k_NoRow_init)
  have F_NoService_init := (fun_mk (st := s_NoService_init) l_NoService_init cc_NoService_init k_NoService_init)
  have F_made := (fun_mk (st := s_made) l_made cc_made k_made)
  have F_sorts := (fun_mk (st := s_sorts) l_sorts cc_sorts k_sorts)
  have F_kept := (fun_mk (st := s_kept) l_kept cc_kept k_kept)
  have F_law := (fun_mk (st := s_law) l_law cc_law k_law)
  have b_take := F_take.binds (ps := P_take) fun _ _ _ _ _ _ us hl => match us, hl with | [_, _], _ => rfl
  have b_box := F_box.binds (ps := P_box) fun _ _ _ _ _ _ us hl => match us, hl with | [_, _], _ => rfl
  have b_pick := F_pick.binds (ps := P_pick) fun _ _ _ _ _ _ us hl => match us, hl with | [_, _], _ => rfl
  have b_any := F_any.binds (ps := P_any) fun _ _ _ _ _ _ us hl => match us, hl with | [_, _], _ => rfl
  have b_InvalidRow_init := F_InvalidRow_init.binds (ps := P_InvalidRow_init) fun _ _ _ _ _ _ us hl => match us, hl with | [_, _], _ => rfl
  have b_InvalidService_init := F_InvalidService_init.binds (ps := P_InvalidService_init) fun _ _ _ _ _ _ us hl => match us, hl with | [_, _], _ => rfl
  have b_InvalidBook_init := F_InvalidBook_init.binds (ps := P_InvalidBook_init) fun _ _ _ _ _ _ us hl => match us, hl with | [_, _], _ => rfl
  have b_InvalidText_init := F_InvalidText_init.binds (ps := P_InvalidText_init) fun _ _ _ _ _ _ us hl => match us, hl with | [_, _], _ => rfl
  have b_InvalidTree_init := F_InvalidTree_init.binds (ps := P_InvalidTree_init) fun _ _ _ _ _ _ us hl => match us, hl with | [_, _], _ => rfl
  have b_Refused_init := F_Refused_init.binds (ps := P_Refused_init) fun _ _ _ _ _ _ us hl => match us, hl with | [_, _], _ => rfl
  have b_NoRow_init := F_NoRow_init.binds (ps := P_NoRow_init) fun _ _ _ _ _ _ us hl => match us, hl with | [_, _], _ => rfl
  have b_NoService_init := F_NoService_init.binds (ps := P_NoService_init) fun _ _ _ _ _ _ us hl => match us, hl with | [_, _], _ => rfl
  have b_made := F_made.binds (ps := P_made) fun _ _ _ _ _ _ us hl => match us, hl with | [_, _], _ => rfl
  have b_sorts := F_sorts.binds (ps := P_sorts) fun _ _ _ _ _ _ us hl => match us, hl with | [_], _ => rfl
  have b_kept := F_kept.binds (ps := P_kept) fun _ _ _ _ _ _ us hl => match us, hl with | [_, _], _ => rfl
  let T : TxK01 w K mg := {
    z_len := PySem.W.mg_none_of X G z_len
    z_int := PySem.W.mg_none_of X G z_int
    z_abs := PySem.W.mg_none_of X G z_abs
    f_take := f_take
    d_take := _
    F_take := F_take
    m_take := PySem.W.mg_of X G a__law_take
    b_take := b_take
    f_box := f_box
    d_box := _
    F_box := F_box
    m_box := PySem.W.mg_of X G a__law_box
    b_box := b_box
    f_pick := f_pick
    d_pick := _
    F_pick := F_pick
    m_pick := PySem.W.mg_of X G a__law_pick
    b_pick := b_pick
    z_range := PySem.W.mg_none_of X G z_range
    z_tuple := PySem.W.mg_none_of X G z_tuple
    f_any := f_any
    d_any := _
    F_any := F_any
    m_any := PySem.W.mg_of X G a__law_any
    b_any := b_any
    C_InvalidRow := C_InvalidRow
    m_InvalidRow := PySem.W.mg_of X G a_InvalidRow
    ox_InvalidRow := ⟨PySem.MyX.base_val, ⟨_, _, _, _, _, _, _, _, _, _, _, _, _, _, _, xL_C_InvalidRow, PySem.MyX.tail_val1⟩, sa_C_InvalidRow, eb_C_InvalidRow, tyC_C_InvalidRow, kc_C_InvalidRow⟩
    nw_InvalidRow := q_nw_InvalidRow
    f_InvalidRow_init := f_InvalidRow_init
    d_InvalidRow_init := _
    i_InvalidRow := in_f_InvalidRow_init
    t_InvalidRow := q_t_InvalidRow
    F_InvalidRow_init := F_InvalidRow_init
    b_InvalidRow_init := b_InvalidRow_init
    xf_InvalidRow := ⟨ga_C_InvalidRow, gg_C_InvalidRow, eb_C_InvalidRow, hd_C_InvalidRow⟩
    C_InvalidService := C_InvalidService
    m_InvalidService := PySem.W.mg_of X G a_InvalidService
    ox_InvalidService := ⟨PySem.MyX.base_val, ⟨_, _, _, _, _, _, _, _, _, _, _, _, _, _, _, xL_C_InvalidService, PySem.MyX.tail_val1⟩, sa_C_InvalidService, eb_C_InvalidService, tyC_C_InvalidService, kc_C_InvalidService⟩
    nw_InvalidService := q_nw_InvalidService
    f_InvalidService_init := f_InvalidService_init
    d_InvalidService_init := _
    i_InvalidService := in_f_InvalidService_init
    t_InvalidService := q_t_InvalidService
    F_InvalidService_init := F_InvalidService_init
    b_InvalidService_init := b_InvalidService_init
    xf_InvalidService := ⟨ga_C_InvalidService, gg_C_InvalidService, eb_C_InvalidService, hd_C_InvalidService⟩
    C_InvalidBook := C_InvalidBook
    m_InvalidBook := PySem.W.mg_of X G a_InvalidBook
    ox_InvalidBook := ⟨PySem.MyX.base_val, ⟨_, _, _, _, _, _, _, _, _, _, _, _, _, _, _, xL_C_InvalidBook, PySem.MyX.tail_val1⟩, sa_C_InvalidBook, eb_C_InvalidBook, tyC_C_InvalidBook, kc_C_InvalidBook⟩
    nw_InvalidBook := q_nw_InvalidBook
    f_InvalidBook_init := f_InvalidBook_init
    d_InvalidBook_init := _
    i_InvalidBook := in_f_InvalidBook_init
    t_InvalidBook := q_t_InvalidBook
    F_InvalidBook_init := F_InvalidBook_init
    b_InvalidBook_init := b_InvalidBook_init
    xf_InvalidBook := ⟨ga_C_InvalidBook, gg_C_InvalidBook, eb_C_InvalidBook, hd_C_InvalidBook⟩
    C_InvalidText := C_InvalidText
    m_InvalidText := PySem.W.mg_of X G a_InvalidText
    ox_InvalidText := ⟨PySem.MyX.base_val, ⟨_, _, _, _, _, _, _, _, _, _, _, _, _, _, _, xL_C_InvalidText, PySem.MyX.tail_val1⟩, sa_C_InvalidText, eb_C_InvalidText, tyC_C_InvalidText, kc_C_InvalidText⟩
    nw_InvalidText := q_nw_InvalidText
    f_InvalidText_init := f_InvalidText_init
    d_InvalidText_init := _
    i_InvalidText := in_f_InvalidText_init
    t_InvalidText := q_t_InvalidText
    F_InvalidText_init := F_InvalidText_init
    b_InvalidText_init := b_InvalidText_init
    xf_InvalidText := ⟨ga_C_InvalidText, gg_C_InvalidText, eb_C_InvalidText, hd_C_InvalidText⟩
    C_InvalidTree := C_InvalidTree
    m_InvalidTree := PySem.W.mg_of X G a_InvalidTree
    ox_InvalidTree := ⟨PySem.MyX.base_val, ⟨_, _, _, _, _, _, _, _, _, _, _, _, _, _, _, xL_C_InvalidTree, PySem.MyX.tail_val1⟩, sa_C_InvalidTree, eb_C_InvalidTree, tyC_C_InvalidTree, kc_C_InvalidTree⟩
    nw_InvalidTree := q_nw_InvalidTree
    f_InvalidTree_init := f_InvalidTree_init
    d_InvalidTree_init := _
    i_InvalidTree := in_f_InvalidTree_init
    t_InvalidTree := q_t_InvalidTree
    F_InvalidTree_init := F_InvalidTree_init
    b_InvalidTree_init := b_InvalidTree_init
    xf_InvalidTree := ⟨ga_C_InvalidTree, gg_C_InvalidTree, eb_C_InvalidTree, hd_C_InvalidTree⟩
    C_Refused := C_Refused
    m_Refused := PySem.W.mg_of X G a_Refused
    ox_Refused := ⟨PySem.MyX.base_val, ⟨_, _, _, _, _, _, _, _, _, _, _, _, _, _, _, xL_C_Refused, PySem.MyX.tail_val1⟩, sa_C_Refused, eb_C_Refused, tyC_C_Refused, kc_C_Refused⟩
    nw_Refused := q_nw_Refused
    f_Refused_init := f_Refused_init
    d_Refused_init := _
    i_Refused := in_f_Refused_init
    t_Refused := q_t_Refused
    F_Refused_init := F_Refused_init
    b_Refused_init := b_Refused_init
    xf_Refused := ⟨ga_C_Refused, gg_C_Refused, eb_C_Refused, hd_C_Refused⟩
    C_NoRow := C_NoRow
    m_NoRow := PySem.W.mg_of X G a_NoRow
    ox_NoRow := ⟨PySem.MyX.base_idx, ⟨_, _, _, _, _, _, _, _, _, _, _, _, _, _, _, xL_C_NoRow, PySem.MyX.tail_idx0⟩, sa_C_NoRow, eb_C_NoRow, tyC_C_NoRow, kc_C_NoRow⟩
    nw_NoRow := q_nw_NoRow
    f_NoRow_init := f_NoRow_init
    d_NoRow_init := _
    i_NoRow := in_f_NoRow_init
    t_NoRow := q_t_NoRow
    F_NoRow_init := F_NoRow_init
    b_NoRow_init := b_NoRow_init
    xf_NoRow := ⟨ga_C_NoRow, gg_C_NoRow, eb_C_NoRow, hd_C_NoRow⟩
    C_NoService := C_NoService
    m_NoService := PySem.W.mg_of X G a_NoService
    ox_NoService := ⟨PySem.MyX.base_key, ⟨_, _, _, _, _, _, _, _, _, _, _, _, _, _, _, xL_C_NoService, PySem.MyX.tail_key0⟩, sa_C_NoService, eb_C_NoService, tyC_C_NoService, kc_C_NoService⟩
    nw_NoService := q_nw_NoService
    f_NoService_init := f_NoService_init
    d_NoService_init := _
    i_NoService := in_f_NoService_init
    t_NoService := q_t_NoService
    F_NoService_init := F_NoService_init
    b_NoService_init := b_NoService_init
    xf_NoService := ⟨ga_C_NoService, gg_C_NoService, eb_C_NoService, hd_C_NoService⟩
    C_Mismatch := C_Mismatch
    m_Mismatch := PySem.W.mg_of X G a_Mismatch
    xc_Mismatch := q_xc_Mismatch
    kp_Mismatch := q_kp_Mismatch
    C_InvalidCommand := C_InvalidCommand
    m_InvalidCommand := PySem.W.mg_of X G a_InvalidCommand
    xc_InvalidCommand := q_xc_InvalidCommand
    kp_InvalidCommand := q_kp_InvalidCommand
    C_TraceError := C_TraceError
    m_TraceError := PySem.W.mg_of X G a_TraceError
    z_ValueError := PySem.W.mg_none_of X G z_ValueError
    z_IndexError := PySem.W.mg_none_of X G z_IndexError
    z_KeyError := PySem.W.mg_none_of X G z_KeyError
    z_isinstance := PySem.W.mg_none_of X G z_isinstance
    z_enumerate := PySem.W.mg_none_of X G z_enumerate
    z_repr := PySem.W.mg_none_of X G z_repr
    ex_InvalidRow := ⟨ga_C_InvalidRow, gg_C_InvalidRow, eb_C_InvalidRow, hd_C_InvalidRow, ca_C_InvalidRow, cg_, ck_, cm_C_InvalidRow⟩
    ex_InvalidService := ⟨ga_C_InvalidService, gg_C_InvalidService, eb_C_InvalidService, hd_C_InvalidService, ca_C_InvalidService, cg_, ck_, cm_C_InvalidService⟩
    ex_InvalidBook := ⟨ga_C_InvalidBook, gg_C_InvalidBook, eb_C_InvalidBook, hd_C_InvalidBook, ca_C_InvalidBook, cg_, ck_, cm_C_InvalidBook⟩
    ex_InvalidText := ⟨ga_C_InvalidText, gg_C_InvalidText, eb_C_InvalidText, hd_C_InvalidText, ca_C_InvalidText, cg_, ck_, cm_C_InvalidText⟩
    ex_InvalidTree := ⟨ga_C_InvalidTree, gg_C_InvalidTree, eb_C_InvalidTree, hd_C_InvalidTree, ca_C_InvalidTree, cg_, ck_, cm_C_InvalidTree⟩
    ex_Refused := ⟨ga_C_Refused, gg_C_Refused, eb_C_Refused, hd_C_Refused, ca_C_Refused, cg_, ck_, cm_C_Refused⟩
    ex_NoRow := ⟨ga_C_NoRow, gg_C_NoRow, eb_C_NoRow, hd_C_NoRow, ca_C_NoRow, cg_, ck_, cm_C_NoRow⟩
    ex_NoService := ⟨ga_C_NoService, gg_C_NoService, eb_C_NoService, hd_C_NoService, ca_C_NoService, cg_, ck_, cm_C_NoService⟩
    ex_Mismatch := ⟨ga_C_Mismatch, gg_C_Mismatch, eb_C_Mismatch, hd_C_Mismatch, ca_C_Mismatch, cg_, ck_, cm_C_Mismatch⟩
    ex_InvalidCommand := ⟨ga_C_InvalidCommand, gg_C_InvalidCommand, eb_C_InvalidCommand, hd_C_InvalidCommand, ca_C_InvalidCommand, cg_, ck_, cm_C_InvalidCommand⟩
    ke_0_0 := kit_yes isC_C_InvalidRow tyC_C_InvalidRow sub_C_InvalidRow_C_InvalidRow
    ke_0_1 := kit_no isC_C_InvalidService tyC_C_InvalidService sub_C_InvalidRow_C_InvalidService ne_C_InvalidRow_C_InvalidService
    ke_0_2 := kit_no isC_C_InvalidBook tyC_C_InvalidBook sub_C_InvalidRow_C_InvalidBook ne_C_InvalidRow_C_InvalidBook
    ke_0_3 := kit_no isC_C_InvalidText tyC_C_InvalidText sub_C_InvalidRow_C_InvalidText ne_C_InvalidRow_C_InvalidText
    ke_0_4 := kit_no isC_C_InvalidTree tyC_C_InvalidTree sub_C_InvalidRow_C_InvalidTree ne_C_InvalidRow_C_InvalidTree
    ke_0_5 := kit_no isC_C_Refused tyC_C_Refused sub_C_InvalidRow_C_Refused ne_C_InvalidRow_C_Refused
    ke_0_6 := kit_no isC_C_NoRow tyC_C_NoRow sub_C_InvalidRow_C_NoRow ne_C_InvalidRow_C_NoRow
    ke_0_7 := kit_no isC_C_NoService tyC_C_NoService sub_C_InvalidRow_C_NoService ne_C_InvalidRow_C_NoService
    ke_0_8 := kit_no isC_C_Mismatch tyC_C_Mismatch sub_C_InvalidRow_C_Mismatch ne_C_InvalidRow_C_Mismatch
    ke_0_9 := kit_no isC_C_InvalidCommand tyC_C_InvalidCommand sub_C_InvalidRow_C_InvalidCommand ne_C_InvalidRow_C_InvalidCommand
    ke_1_0 := kit_no isC_C_InvalidRow tyC_C_InvalidRow sub_C_InvalidService_C_InvalidRow ne_C_InvalidService_C_InvalidRow
    ke_1_1 := kit_yes isC_C_InvalidService tyC_C_InvalidService sub_C_InvalidService_C_InvalidService
    ke_1_2 := kit_no isC_C_InvalidBook tyC_C_InvalidBook sub_C_InvalidService_C_InvalidBook ne_C_InvalidService_C_InvalidBook
    ke_1_3 := kit_no isC_C_InvalidText tyC_C_InvalidText sub_C_InvalidService_C_InvalidText ne_C_InvalidService_C_InvalidText
    ke_1_4 := kit_no isC_C_InvalidTree tyC_C_InvalidTree sub_C_InvalidService_C_InvalidTree ne_C_InvalidService_C_InvalidTree
    ke_1_5 := kit_no isC_C_Refused tyC_C_Refused sub_C_InvalidService_C_Refused ne_C_InvalidService_C_Refused
    ke_1_6 := kit_no isC_C_NoRow tyC_C_NoRow sub_C_InvalidService_C_NoRow ne_C_InvalidService_C_NoRow
    ke_1_7 := kit_no isC_C_NoService tyC_C_NoService sub_C_InvalidService_C_NoService ne_C_InvalidService_C_NoService
    ke_1_8 := kit_no isC_C_Mismatch tyC_C_Mismatch sub_C_InvalidService_C_Mismatch ne_C_InvalidService_C_Mismatch
    ke_1_9 := kit_no isC_C_InvalidCommand tyC_C_InvalidCommand sub_C_InvalidService_C_InvalidCommand ne_C_InvalidService_C_InvalidCommand
    ke_2_0 := kit_no isC_C_InvalidRow tyC_C_InvalidRow sub_C_InvalidBook_C_InvalidRow ne_C_InvalidBook_C_InvalidRow
    ke_2_1 := kit_no isC_C_InvalidService tyC_C_InvalidService sub_C_InvalidBook_C_InvalidService ne_C_InvalidBook_C_InvalidService
    ke_2_2 := kit_yes isC_C_InvalidBook tyC_C_InvalidBook sub_C_InvalidBook_C_InvalidBook
    ke_2_3 := kit_no isC_C_InvalidText tyC_C_InvalidText sub_C_InvalidBook_C_InvalidText ne_C_InvalidBook_C_InvalidText
    ke_2_4 := kit_no isC_C_InvalidTree tyC_C_InvalidTree sub_C_InvalidBook_C_InvalidTree ne_C_InvalidBook_C_InvalidTree
    ke_2_5 := kit_no isC_C_Refused tyC_C_Refused sub_C_InvalidBook_C_Refused ne_C_InvalidBook_C_Refused
    ke_2_6 := kit_no isC_C_NoRow tyC_C_NoRow sub_C_InvalidBook_C_NoRow ne_C_InvalidBook_C_NoRow
    ke_2_7 := kit_no isC_C_NoService tyC_C_NoService sub_C_InvalidBook_C_NoService ne_C_InvalidBook_C_NoService
    ke_2_8 := kit_no isC_C_Mismatch tyC_C_Mismatch sub_C_InvalidBook_C_Mismatch ne_C_InvalidBook_C_Mismatch
    ke_2_9 := kit_no isC_C_InvalidCommand tyC_C_InvalidCommand sub_C_InvalidBook_C_InvalidCommand ne_C_InvalidBook_C_InvalidCommand
    ke_3_0 := kit_no isC_C_InvalidRow tyC_C_InvalidRow sub_C_InvalidText_C_InvalidRow ne_C_InvalidText_C_InvalidRow
    ke_3_1 := kit_no isC_C_InvalidService tyC_C_InvalidService sub_C_InvalidText_C_InvalidService ne_C_InvalidText_C_InvalidService
    ke_3_2 := kit_no isC_C_InvalidBook tyC_C_InvalidBook sub_C_InvalidText_C_InvalidBook ne_C_InvalidText_C_InvalidBook
    ke_3_3 := kit_yes isC_C_InvalidText tyC_C_InvalidText sub_C_InvalidText_C_InvalidText
    ke_3_4 := kit_no isC_C_InvalidTree tyC_C_InvalidTree sub_C_InvalidText_C_InvalidTree ne_C_InvalidText_C_InvalidTree
    ke_3_5 := kit_no isC_C_Refused tyC_C_Refused sub_C_InvalidText_C_Refused ne_C_InvalidText_C_Refused
    ke_3_6 := kit_no isC_C_NoRow tyC_C_NoRow sub_C_InvalidText_C_NoRow ne_C_InvalidText_C_NoRow
    ke_3_7 := kit_no isC_C_NoService tyC_C_NoService sub_C_InvalidText_C_NoService ne_C_InvalidText_C_NoService
    ke_3_8 := kit_no isC_C_Mismatch tyC_C_Mismatch sub_C_InvalidText_C_Mismatch ne_C_InvalidText_C_Mismatch
    ke_3_9 := kit_no isC_C_InvalidCommand tyC_C_InvalidCommand sub_C_InvalidText_C_InvalidCommand ne_C_InvalidText_C_InvalidCommand
    ke_4_0 := kit_no isC_C_InvalidRow tyC_C_InvalidRow sub_C_InvalidTree_C_InvalidRow ne_C_InvalidTree_C_InvalidRow
    ke_4_1 := kit_no isC_C_InvalidService tyC_C_InvalidService sub_C_InvalidTree_C_InvalidService ne_C_InvalidTree_C_InvalidService
    ke_4_2 := kit_no isC_C_InvalidBook tyC_C_InvalidBook sub_C_InvalidTree_C_InvalidBook ne_C_InvalidTree_C_InvalidBook
    ke_4_3 := kit_no isC_C_InvalidText tyC_C_InvalidText sub_C_InvalidTree_C_InvalidText ne_C_InvalidTree_C_InvalidText
    ke_4_4 := kit_yes isC_C_InvalidTree tyC_C_InvalidTree sub_C_InvalidTree_C_InvalidTree
    ke_4_5 := kit_no isC_C_Refused tyC_C_Refused sub_C_InvalidTree_C_Refused ne_C_InvalidTree_C_Refused
    ke_4_6 := kit_no isC_C_NoRow tyC_C_NoRow sub_C_InvalidTree_C_NoRow ne_C_InvalidTree_C_NoRow
    ke_4_7 := kit_no isC_C_NoService tyC_C_NoService sub_C_InvalidTree_C_NoService ne_C_InvalidTree_C_NoService
    ke_4_8 := kit_no isC_C_Mismatch tyC_C_Mismatch sub_C_InvalidTree_C_Mismatch ne_C_InvalidTree_C_Mismatch
    ke_4_9 := kit_no isC_C_InvalidCommand tyC_C_InvalidCommand sub_C_InvalidTree_C_InvalidCommand ne_C_InvalidTree_C_InvalidCommand
    ke_5_0 := kit_no isC_C_InvalidRow tyC_C_InvalidRow sub_C_Refused_C_InvalidRow ne_C_Refused_C_InvalidRow
    ke_5_1 := kit_no isC_C_InvalidService tyC_C_InvalidService sub_C_Refused_C_InvalidService ne_C_Refused_C_InvalidService
    ke_5_2 := kit_no isC_C_InvalidBook tyC_C_InvalidBook sub_C_Refused_C_InvalidBook ne_C_Refused_C_InvalidBook
    ke_5_3 := kit_no isC_C_InvalidText tyC_C_InvalidText sub_C_Refused_C_InvalidText ne_C_Refused_C_InvalidText
    ke_5_4 := kit_no isC_C_InvalidTree tyC_C_InvalidTree sub_C_Refused_C_InvalidTree ne_C_Refused_C_InvalidTree
    ke_5_5 := kit_yes isC_C_Refused tyC_C_Refused sub_C_Refused_C_Refused
    ke_5_6 := kit_no isC_C_NoRow tyC_C_NoRow sub_C_Refused_C_NoRow ne_C_Refused_C_NoRow
    ke_5_7 := kit_no isC_C_NoService tyC_C_NoService sub_C_Refused_C_NoService ne_C_Refused_C_NoService
    ke_5_8 := kit_no isC_C_Mismatch tyC_C_Mismatch sub_C_Refused_C_Mismatch ne_C_Refused_C_Mismatch
    ke_5_9 := kit_no isC_C_InvalidCommand tyC_C_InvalidCommand sub_C_Refused_C_InvalidCommand ne_C_Refused_C_InvalidCommand
    ke_6_0 := kit_no isC_C_InvalidRow tyC_C_InvalidRow sub_C_NoRow_C_InvalidRow ne_C_NoRow_C_InvalidRow
    ke_6_1 := kit_no isC_C_InvalidService tyC_C_InvalidService sub_C_NoRow_C_InvalidService ne_C_NoRow_C_InvalidService
    ke_6_2 := kit_no isC_C_InvalidBook tyC_C_InvalidBook sub_C_NoRow_C_InvalidBook ne_C_NoRow_C_InvalidBook
    ke_6_3 := kit_no isC_C_InvalidText tyC_C_InvalidText sub_C_NoRow_C_InvalidText ne_C_NoRow_C_InvalidText
    ke_6_4 := kit_no isC_C_InvalidTree tyC_C_InvalidTree sub_C_NoRow_C_InvalidTree ne_C_NoRow_C_InvalidTree
    ke_6_5 := kit_no isC_C_Refused tyC_C_Refused sub_C_NoRow_C_Refused ne_C_NoRow_C_Refused
    ke_6_6 := kit_yes isC_C_NoRow tyC_C_NoRow sub_C_NoRow_C_NoRow
    ke_6_7 := kit_no isC_C_NoService tyC_C_NoService sub_C_NoRow_C_NoService ne_C_NoRow_C_NoService
    ke_6_8 := kit_no isC_C_Mismatch tyC_C_Mismatch sub_C_NoRow_C_Mismatch ne_C_NoRow_C_Mismatch
    ke_6_9 := kit_no isC_C_InvalidCommand tyC_C_InvalidCommand sub_C_NoRow_C_InvalidCommand ne_C_NoRow_C_InvalidCommand
    ke_7_0 := kit_no isC_C_InvalidRow tyC_C_InvalidRow sub_C_NoService_C_InvalidRow ne_C_NoService_C_InvalidRow
    ke_7_1 := kit_no isC_C_InvalidService tyC_C_InvalidService sub_C_NoService_C_InvalidService ne_C_NoService_C_InvalidService
    ke_7_2 := kit_no isC_C_InvalidBook tyC_C_InvalidBook sub_C_NoService_C_InvalidBook ne_C_NoService_C_InvalidBook
    ke_7_3 := kit_no isC_C_InvalidText tyC_C_InvalidText sub_C_NoService_C_InvalidText ne_C_NoService_C_InvalidText
    ke_7_4 := kit_no isC_C_InvalidTree tyC_C_InvalidTree sub_C_NoService_C_InvalidTree ne_C_NoService_C_InvalidTree
    ke_7_5 := kit_no isC_C_Refused tyC_C_Refused sub_C_NoService_C_Refused ne_C_NoService_C_Refused
    ke_7_6 := kit_no isC_C_NoRow tyC_C_NoRow sub_C_NoService_C_NoRow ne_C_NoService_C_NoRow
    ke_7_7 := kit_yes isC_C_NoService tyC_C_NoService sub_C_NoService_C_NoService
    ke_7_8 := kit_no isC_C_Mismatch tyC_C_Mismatch sub_C_NoService_C_Mismatch ne_C_NoService_C_Mismatch
    ke_7_9 := kit_no isC_C_InvalidCommand tyC_C_InvalidCommand sub_C_NoService_C_InvalidCommand ne_C_NoService_C_InvalidCommand
    ke_8_0 := kit_no isC_C_InvalidRow tyC_C_InvalidRow sub_C_Mismatch_C_InvalidRow ne_C_Mismatch_C_InvalidRow
    ke_8_1 := kit_no isC_C_InvalidService tyC_C_InvalidService sub_C_Mismatch_C_InvalidService ne_C_Mismatch_C_InvalidService
    ke_8_2 := kit_no isC_C_InvalidBook tyC_C_InvalidBook sub_C_Mismatch_C_InvalidBook ne_C_Mismatch_C_InvalidBook
    ke_8_3 := kit_no isC_C_InvalidText tyC_C_InvalidText sub_C_Mismatch_C_InvalidText ne_C_Mismatch_C_InvalidText
    ke_8_4 := kit_no isC_C_InvalidTree tyC_C_InvalidTree sub_C_Mismatch_C_InvalidTree ne_C_Mismatch_C_InvalidTree
    ke_8_5 := kit_no isC_C_Refused tyC_C_Refused sub_C_Mismatch_C_Refused ne_C_Mismatch_C_Refused
    ke_8_6 := kit_no isC_C_NoRow tyC_C_NoRow sub_C_Mismatch_C_NoRow ne_C_Mismatch_C_NoRow
    ke_8_7 := kit_no isC_C_NoService tyC_C_NoService sub_C_Mismatch_C_NoService ne_C_Mismatch_C_NoService
    ke_8_8 := kit_yes isC_C_Mismatch tyC_C_Mismatch sub_C_Mismatch_C_Mismatch
    ke_8_9 := kit_no isC_C_InvalidCommand tyC_C_InvalidCommand sub_C_Mismatch_C_InvalidCommand ne_C_Mismatch_C_InvalidCommand
    ke_9_0 := kit_no isC_C_InvalidRow tyC_C_InvalidRow sub_C_InvalidCommand_C_InvalidRow ne_C_InvalidCommand_C_InvalidRow
    ke_9_1 := kit_no isC_C_InvalidService tyC_C_InvalidService sub_C_InvalidCommand_C_InvalidService ne_C_InvalidCommand_C_InvalidService
    ke_9_2 := kit_no isC_C_InvalidBook tyC_C_InvalidBook sub_C_InvalidCommand_C_InvalidBook ne_C_InvalidCommand_C_InvalidBook
    ke_9_3 := kit_no isC_C_InvalidText tyC_C_InvalidText sub_C_InvalidCommand_C_InvalidText ne_C_InvalidCommand_C_InvalidText
    ke_9_4 := kit_no isC_C_InvalidTree tyC_C_InvalidTree sub_C_InvalidCommand_C_InvalidTree ne_C_InvalidCommand_C_InvalidTree
    ke_9_5 := kit_no isC_C_Refused tyC_C_Refused sub_C_InvalidCommand_C_Refused ne_C_InvalidCommand_C_Refused
    ke_9_6 := kit_no isC_C_NoRow tyC_C_NoRow sub_C_InvalidCommand_C_NoRow ne_C_InvalidCommand_C_NoRow
    ke_9_7 := kit_no isC_C_NoService tyC_C_NoService sub_C_InvalidCommand_C_NoService ne_C_InvalidCommand_C_NoService
    ke_9_8 := kit_no isC_C_Mismatch tyC_C_Mismatch sub_C_InvalidCommand_C_Mismatch ne_C_InvalidCommand_C_Mismatch
    ke_9_9 := kit_yes isC_C_InvalidCommand tyC_C_InvalidCommand sub_C_InvalidCommand_C_InvalidCommand
    kt_0 := kit_yes isC_C_TraceError tyC_C_TraceError sub_C_InvalidRow_C_TraceError
    kt_1 := kit_yes isC_C_TraceError tyC_C_TraceError sub_C_InvalidService_C_TraceError
    kt_2 := kit_yes isC_C_TraceError tyC_C_TraceError sub_C_InvalidBook_C_TraceError
    kt_3 := kit_yes isC_C_TraceError tyC_C_TraceError sub_C_InvalidText_C_TraceError
    kt_4 := kit_yes isC_C_TraceError tyC_C_TraceError sub_C_InvalidTree_C_TraceError
    kt_5 := kit_yes isC_C_TraceError tyC_C_TraceError sub_C_Refused_C_TraceError
    kt_6 := kit_no isC_C_TraceError tyC_C_TraceError sub_C_NoRow_C_TraceError ne_C_NoRow_C_TraceError
    kt_7 := kit_no isC_C_TraceError tyC_C_TraceError sub_C_NoService_C_TraceError ne_C_NoService_C_TraceError
    kt_8 := kit_yes isC_C_TraceError tyC_C_TraceError sub_C_Mismatch_C_TraceError
    kt_9 := kit_yes isC_C_TraceError tyC_C_TraceError sub_C_InvalidCommand_C_TraceError
    kv_0 := kit_refValueError sub_C_InvalidRow_TValueError
    kv_1 := kit_refValueError sub_C_InvalidService_TValueError
    kv_2 := kit_refValueError sub_C_InvalidBook_TValueError
    kv_3 := kit_refValueError sub_C_InvalidText_TValueError
    kv_4 := kit_refValueError sub_C_InvalidTree_TValueError
    kv_5 := kit_refValueError sub_C_Refused_TValueError
    kv_8 := kit_refValueError sub_C_Mismatch_TValueError
    kv_9 := kit_refValueError sub_C_InvalidCommand_TValueError
    ki_6 := kit_refIndexError sub_C_NoRow_TIndexError
    ki_7 := kit_refKeyError sub_C_NoService_TKeyError
    f_made := f_made
    d_made := _
    F_made := F_made
    m_made := PySem.W.mg_of X G a__law_made
    b_made := b_made
    f_sorts := f_sorts
    d_sorts := _
    F_sorts := F_sorts
    m_sorts := PySem.W.mg_of X G a__law_sorts
    b_sorts := b_sorts
    f_kept := f_kept
    d_kept := _
    F_kept := F_kept
    m_kept := PySem.W.mg_of X G a__law_kept
    b_kept := b_kept
    z_max := PySem.W.mg_none_of X G z_max
    z_min := PySem.W.mg_none_of X G z_min
    f_law := f_law
    d_law := _
    F_law := F_law
  }
  exact ⟨PySem.W.fnOf "law" "law" (defArgs s_law) (defBody s_law) (defScope s_law) .none kV_law dc_law pm_law an_law cd_law ct_law, fun s v => .of_eq rfl, fun base _ _ => ok_law01 T⟩
theorem walk {l : PySem.W.OpenLaw} {q : Program} {loose : List Str} {XP : (Str → Option Value) → Heap → Prop} {YP : World → Heap → Prop} {d : DefRec} {K : Params → PySem.W.Frag} (hn : l.most = some 63) (hdf : d.params.defaults = [])
    (hY : ∀ (w : World) (h : Heap), YP w h → (K w.params).In h)
    (F : ∀ (w : World) (mg : Str → Option Value) (fa : Addr) (h : Heap), (K w.params).In h → h.Ns mainGlobals mg → mg d.name = some (.ref fa) →
      ∃ fd : FuncData, (∀ (s : Shared) (u : Value), BindsTo s fd ⟨[u], []⟩ [("_law_script", u)]) ∧ ∀ base : Heap, (K w.params).In base → base.Ns mainGlobals mg → FnTop l.prog w (K w.params) mg base 9 fa fd ["_law_script"] (spLaw (K w.params))) :
    PySem.W.WalkO q loose XP YP l.row.toRowW d [] (fun f vs => PySem.call f vs) :=
  walk_top (n := 63) (k := 9) (y := "_law_script") (sp := fun w => spLaw (K w.params)) hn (by decide) hdf ⟨rfl, by decide, by decide⟩ hY F (fun _ _ a ns hl hS => ⟨a, ns, rfl, hS, hl, fun _ => rfl⟩)
end My
open PySem PySem.W PyProof.Rows
set_option maxRecDepth 100000 in
set_option maxHeartbeats 0 in
theorem PySem.Challenge.cw_wholetraces_k01_errors_and_what_they_kee_holds : PySem.Challenge.rw_wholetraces_k01_errors_and_what_they_kee.Holds := by
  w_on; o_law; k_head; (case hw => w_witness2)
  k_fill
  refine My.walk (l := PySem.Challenge.rw_wholetraces_k01_errors_and_what_they_kee) rfl rfl (fun w h Y => PySem.W.kIn_of Y) ?F
  case F =>
    intro w mg fa h KX G hmg
    refine' My.all_mk KX G hmg ?a_law ?a__law_take ?a__law_box ?a__law_pick ?a__law_any ?a_InvalidRow ?a_InvalidService ?a_InvalidBook ?a_InvalidText ?a_InvalidTree ?a_Refused ?a_NoRow ?a_NoService ?a_Mismatch ?a_InvalidCommand ?a_TraceError ?a__law_made ?a__law_sorts ?a__law_kept ?in_f_InvalidRow_init ?in_f_InvalidService_init ?in_f_InvalidBook_init ?in_f_InvalidText_init ?in_f_InvalidTree_init ?in_f_Refused_init ?in_f_NoRow_init ?in_f_NoService_init ?l_take ?l_box ?l_pick ?l_any ?l_InvalidRow_init ?l_InvalidService_init ?l_InvalidBook_init ?l_InvalidText_init ?l_InvalidTree_init ?l_Refused_init ?l_NoRow_init ?l_NoService_init ?l_made ?l_sorts ?l_kept ?l_law ?xL_C_InvalidRow ?xL_C_InvalidService ?xL_C_InvalidBook ?xL_C_InvalidText ?xL_C_InvalidTree ?xL_C_Refused ?xL_C_NoRow ?xL_C_NoService ?cc_take ?k_take ?cc_box ?k_box ?cc_pick ?k_pick ?cc_any ?k_any ?cc_InvalidRow_init ?k_InvalidRow_init ?cc_InvalidService_init ?k_InvalidService_init ?cc_InvalidBook_init ?k_InvalidBook_init ?cc_InvalidText_init ?k_InvalidText_init ?cc_InvalidTree_init ?k_InvalidTree_init ?cc_Refused_init ?k_Refused_init ?cc_NoRow_init ?k_NoRow_init ?cc_NoService_init ?k_NoService_init ?cc_made ?k_made ?cc_sorts ?k_sorts ?cc_kept ?k_kept ?cc_law ?k_law ?z_len ?z_int ?z_abs ?z_range ?z_tuple ?sa_C_InvalidRow ?eb_C_InvalidRow ?tyC_C_InvalidRow ?kc_C_InvalidRow ?q_nw_InvalidRow ?q_t_InvalidRow ?ga_C_InvalidRow ?gg_C_InvalidRow ?hd_C_InvalidRow ?sa_C_InvalidService ?eb_C_InvalidService ?tyC_C_InvalidService ?kc_C_InvalidService ?q_nw_InvalidService ?q_t_InvalidService ?ga_C_InvalidService ?gg_C_InvalidService ?hd_C_InvalidService ?sa_C_InvalidBook ?eb_C_InvalidBook ?tyC_C_InvalidBook ?kc_C_InvalidBook ?q_nw_InvalidBook ?q_t_InvalidBook ?ga_C_InvalidBook ?gg_C_InvalidBook ?hd_C_InvalidBook ?sa_C_InvalidText ?eb_C_InvalidText ?tyC_C_InvalidText ?kc_C_InvalidText ?q_nw_InvalidText ?q_t_InvalidText ?ga_C_InvalidText ?gg_C_InvalidText ?hd_C_InvalidText ?sa_C_InvalidTree ?eb_C_InvalidTree ?tyC_C_InvalidTree ?kc_C_InvalidTree ?q_nw_InvalidTree ?q_t_InvalidTree ?ga_C_InvalidTree ?gg_C_InvalidTree ?hd_C_InvalidTree ?sa_C_Refused ?eb_C_Refused ?tyC_C_Refused ?kc_C_Refused ?q_nw_Refused ?q_t_Refused ?ga_C_Refused ?gg_C_Refused ?hd_C_Refused ?sa_C_NoRow ?eb_C_NoRow ?tyC_C_NoRow ?kc_C_NoRow ?q_nw_NoRow ?q_t_NoRow ?ga_C_NoRow ?gg_C_NoRow ?hd_C_NoRow ?sa_C_NoService ?eb_C_NoService ?tyC_C_NoService ?kc_C_NoService ?q_nw_NoService ?q_t_NoService ?ga_C_NoService ?gg_C_NoService ?hd_C_NoService ?q_xc_Mismatch ?q_kp_Mismatch ?q_xc_InvalidCommand ?q_kp_InvalidCommand ?z_ValueError ?z_IndexError ?z_KeyError ?z_isinstance ?z_enumerate ?z_repr ?ca_C_InvalidRow ?cg_ ?ck_ ?cm_C_InvalidRow ?ca_C_InvalidService ?cm_C_InvalidService ?ca_C_InvalidBook ?cm_C_InvalidBook ?ca_C_InvalidText ?cm_C_InvalidText ?ca_C_InvalidTree ?cm_C_InvalidTree ?ca_C_Refused ?cm_C_Refused ?ca_C_NoRow ?cm_C_NoRow ?ca_C_NoService ?cm_C_NoService ?ga_C_Mismatch ?gg_C_Mismatch ?eb_C_Mismatch ?hd_C_Mismatch ?ca_C_Mismatch ?cm_C_Mismatch ?ga_C_InvalidCommand ?gg_C_InvalidCommand ?eb_C_InvalidCommand ?hd_C_InvalidCommand ?ca_C_InvalidCommand ?cm_C_InvalidCommand ?isC_C_InvalidRow ?sub_C_InvalidRow_C_InvalidRow ?isC_C_InvalidService ?sub_C_InvalidRow_C_InvalidService ?ne_C_InvalidRow_C_InvalidService ?isC_C_InvalidBook ?sub_C_InvalidRow_C_InvalidBook ?ne_C_InvalidRow_C_InvalidBook ?isC_C_InvalidText ?sub_C_InvalidRow_C_InvalidText ?ne_C_InvalidRow_C_InvalidText ?isC_C_InvalidTree ?sub_C_InvalidRow_C_InvalidTree ?ne_C_InvalidRow_C_InvalidTree ?isC_C_Refused ?sub_C_InvalidRow_C_Refused ?ne_C_InvalidRow_C_Refused ?isC_C_NoRow ?sub_C_InvalidRow_C_NoRow ?ne_C_InvalidRow_C_NoRow ?isC_C_NoService ?sub_C_InvalidRow_C_NoService ?ne_C_InvalidRow_C_NoService ?isC_C_Mismatch ?tyC_C_Mismatch ?sub_C_InvalidRow_C_Mismatch ?ne_C_InvalidRow_C_Mismatch ?isC_C_InvalidCommand ?tyC_C_InvalidCommand ?sub_C_InvalidRow_C_InvalidCommand ?ne_C_InvalidRow_C_InvalidCommand ?sub_C_InvalidService_C_InvalidRow ?ne_C_InvalidService_C_InvalidRow ?sub_C_InvalidService_C_InvalidService ?sub_C_InvalidService_C_InvalidBook ?ne_C_InvalidService_C_InvalidBook ?sub_C_InvalidService_C_InvalidText ?ne_C_InvalidService_C_InvalidText ?sub_C_InvalidService_C_InvalidTree ?ne_C_InvalidService_C_InvalidTree ?sub_C_InvalidService_C_Refused ?ne_C_InvalidService_C_Refused ?sub_C_InvalidService_C_NoRow ?ne_C_InvalidService_C_NoRow ?sub_C_InvalidService_C_NoService ?ne_C_InvalidService_C_NoService ?sub_C_InvalidService_C_Mismatch ?ne_C_InvalidService_C_Mismatch ?sub_C_InvalidService_C_InvalidCommand ?ne_C_InvalidService_C_InvalidCommand ?sub_C_InvalidBook_C_InvalidRow ?ne_C_InvalidBook_C_InvalidRow ?sub_C_InvalidBook_C_InvalidService ?ne_C_InvalidBook_C_InvalidService ?sub_C_InvalidBook_C_InvalidBook ?sub_C_InvalidBook_C_InvalidText ?ne_C_InvalidBook_C_InvalidText ?sub_C_InvalidBook_C_InvalidTree ?ne_C_InvalidBook_C_InvalidTree ?sub_C_InvalidBook_C_Refused ?ne_C_InvalidBook_C_Refused ?sub_C_InvalidBook_C_NoRow ?ne_C_InvalidBook_C_NoRow ?sub_C_InvalidBook_C_NoService ?ne_C_InvalidBook_C_NoService ?sub_C_InvalidBook_C_Mismatch ?ne_C_InvalidBook_C_Mismatch ?sub_C_InvalidBook_C_InvalidCommand ?ne_C_InvalidBook_C_InvalidCommand ?sub_C_InvalidText_C_InvalidRow ?ne_C_InvalidText_C_InvalidRow ?sub_C_InvalidText_C_InvalidService ?ne_C_InvalidText_C_InvalidService ?sub_C_InvalidText_C_InvalidBook ?ne_C_InvalidText_C_InvalidBook ?sub_C_InvalidText_C_InvalidText ?sub_C_InvalidText_C_InvalidTree ?ne_C_InvalidText_C_InvalidTree ?sub_C_InvalidText_C_Refused ?ne_C_InvalidText_C_Refused ?sub_C_InvalidText_C_NoRow ?ne_C_InvalidText_C_NoRow ?sub_C_InvalidText_C_NoService ?ne_C_InvalidText_C_NoService ?sub_C_InvalidText_C_Mismatch ?ne_C_InvalidText_C_Mismatch ?sub_C_InvalidText_C_InvalidCommand ?ne_C_InvalidText_C_InvalidCommand ?sub_C_InvalidTree_C_InvalidRow ?ne_C_InvalidTree_C_InvalidRow ?sub_C_InvalidTree_C_InvalidService ?ne_C_InvalidTree_C_InvalidService ?sub_C_InvalidTree_C_InvalidBook ?ne_C_InvalidTree_C_InvalidBook ?sub_C_InvalidTree_C_InvalidText ?ne_C_InvalidTree_C_InvalidText ?sub_C_InvalidTree_C_InvalidTree ?sub_C_InvalidTree_C_Refused ?ne_C_InvalidTree_C_Refused ?sub_C_InvalidTree_C_NoRow ?ne_C_InvalidTree_C_NoRow ?sub_C_InvalidTree_C_NoService ?ne_C_InvalidTree_C_NoService ?sub_C_InvalidTree_C_Mismatch ?ne_C_InvalidTree_C_Mismatch ?sub_C_InvalidTree_C_InvalidCommand ?ne_C_InvalidTree_C_InvalidCommand ?sub_C_Refused_C_InvalidRow ?ne_C_Refused_C_InvalidRow ?sub_C_Refused_C_InvalidService ?ne_C_Refused_C_InvalidService ?sub_C_Refused_C_InvalidBook ?ne_C_Refused_C_InvalidBook ?sub_C_Refused_C_InvalidText ?ne_C_Refused_C_InvalidText ?sub_C_Refused_C_InvalidTree ?ne_C_Refused_C_InvalidTree ?sub_C_Refused_C_Refused ?sub_C_Refused_C_NoRow ?ne_C_Refused_C_NoRow ?sub_C_Refused_C_NoService ?ne_C_Refused_C_NoService ?sub_C_Refused_C_Mismatch ?ne_C_Refused_C_Mismatch ?sub_C_Refused_C_InvalidCommand ?ne_C_Refused_C_InvalidCommand ?sub_C_NoRow_C_InvalidRow ?ne_C_NoRow_C_InvalidRow ?sub_C_NoRow_C_InvalidService ?ne_C_NoRow_C_InvalidService ?sub_C_NoRow_C_InvalidBook ?ne_C_NoRow_C_InvalidBook ?sub_C_NoRow_C_InvalidText ?ne_C_NoRow_C_InvalidText ?sub_C_NoRow_C_InvalidTree ?ne_C_NoRow_C_InvalidTree ?sub_C_NoRow_C_Refused ?ne_C_NoRow_C_Refused ?sub_C_NoRow_C_NoRow ?sub_C_NoRow_C_NoService ?ne_C_NoRow_C_NoService ?sub_C_NoRow_C_Mismatch ?ne_C_NoRow_C_Mismatch ?sub_C_NoRow_C_InvalidCommand ?ne_C_NoRow_C_InvalidCommand ?sub_C_NoService_C_InvalidRow ?ne_C_NoService_C_InvalidRow ?sub_C_NoService_C_InvalidService ?ne_C_NoService_C_InvalidService ?sub_C_NoService_C_InvalidBook ?ne_C_NoService_C_InvalidBook ?sub_C_NoService_C_InvalidText ?ne_C_NoService_C_InvalidText ?sub_C_NoService_C_InvalidTree ?ne_C_NoService_C_InvalidTree ?sub_C_NoService_C_Refused ?ne_C_NoService_C_Refused ?sub_C_NoService_C_NoRow ?ne_C_NoService_C_NoRow ?sub_C_NoService_C_NoService ?sub_C_NoService_C_Mismatch ?ne_C_NoService_C_Mismatch ?sub_C_NoService_C_InvalidCommand ?ne_C_NoService_C_InvalidCommand ?sub_C_Mismatch_C_InvalidRow ?ne_C_Mismatch_C_InvalidRow ?sub_C_Mismatch_C_InvalidService ?ne_C_Mismatch_C_InvalidService ?sub_C_Mismatch_C_InvalidBook ?ne_C_Mismatch_C_InvalidBook ?sub_C_Mismatch_C_InvalidText ?ne_C_Mismatch_C_InvalidText ?sub_C_Mismatch_C_InvalidTree ?ne_C_Mismatch_C_InvalidTree ?sub_C_Mismatch_C_Refused ?ne_C_Mismatch_C_Refused ?sub_C_Mismatch_C_NoRow ?ne_C_Mismatch_C_NoRow ?sub_C_Mismatch_C_NoService ?ne_C_Mismatch_C_NoService ?sub_C_Mismatch_C_Mismatch ?sub_C_Mismatch_C_InvalidCommand ?ne_C_Mismatch_C_InvalidCommand ?sub_C_InvalidCommand_C_InvalidRow ?ne_C_InvalidCommand_C_InvalidRow ?sub_C_InvalidCommand_C_InvalidService ?ne_C_InvalidCommand_C_InvalidService ?sub_C_InvalidCommand_C_InvalidBook ?ne_C_InvalidCommand_C_InvalidBook ?sub_C_InvalidCommand_C_InvalidText ?ne_C_InvalidCommand_C_InvalidText ?sub_C_InvalidCommand_C_InvalidTree ?ne_C_InvalidCommand_C_InvalidTree ?sub_C_InvalidCommand_C_Refused ?ne_C_InvalidCommand_C_Refused ?sub_C_InvalidCommand_C_NoRow ?ne_C_InvalidCommand_C_NoRow ?sub_C_InvalidCommand_C_NoService ?ne_C_InvalidCommand_C_NoService ?sub_C_InvalidCommand_C_Mismatch ?ne_C_InvalidCommand_C_Mismatch ?sub_C_InvalidCommand_C_InvalidCommand ?isC_C_TraceError ?tyC_C_TraceError ?sub_C_InvalidRow_C_TraceError ?sub_C_InvalidService_C_TraceError ?sub_C_InvalidBook_C_TraceError ?sub_C_InvalidText_C_TraceError ?sub_C_InvalidTree_C_TraceError ?sub_C_Refused_C_TraceError ?sub_C_NoRow_C_TraceError ?ne_C_NoRow_C_TraceError ?sub_C_NoService_C_TraceError ?ne_C_NoService_C_TraceError ?sub_C_Mismatch_C_TraceError ?sub_C_InvalidCommand_C_TraceError ?sub_C_InvalidRow_TValueError ?sub_C_InvalidService_TValueError ?sub_C_InvalidBook_TValueError ?sub_C_InvalidText_TValueError ?sub_C_InvalidTree_TValueError ?sub_C_Refused_TValueError ?sub_C_Mismatch_TValueError ?sub_C_InvalidCommand_TValueError ?sub_C_NoRow_TIndexError ?sub_C_NoService_TKeyError ?z_max ?z_min
    (case a_law => k_is)
    (case a__law_take => k_is)
    (case a__law_box => k_is)
    (case a__law_pick => k_is)
    (case a__law_any => k_is)
    (case a_InvalidRow => k_is)
    (case a_InvalidService => k_is)
    (case a_InvalidBook => k_is)
    (case a_InvalidText => k_is)
    (case a_InvalidTree => k_is)
    (case a_Refused => k_is)
    (case a_NoRow => k_is)
    (case a_NoService => k_is)
    (case a_Mismatch => k_is)
    (case a_InvalidCommand => k_is)
    (case a_TraceError => k_is)
    (case a__law_made => k_is)
    (case a__law_sorts => k_is)
    (case a__law_kept => k_is)
    (case in_f_InvalidRow_init => k_is)
    (case in_f_InvalidService_init => k_is)
    (case in_f_InvalidBook_init => k_is)
    (case in_f_InvalidText_init => k_is)
    (case in_f_InvalidTree_init => k_is)
    (case in_f_Refused_init => k_is)
    (case in_f_NoRow_init => k_is)
    (case in_f_NoService_init => k_is)
    (case l_take => k_is)
    (case l_box => k_is)
    (case l_pick => k_is)
    (case l_any => k_is)
    (case l_InvalidRow_init => k_is)
    (case l_InvalidService_init => k_is)
    (case l_InvalidBook_init => k_is)
    (case l_InvalidText_init => k_is)
    (case l_InvalidTree_init => k_is)
    (case l_Refused_init => k_is)
    (case l_NoRow_init => k_is)
    (case l_NoService_init => k_is)
    (case l_made => k_is)
    (case l_sorts => k_is)
    (case l_kept => k_is)
    (case l_law => k_is)
    (case xL_C_InvalidRow => k_is)
    (case xL_C_InvalidService => k_is)
    (case xL_C_InvalidBook => k_is)
    (case xL_C_InvalidText => k_is)
    (case xL_C_InvalidTree => k_is)
    (case xL_C_Refused => k_is)
    (case xL_C_NoRow => k_is)
    (case xL_C_NoService => k_is)
    (case cc_take => k_is)
    (case k_take => k_is)
    (case cc_box => k_is)
    (case k_box => k_is)
    (case cc_pick => k_is)
    (case k_pick => k_is)
    (case cc_any => k_is)
    (case k_any => k_is)
    (case cc_InvalidRow_init => k_is)
    (case k_InvalidRow_init => k_is)
    (case cc_InvalidService_init => k_is)
    (case k_InvalidService_init => k_is)
    (case cc_InvalidBook_init => k_is)
    (case k_InvalidBook_init => k_is)
    (case cc_InvalidText_init => k_is)
    (case k_InvalidText_init => k_is)
    (case cc_InvalidTree_init => k_is)
    (case k_InvalidTree_init => k_is)
    (case cc_Refused_init => k_is)
    (case k_Refused_init => k_is)
    (case cc_NoRow_init => k_is)
    (case k_NoRow_init => k_is)
    (case cc_NoService_init => k_is)
    (case k_NoService_init => k_is)
    (case cc_made => k_is)
    (case k_made => k_is)
    (case cc_sorts => k_is)
    (case k_sorts => k_is)
    (case cc_kept => k_is)
    (case k_kept => k_is)
    (case cc_law => k_is)
    (case k_law => k_is)
    (case z_len => k_is)
    (case z_int => k_is)
    (case z_abs => k_is)
    (case z_range => k_is)
    (case z_tuple => k_is)
    (case sa_C_InvalidRow => k_is)
    (case eb_C_InvalidRow => k_is)
    (case tyC_C_InvalidRow => k_is)
    (case kc_C_InvalidRow => k_is)
    (case q_nw_InvalidRow => k_is)
    (case q_t_InvalidRow => k_is)
    (case ga_C_InvalidRow => k_is)
    (case gg_C_InvalidRow => k_is)
    (case hd_C_InvalidRow => k_is)
    (case sa_C_InvalidService => k_is)
    (case eb_C_InvalidService => k_is)
    (case tyC_C_InvalidService => k_is)
    (case kc_C_InvalidService => k_is)
    (case q_nw_InvalidService => k_is)
    (case q_t_InvalidService => k_is)
    (case ga_C_InvalidService => k_is)
    (case gg_C_InvalidService => k_is)
    (case hd_C_InvalidService => k_is)
    (case sa_C_InvalidBook => k_is)
    (case eb_C_InvalidBook => k_is)
    (case tyC_C_InvalidBook => k_is)
    (case kc_C_InvalidBook => k_is)
    (case q_nw_InvalidBook => k_is)
    (case q_t_InvalidBook => k_is)
    (case ga_C_InvalidBook => k_is)
    (case gg_C_InvalidBook => k_is)
    (case hd_C_InvalidBook => k_is)
    (case sa_C_InvalidText => k_is)
    (case eb_C_InvalidText => k_is)
    (case tyC_C_InvalidText => k_is)
    (case kc_C_InvalidText => k_is)
    (case q_nw_InvalidText => k_is)
    (case q_t_InvalidText => k_is)
    (case ga_C_InvalidText => k_is)
    (case gg_C_InvalidText => k_is)
    (case hd_C_InvalidText => k_is)
    (case sa_C_InvalidTree => k_is)
    (case eb_C_InvalidTree => k_is)
    (case tyC_C_InvalidTree => k_is)
    (case kc_C_InvalidTree => k_is)
    (case q_nw_InvalidTree => k_is)
    (case q_t_InvalidTree => k_is)
    (case ga_C_InvalidTree => k_is)
    (case gg_C_InvalidTree => k_is)
    (case hd_C_InvalidTree => k_is)
    (case sa_C_Refused => k_is)
    (case eb_C_Refused => k_is)
    (case tyC_C_Refused => k_is)
    (case kc_C_Refused => k_is)
    (case q_nw_Refused => k_is)
    (case q_t_Refused => k_is)
    (case ga_C_Refused => k_is)
    (case gg_C_Refused => k_is)
    (case hd_C_Refused => k_is)
    (case sa_C_NoRow => k_is)
    (case eb_C_NoRow => k_is)
    (case tyC_C_NoRow => k_is)
    (case kc_C_NoRow => k_is)
    (case q_nw_NoRow => k_is)
    (case q_t_NoRow => k_is)
    (case ga_C_NoRow => k_is)
    (case gg_C_NoRow => k_is)
    (case hd_C_NoRow => k_is)
    (case sa_C_NoService => k_is)
    (case eb_C_NoService => k_is)
    (case tyC_C_NoService => k_is)
    (case kc_C_NoService => k_is)
    (case q_nw_NoService => k_is)
    (case q_t_NoService => k_is)
    (case ga_C_NoService => k_is)
    (case gg_C_NoService => k_is)
    (case hd_C_NoService => k_is)
    (case q_xc_Mismatch => k_exc)
    (case q_kp_Mismatch => k_is)
    (case q_xc_InvalidCommand => k_exc)
    (case q_kp_InvalidCommand => k_is)
    (case z_ValueError => k_is)
    (case z_IndexError => k_is)
    (case z_KeyError => k_is)
    (case z_isinstance => k_is)
    (case z_enumerate => k_is)
    (case z_repr => k_is)
    (case ca_C_InvalidRow => k_is)
    (case cg_ => k_is)
    (case ck_ => k_is)
    (case cm_C_InvalidRow => k_is)
    (case ca_C_InvalidService => k_is)
    (case cm_C_InvalidService => k_is)
    (case ca_C_InvalidBook => k_is)
    (case cm_C_InvalidBook => k_is)
    (case ca_C_InvalidText => k_is)
    (case cm_C_InvalidText => k_is)
    (case ca_C_InvalidTree => k_is)
    (case cm_C_InvalidTree => k_is)
    (case ca_C_Refused => k_is)
    (case cm_C_Refused => k_is)
    (case ca_C_NoRow => k_is)
    (case cm_C_NoRow => k_is)
    (case ca_C_NoService => k_is)
    (case cm_C_NoService => k_is)
    (case ga_C_Mismatch => k_is)
    (case gg_C_Mismatch => k_is)
    (case eb_C_Mismatch => k_is)
    (case hd_C_Mismatch => k_is)
    (case ca_C_Mismatch => k_is)
    (case cm_C_Mismatch => k_is)
    (case ga_C_InvalidCommand => k_is)
    (case gg_C_InvalidCommand => k_is)
    (case eb_C_InvalidCommand => k_is)
    (case hd_C_InvalidCommand => k_is)
    (case ca_C_InvalidCommand => k_is)
    (case cm_C_InvalidCommand => k_is)
    (case isC_C_InvalidRow => k_is)
    (case sub_C_InvalidRow_C_InvalidRow => first | k_is | rfl)
    (case isC_C_InvalidService => k_is)
    (case sub_C_InvalidRow_C_InvalidService => first | k_is | rfl)
    (case ne_C_InvalidRow_C_InvalidService => decide)
    (case isC_C_InvalidBook => k_is)
    (case sub_C_InvalidRow_C_InvalidBook => first | k_is | rfl)
    (case ne_C_InvalidRow_C_InvalidBook => decide)
    (case isC_C_InvalidText => k_is)
    (case sub_C_InvalidRow_C_InvalidText => first | k_is | rfl)
    (case ne_C_InvalidRow_C_InvalidText => decide)
    (case isC_C_InvalidTree => k_is)
    (case sub_C_InvalidRow_C_InvalidTree => first | k_is | rfl)
    (case ne_C_InvalidRow_C_InvalidTree => decide)
    (case isC_C_Refused => k_is)
    (case sub_C_InvalidRow_C_Refused => first | k_is | rfl)
    (case ne_C_InvalidRow_C_Refused => decide)
    (case isC_C_NoRow => k_is)
    (case sub_C_InvalidRow_C_NoRow => first | k_is | rfl)
    (case ne_C_InvalidRow_C_NoRow => decide)
    (case isC_C_NoService => k_is)
    (case sub_C_InvalidRow_C_NoService => first | k_is | rfl)
    (case ne_C_InvalidRow_C_NoService => decide)
    (case isC_C_Mismatch => k_is)
    (case tyC_C_Mismatch => k_is)
    (case sub_C_InvalidRow_C_Mismatch => first | k_is | rfl)
    (case ne_C_InvalidRow_C_Mismatch => decide)
    (case isC_C_InvalidCommand => k_is)
    (case tyC_C_InvalidCommand => k_is)
    (case sub_C_InvalidRow_C_InvalidCommand => first | k_is | rfl)
    (case ne_C_InvalidRow_C_InvalidCommand => decide)
    (case sub_C_InvalidService_C_InvalidRow => first | k_is | rfl)
    (case ne_C_InvalidService_C_InvalidRow => decide)
    (case sub_C_InvalidService_C_InvalidService => first | k_is | rfl)
    (case sub_C_InvalidService_C_InvalidBook => first | k_is | rfl)
    (case ne_C_InvalidService_C_InvalidBook => decide)
    (case sub_C_InvalidService_C_InvalidText => first | k_is | rfl)
    (case ne_C_InvalidService_C_InvalidText => decide)
    (case sub_C_InvalidService_C_InvalidTree => first | k_is | rfl)
    (case ne_C_InvalidService_C_InvalidTree => decide)
    (case sub_C_InvalidService_C_Refused => first | k_is | rfl)
    (case ne_C_InvalidService_C_Refused => decide)
    (case sub_C_InvalidService_C_NoRow => first | k_is | rfl)
    (case ne_C_InvalidService_C_NoRow => decide)
    (case sub_C_InvalidService_C_NoService => first | k_is | rfl)
    (case ne_C_InvalidService_C_NoService => decide)
    (case sub_C_InvalidService_C_Mismatch => first | k_is | rfl)
    (case ne_C_InvalidService_C_Mismatch => decide)
    (case sub_C_InvalidService_C_InvalidCommand => first | k_is | rfl)
    (case ne_C_InvalidService_C_InvalidCommand => decide)
    (case sub_C_InvalidBook_C_InvalidRow => first | k_is | rfl)
    (case ne_C_InvalidBook_C_InvalidRow => decide)
    (case sub_C_InvalidBook_C_InvalidService => first | k_is | rfl)
    (case ne_C_InvalidBook_C_InvalidService => decide)
    (case sub_C_InvalidBook_C_InvalidBook => first | k_is | rfl)
    (case sub_C_InvalidBook_C_InvalidText => first | k_is | rfl)
    (case ne_C_InvalidBook_C_InvalidText => decide)
    (case sub_C_InvalidBook_C_InvalidTree => first | k_is | rfl)
    (case ne_C_InvalidBook_C_InvalidTree => decide)
    (case sub_C_InvalidBook_C_Refused => first | k_is | rfl)
    (case ne_C_InvalidBook_C_Refused => decide)
    (case sub_C_InvalidBook_C_NoRow => first | k_is | rfl)
    (case ne_C_InvalidBook_C_NoRow => decide)
    (case sub_C_InvalidBook_C_NoService => first | k_is | rfl)
    (case ne_C_InvalidBook_C_NoService => decide)
    (case sub_C_InvalidBook_C_Mismatch => first | k_is | rfl)
    (case ne_C_InvalidBook_C_Mismatch => decide)
    (case sub_C_InvalidBook_C_InvalidCommand => first | k_is | rfl)
    (case ne_C_InvalidBook_C_InvalidCommand => decide)
    (case sub_C_InvalidText_C_InvalidRow => first | k_is | rfl)
    (case ne_C_InvalidText_C_InvalidRow => decide)
    (case sub_C_InvalidText_C_InvalidService => first | k_is | rfl)
    (case ne_C_InvalidText_C_InvalidService => decide)
    (case sub_C_InvalidText_C_InvalidBook => first | k_is | rfl)
    (case ne_C_InvalidText_C_InvalidBook => decide)
    (case sub_C_InvalidText_C_InvalidText => first | k_is | rfl)
    (case sub_C_InvalidText_C_InvalidTree => first | k_is | rfl)
    (case ne_C_InvalidText_C_InvalidTree => decide)
    (case sub_C_InvalidText_C_Refused => first | k_is | rfl)
    (case ne_C_InvalidText_C_Refused => decide)
    (case sub_C_InvalidText_C_NoRow => first | k_is | rfl)
    (case ne_C_InvalidText_C_NoRow => decide)
    (case sub_C_InvalidText_C_NoService => first | k_is | rfl)
    (case ne_C_InvalidText_C_NoService => decide)
    (case sub_C_InvalidText_C_Mismatch => first | k_is | rfl)
    (case ne_C_InvalidText_C_Mismatch => decide)
    (case sub_C_InvalidText_C_InvalidCommand => first | k_is | rfl)
    (case ne_C_InvalidText_C_InvalidCommand => decide)
    (case sub_C_InvalidTree_C_InvalidRow => first | k_is | rfl)
    (case ne_C_InvalidTree_C_InvalidRow => decide)
    (case sub_C_InvalidTree_C_InvalidService => first | k_is | rfl)
    (case ne_C_InvalidTree_C_InvalidService => decide)
    (case sub_C_InvalidTree_C_InvalidBook => first | k_is | rfl)
    (case ne_C_InvalidTree_C_InvalidBook => decide)
    (case sub_C_InvalidTree_C_InvalidText => first | k_is | rfl)
    (case ne_C_InvalidTree_C_InvalidText => decide)
    (case sub_C_InvalidTree_C_InvalidTree => first | k_is | rfl)
    (case sub_C_InvalidTree_C_Refused => first | k_is | rfl)
    (case ne_C_InvalidTree_C_Refused => decide)
    (case sub_C_InvalidTree_C_NoRow => first | k_is | rfl)
    (case ne_C_InvalidTree_C_NoRow => decide)
    (case sub_C_InvalidTree_C_NoService => first | k_is | rfl)
    (case ne_C_InvalidTree_C_NoService => decide)
    (case sub_C_InvalidTree_C_Mismatch => first | k_is | rfl)
    (case ne_C_InvalidTree_C_Mismatch => decide)
    (case sub_C_InvalidTree_C_InvalidCommand => first | k_is | rfl)
    (case ne_C_InvalidTree_C_InvalidCommand => decide)
    (case sub_C_Refused_C_InvalidRow => first | k_is | rfl)
    (case ne_C_Refused_C_InvalidRow => decide)
    (case sub_C_Refused_C_InvalidService => first | k_is | rfl)
    (case ne_C_Refused_C_InvalidService => decide)
    (case sub_C_Refused_C_InvalidBook => first | k_is | rfl)
    (case ne_C_Refused_C_InvalidBook => decide)
    (case sub_C_Refused_C_InvalidText => first | k_is | rfl)
    (case ne_C_Refused_C_InvalidText => decide)
    (case sub_C_Refused_C_InvalidTree => first | k_is | rfl)
    (case ne_C_Refused_C_InvalidTree => decide)
    (case sub_C_Refused_C_Refused => first | k_is | rfl)
    (case sub_C_Refused_C_NoRow => first | k_is | rfl)
    (case ne_C_Refused_C_NoRow => decide)
    (case sub_C_Refused_C_NoService => first | k_is | rfl)
    (case ne_C_Refused_C_NoService => decide)
    (case sub_C_Refused_C_Mismatch => first | k_is | rfl)
    (case ne_C_Refused_C_Mismatch => decide)
    (case sub_C_Refused_C_InvalidCommand => first | k_is | rfl)
    (case ne_C_Refused_C_InvalidCommand => decide)
    (case sub_C_NoRow_C_InvalidRow => first | k_is | rfl)
    (case ne_C_NoRow_C_InvalidRow => decide)
    (case sub_C_NoRow_C_InvalidService => first | k_is | rfl)
    (case ne_C_NoRow_C_InvalidService => decide)
    (case sub_C_NoRow_C_InvalidBook => first | k_is | rfl)
    (case ne_C_NoRow_C_InvalidBook => decide)
    (case sub_C_NoRow_C_InvalidText => first | k_is | rfl)
    (case ne_C_NoRow_C_InvalidText => decide)
    (case sub_C_NoRow_C_InvalidTree => first | k_is | rfl)
    (case ne_C_NoRow_C_InvalidTree => decide)
    (case sub_C_NoRow_C_Refused => first | k_is | rfl)
    (case ne_C_NoRow_C_Refused => decide)
    (case sub_C_NoRow_C_NoRow => first | k_is | rfl)
    (case sub_C_NoRow_C_NoService => first | k_is | rfl)
    (case ne_C_NoRow_C_NoService => decide)
    (case sub_C_NoRow_C_Mismatch => first | k_is | rfl)
    (case ne_C_NoRow_C_Mismatch => decide)
    (case sub_C_NoRow_C_InvalidCommand => first | k_is | rfl)
    (case ne_C_NoRow_C_InvalidCommand => decide)
    (case sub_C_NoService_C_InvalidRow => first | k_is | rfl)
    (case ne_C_NoService_C_InvalidRow => decide)
    (case sub_C_NoService_C_InvalidService => first | k_is | rfl)
    (case ne_C_NoService_C_InvalidService => decide)
    (case sub_C_NoService_C_InvalidBook => first | k_is | rfl)
    (case ne_C_NoService_C_InvalidBook => decide)
    (case sub_C_NoService_C_InvalidText => first | k_is | rfl)
    (case ne_C_NoService_C_InvalidText => decide)
    (case sub_C_NoService_C_InvalidTree => first | k_is | rfl)
    (case ne_C_NoService_C_InvalidTree => decide)
    (case sub_C_NoService_C_Refused => first | k_is | rfl)
    (case ne_C_NoService_C_Refused => decide)
    (case sub_C_NoService_C_NoRow => first | k_is | rfl)
    (case ne_C_NoService_C_NoRow => decide)
    (case sub_C_NoService_C_NoService => first | k_is | rfl)
    (case sub_C_NoService_C_Mismatch => first | k_is | rfl)
    (case ne_C_NoService_C_Mismatch => decide)
    (case sub_C_NoService_C_InvalidCommand => first | k_is | rfl)
    (case ne_C_NoService_C_InvalidCommand => decide)
    (case sub_C_Mismatch_C_InvalidRow => first | k_is | rfl)
    (case ne_C_Mismatch_C_InvalidRow => decide)
    (case sub_C_Mismatch_C_InvalidService => first | k_is | rfl)
    (case ne_C_Mismatch_C_InvalidService => decide)
    (case sub_C_Mismatch_C_InvalidBook => first | k_is | rfl)
    (case ne_C_Mismatch_C_InvalidBook => decide)
    (case sub_C_Mismatch_C_InvalidText => first | k_is | rfl)
    (case ne_C_Mismatch_C_InvalidText => decide)
    (case sub_C_Mismatch_C_InvalidTree => first | k_is | rfl)
    (case ne_C_Mismatch_C_InvalidTree => decide)
    (case sub_C_Mismatch_C_Refused => first | k_is | rfl)
    (case ne_C_Mismatch_C_Refused => decide)
    (case sub_C_Mismatch_C_NoRow => first | k_is | rfl)
    (case ne_C_Mismatch_C_NoRow => decide)
    (case sub_C_Mismatch_C_NoService => first | k_is | rfl)
    (case ne_C_Mismatch_C_NoService => decide)
    (case sub_C_Mismatch_C_Mismatch => first | k_is | rfl)
    (case sub_C_Mismatch_C_InvalidCommand => first | k_is | rfl)
    (case ne_C_Mismatch_C_InvalidCommand => decide)
    (case sub_C_InvalidCommand_C_InvalidRow => first | k_is | rfl)
    (case ne_C_InvalidCommand_C_InvalidRow => decide)
    (case sub_C_InvalidCommand_C_InvalidService => first | k_is | rfl)
    (case ne_C_InvalidCommand_C_InvalidService => decide)
    (case sub_C_InvalidCommand_C_InvalidBook => first | k_is | rfl)
    (case ne_C_InvalidCommand_C_InvalidBook => decide)
    (case sub_C_InvalidCommand_C_InvalidText => first | k_is | rfl)
    (case ne_C_InvalidCommand_C_InvalidText => decide)
    (case sub_C_InvalidCommand_C_InvalidTree => first | k_is | rfl)
    (case ne_C_InvalidCommand_C_InvalidTree => decide)
    (case sub_C_InvalidCommand_C_Refused => first | k_is | rfl)
    (case ne_C_InvalidCommand_C_Refused => decide)
    (case sub_C_InvalidCommand_C_NoRow => first | k_is | rfl)
    (case ne_C_InvalidCommand_C_NoRow => decide)
    (case sub_C_InvalidCommand_C_NoService => first | k_is | rfl)
    (case ne_C_InvalidCommand_C_NoService => decide)
    (case sub_C_InvalidCommand_C_Mismatch => first | k_is | rfl)
    (case ne_C_InvalidCommand_C_Mismatch => decide)
    (case sub_C_InvalidCommand_C_InvalidCommand => first | k_is | rfl)
    (case isC_C_TraceError => k_is)
    (case tyC_C_TraceError => k_is)
    (case sub_C_InvalidRow_C_TraceError => first | k_is | rfl)
    (case sub_C_InvalidService_C_TraceError => first | k_is | rfl)
    (case sub_C_InvalidBook_C_TraceError => first | k_is | rfl)
    (case sub_C_InvalidText_C_TraceError => first | k_is | rfl)
    (case sub_C_InvalidTree_C_TraceError => first | k_is | rfl)
    (case sub_C_Refused_C_TraceError => first | k_is | rfl)
    (case sub_C_NoRow_C_TraceError => first | k_is | rfl)
    (case ne_C_NoRow_C_TraceError => decide)
    (case sub_C_NoService_C_TraceError => first | k_is | rfl)
    (case ne_C_NoService_C_TraceError => decide)
    (case sub_C_Mismatch_C_TraceError => first | k_is | rfl)
    (case sub_C_InvalidCommand_C_TraceError => first | k_is | rfl)
    (case sub_C_InvalidRow_TValueError => first | k_is | rfl)
    (case sub_C_InvalidService_TValueError => first | k_is | rfl)
    (case sub_C_InvalidBook_TValueError => first | k_is | rfl)
    (case sub_C_InvalidText_TValueError => first | k_is | rfl)
    (case sub_C_InvalidTree_TValueError => first | k_is | rfl)
    (case sub_C_Refused_TValueError => first | k_is | rfl)
    (case sub_C_Mismatch_TValueError => first | k_is | rfl)
    (case sub_C_InvalidCommand_TValueError => first | k_is | rfl)
    (case sub_C_NoRow_TIndexError => first | k_is | rfl)
    (case sub_C_NoService_TKeyError => first | k_is | rfl)
    (case z_max => k_is)
    (case z_min => k_is)
