import PyProof.Rows.All
import Wide.All
import OpenK.AllK
import Wide.FinOn
import HandS.ForMost
import HandS.Evl
import HandS.Style
import HandS.Walk
import HandS.IsInst
import HandS.Deep
import PySem.Challenge.RW_wholetraces_k02_rows_made
import HandS.ExcInit
import HandS.ExcField
import HandS.TryOnly
import HandS.WordsExc
import HandS.FStr
import PyProof.StrLawsRepr
import PyProof.ReprNest
import PyProof.ReprLen
import HandS.TupMul
set_option Elab.async false
set_option maxRecDepth 100000
set_option maxHeartbeats 4000000
set_option linter.all false
/-! ## Words of my own that speak of no program -/
namespace My
open PySem L2
/-- the box of draws: three ints -/
def bx (w s c : Int) : HO := .lst [.int w, .int s, .int c]
theorem small_ {n : Nat} (h : n ≤ 1000) : n ≤ sizeLine := Nat.le_of_lt (small1000 h)
theorem at_some {xs : List V} {k : Int} (h0 : 0 ≤ k) (h1 : k < (xs.length : Int)) : ∃ v : V, atI xs k = some v ∧ xs[k.toNat]? = some v := by
  have hk : k.toNat < xs.length := by omega
  have h2 : xs[k.toNat]? = some xs[k.toNat] := List.getElem?_eq_getElem hk
  have h3 := atI_nat h2
  rw [show ((k.toNat : Nat) : Int) = k by omega] at h3
  exact ⟨_, h3, h2⟩
theorem int_at {ns : List Int} {k : Int} (h0 : 0 ≤ k) (h1 : k < (ns.length : Int)) : ∃ z : Int, atI (ns.map V.int) k = some (.int z) := by
  obtain ⟨v, h, e⟩ := at_some (xs := ns.map V.int) h0 (by rw [List.length_map]; exact h1)
  rw [List.getElem?_map] at e
  cases q : ns[k.toNat]? with
  | none => rw [q] at e; cases e
  | some z => rw [q] at e; cases e; exact ⟨z, h⟩
/-! ### the heap grows, the box alone changes -/
structure Gr (b : Addr) (H H' : Hp) : Prop where
  keep : ∀ a o, a ≠ b → H a = some o → H' a = some o
  box : ∃ w s c, H' b = some (bx w s c)
/-- at a, which is not the box, stands o -/
structure At (b : Addr) (H : Hp) (a : Addr) (o : HO) : Prop where
  ne : a ≠ b
  at_ : H a = some o
theorem Gr.refl {b : Addr} {H : Hp} {w s c : Int} (h : H b = some (bx w s c)) : Gr b H H := ⟨fun _ _ _ e => e, w, s, c, h⟩
theorem Gr.trans {b : Addr} {H H1 H2 : Hp} (x : Gr b H H1) (y : Gr b H1 H2) : Gr b H H2 := ⟨fun a o n e => y.keep a o n (x.keep a o n e), y.box⟩
theorem Gr.draw {b : Addr} {H H1 : Hp} (x : Gr b H H1) (w s c : Int) : Gr b H (upd H1 b (bx w s c)) := ⟨fun a o n e => by rw [upd_ne n]; exact x.keep a o n e, w, s, c, upd_same⟩
theorem Gr.ne_new {b p : Addr} {H H1 : Hp} (x : Gr b H H1) (h : H1 p = none) : p ≠ b := fun e => by
  obtain ⟨w, s, c, q⟩ := x.box
  rw [e, q] at h
  cases h
theorem Gr.free {b p : Addr} {H H1 : Hp} (x : Gr b H H1) (h : H1 p = none) : H p = none := by
  cases q : H p with
  | none => rfl
  | some o =>
    rw [x.keep p o (x.ne_new h) q] at h
    cases h
theorem Gr.new {b p : Addr} {H H1 : Hp} (x : Gr b H H1) (h : H1 p = none) (o : HO) : Gr b H (upd H1 p o) := by
  have np := x.ne_new h
  refine ⟨fun a u n e => ?_, ?_⟩
  · rw [upd_ne (ne_of_none (x.keep a u n e) h)]
    exact x.keep a u n e
  · obtain ⟨w, s, c, q⟩ := x.box
    exact ⟨w, s, c, by rw [upd_ne np.symm]; exact q⟩
/-- what H does not know may be changed -/
theorem Gr.mut {b p : Addr} {H H1 : Hp} (x : Gr b H H1) (h : H p = none) (np : p ≠ b) (o : HO) : Gr b H (upd H1 p o) := by
  refine ⟨fun a u n e => ?_, ?_⟩
  · rw [upd_ne (ne_of_none e h)]
    exact x.keep a u n e
  · obtain ⟨w, s, c, q⟩ := x.box
    exact ⟨w, s, c, by rw [upd_ne np.symm]; exact q⟩
theorem At.gr {b a : Addr} {H H' : Hp} {o : HO} (h : At b H a o) (g : Gr b H H') : At b H' a o := ⟨h.ne, g.keep a o h.ne h.at_⟩
theorem At.l {K : PySem.W.Frag} {b a : Addr} {H : Hp} {xs : List V} (h : At b H a (.lst xs)) : SqL K H a xs := SqL.of h.at_
theorem At.t {K : PySem.W.Frag} {b a : Addr} {H : Hp} {xs : List V} (h : At b H a (.tup xs)) : SqT K H a xs := SqT.of h.at_
theorem Gr.at_new {b p : Addr} {H H1 : Hp} (x : Gr b H H1) (h : H1 p = none) (o : HO) : At b (upd H1 p o) p o := ⟨x.ne_new h, upd_same⟩
theorem At.new {b a p : Addr} {H : Hp} {o u : HO} (h : At b H a o) (hp : H p = none) : At b (upd H p u) a o := ⟨h.ne, by rw [upd_ne (ne_of_none h.at_ hp)]; exact h.at_⟩
theorem At.nep {b a p : Addr} {H : Hp} {o : HO} (h : At b H a o) (hp : H p = none) : a ≠ p := ne_of_none h.at_ hp
theorem Gr.of_new {b p : Addr} {H : Hp} {w s c : Int} (hb : H b = some (bx w s c)) (h : H p = none) (o : HO) : Gr b H (upd H p o) := (Gr.refl hb).new h o
theorem At.mk_new {b p : Addr} {H H1 : Hp} (x : Gr b H H1) (h : H1 p = none) (o : HO) : At b (upd H1 p o) p o := ⟨x.ne_new h, upd_same⟩
theorem Same.gr {b : Addr} {H H' : Hp} {w s c : Int} (e : Same H H') (h : H b = some (bx w s c)) : Gr b H H' := ⟨fun a o _ q => e a o q, w, s, c, e _ _ h⟩
theorem same_upd {H : Hp} {p : Addr} (h : H p = none) (o : HO) : Same H (upd H p o) := fun b u q => by rw [upd_ne (ne_of_none q h)]; exact q

/-! ### a list against an empty list -/
section
variable {X : Cx}
def rEqE (K : PySem.W.Frag) (neg : Bool) : R2 := fun x y H Q => ∃ (a q : Addr) (xs : List V), x = .ref a ∧ y = .ref q ∧ SqL K H a xs ∧ SqL K H q [] ∧ Q (.bl (if neg then !xs.isEmpty else xs.isEmpty)) H
theorem op_eqE (hu : X.A.units < cLine) : OpR X (compareOp .Eq) (rEqE X.K false) := by
  intro pins s σ H x y u v Q I rx ry h
  obtain ⟨a, q, xs, rfl, rfl, h1, h2, k⟩ := h
  cases rx
  cases ry
  obtain ⟨is, r, p, _⟩ := I.list h1
  obtain ⟨js, r', p', _⟩ := I.list h2
  cases r'
  cases xs with
  | nil =>
    cases r
    exact SeqAt.RcAt.lists (e := fun _ => true) p.isList p'.isList rfl hu (fun j h1 _ => absurd h1 (by simp)) X.prog X.w X.xe _ ⟨.bl true, H, I, rfl, k⟩
  | cons x xs =>
    cases r with
    | cons r1 r2 => exact SeqAt.RcAt.lists_lengths p.isList p'.isList (by simp) hu X.prog X.w X.xe _ ⟨.bl false, H, I, rfl, k⟩
theorem op_neE (hu : X.A.units < cLine) : OpR X (compareOp .NotEq) (rEqE X.K true) := by
  intro pins s σ H x y u v Q I rx ry h
  obtain ⟨a, q, xs, rfl, rfl, h1, h2, k⟩ := h
  cases rx
  cases ry
  obtain ⟨is, r, p, _⟩ := I.list h1
  obtain ⟨js, r', p', _⟩ := I.list h2
  cases r'
  cases xs with
  | nil =>
    cases r
    exact SeqAt.RcNeAt.lists (e := fun _ => true) p.isList p'.isList rfl hu (fun j h1 _ => absurd h1 (by simp)) X.prog X.w X.xe _ ⟨.bl false, H, I, rfl, k⟩
  | cons x xs =>
    cases r with
    | cons r1 r2 => exact SeqAt.RcNeAt.lists_lengths p.isList p'.isList (by simp) hu X.prog X.w X.xe _ ⟨.bl true, H, I, rfl, k⟩
/-- a text so many times -/
def timesL (x : List Nat) : Nat → List Nat
  | 0 => []
  | n + 1 => x ++ timesL x n
end
end My

/-! ## Further rules of my own: a text so many times -/
namespace My
open PySem L2
theorem timesL_one (x : List Nat) : timesL x 1 = x := by simp [timesL]
theorem fold_times (x : Array Nat) : ∀ (n : Nat) (acc : Array Nat), ((List.replicate n x).foldl (· ++ ·) acc).toList = acc.toList ++ timesL x.toList n
  | 0, acc => by simp [timesL]
  | n + 1, acc => by
    rw [List.replicate_succ, List.foldl_cons, fold_times x n, Array.toList_append, List.append_assoc]
    rfl
theorem timesL_len (x : List Nat) : ∀ n : Nat, (timesL x n).length = n * x.length
  | 0 => by simp [timesL]
  | n + 1 => by
    show (x ++ timesL x n).length = (n + 1) * x.length
    rw [List.length_append, timesL_len x n, Nat.add_mul, Nat.one_mul, Nat.add_comm]
theorem timesL_nil : ∀ n : Nat, timesL [] n = []
  | 0 => rfl
  | n + 1 => by
    show [] ++ timesL [] n = []
    rw [timesL_nil n]
    rfl
section
variable {X : Cx}
theorem op_mul_str : OpR X (binaryOp .Mult) (fun x y H Q => ∃ (z : Str) (n : Int), x = .str z ∧ y = .int n ∧ 0 ≤ n ∧ n ≤ 1000 ∧ z.length ≤ 1000 ∧ Q (.str ⟨(timesL z.cps.toList n.toNat).toArray⟩) H) := by
  intro pins s σ H x y v u Q I rx ry h
  obtain ⟨z, n, rfl, rfl, h0, h1, hz, k⟩ := h
  obtain ⟨t, rfl⟩ := rx
  obtain ⟨t', rfl⟩ := ry
  have hs : z.cps.size ≤ 1000 := hz
  refine PySem.P.mul_str (by rw [decide_eq_false (by omega), decide_eq_false (by omega)]; rfl) (fun h2 _ => ?_) (fun h2 _ => ?_) ?_
  · have h3 : (1000 : Int) ≤ (2 ^ 63 - 1) / n := by
      rw [Int.le_ediv_iff_mul_le (by omega)]
      have : (1000 : Int) * n ≤ 1000000 := by omega
      omega
    omega
  · have h3 : z.length * n.toNat ≤ 1000 * 1000 := Nat.mul_le_mul hz (by omega)
    have h4 : z.length * n.toNat ≤ sizeLine := by rw [sizeLine_eq]; omega
    show decide (z.length * n.toNat > sizeLine) = false
    exact decide_eq_false (by omega)
  · by_cases n0 : n < 1
    · have e : n = 0 := by omega
      subst e
      exact ⟨Nat.zero_le _, .str ⟨#[]⟩, H, I.tok _, ⟨_, rfl⟩, k⟩
    · rw [if_neg n0]
      by_cases e : (n == 1 || z.length == 0) = true
      · rw [if_pos e]
        have q : timesL z.cps.toList n.toNat = z.cps.toList := by
          rcases Bool.or_eq_true_iff.mp e with e | e
          · have e' : n = 1 := by simpa using e
            subst e'
            exact timesL_one _
          · have e' : z.cps.toList = [] := by
              have : z.cps.size = 0 := by simpa [Str.length] using e
              exact List.eq_nil_of_length_eq_zero (by simpa using this)
            rw [e', timesL_nil]
        rw [q] at k
        exact ⟨.str z, H, I, ⟨t, rfl⟩, by simpa using k⟩
      · rw [if_neg e]
        have q : (⟨(List.replicate n.toNat z.cps).foldl (· ++ ·) #[]⟩ : Str) = ⟨(timesL z.cps.toList n.toNat).toArray⟩ := by
          have f := fold_times z.cps n.toNat #[]
          have g : (List.replicate n.toNat z.cps).foldl (· ++ ·) #[] = (timesL z.cps.toList n.toNat).toArray := by
            apply Array.toList_inj.mp
            rw [f]
            simp
          rw [g]
        rw [← q] at k
        refine ⟨?_, .str _, H, I.tok _, ⟨_, rfl⟩, k⟩
        show ((List.replicate n.toNat z.cps).foldl (· ++ ·) #[]).size ≤ sizeLine
        rw [← Array.length_toList, fold_times, List.length_append, timesL_len]
        have h3 : n.toNat * z.cps.toList.length ≤ 1000 * 1000 := Nat.mul_le_mul (by omega) (by simpa using hs)
        rw [sizeLine_eq]
        simpa using (by omega : n.toNat * z.cps.toList.length ≤ 16777216)
end
end My

/-! ## The rules that read the written part, with it named (within a comprehension's block it must not hang on the block) -/
namespace My
open PySem L2
section
variable {X : Cx} {e a b o : Expr} {es : List Expr} {te ta tb to : TE} {t : TA} {f name : Str} {pos cpos p apos : Pos} {id T : String}
theorem pe_fldK (K : PySem.W.Frag) (he : PE X e ta) (hK : X.K = K := by rfl) (hb : attributeBase e f X.env (eval e X.env) = eval e X.env := by rfl) : PE X (.Attribute e f pos) (tFld K ta f) := hK ▸ pe_fld he hb
theorem ix_listK (K : PySem.W.Frag) (hK : X.K = K := by rfl) : IxR X (rIxL K) := hK ▸ ix_list
theorem ix_tupK (K : PySem.W.Frag) (hK : X.K = K := by rfl) : IxR X (rIxT K) := hK ▸ ix_tup
theorem sl_listK (K : PySem.W.Frag) (hK : X.K = K := by rfl) : SlR X (rSlL K) := hK ▸ sl_list
theorem sl_tupK (K : PySem.W.Frag) (hK : X.K = K := by rfl) : SlR X (rSlT K) := hK ▸ sl_tup
def rLenS (K : PySem.W.Frag) : List V → Hp → VK → Prop := fun xs H Q => ∃ p ys, xs = [.ref p] ∧ (SqL K H p ys ∨ SqT K H p ys) ∧ Q (.int ys.length) H
theorem call_lenK (K : PySem.W.Frag) (hK : X.K = K := by rfl) : CallR X (.builtin "len") (rLenS K) := hK ▸ call_len_seq
def rListO (K : PySem.W.Frag) : List V → Hp → VK → Prop := fun xs H Q => ∃ p ys, xs = [.ref p] ∧ (SqL K H p ys ∨ SqT K H p ys) ∧ ∀ l, H l = none → Q (.ref l) (upd H l (.lst ys))
theorem call_listK (K : PySem.W.Frag) (hK : X.K = K := by rfl) : CallR X (.type "list") (rListO K) := hK ▸ call_list_of
def rTupO (K : PySem.W.Frag) : List V → Hp → VK → Prop := fun xs H Q => ∃ p ys, xs = [.ref p] ∧ ((SqL K H p ys ∧ ∀ l, H l = none → Q (.ref l) (upd H l (.tup ys))) ∨ (SqT K H p ys ∧ Q (.ref p) H))
theorem call_tupleK (K : PySem.W.Frag) (hK : X.K = K := by rfl) : CallR X (.type "tuple") (rTupO K) := hK ▸ call_tuple_of
theorem op_inK (K : PySem.W.Frag) (hK : X.K = K := by rfl) : OpR X (compareOp .In) (rIn K false) := hK ▸ op_in_seq
theorem op_notInK (K : PySem.W.Frag) (hK : X.K = K := by rfl) : OpR X (compareOp .NotIn) (rIn K true) := hK ▸ op_notIn_seq
theorem op_eqDK (K : PySem.W.Frag) (hu : X.A.units + 64 < cLine) (hK : X.K = K := by rfl) : OpR X (compareOp .Eq) (rEqD K) := hK ▸ op_eqD hu
theorem op_neDK (K : PySem.W.Frag) (hu : X.A.units + 64 < cLine) (hK : X.K = K := by rfl) : OpR X (compareOp .NotEq) (rNeD K) := hK ▸ op_neD hu
theorem op_eqEK (K : PySem.W.Frag) (hu : X.A.units < cLine) (hK : X.K = K := by rfl) : OpR X (compareOp .Eq) (rEqE K false) := hK ▸ op_eqE hu
theorem op_neEK (K : PySem.W.Frag) (hu : X.A.units < cLine) (hK : X.K = K := by rfl) : OpR X (compareOp .NotEq) (rEqE K true) := hK ▸ op_neE hu
def rJoin (K : PySem.W.Frag) : V → List V → Hp → VK → Prop := fun x xs H Q => ∃ a p, ∃ ys : List Str, x = .str a ∧ xs = [.ref p] ∧ (SqL K H p (ys.map V.str) ∨ SqT K H p (ys.map V.str)) ∧
  (ys.map (·.length)).sum + ys.length * a.length ≤ 16777216 ∧ Q (.str (Txt.join a ys)) H
theorem mt_joinK (K : PySem.W.Frag) (hK : X.K = K := by rfl) : MtR X "str.join" (rJoin K) := hK ▸ mt_join
theorem pi_listK (K : PySem.W.Frag) {tg : Expr} (hl : PE X e te) (hK : X.K = K := by rfl) : PI X tg e (iList K te) := hK ▸ pi_list hl
theorem pi_tupK (K : PySem.W.Frag) {tg : Expr} (hl : PE X e te) (hK : X.K = K := by rfl) : PI X tg e (iTup K te) := hK ▸ pi_tup hl
theorem call_isiV (K : PySem.W.Frag) (hK : X.K = K := by rfl) : CallR X (.builtin "isinstance") (rIsi K) := hK ▸ call_isi
theorem call_isiTV (K : PySem.W.Frag) (hK : X.K = K := by rfl) : CallR X (.builtin "isinstance") (rIsiT K) := hK ▸ call_isiT
theorem cr_allK (K : PySem.W.Frag) (hc : X.calm = true) (hK : X.K = K := by rfl) : CallR X (.builtin "all") (rAll K) := hK ▸ cr_all hc
end
end My

/-! ## Data: values that are nested lists and tuples -/
namespace My
open PySem L2
mutual
theorem Dp.same {K : PySem.W.Frag} {H H' : Hp} (e : Same H H') : ∀ (d : PyData) (v : V), Dp K H v d → Dp K H' v d
  | .none, _, h => by cases h; exact .non
  | .bool b, _, h => by cases h; exact .bl b
  | .int i, _, h => by cases h; exact .int i
  | .str x, _, h => by cases h; exact .str x
  | .list ds, _, h => by
    cases h with
    | lst hs ha => exact .lst (e.seq hs) (DpAll.same e ds _ ha)
  | .tuple ds, _, h => by
    cases h with
    | tup hs ha =>
      refine .tup ?_ (DpAll.same e ds _ ha)
      rcases hs with (hs | ⟨o, hs⟩) | hs
      · exact .inl (.inl (e _ _ hs))
      · exact .inl (.inr ⟨o, e _ _ hs⟩)
      · exact .inr hs
  | .dict _, _, h => by cases h
theorem DpAll.same {K : PySem.W.Frag} {H H' : Hp} (e : Same H H') : ∀ (ds : List PyData) (vs : List V), DpAll K H vs ds → DpAll K H' vs ds
  | [], _, h => by cases h; exact .nil
  | d :: ds, _, h => by
    cases h with
    | cons h1 h2 => exact .cons (Dp.same e d _ h1) (DpAll.same e ds _ h2)
end
theorem seqL_same {K : PySem.W.Frag} {H H' : Hp} (e : Same H H') {a : Addr} {xs : List V} (h : SqL K H a xs) : SqL K H' a xs := e.seq h
theorem seqT_same {K : PySem.W.Frag} {H H' : Hp} (e : Same H H') {a : Addr} {xs : List V} (hs : SqT K H a xs) : SqT K H' a xs := by
  rcases hs with (hs | ⟨o, hs⟩) | hs
  · exact .inl (.inl (e _ _ hs))
  · exact .inl (.inr ⟨o, e _ _ hs⟩)
  · exact .inr hs
theorem tyL {K : PySem.W.Frag} {H : Hp} {a : Addr} {xs : List V} (h : SqL K H a xs) : TyX K H (.ref a) (.type "list") := by
  rcases h with (h | ⟨o, h⟩) | ⟨o, its, n, h, hc, _⟩
  · exact .base (.lst h)
  · exact .base (.frz h)
  · exact .kList h hc
theorem tyT {K : PySem.W.Frag} {H : Hp} {a : Addr} {xs : List V} (h : SqT K H a xs) : TyX K H (.ref a) (.type "tuple") := by
  rcases h with (h | ⟨o, h⟩) | ⟨o, its, n, h, hc, _⟩
  · exact .base (.tup h)
  · exact .fTuple h
  · exact .kTuple h hc
/-- the type of a datum -/
def tyD : PyData → String
  | .none => "NoneType"
  | .bool _ => "bool"
  | .int _ => "int"
  | .str _ => "str"
  | .list _ => "list"
  | .tuple _ => "tuple"
  | .dict _ => "dict"
theorem Dp.ty {K : PySem.W.Frag} {H : Hp} {v : V} {d : PyData} (h : Dp K H v d) : TyX K H v (.type (tyD d)) := by
  cases h with
  | non => exact .base .non
  | bl b => exact .base (.bl b)
  | int i => exact .base (.int i)
  | str x => exact .base (.str x)
  | lst hs _ => exact tyL hs
  | tup hs _ => exact tyT hs
/-- a datum of bounded depth whose text, if it is one, is short -/
structure Dv (K : PySem.W.Frag) (H : Hp) (v : V) (d : PyData) : Prop where
  dp : Dp K H v d
  sh : SeqAt.shaped d = true
  tx : ∀ x, d = .str x → x.length ≤ 2000
theorem Dv.same {K : PySem.W.Frag} {H H' : Hp} {v : V} {d : PyData} (h : Dv K H v d) (e : Same H H') : Dv K H' v d := ⟨Dp.same e d v h.dp, h.sh, h.tx⟩
/-- a short text of code points -/
def okS (x : Str) : Bool := decide (x.length ≤ 2000) && PyData.strOk x
theorem shaped_str {x : Str} (h : PyData.strOk x = true) : SeqAt.shaped (.str x) = true := by
  unfold SeqAt.shaped
  simp [PyData.canLay0, PyData.depth, h]
theorem Dv.str {K : PySem.W.Frag} {H : Hp} {x : Str} (h : okS x = true) : Dv K H (.str x) (.str x) := by
  have h' := Bool.and_eq_true_iff.mp h
  exact ⟨.str x, shaped_str h'.2, fun y e => by cases e; exact of_decide_eq_true h'.1⟩
theorem Dp.all_strs {K : PySem.W.Frag} {H : Hp} : ∀ l : List Str, DpAll K H (l.map V.str) (l.map PyData.str)
  | [] => .nil
  | x :: l => .cons (.str x) (Dp.all_strs l)
/-- a datum as a text among some -/
def txD (l : List Str) : PyData → Bool
  | .str x => l.contains x
  | _ => false
theorem any_strs (l : List Str) (d : PyData) : ((l.map PyData.str).any fun z => PyData.eqv z d) = txD l d := by
  induction l with
  | nil => cases d <;> rfl
  | cons y l ih =>
    rw [List.map_cons, List.any_cons, ih]
    cases d with
    | str x =>
      show (PyData.eqv (.str y) (.str x) || l.contains x) = (y :: l).contains x
      rw [List.contains_cons, show PyData.eqv (.str y) (.str x) = (y == x) from by simp [PyData.eqv], BEq.comm]
    | _ =>
      show (PyData.eqv (.str y) _ || false) = false
      simp [PyData.eqv]
theorem canLay_strs : ∀ l : List Str, (l.all PyData.strOk) = true → PyData.canLayAll0 (l.map PyData.str) = true
  | [], _ => rfl
  | y :: l, h => by
    rw [List.all_cons, Bool.and_eq_true] at h
    have ih := canLay_strs l h.2
    simp [PyData.canLayAll0, PyData.canLay0, h.1, ih]
theorem depth_strs : ∀ l : List Str, PyData.depthAll (l.map PyData.str) = 0
  | [] => by simp [PyData.depthAll]
  | y :: l => by
    have ih := depth_strs l
    simp [PyData.depthAll, PyData.depth, ih]
theorem shaped_strs {l : List Str} (h : (l.all PyData.strOk) = true) : SeqAt.shaped (.tuple (l.map PyData.str)) = true := by
  unfold SeqAt.shaped
  simp [PyData.canLay0, PyData.depth, canLay_strs l h, depth_strs l]
theorem shapedL_strs {l : List Str} (h : (l.all PyData.strOk) = true) : SeqAt.shaped (.list (l.map PyData.str)) = true := by
  unfold SeqAt.shaped
  simp [PyData.canLay0, PyData.depth, canLay_strs l h, depth_strs l]
section
variable {X : Cx}
def rInT (K : PySem.W.Frag) (neg : Bool) : R2 := fun x y H Q => ∃ d ds, Dp K H x d ∧ Dp K H y (.tuple ds) ∧ SeqAt.shaped d = true ∧ SeqAt.shaped (.tuple ds) = true ∧ Q (.bl (if neg then !ds.any fun z => PyData.eqv z d else ds.any fun z => PyData.eqv z d)) H
theorem op_inT (K : PySem.W.Frag) (hu : X.A.units + 65 < cLine) (hK : X.K = K := by rfl) : OpR X (compareOp .In) (rInT K false) := by
  subst hK
  intro pins s σ H x y v u Q I rx ry h
  obtain ⟨d, ds, hd, he, sd, se, q⟩ := h
  obtain ⟨as, r1⟩ := Dp.reads I d x v hd rx
  obtain ⟨bs, r2⟩ := Dp.reads I (.tuple ds) y u he ry
  exact SeqAt.in_tuple_reads r2 r1 (by simpa [PyData.canLay0] using SeqAt.canLay_of_shaped se) (SeqAt.canLay_of_shaped sd) (by have := SeqAt.depth_of_shaped sd; have := Nat.min_le_right (PyData.depthAll ds) d.depth; omega) ⟨.bl _, H, I, rfl, q⟩
theorem op_notInT (K : PySem.W.Frag) (hu : X.A.units + 65 < cLine) (hK : X.K = K := by rfl) : OpR X (compareOp .NotIn) (rInT K true) := by
  subst hK
  intro pins s σ H x y v u Q I rx ry h
  obtain ⟨d, ds, hd, he, sd, se, q⟩ := h
  obtain ⟨as, r1⟩ := Dp.reads I d x v hd rx
  obtain ⟨bs, r2⟩ := Dp.reads I (.tuple ds) y u he ry
  exact SeqAt.notIn_tuple_reads r2 r1 (by simpa [PyData.canLay0] using SeqAt.canLay_of_shaped se) (SeqAt.canLay_of_shaped sd) (by have := SeqAt.depth_of_shaped sd; have := Nat.min_le_right (PyData.depthAll ds) d.depth; omega) ⟨.bl _, H, I, rfl, q⟩
end
theorem room65 {k : Nat} {A : Around} (r : Room k A) : A.units + 65 < cLine := by have := r.un; omega
end My

/-! ## == and != of own instances, str of one -/
namespace PySem.W
open PySem PySem.Spec PySem.Calls PyProof.Rows
section
variable {prog : Program} {w : World} {A : Around} {E : Value → Shared → Prop} {s : Shared} {K : Frag} {x C f : Addr} {ox : Obj} {od : Option Obj} {b tb : Value}
theorem my_boundB {M : Model} {name : Str} {id : String} {args : List Value} {Q : Option Value → Shared → Prop} (Y : K.In s.heap) (J : InstAt s.heap x ox C od) (e : findIn K (.ref C) name = some (some (.builtin id)))
    (bd : ∀ u, bindSpecial (.builtin id) u = pure (.builtin id, [u])) (q : wpAny M A (call (.builtin id) (.ref x :: args)) (fun v => Q (some v)) E s) : wpAny M A (callSpecialIfBound? (.ref x) name args) Q E s := by
  have q' : wpAny M A (call (.builtin id) ([.ref x] ++ args) >>= fun v => pure (some v)) Q E s := wpAny_bind (wpAny_mono q (fun _ _ z => wpAny_pure z) fun _ _ z => z)
  simp only [callSpecialIfBound?, bindSpecialIfBound?, bd]
  refine wpAny_holding (wpAny_bind (wpAny_bind (wpAny_bind (J.type.here ((looks_findIn Y e).here (wpAny_bind (wpAny_askSetting (wpAny_ite ?_))))))))
  split
  · refine wpAny_bind ?_
    rw [bd]
    exact wpAny_pure (wpAny_pure q')
  · refine wpAny_tryCatch (wpAny_bind ?_)
    rw [bd]
    exact wpAny_pure (wpAny_pure q')
theorem my_neBody {Q : Fin → Shared → Prop} (hu : A.units < cLine) (Y : K.In s.heap) (J : InstAt s.heap x ox C od) (e : findIn K (.ref C) "__eq__" = some (some (.ref f))) (g : isFn K (.ref f) = true)
    (q : wpAny (model prog w) A (call (.ref f) [.ref x, b]) (fun v s' => ∃ r, v = .bool r ∧ Q (.done (.ret (.bool (!r)))) s') E s) :
    wpAny (model prog w) A (Builtin.«object.__ne__» ⟨[.ref x, b], []⟩) Q E s := by
  unfold Builtin.«object.__ne__»
  rw [show slotArgs "__ne__" 1 ⟨[.ref x, b], []⟩ = pure (.ref x, [b]) from rfl]
  refine wpAny_bind (wpAny_pure (wpAny_bind (wpAny_cRoomFor hu (wpAny_bind (ifBound_K Y J e g (wpAny_mono q (fun v s' hv => ?_) fun _ _ z => z))))))
  obtain ⟨r, rfl, hq⟩ := hv
  exact wpAny_bind (wpAny_truthy_bool (wpAny_pure hq))
theorem my_neArgs (u v : Value) : argsOk "object.__ne__" ⟨[u, v], []⟩ := PySem.F.cmpArgs_ne u v
/-- a != b where a's class has its own == and object's != -/
theorem my_ne {Q : Value → Shared → Prop} (hu : A.units + 1 < cLine) (Y : K.In s.heap) (J : InstAt s.heap x ox C od) (ty : Looks (model prog w) s.heap (typeOf b) tb) (n : notFirst K C tb = true)
    (e1 : findIn K (.ref C) "__ne__" = some (some (.builtin "object.__ne__"))) (so : subIn K (.ref C) (.type "object") = some true) (e : findIn K (.ref C) "__eq__" = some (some (.ref f))) (g : isFn K (.ref f) = true)
    (q : wpAny (model prog w) A.in1 (call (.ref f) [.ref x, b]) (fun v s' => ∃ r, v = .bool r ∧ Q (.bool (!r)) s') E s) : wpAny (model prog w) A (richCompare .NotEq (.ref x) b) Q E s := by
  have once : wpAny (model prog w) A (tryCompare (.ref x) "__ne__" b) (fun r s' => ∃ v, r = some v ∧ Q v s') E s := by
    unfold tryCompare
    refine wpAny_bind (my_boundB Y J e1 PySem.F.cmp_object.ne.bind (wpAny_call (codeAny_call_builtin PySem.F.cmp_object.ne.plain PySem.F.cmpEntry_ne (check_slot PySem.F.cmpKind_ne PySem.F.cmpSplit_ne (J.type.andThen (looks_subIn Y so)) (my_neArgs _ _) ?_))))
    refine my_neBody (by show A.units + 1 < cLine; exact hu) Y J e g (wpAny_mono q (fun v s' hv => ?_) fun _ _ z => z)
    obtain ⟨r, rfl, hq⟩ := hv
    exact ⟨r, rfl, wpAny_pure ⟨_, rfl, hq⟩⟩
  unfold richCompare
  simp only [oneThing_ref]
  refine wpAny_holding (wpAny_bind (wpAny_cRoomFor (Nat.lt_of_succ_lt hu) ?_))
  refine wpAny_bind (J.type.here (wpAny_bind (ty.here ?_)))
  have last : wpAny (model prog w) A (tryCompare (.ref x) (cmpInfo .NotEq).2.1 b) (fun r s' => ∃ v, r = some v ∧ Q v s') E s := once
  by_cases z : tb = .ref C
  · subst z
    rw [if_neg (by simp)]
    refine wpAny_bind (wpAny_pure ?_)
    simp only [Bool.false_eq_true, if_false]
    exact wpAny_bind (wpAny_mono last (fun r s' h => by
      obtain ⟨v, rfl, hq⟩ := h
      exact wpAny_pure hq) fun _ _ z => z)
  · have e2 : subIn K tb (.ref C) = some false := by
      rcases Bool.or_eq_true_iff.mp n with k | k
      · exact absurd (beq_iff_eq.mp k) z
      · exact beq_iff_eq.mp k
    rw [if_pos (by simp only [bne_iff_ne, ne_eq]; exact fun k => z k.symm)]
    refine wpAny_bind ((looks_subIn Y e2).here ?_)
    simp only [Bool.false_eq_true, if_false]
    exact wpAny_bind (wpAny_mono last (fun r s' h => by
      obtain ⟨v, rfl, hq⟩ := h
      exact wpAny_pure hq) fun _ _ z => z)
end
end PySem.W
namespace My
open PySem L2 PyProof.Rows
/-- what is said of classes with == and str of their own -/
structure OwnEqs (P : Program) (w : World) (K : PySem.W.Frag) (mg : Str → Option Value) (base : Heap) {ι : Type} (cl : ι → Addr) (ok : ι → Prop) (k : Nat) (sp : ι → Sp) : Prop where
  fn : ∀ i, ok i → ∃ (f : Addr) (fd : FuncData) (ps : List Str), FnOk P w K mg base CX0 k f fd ps (sp i) ∧ Binds K fd ps [] ∧ PySem.W.findIn K (.ref (cl i)) "__eq__" = some (some (.ref f)) ∧ PySem.W.isFn K (.ref f) = true ∧
    PySem.W.findIn K (.ref (cl i)) "__ne__" = some (some (.builtin "object.__ne__")) ∧ PySem.W.subIn K (.ref (cl i)) (.type "object") = some true
structure OwnStr (P : Program) (w : World) (K : PySem.W.Frag) (mg : Str → Option Value) (base : Heap) {ι : Type} (cl : ι → Addr) (ok : ι → Prop) (k : Nat) (sp : ι → Sp) : Prop where
  fn : ∀ i, ok i → ∃ (f : Addr) (fd : FuncData) (ps : List Str), FnOk P w K mg base CX0 k f fd ps (sp i) ∧ Binds K fd ps [] ∧ PySem.W.findIn K (.ref (cl i)) "__str__" = some (some (.ref f)) ∧ PySem.W.isFn K (.ref f) = true
section
variable {X : Cx} {pins : List (Addr × Obj)} {σ : L2.St} {H : Hp} {s : Shared}
/-- a call somewhere within an operator -/
theorem run_within {k : Nat} {f : Addr} {fd : FuncData} {ps : List Str} {sp : Sp} {B : Around} {Q : VK} {us : List Value} {vs : List V} (I : Inv X pins σ H s) (eB : Env0 X.prog X.w X.K X.mg X.base B X.stack s H) (F : FnOk X.prog X.w X.K X.mg X.base CX0 k f fd ps sp)
    (hr : Room k B) (hb : Binds X.K fd ps []) (r : Vals vs us) (h : sp vs H Q E0) : wpAny (model X.prog X.w) B (call (.ref f) us) (EP X pins σ Q) X.xe s := by
  have ln : us.length = ps.length := r.length ▸ F.len _ _ _ _ h
  have r0 : Vals (vs ++ []) (us ++ []) := r.append .nil
  rw [List.append_nil, List.append_nil] at r0
  have bt := hb s us I.kIn (by rw [List.append_nil]; exact ln)
  rw [List.append_nil] at bt
  refine wpAny_call (codeAny_mono (F.run B X.stack s H ⟨us, []⟩ us vs Q E0 hr eB bt r0 h) fun q s' hq => ?_)
  match q, hq with
  | .error e, hq => exact pass0 pins σ H s e s' I hq
  | .ok (.ret u), hq => exact I.after hq
def rEqO (K : PySem.W.Frag) {ι : Type} (cl : ι → Addr) (ok : ι → Prop) (sp : ι → Sp) (neg : Bool) : R2 := fun x y H Q => ∃ (a : Addr) (i : ι) (dx : Addr) (fs : List (Str × V)) (t : Value), x = .ref a ∧ ok i ∧ H a = some (.ins (cl i) dx fs) ∧ TyX K H y t ∧ PySem.W.notFirst K (cl i) t = true ∧
  sp i [x, y] H (fun v H' => ∃ b, v = .bl b ∧ Q (.bl (if neg then !b else b)) H') E0
theorem ty_looks {x : V} {u t : Value} (I : Inv X pins σ H s) (rx : RelV x u) (ty : TyX X.K H x t) (M : Model) : PySem.W.Looks M s.heap (typeOf u) t := by
  obtain ⟨P, k, p, _⟩ := kit_of I rx ty
  exact k.ty M s.heap I.kIn p
theorem op_eqO (K : PySem.W.Frag) {ι : Type} {cl : ι → Addr} {ok : ι → Prop} {k : Nat} {sp : ι → Sp} (G : OwnEqs X.prog X.w K X.mg X.base cl ok k sp) (hr : Room k X.A) (hK : X.K = K := by rfl) : OpR X (compareOp .Eq) (rEqO K cl ok sp false) := by
  subst hK
  intro pins s σ H x y v u Q I rx ry h
  obtain ⟨a, i, dx, fs, t, rfl, hC, ha, ty, nf, hs⟩ := h
  obtain rfl : v = Value.ref a := rx
  obtain ⟨f, fd, ps, F, hb, e, g, _, _⟩ := G.fn i hC
  obtain ⟨mA, O, _, _, _, _⟩ := ins_get I.hok ha
  obtain ⟨od, J, _⟩ := O.look
  obtain ⟨m, fr⟩ := I.fr
  have r2 : Vals [.ref a, y] [Value.ref a, u] := .cons rfl (.cons ry .nil)
  have q := run_within I I.env0 F hr hb r2 hs
  show wpAny (model X.prog X.w) X.A (richCompare .Eq (.ref a) u) (EP X pins σ Q) X.xe s
  refine PySem.W.cmp_K (op := .Eq) (by have := hr.un; omega) fr I.ok.mod.kin J (ty_looks I ry ty _) nf e g (wpAny_mono q (fun z s' hz => ?_) fun _ _ z => z)
  obtain ⟨v, H', I', r, b, rfl, q⟩ := hz
  obtain rfl : z = Value.bool b := r
  exact ⟨.bl b, H', I', rfl, q⟩
theorem op_neO (K : PySem.W.Frag) {ι : Type} {cl : ι → Addr} {ok : ι → Prop} {k : Nat} {sp : ι → Sp} (G : OwnEqs X.prog X.w K X.mg X.base cl ok k sp) (hr : Room (k + 1) X.A) (hK : X.K = K := by rfl) : OpR X (compareOp .NotEq) (rEqO K cl ok sp true) := by
  subst hK
  intro pins s σ H x y v u Q I rx ry h
  obtain ⟨a, i, dx, fs, t, rfl, hC, ha, ty, nf, hs⟩ := h
  obtain rfl : v = Value.ref a := rx
  obtain ⟨f, fd, ps, F, hb, e, g, e1, so⟩ := G.fn i hC
  obtain ⟨mA, O, _, _, _, _⟩ := ins_get I.hok ha
  obtain ⟨od, J, _⟩ := O.look
  have r2 : Vals [.ref a, y] [Value.ref a, u] := .cons rfl (.cons ry .nil)
  have q := run_within I I.env0.in1 F hr.in1 hb r2 hs
  refine PySem.W.my_ne (by have := hr.un; omega) I.kIn J (ty_looks I ry ty _) nf e1 so e g (wpAny_mono q (fun z s' hz => ?_) fun _ _ z => z)
  obtain ⟨v, H', I', r, b, rfl, q⟩ := hz
  obtain rfl : z = Value.bool b := r
  exact ⟨b, rfl, .bl (!b), H', I', rfl, q⟩
def rStrO {ι : Type} (cl : ι → Addr) (ok : ι → Prop) (sp : ι → Sp) : List V → Hp → VK → Prop := fun xs H Q => ∃ (a : Addr) (i : ι) (dx : Addr) (fs : List (Str × V)), xs = [.ref a] ∧ ok i ∧ H a = some (.ins (cl i) dx fs) ∧ sp i [.ref a] H (fun v H' => ∃ y, v = .str y ∧ Q (.str y) H') E0
/-- str(x) by its own __str__ -/
theorem call_strO (K : PySem.W.Frag) {ι : Type} {cl : ι → Addr} {ok : ι → Prop} {k : Nat} {sp : ι → Sp} (G : OwnStr X.prog X.w K X.mg X.base cl ok k sp) (hr : Room (k + 2) X.A) (hK : X.K = K := by rfl) : CallR X (.type "str") (rStrO cl ok sp) := by
  subst hK
  intro pins s σ H xs us Q I r h
  obtain ⟨a, i, dx, fs, rfl, hC, ha, hs⟩ := h
  rw [Vals.ref1 r]
  obtain ⟨f, fd, ps, F, hb, e, g⟩ := G.fn i hC
  obtain ⟨mA, O, _, _, _, _⟩ := ins_get I.hok ha
  obtain ⟨od, J, _⟩ := O.look
  have r2 : Vals [.ref a] [Value.ref a] := .cons rfl .nil
  have q := run_within I I.env0.in1.in1 F hr.in1.in1 hb r2 hs
  refine PySem.W.kso_call (by have := hr.in1.in1.un; omega) I.kIn J e g (wpAny_mono q (fun z s' hz => ?_) fun _ _ z => z)
  obtain ⟨v, H', I', r, y, rfl, q⟩ := hz
  obtain ⟨t, rfl⟩ : ∃ t, z = Value.str y t := r
  exact ⟨.str y, H', I', ⟨t, rfl⟩, q⟩
end
end My

/-! ## The law's draws: the box, a draw, a pick -/
namespace My
open PySem L2
def top (i : Nat) : Stmt := PySem.Challenge.pw_wholetraces_k02_rows_made.main.body.getD i (.Pass ⟨0, 0, 0, 0⟩)
abbrev s_box : Stmt := top 15
abbrev N_box : List Str := ["_law_script", "_law_k", "_law_cell", "_law_seed", "_law_wide"]
abbrev P_box : List Str := ["_law_script", "_law_k"]
theorem sc_box : FnScope N_box P_box (defScope s_box) := ⟨rfl, rfl, rfl, by decide +kernel, rfl, by decide +kernel, by decide +kernel⟩
abbrev s_take : Stmt := top 16
abbrev N_take : List Str := ["_law_box_here", "_law_many", "_law_digit", "_law_near"]
abbrev P_take : List Str := ["_law_box_here", "_law_many"]
theorem sc_take : FnScope N_take P_take (defScope s_take) := ⟨rfl, rfl, rfl, by decide +kernel, rfl, by decide +kernel, by decide +kernel⟩
abbrev s_pick : Stmt := top 17
abbrev N_pick : List Str := ["_law_box_here", "_law_some"]
abbrev P_pick : List Str := ["_law_box_here", "_law_some"]
theorem sc_pick : FnScope N_pick P_pick (defScope s_pick) := ⟨rfl, rfl, rfl, by decide +kernel, rfl, by decide +kernel, by decide +kernel⟩
structure TxDraw (K : PySem.W.Frag) (mg : Str → Option Value) where
  z_len : mg "len" = none
  z_int : mg "int" = none
  z_abs : mg "abs" = none
  f_take : Addr
  d_take : FuncData
  F_take : Fun K "_law_take" "_law_take" s_take f_take d_take
  m_take : mg "_law_take" = some (.ref f_take)
  b_take : Binds K d_take P_take []
  f_box : Addr
  d_box : FuncData
  F_box : Fun K "_law_box" "_law_box" s_box f_box d_box
  m_box : mg "_law_box" = some (.ref f_box)
  b_box : Binds K d_box P_box []
  f_pick : Addr
  d_pick : FuncData
  F_pick : Fun K "_law_pick" "_law_pick" s_pick f_pick d_pick
  m_pick : mg "_law_pick" = some (.ref f_pick)
  b_pick : Binds K d_pick P_pick []
def spBox (K : PySem.W.Frag) : Sp := fun vs H Q _ => ∃ (a : Addr) (ns : List Int) (k : Int), vs = [.ref a, .int k] ∧ SqL K H a (ns.map V.int) ∧ ns.length ≤ 63 ∧ 0 ≤ k ∧
  ∀ (b : Addr) (w s : Int), H b = none → Q (.ref b) (upd H b (bx w s 0))
def spTake : Sp := fun vs H Q _ => ∃ (b : Addr) (w s c m : Int), vs = [.ref b, .int m] ∧ H b = some (bx w s c) ∧ 0 < m ∧ m < 1073741824 ∧
  ∀ (d w' s' c' : Int), 0 ≤ d → d < m → Q (.int d) (upd H b (bx w' s' c'))
/-- an item of a list that stands at a, another object than the box -/
def spPick (K : PySem.W.Frag) : Sp := fun vs H Q _ => ∃ (b a : Addr) (w s c : Int) (xs : List V), vs = [.ref b, .ref a] ∧ H b = some (bx w s c) ∧ SqL K H a xs ∧ (∀ u, SqL K (upd H b u) a xs) ∧ xs ≠ [] ∧ xs.length ≤ 1000 ∧
  ∀ (x : V) (w' s' c' : Int), x ∈ xs → Q x (upd H b (bx w' s' c'))
section
variable {P : Program} {w : World} {K : PySem.W.Frag} {mg : Str → Option Value} {base : Heap}
theorem ok_take (T : TxDraw K mg) : FnOk P w K mg base CX0 1 T.f_take T.d_take P_take spTake := by
  refine T.F_take.ok sc_take (fun vs H Q E h => ?_) (fun cdv A outer s H vs Q E hr h => ?_)
  · obtain ⟨b, w, s, c, m, rfl, _⟩ := h
    rfl
  obtain ⟨b, w, s, c, m, rfl, hb, m0, m1, k⟩ := h
  refine ⟨_, (pss_cons (ps_if (pt_cmpR op_gt (pe_ix (ix_listK K) (pv 0) pe_int (fun _ _ => rfl)) pe_int (nomark _)) (pss_cons (ps_set (i := 2) sc_take.nd rfl (Or.inl rfl) (pe_op op_mod (pe_callTy call_int1 (by rfl) T.z_int (by decide +kernel) (pa_cons (pe_ix (ix_listK K) (pv 0) pe_int (fun _ _ => rfl)) pa_nil)) (pv 1)))
      (pss_cons (ps_asg (pe_op op_fdiv (pe_ix (ix_listK K) (pv 0) pe_int (fun _ _ => rfl)) (pv 1)) (pg_sub (pv 0) pe_int set_list))
      (pss_one (ps_ret (pv 2))))) pss_nil)
      (pss_cons (ps_asg (pe_op op_add (pe_ix (ix_listK K) (pv 0) pe_int (fun _ _ => rfl)) pe_int) (pg_sub (pv 0) pe_int set_list))
      (pss_cons (ps_set (i := 3) sc_take.nd rfl (Or.inl rfl) (pe_op op_mod (pe_callTy call_int1 (by rfl) T.z_int (by decide +kernel) (pa_cons (pe_op op_mul (pe_op op_add (pe_ix (ix_listK K) (pv 0) pe_int (fun _ _ => rfl)) (pe_op op_mul pe_int (pe_ix (ix_listK K) (pv 0) pe_int (fun _ _ => rfl)))) pe_int) pa_nil)) pe_int))
      (pss_cons (ps_asg (pe_op op_add (pe_op op_mod (pe_callTy call_int1 (by rfl) T.z_int (by decide +kernel) (pa_cons (pe_op op_add (pe_op op_mul (pv 3) pe_int) pe_int) pa_nil)) pe_int) pe_int) (pg_sub (pv 0) pe_int set_list))
      (pss_one (ps_ret (pe_op op_mod (pe_callTy call_int1 (by rfl) T.z_int (by decide +kernel) (pa_cons (pe_op op_fdiv (pe_op op_add (pe_op op_mul (pv 3) pe_int) (pe_ix (ix_listK K) (pv 0) pe_int (fun _ _ => rfl))) pe_int) pa_nil)) (pv 1)))))))), ?_⟩
  refine ⟨_, rfl, _, _, _, _, rfl, rfl, SqL.of hb, rfl, _, _, rfl, rfl, _, rfl, ?_⟩
  refine ite2 (fun h => ?_) (fun h => ?_)
  · refine ⟨_, rfl, _, _, _, _, rfl, rfl, SqL.of hb, rfl, .inl ⟨_, rfl, _, rfl, _, _, rfl, rfl, m0, ?_⟩⟩
    refine ⟨_, rfl, _, _, _, _, rfl, rfl, SqL.of hb, rfl, _, rfl, _, _, rfl, rfl, ⟨m0, m1⟩, _, rfl, b, _, _, 0, rfl, rfl, hb, rfl, _, rfl, ?_⟩
    exact k _ _ _ _ (Int.emod_nonneg _ (by omega)) (Int.emod_lt_of_pos _ m0)
  · refine ⟨_, rfl, _, _, _, _, rfl, rfl, SqL.of hb, rfl, _, _, rfl, rfl, _, rfl, b, _, _, 2, rfl, rfl, hb, rfl, ?_⟩
    refine ⟨_, rfl, _, _, _, _, rfl, rfl, SqL.of upd_same, rfl, _, rfl, _, _, _, _, rfl, rfl, SqL.of upd_same, rfl, _, _, rfl, rfl, .inl ⟨by decide, by decide⟩, _, _, rfl, rfl, _, _, rfl, rfl, .inr ⟨by decide, by decide⟩, .inl ⟨_, rfl, _, _, rfl, rfl, (by show (0 : Int) < _; decide), ?_⟩⟩
    refine ⟨_, rfl, _, _, rfl, rfl, .inr ⟨by decide, by decide⟩, _, _, rfl, rfl, .inl ⟨_, rfl, _, _, rfl, rfl, (by show (0 : Int) < _; decide), _, _, rfl, rfl, _, rfl, b, _, _, 1, rfl, rfl, upd_same, rfl, ?_⟩⟩
    rw [upd_upd]
    refine ⟨_, rfl, _, _, rfl, rfl, .inr ⟨by decide, by decide⟩, _, rfl, _, _, _, _, rfl, rfl, SqL.of upd_same, rfl, _, _, rfl, rfl, _, _, rfl, rfl, ⟨by decide, by decide⟩, .inl ⟨_, rfl, _, rfl, _, _, rfl, rfl, m0, ?_⟩⟩
    exact k _ _ _ _ (Int.emod_nonneg _ (by omega)) (Int.emod_lt_of_pos _ m0)
theorem ok_box (T : TxDraw K mg) : FnOk P w K mg base CX0 1 T.f_box T.d_box P_box (spBox K) := by
  refine T.F_box.ok sc_box (fun vs H Q E h => ?_) (fun cdv A outer s H vs Q E hr h => ?_)
  · obtain ⟨a, ns, k, rfl, _⟩ := h
    rfl
  obtain ⟨a, ns, k, rfl, hS, h63, k0, q⟩ := h
  have hl : (ns.map V.int).length = ns.length := List.length_map _
  refine ⟨_, (pss_cons (ps_set (i := 2) sc_box.nd rfl (Or.inl rfl) (pe_op op_add (pe_op op_mul pe_int (pv 1)) pe_int))
      (Evl.pss_cut (ps_if (pt_cmpR op_lt (pv 1) (pe_callB (call_lenK K) (by rfl) T.z_len (by decide +kernel) (pa_cons (pv 0) pa_nil)) (nomark _)) (pss_one (ps_set (i := 2) sc_box.nd rfl (Or.inl rfl) (pe_callB call_abs (by rfl) T.z_abs (by decide +kernel) (pa_cons (pe_callTy call_int1 (by rfl) T.z_int (by decide +kernel) (pa_cons (pe_ix (ix_listK K) (pv 0) (pv 1) (fun _ _ => rfl)) pa_nil)) pa_nil)))) (pss_one (ps_if (pt_cmpR op_gt (pe_callB (call_lenK K) (by rfl) T.z_len (by decide +kernel) (pa_cons (pv 0) pa_nil)) pe_int (nomark _)) (pss_one (ps_set (i := 2) sc_box.nd rfl (Or.inl rfl) (pe_op op_add (pv 2) (pe_op op_mul (pe_op op_mod (pe_callTy call_int1 (by rfl) T.z_int (by decide +kernel) (pa_cons (pe_ix (ix_listK K) (pv 0) (pe_op op_mod (pe_callTy call_int1 (by rfl) T.z_int (by decide +kernel) (pa_cons (pv 1) pa_nil)) (pe_callB (call_lenK K) (by rfl) T.z_len (by decide +kernel) (pa_cons (pv 0) pa_nil))) (fun _ _ => rfl)) pa_nil)) pe_int) pe_int)))) pss_nil)))
      (pss_cons (ps_set (i := 3) sc_box.nd rfl (Or.inl rfl) (pe_op op_add (pe_op op_mod (pe_callTy call_int1 (by rfl) T.z_int (by decide +kernel) (pa_cons (pe_op op_add (pe_op op_add (pe_op op_mul (pe_op op_mod (pe_callTy call_int1 (by rfl) T.z_int (by decide +kernel) (pa_cons (pv 2) pa_nil)) pe_int) pe_int) (pe_op op_mul pe_int (pv 1))) pe_int) pa_nil)) pe_int) pe_int))
      (pss_cons (ps_set (i := 4) sc_box.nd rfl (Or.inl rfl) (pe_ifExp (pt_cmpR op_ge (pv 2) (pe_op op_pow pe_int pe_int) (nomark _)) (pv 2) pe_int))
      (pss_one (ps_ret (pe_lst (pa_cons (pv 4) (pa_cons (pv 3) (pa_cons pe_int pa_nil)))))))))), ?_⟩
  refine ⟨_, rfl, _, _, rfl, rfl, .inl ⟨by decide, by decide⟩, _, _, rfl, rfl, ?_⟩
  refine ⟨fun σ H' => H' = H ∧ ∃ cell : Int, σ = [some (.ref a), some (.int k), some (.int cell), none, none], ?_, ?_⟩
  · refine ⟨_, rfl, _, rfl, _, _, rfl, .inl hS, _, _, rfl, rfl, _, rfl, ?_⟩
    refine ite2 (fun h => ?_) (fun h => ?_)
    · have h' := of_decide_eq_true h
      rw [hl] at h'
      obtain ⟨z, hz⟩ := int_at k0 h'
      exact ⟨_, rfl, _, rfl, _, _, _, _, rfl, rfl, hS, hz, .inl ⟨_, rfl, _, rfl, rfl, _, rfl⟩⟩
    · refine ⟨_, rfl, _, _, rfl, .inl hS, _, _, rfl, rfl, _, rfl, ?_⟩
      refine ite2 (fun h2 => ?_) (fun h2 => ?_)
      · have h2' := of_decide_eq_true h2
        obtain ⟨z, hz⟩ := int_at (ns := ns) (k := k % (((ns.map V.int).length : Nat) : Int)) (Int.emod_nonneg _ (by omega)) (by rw [hl] at h2' ⊢; exact Int.emod_lt_of_pos _ h2')
        exact ⟨_, rfl, _, rfl, _, rfl, .inl ⟨_, rfl, _, rfl, _, _, rfl, .inl hS, _, _, rfl, rfl, h2', _, _, _, _, rfl, rfl, hS, hz, .inl ⟨_, rfl, _, _, rfl, rfl, (by show (0 : Int) < _; decide), _, _, rfl, rfl, .inr ⟨by decide, by decide⟩, _, _, rfl, rfl, rfl, _, rfl⟩⟩⟩
      · exact ⟨rfl, _, rfl⟩
  · rintro σ H' ⟨rfl, cell, rfl⟩
    refine ⟨_, rfl, .inl ⟨_, rfl, _, _, rfl, rfl, (by show (0 : Int) < _; decide), _, _, rfl, rfl, .inr ⟨by decide, by decide⟩, _, rfl, _, _, rfl, rfl, .inl ⟨by decide, by decide⟩, _, _, rfl, rfl, _, _, rfl, rfl, .inl ⟨_, rfl, _, _, rfl, rfl, (by show (0 : Int) < _; decide), _, _, rfl, rfl, ?_⟩⟩⟩
    refine ⟨_, rfl, _, _, rfl, rfl, ⟨by decide, by decide, by decide⟩, _, _, rfl, rfl, _, rfl, ?_⟩
    refine ite2 (fun h => ?_) (fun h => ?_)
    · exact ⟨_, rfl, _, rfl, _, rfl, by show 3 ≤ sizeLine; decide, fun b hb => q b _ _ hb⟩
    · exact ⟨_, rfl, _, rfl, by show 3 ≤ sizeLine; decide, fun b hb => q b _ _ hb⟩
theorem ok_pick (T : TxDraw K mg) : FnOk P w K mg base CX0 2 T.f_pick T.d_pick P_pick (spPick K) := by
  have G_take : FnOk P w K mg base CX0 1 T.f_take T.d_take P_take spTake := ok_take T
  refine T.F_pick.ok sc_pick (fun vs H Q E h => ?_) (fun cdv A outer s H vs Q E hr h => ?_)
  · obtain ⟨b, a, w, s, c, xs, rfl, _⟩ := h
    rfl
  obtain ⟨b, a, w, s, c, xs, rfl, hb, hS, hk, hne, hlen, q⟩ := h
  refine ⟨_, (pss_one (ps_ret (pe_ix (ix_listK K) (pv 1) (pe_call G_take (hr.mono (by decide)) (by rfl) T.m_take T.F_take.kp T.b_take .nil pass0 (pa_cons (pv 0) (pa_cons (pe_callB (call_lenK K) (by rfl) T.z_len (by decide +kernel) (pa_cons (pv 1) pa_nil)) pa_nil))) (fun _ _ => rfl)))), ?_⟩
  have hp : 0 < xs.length := List.length_pos_iff.mpr hne
  refine ⟨_, rfl, _, rfl, _, rfl, _, _, rfl, .inl hS, b, w, s, c, _, rfl, hb, by omega, by omega, fun d w' s' c' d0 d1 => ?_⟩
  obtain ⟨v, hv, he⟩ := at_some (xs := xs) d0 d1
  exact ⟨_, _, _, _, rfl, rfl, hk _, hv, q v w' s' c' (List.mem_of_getElem? he)⟩
/-- the same, the heap behind told by what stands -/
def spTakeG : Sp := fun vs H Q _ => ∃ (b : Addr) (m : Int), vs = [.ref b, .int m] ∧ Gr b H H ∧ 0 < m ∧ m < 1073741824 ∧
  ∀ (d : Int) (H' : Hp), 0 ≤ d → d < m → Gr b H H' → Q (.int d) H'
def spPickG : Sp := fun vs H Q _ => ∃ (b a : Addr) (xs : List V), vs = [.ref b, .ref a] ∧ Gr b H H ∧ At b H a (.lst xs) ∧ xs ≠ [] ∧ xs.length ≤ 1000 ∧
  ∀ (x : V) (H' : Hp), x ∈ xs → Gr b H H' → Q x H'
theorem ok_takeG (T : TxDraw K mg) : FnOk P w K mg base CX0 1 T.f_take T.d_take P_take spTakeG := (ok_take T).imp fun vs H Q E h => by
  obtain ⟨b, m, rfl, g, m0, m1, k⟩ := h
  obtain ⟨w, s, c, hb⟩ := g.box
  exact ⟨b, w, s, c, m, rfl, hb, m0, m1, fun d w' s' c' d0 d1 => k d _ d0 d1 (g.draw _ _ _)⟩
theorem ok_pickG (T : TxDraw K mg) : FnOk P w K mg base CX0 2 T.f_pick T.d_pick P_pick spPickG := (ok_pick T).imp fun vs H Q E h => by
  obtain ⟨b, a, xs, rfl, g, ha, hne, hl, k⟩ := h
  obtain ⟨w, s, c, hb⟩ := g.box
  exact ⟨b, a, w, s, c, xs, rfl, hb, ha.l, fun u => SqL.of (by rw [upd_ne ha.ne]; exact ha.at_), hne, hl, fun x w' s' c' hx => k x _ hx (g.draw _ _ _)⟩
end
end My

/-! ## Names: what a name is, lists mixed, names drawn -/
namespace My
open PySem L2
/-- the words that are no names -/
def BAR : List Str := ["none", "any", "same", "keep", "drop", "good", "bad", "old", "new", "both"]
def ABC : Str := "abcdefghijklmnopqrstuvwxyz"
/-- a name: one to four small letters, none of those words -/
def isNm (x : Str) : Bool := decide (1 ≤ x.length) && decide (x.length ≤ 4) && !(BAR.contains x) && x.cps.toList.all fun c => decide (c ∈ ABC.cps.toList)
theorem isNm_len {x : Str} (h : isNm x = true) : 1 ≤ x.length ∧ x.length ≤ 4 := by
  unfold isNm at h
  simp only [Bool.and_eq_true, decide_eq_true_eq] at h
  exact h.1.1
abbrev s_mixed : Stmt := top 18
abbrev N_mixed : List Str := ["_law_box_here", "_law_some", "_law_left", "_law_found"]
abbrev P_mixed : List Str := ["_law_box_here", "_law_some"]
theorem sc_mixed : FnScope N_mixed P_mixed (defScope s_mixed) := ⟨rfl, rfl, rfl, by decide +kernel, rfl, by decide +kernel, by decide +kernel⟩
abbrev s_names : Stmt := top 19
abbrev N_names : List Str := ["_law_box_here", "_law_many", "_law_words_here", "_law_letters", "_law_form", "_law_spot", "_law_k"]
abbrev P_names : List Str := ["_law_box_here", "_law_many"]
theorem sc_names : FnScope N_names P_names (defScope s_names) := ⟨rfl, rfl, rfl, by decide +kernel, rfl, by decide +kernel, by decide +kernel⟩
structure TxNames (K : PySem.W.Frag) (mg : Str → Option Value) extends TxDraw K mg where
  z_list : mg "list" = none
  z_range : mg "range" = none
  f_mixed : Addr
  d_mixed : FuncData
  F_mixed : Fun K "_law_mixed" "_law_mixed" s_mixed f_mixed d_mixed
  m_mixed : mg "_law_mixed" = some (.ref f_mixed)
  b_mixed : Binds K d_mixed P_mixed []
  f_names : Addr
  d_names : FuncData
  F_names : Fun K "_law_names" "_law_names" s_names f_names d_names
  m_names : mg "_law_names" = some (.ref f_names)
  b_names : Binds K d_names P_names []
def spMixed : Sp := fun vs H Q _ => ∃ (b a : Addr) (xs : List V), vs = [.ref b, .ref a] ∧ Gr b H H ∧ At b H a (.lst xs) ∧ xs.length ≤ 1000 ∧
  ∀ (p : Addr) (ys : List V) (H' : Hp), Gr b H H' → H p = none → At b H' p (.lst ys) → ys.Perm xs → Q (.ref p) H'
def spNames : Sp := fun vs H Q _ => ∃ (b : Addr) (n : Int), vs = [.ref b, .int n] ∧ Gr b H H ∧ 0 ≤ n ∧ n ≤ 12 ∧
  ∀ (p : Addr) (ys : List Str) (H' : Hp), Gr b H H' → H p = none → At b H' p (.lst (ys.map V.str)) → (ys.length : Int) = n → ys.Nodup → (∀ y ∈ ys, isNm y = true) → Q (.ref p) H'
theorem eraseIdx_perm {xs : List V} {k : Nat} {y : V} (h : xs[k]? = some y) : (y :: xs.eraseIdx k).Perm xs := by
  induction xs generalizing k with
  | nil => simp at h
  | cons x xs ih =>
    cases k with
    | zero =>
      simp at h
      subst h
      exact List.Perm.refl _
    | succ k =>
      simp at h
      exact (List.Perm.swap x y _).trans ((ih h).cons x)
theorem seq_ix {d : Int} {n : Nat} (h0 : 0 ≤ d) (h1 : d < (n : Int)) : seqIndex? d n = some d.toNat := by
  unfold seqIndex?
  rw [if_neg (by omega : ¬ d < 0)]
  have e : (decide (0 ≤ d) && decide (d < (n : Int))) = true := by rw [decide_eq_true h0, decide_eq_true h1]; rfl
  exact if_pos e
theorem perm_of_map {α β : Type} {f : α → β} {ys xs' : List β} (h : ys.Perm xs') : ∀ xs : List α, xs' = xs.map f → ∃ zs : List α, ys = zs.map f ∧ zs.Perm xs := by
  induction h with
  | nil =>
    intro xs e
    cases xs with
    | nil => exact ⟨[], rfl, .refl _⟩
    | cons a t => cases e
  | cons x h ih =>
    intro xs e
    cases xs with
    | nil => cases e
    | cons a t =>
      injection e with e1 e2
      obtain ⟨zs, e3, p⟩ := ih t e2
      exact ⟨a :: zs, by rw [List.map_cons, e1, e3], p.cons a⟩
  | swap x y l =>
    intro xs e
    cases xs with
    | nil => cases e
    | cons a t =>
      cases t with
      | nil => injection e with _ e2; cases e2
      | cons c t =>
        injection e with e1 e2
        injection e2 with e2 e3
        exact ⟨c :: a :: t, by rw [List.map_cons, List.map_cons, e1, e2, e3], .swap a c t⟩
  | trans h1 h2 ih1 ih2 =>
    intro xs e
    obtain ⟨zs, e1, p1⟩ := ih2 xs e
    obtain ⟨ws, e2, p2⟩ := ih1 zs e1
    exact ⟨ws, e2, p2.trans p1⟩
section
variable {P : Program} {w : World} {K : PySem.W.Frag} {mg : Str → Option Value} {base : Heap}
theorem ok_mixed (T : TxNames K mg) : FnOk P w K mg base CX0 2 T.f_mixed T.d_mixed P_mixed spMixed := by
  have G_take : FnOk P w K mg base CX0 1 T.f_take T.d_take P_take spTake := ok_take T.toTxDraw
  refine T.F_mixed.ok sc_mixed (fun vs H Q E h => ?_) (fun cdv A outer s H vs Q E hr h => ?_)
  · obtain ⟨b, a, xs, rfl, _⟩ := h
    rfl
  obtain ⟨b, a, xs, rfl, g0, ha, hlen, q⟩ := h
  refine ⟨_, (pss_cons (ps_par (i := 2) (j := 3) (by rfl) sc_mixed.nd rfl rfl (by decide) rfl rfl (pa_cons (pe_callTy (call_listK K) (by rfl) T.z_list (by decide +kernel) (pa_cons (pv 1) pa_nil)) (pa_cons (pe_lst pa_nil) pa_nil)) (by rfl))
      (pss_cons (ps_while PassesOwn.never (pt_cmpR (op_neEK K hr.units0) (pv 2) (pe_lst pa_nil) (nomark _)) (pss_one (ps_expr (pe_bm PySem.F.plainAttrs_list PySem.F.slot_list_append PySem.F.type_list_append mt_append (pv 3) (pa_cons (pe_bm PySem.F.plainAttrs_list PySem.F.slot_list_pop PySem.F.type_list_pop mt_popAt (pv 2) (pa_cons (pe_call G_take (hr.mono (by decide)) (by rfl) T.m_take T.F_take.kp T.b_take .nil pass0 (pa_cons (pv 0) (pa_cons (pe_callB (call_lenK K) (by rfl) T.z_len (by decide +kernel) (pa_cons (pv 2) pa_nil)) pa_nil))) pa_nil)) pa_nil)))))
      (pss_one (ps_ret (pv 3))))), ?_⟩
  refine ⟨_, rfl, a, _, rfl, .inl ha.l, fun l hl => ⟨Nat.zero_le _, fun p hp => ?_⟩⟩
  have g1 : Gr b H (upd H l (.lst xs)) := g0.new hl _
  have g2 : Gr b H (upd (upd H l (.lst xs)) p (.lst [])) := g1.new hp _
  have nlb := g0.ne_new hl
  have npb := g1.ne_new hp
  have hp0 := g1.free hp
  have npl : p ≠ l := fun e => by rw [e, upd_same] at hp; cases hp
  refine ⟨_, _, rfl, while_by (fun σ H' => ∃ ls fs : List V, σ = [some (.ref b), some (.ref a), some (.ref l), some (.ref p)] ∧ Gr b H H' ∧ H' l = some (.lst ls) ∧ H' p = some (.lst fs) ∧ (fs ++ ls).Perm xs)
    (fun σ H' => match H' l with | some (.lst ls) => ls.length | _ => 0) ⟨xs, [], rfl, g2, by rw [upd_ne npl.symm, upd_same], upd_same, List.Perm.refl _⟩ ?_ ?_⟩
  · rintro σ H1 ⟨ls, fs, rfl, g3, h1, h2, pm⟩
    refine ⟨_, rfl, Nat.zero_le _, fun e he => ⟨l, e, ls, rfl, rfl, SqL.of (by rw [upd_ne (ne_of_none h1 he)]; exact h1), SqL.of upd_same, _, rfl, ?_⟩⟩
    have ple : fs.length + ls.length = xs.length := by rw [← List.length_append]; exact pm.length_eq
    cases ls with
    | nil =>
      refine iteF ?_
      have g4 := g3.new he (.lst [])
      refine ⟨_, rfl, q p fs _ g4 hp0 ⟨npb, by rw [upd_ne (ne_of_none h2 he)]; exact h2⟩ (by rw [List.append_nil] at pm; exact pm)⟩
    | cons x ls =>
      refine iteT ?_
      obtain ⟨w3, s3, c3, hb3⟩ := g3.box
      have g4 := g3.new he (.lst [])
      have neb : e ≠ b := g3.ne_new he
      have h1e : upd H1 e (.lst []) l = some (.lst (x :: ls)) := by rw [upd_ne (ne_of_none h1 he)]; exact h1
      have h2e : upd H1 e (.lst []) p = some (.lst fs) := by rw [upd_ne (ne_of_none h2 he)]; exact h2
      have hbe : upd H1 e (.lst []) b = some (bx w3 s3 c3) := by rw [upd_ne neb.symm]; exact hb3
      refine ⟨_, rfl, .inl ⟨rfl, _, SqL.of h2e⟩, _, rfl, .inl ⟨rfl, _, SqL.of h1e⟩, _, rfl, _, rfl, _, _, rfl, .inl (SqL.of h1e), b, w3, s3, c3, _, rfl, hbe, by rw [List.length_cons]; omega, by rw [List.length_cons] at ple ⊢; omega, fun d w' s' c' d0 d1 => ?_⟩
      obtain ⟨v, _, hv⟩ := at_some (xs := x :: ls) d0 d1
      refine ⟨l, x :: ls, d, d.toNat, v, rfl, rfl, by rw [upd_ne nlb]; exact h1e, by omega, by rw [List.length_cons] at ple d1; omega, seq_ix d0 d1, hv, ?_⟩
      refine ⟨p, fs, v, rfl, rfl, by rw [upd_ne npl, upd_ne npb]; exact h2e, ?_, ?_⟩
      · rw [List.length_cons] at ple
        exact small1000 (by omega)
      · have er : ((x :: ls).eraseIdx d.toNat).length < (x :: ls).length := by
          rw [List.length_eraseIdx_of_lt (by rw [List.length_cons] at d1 ⊢; omega), List.length_cons]
          omega
        refine ⟨⟨(x :: ls).eraseIdx d.toNat, fs ++ [v], rfl, ((g4.draw _ _ _).mut (g0.free hl) nlb _).mut hp0 npb _, by rw [upd_ne npl.symm, upd_same], upd_same, ?_⟩, ?_⟩
        · rw [List.append_assoc]
          exact ((eraseIdx_perm hv).append_left fs).trans pm
        · rw [upd_ne npl.symm, upd_same, h1]
          exact er
  · rintro σ H1 Q1 Q2 imp ⟨v, hv, h0, h⟩
    exact ⟨v, hv, h0, fun e he => by
      obtain ⟨a', q', xs', e1, e2, e3, e4, k, e5, h5⟩ := h e he
      exact ⟨a', q', xs', e1, e2, e3, e4, k, e5, imp _ _ h5⟩⟩
/-- the words of the first kind of names -/
def WORDS : List Str := ["send", "back", "end", "root", "wait", "a", "ab", "abc", "zzzz", "row", "hear", "x"]
/-- the k-th of the first kind from a start, of the third kind, of the second -/
def wd (sp : Int) (k : Nat) : Str := WORDS.getD ((sp + 5 * (k : Int)) % 12).toNat Str.empty
def lt (sp : Int) (k : Nat) : Str := ⟨#[ABC.cps.toList.getD ((sp + 7 * (k : Int)) % 26).toNat 0]⟩ ++ ⟨(timesL [118] (sp % 4).toNat).toArray⟩
def tt (k : Nat) : Str := cutS "tttt" none (some ((k : Int) + 1))
theorem at_getD {l : List Str} {k : Int} (h0 : 0 ≤ k) (h1 : k < (l.length : Int)) : atI (l.map V.str) k = some (.str (l.getD k.toNat Str.empty)) := by
  have hk : k.toNat < l.length := by omega
  have h3 : atI (l.map V.str) ((k.toNat : Nat) : Int) = some (.str (l.getD k.toNat Str.empty)) := atI_nat (by rw [List.getElem?_map]; simp [hk, List.getD])
  rwa [show ((k.toNat : Nat) : Int) = k by omega] at h3
theorem at_getN {l : List Nat} {k : Int} (h0 : 0 ≤ k) (h1 : k < (l.length : Int)) : atI l k = some (l.getD k.toNat 0) := by
  have hk : k.toNat < l.length := by omega
  have h3 : atI l ((k.toNat : Nat) : Int) = some (l.getD k.toNat 0) := atI_nat (by simp [hk, List.getD])
  rwa [show ((k.toNat : Nat) : Int) = k by omega] at h3
theorem range_more {α : Type} (f : Nat → α) (i : Nat) : (List.range (i + 1)).map f = (List.range i).map f ++ [f i] := by rw [List.range_succ, List.map_append]; rfl
/-- names by their number: no two alike -/
theorem nodup_map {α : Type} {f : Nat → α} {n : Nat} (h : ∀ i j, i < n → j < n → f i = f j → i = j) : ((List.range n).map f).Nodup := by
  rw [List.Nodup, List.pairwise_map]
  exact List.Pairwise.imp_of_mem (fun {a b} ha hb hab e => hab (h a b (List.mem_range.mp ha) (List.mem_range.mp hb) e)) List.nodup_range
theorem WORDS_nd : ∀ i < 12, ∀ j < 12, WORDS.getD i Str.empty = WORDS.getD j Str.empty → i = j := by decide +kernel
theorem WORDS_nm : ∀ i < 12, isNm (WORDS.getD i Str.empty) = true := by decide +kernel
theorem wd_nd {sp : Int} {i j : Nat} (hi : i < 12) (hj : j < 12) (h : wd sp i = wd sp j) : i = j := by
  have e := WORDS_nd _ (by omega) _ (by omega) h
  omega
theorem wd_nm {sp : Int} {i : Nat} : isNm (wd sp i) = true := WORDS_nm _ (by omega)
theorem tt_nd : ∀ i < 4, ∀ j < 4, tt i = tt j → i = j := by decide +kernel
theorem tt_nm : ∀ i < 4, isNm (tt i) = true := by decide +kernel
theorem lt_nm0 : ∀ i < 26, ∀ k < 4, isNm (⟨#[ABC.cps.toList.getD i 0]⟩ ++ ⟨(timesL [118] k).toArray⟩) = true := by decide +kernel
theorem lt_nd0 : ∀ i < 26, ∀ j < 26, ∀ k < 4, (⟨#[ABC.cps.toList.getD i 0]⟩ ++ ⟨(timesL [118] k).toArray⟩ : Str) = ⟨#[ABC.cps.toList.getD j 0]⟩ ++ ⟨(timesL [118] k).toArray⟩ → i = j := by decide +kernel
theorem lt_nm {sp : Int} {i : Nat} : isNm (lt sp i) = true := lt_nm0 _ (by omega) _ (by omega)
theorem lt_nd {sp : Int} {i j : Nat} (hi : i < 12) (hj : j < 12) (h : lt sp i = lt sp j) : i = j := by
  have e := lt_nd0 _ (by omega) _ (by omega) _ (by omega) h
  omega
theorem ok_names (T : TxNames K mg) : FnOk P w K mg base CX0 3 T.f_names T.d_names P_names spNames := by
  have G_take : FnOk P w K mg base CX0 1 T.f_take T.d_take P_take spTakeG := ok_takeG T.toTxDraw
  have G_mixed : FnOk P w K mg base CX0 2 T.f_mixed T.d_mixed P_mixed spMixed := ok_mixed T
  refine T.F_names.ok sc_names (fun vs H Q E h => ?_) (fun cdv A outer s H vs Q E hr h => ?_)
  · obtain ⟨b, n, rfl, _⟩ := h
    rfl
  obtain ⟨b, n, rfl, g0, n0, n12, q⟩ := h
  refine ⟨_, (pss_cons (ps_set (i := 2) sc_names.nd rfl (Or.inr rfl) (pe_lst (pa_cons pe_str (pa_cons pe_str (pa_cons pe_str (pa_cons pe_str (pa_cons pe_str (pa_cons pe_str (pa_cons pe_str (pa_cons pe_str (pa_cons pe_str (pa_cons pe_str (pa_cons pe_str (pa_cons pe_str pa_nil))))))))))))))
      (pss_cons (ps_asg (pe_tup (pa_cons pe_str (pa_cons (pe_call G_take (hr.mono (by decide)) (by rfl) T.m_take T.F_take.kp T.b_take .nil pass0 (pa_cons (pv 0) (pa_cons pe_int pa_nil))) (pa_cons (pe_call G_take (hr.mono (by decide)) (by rfl) T.m_take T.F_take.kp T.b_take .nil pass0 (pa_cons (pv 0) (pa_cons pe_int pa_nil))) pa_nil)))) (pg_tup rfl (pgs_cons (pg_name (i := 3) sc_names.nd rfl (Or.inr rfl)) (pgs_cons (pg_name (i := 4) sc_names.nd rfl (Or.inl rfl)) (pgs_cons (pg_name (i := 5) sc_names.nd rfl (Or.inr rfl)) pgs_nil)))))
      (pss_cons (ps_if (pt_cmpR op_eq (pv 4) pe_int (nomark _)) (pss_one (ps_ret (pe_lc (own := [("_law_k", 6)]) (g := gName 6) (by rfl) sc_names.nd (pi_range1 (by rfl) T.z_range (pa_cons (pv 1) pa_nil)) (blkOk_by (own := [("_law_k", 6)]) (N := N_names) (sc := defScope s_names) (by decide +kernel)) (fun _ _ _ _ _ => (pg_name (i := 6) sc_names.nd rfl (Or.inl rfl))) (fun _ _ _ _ _ => pts_nil) (fun _ _ _ _ _ => (pe_ix (ix_listK K) (pv 2) (pe_op op_mod (pe_callTy call_int1 (by rfl) T.z_int (by decide +kernel) (pa_cons (pe_op op_add (pv 5) (pe_op op_mul pe_int (pv 6))) pa_nil)) pe_int) (fun _ _ => rfl)))))) pss_nil)
      (pss_cons (ps_if (PW.pt (pw_and (pt_cmpR op_eq (pv 4) pe_int (nomark _)) (pw_and1 (pt_cmpR op_lt (pv 1) pe_int (nomark _))))) (pss_one (ps_ret (pe_call G_mixed (hr.mono (by decide)) (by rfl) T.m_mixed T.F_mixed.kp T.b_mixed .nil pass0 (pa_cons (pv 0) (pa_cons (pe_lc (own := [("_law_k", 6)]) (g := gName 6) (by rfl) sc_names.nd (pi_range1 (by rfl) T.z_range (pa_cons (pv 1) pa_nil)) (blkOk_by (own := [("_law_k", 6)]) (N := N_names) (sc := defScope s_names) (by decide +kernel)) (fun _ _ _ _ _ => (pg_name (i := 6) sc_names.nd rfl (Or.inl rfl))) (fun _ _ _ _ _ => pts_nil) (fun _ _ _ _ _ => (pe_slice sl_str pe_str po_none (po_some (pe_op op_add (pv 6) pe_int))))) pa_nil))))) pss_nil)
      (pss_one (ps_ret (pe_lc (own := [("_law_k", 6)]) (g := gName 6) (by rfl) sc_names.nd (pi_range1 (by rfl) T.z_range (pa_cons (pv 1) pa_nil)) (blkOk_by (own := [("_law_k", 6)]) (N := N_names) (sc := defScope s_names) (by decide +kernel)) (fun _ _ _ _ _ => (pg_name (i := 6) sc_names.nd rfl (Or.inl rfl))) (fun _ _ _ _ _ => pts_nil) (fun _ _ _ _ _ => (pe_op op_add_str (pe_ix ix_str (pv 3) (pe_op op_mod (pe_callTy call_int1 (by rfl) T.z_int (by decide +kernel) (pa_cons (pe_op op_add (pv 5) (pe_op op_mul pe_int (pv 6))) pa_nil)) pe_int) (fun _ _ => rfl)) (pe_op op_mul_str pe_str (pe_op op_mod (pe_callTy call_int1 (by rfl) T.z_int (by decide +kernel) (pa_cons (pv 5) pa_nil)) pe_int))))))))))), ?_⟩
  refine ⟨by show 12 ≤ sizeLine; decide, fun wa hwa => ?_⟩
  have a1 : At b _ wa (.lst (WORDS.map V.str)) := .mk_new g0 hwa _
  have g1 := g0.new hwa (.lst (WORDS.map V.str))
  refine ⟨_, rfl, b, _, rfl, ⟨fun _ _ _ e => e, g1.box⟩, by decide, by decide, fun fo H2 fo0 fo1 g2 => ?_⟩
  refine ⟨_, rfl, b, _, rfl, ⟨fun _ _ _ e => e, g2.box⟩, by decide, by decide, fun sp H3 sp0 sp1 g3 => ?_⟩
  refine ⟨by show 3 ≤ sizeLine; decide, fun tp htp => ⟨tp, _, rfl, SqT.of upd_same, rfl, _, _, rfl, _, _, rfl, _, _, rfl, rfl, ?_⟩⟩
  have a4 := ((a1.gr g2).gr g3).new (u := .tup [.str ABC, .int fo, .int sp]) htp
  have g4 := ((g1.trans g2).trans g3).new htp (.tup [.str ABC, .int fo, .int sp])
  refine ⟨_, rfl, rfl, _, rfl, ?_⟩
  refine ite2 (fun c1 => ?_) (fun c1 => ?_)
  · refine ⟨_, rfl, n, rfl, by omega, by omega, fun D hD => lc_range (lo := 0) (n := n.toNat) (fun i H' => Gr b H H' ∧ At b H' wa (.lst (WORDS.map V.str)) ∧ At b H' D (.lst (((List.range i).map (wd sp)).map V.str))) ⟨g4.new hD _, a4.new hD, .mk_new g4 hD _⟩ ?_ ?_⟩
    · rintro i H' hi ⟨g5, aw, aD⟩
      refine ⟨rfl, ?_⟩
      refine ⟨_, rfl, _, rfl, _, rfl, _, _, rfl, rfl, .inl ⟨by decide, by decide⟩, _, _, rfl, rfl, .inl ⟨_, rfl, _, _, rfl, rfl, (by show (0 : Int) < _; decide), wa, _, _, _, rfl, rfl, aw.l, at_getD (Int.emod_nonneg _ (by decide)) (Int.emod_lt_of_pos _ (by decide)), _, aD.at_, small1000 (by simp; omega), ?_⟩⟩
      refine ⟨g5.mut (g4.free hD) aD.ne _, ⟨aw.ne, by rw [upd_ne (a4.nep hD)]; exact aw.at_⟩, aD.ne, ?_⟩
      rw [upd_same, range_more, List.map_append]
      simp [wd]
    · rintro H' ⟨g5, _, a5⟩
      exact q D _ H' g5 (g4.free hD) a5 (by simp; omega) (nodup_map fun i j hi hj => wd_nd (by omega) (by omega)) (fun y hy => by
        obtain ⟨i, _, rfl⟩ := List.mem_map.mp hy
        exact wd_nm)
  · have three : ∀ (H5 : Hp) (σ : St), σ = [some (.ref b), some (.int n), some (.ref wa), some (.str ABC), some (.int fo), some (.int sp), none] → Gr b H H5 →
        tRet (tLc (iRng1 (tCons (tVar 1) tNil)) (gName 6) tYes (tOp (fun x y H Q => ∃ i j, x = V.str i ∧ y = V.str j ∧ i.length + j.length ≤ sizeLine ∧ Q (V.str (i ++ j)) H)
          (tOp rIxS (tVar 3) (tOp (rI (fun x j => 0 < j) fun i j => V.int (i % j)) (tCB (fun xs H Q => (∃ i, xs = [V.int i] ∧ Q (V.int i) H) ∨ ∃ k, xs = [V.bl k] ∧ Q (V.int (if k = true then 1 else 0)) H)
            (tCons (tOp (rI0 fun i j => V.int (i + j)) (tVar 5) (tOp (rI CMul fun i j => V.int (i * j)) (tC (V.int 7)) (tVar 6))) tNil)) (tC (V.int 26))))
          (tOp (fun x y H Q => ∃ z n, x = V.str z ∧ y = V.int n ∧ 0 ≤ n ∧ n ≤ 1000 ∧ z.length ≤ 1000 ∧ Q (V.str { cps := (timesL z.cps.toList n.toNat).toArray }) H) (tC (V.str (Str.ofString "v")))
            (tOp (rI (fun x j => 0 < j) fun i j => V.int (i % j)) (tCB (fun xs H Q => (∃ i, xs = [V.int i] ∧ Q (V.int i) H) ∨ ∃ k, xs = [V.bl k] ∧ Q (V.int (if k = true then 1 else 0)) H) (tCons (tVar 5) tNil)) (tC (V.int 4)))))
          (List.map (fun x => x.snd) [(Str.ofString "_law_k", 6)])) { nx := fun _ H' => Q .non H', rt := Q } σ H5 := by
      rintro H5 σ rfl g5
      refine ⟨_, rfl, n, rfl, by omega, by omega, fun D hD => lc_range (lo := 0) (n := n.toNat) (fun i H' => Gr b H H' ∧ At b H' D (.lst (((List.range i).map (lt sp)).map V.str))) ⟨g5.new hD _, .mk_new g5 hD _⟩ ?_ ?_⟩
      · rintro i H' hi ⟨g6, aD⟩
        refine ⟨rfl, ?_⟩
        refine ⟨_, rfl, _, rfl, _, rfl, _, _, rfl, rfl, .inl ⟨by decide, by decide⟩, _, _, rfl, rfl, .inl ⟨_, rfl, _, _, rfl, rfl, (by show (0 : Int) < _; decide), ABC, _, _, rfl, rfl, by decide +kernel, at_getN (Int.emod_nonneg _ (by decide)) (Int.emod_lt_of_pos _ (by decide)), ?_⟩⟩
        refine ⟨_, rfl, .inl ⟨_, rfl, _, _, rfl, rfl, (by show (0 : Int) < _; decide), _, _, rfl, rfl, Int.emod_nonneg _ (by decide), by have := Int.emod_lt_of_pos sp (show (0 : Int) < 4 by decide); omega, by decide +kernel, _, _, rfl, rfl, ?_, _, aD.at_, small1000 (by simp; omega), ?_⟩⟩
        · show 1 + (timesL [118] (sp % 4).toNat).toArray.size ≤ sizeLine
          rw [List.size_toArray, timesL_len, sizeLine_eq]
          have := Int.emod_lt_of_pos sp (show (0 : Int) < 4 by decide)
          simp only [List.length_singleton]
          omega
        · refine ⟨g6.mut (g5.free hD) aD.ne _, aD.ne, ?_⟩
          rw [upd_same, range_more, List.map_append]
          simp [lt]
          rfl
      · rintro H' ⟨g6, a6⟩
        exact q D _ H' g6 (g5.free hD) a6 (by simp; omega) (nodup_map fun i j hi hj => lt_nd (by omega) (by omega)) (fun y hy => by
          obtain ⟨i, _, rfl⟩ := List.mem_map.mp hy
          exact lt_nm)
    refine ⟨_, rfl, rfl, _, rfl, ?_⟩
    refine ite2 (fun c2 => ?_) (fun c2 => ?_)
    · refine ⟨_, rfl, _, _, rfl, rfl, _, rfl, ?_⟩
      refine ite2 (fun c3 => ?_) (fun c3 => ?_)
      · have n5 : n < 5 := of_decide_eq_true c3
        refine ⟨_, rfl, _, rfl, n, rfl, by omega, by omega, fun D hD => lc_range (lo := 0) (n := n.toNat) (fun i H' => Gr b H H' ∧ At b H' D (.lst (((List.range i).map tt).map V.str))) ⟨g4.new hD _, .mk_new g4 hD _⟩ ?_ ?_⟩
        · rintro i H' hi ⟨g6, aD⟩
          refine ⟨rfl, ?_⟩
          refine ⟨_, rfl, _, _, rfl, rfl, _, rfl, _, rfl, by decide +kernel, _, aD.at_, small1000 (by simp; omega), ?_⟩
          refine ⟨g6.mut (g4.free hD) aD.ne _, aD.ne, ?_⟩
          rw [upd_same, range_more, List.map_append]
          simp [tt]
        · rintro H' ⟨g6, a6⟩
          refine ⟨b, D, _, rfl, ⟨fun _ _ _ e => e, g6.box⟩, a6, by simp; omega, fun p ys H7 g7 hp a7 pm => ?_⟩
          obtain ⟨zs, e, pm2⟩ : ∃ zs : List Str, ys = zs.map V.str ∧ zs.Perm ((List.range n.toNat).map tt) := perm_of_map pm _ rfl
          subst e
          exact q p zs H7 (g6.trans g7) (g6.free hp) a7 (by rw [pm2.length_eq]; simp; omega) (pm2.nodup_iff.mpr (nodup_map fun i j hi hj => tt_nd i (by omega) j (by omega))) (fun y hy => by
            obtain ⟨i, hi, rfl⟩ := List.mem_map.mp (pm2.mem_iff.mp hy)
            exact tt_nm i (by have := List.mem_range.mp hi; omega))
      · exact three _ _ rfl g4
    · exact three _ _ rfl g4
end
end My

/-! ## The program: what is a name -/
namespace My
open PySem L2
abbrev s_is_name : Stmt := top 3
abbrev N_is_name : List Str := ["value", "letter"]
abbrev P_is_name : List Str := ["value"]
theorem sc_is_name : FnScope N_is_name P_is_name (defScope s_is_name) := ⟨rfl, rfl, rfl, by decide +kernel, rfl, by decide +kernel, by decide +kernel⟩
/-- a text, or a thing that is none -/
inductive AnyV (K : PySem.W.Frag) (H : Hp) : V → Prop where
  | str (x : Str) (h : x.length ≤ 2000) : AnyV K H (.str x)
  | oth {v : V} {t : Value} (n : ∀ x, v ≠ .str x) (ty : TyX K H v t) (k : PySem.W.kitOne K t (.type "str") = some false) : AnyV K H v
def nmV : V → Bool
  | .str x => isNm x
  | _ => false
def nmD : PyData → Bool
  | .str x => isNm x
  | _ => false
structure TxCheck (K : PySem.W.Frag) (mg : Str → Option Value) where
  z_len : mg "len" = none
  z_isinstance : mg "isinstance" = none
  z_str : mg "str" = none
  z_all : mg "all" = none
  letT : Tok
  m_LET : mg "LETTERS" = some (.str ABC letT)
  aNO : Addr
  m_NO : mg "NO_NAMES" = some (.ref aNO)
  t_NO : ∀ H : Hp, SqT K H aNO (BAR.map V.str)
  f_is_name : Addr
  d_is_name : FuncData
  F_is_name : Fun K "is_name" "is_name" s_is_name f_is_name d_is_name
  m_is_name : mg "is_name" = some (.ref f_is_name)
  b_is_name : Binds K d_is_name P_is_name []
def spIsName (K : PySem.W.Frag) : Sp := fun vs H Q _ => ∃ v : V, vs = [v] ∧ AnyV K H v ∧ ∀ H', Same H H' → Q (.bl (nmV v)) H'
theorem inV_strs (x : Str) : ∀ l : List Str, inV (.str x) (l.map V.str) = l.contains x
  | [] => rfl
  | y :: l => by
    have h := inV_strs x l
    show (y == x || inV (.str x) (l.map V.str)) = (y :: l).contains x
    rw [h, List.contains_cons, BEq.comm]
theorem Dv.any {K : PySem.W.Frag} {H : Hp} {v : V} {d : PyData} (h : Dv K H v d) : AnyV K H v := by
  have t := Dp.ty h.dp
  cases h.dp with
  | str x => exact .str x (h.tx x rfl)
  | non => exact .oth (fun _ e => by cases e) t (kit_ty (by decide +kernel))
  | bl b => exact .oth (fun _ e => by cases e) t (kit_ty (show kitB "bool" "str" = some false by decide +kernel))
  | int i => exact .oth (fun _ e => by cases e) t (kit_ty (show kitB "int" "str" = some false by decide +kernel))
  | lst _ _ => exact .oth (fun _ e => by cases e) t (kit_ty (show kitB "list" "str" = some false by decide +kernel))
  | tup _ _ => exact .oth (fun _ e => by cases e) t (kit_ty (show kitB "tuple" "str" = some false by decide +kernel))
theorem Dv.nm {K : PySem.W.Frag} {H : Hp} {v : V} {d : PyData} (h : Dv K H v d) : nmV v = nmD d := by
  cases h.dp <;> rfl
section
variable {P : Program} {w : World} {K : PySem.W.Frag} {mg : Str → Option Value} {base : Heap}
theorem ok_is_name (T : TxCheck K mg) : FnOk P w K mg base CX0 1 T.f_is_name T.d_is_name P_is_name (spIsName K) := by
  refine T.F_is_name.ok sc_is_name (fun vs H Q E h => ?_) (fun cdv A outer s H vs Q E hr h => ?_)
  · obtain ⟨v, rfl, _⟩ := h
    rfl
  obtain ⟨v, rfl, hv, q⟩ := h
  refine ⟨_, (pss_cons (ps_if (PW.pt (pw_or (pt_not (pt_val (pe_callB (call_isiV K) (by rfl) T.z_isinstance (by decide +kernel) (pa_cons (pv 0) (pa_cons (pe_bltn (v := .ty "str") (by rfl) T.z_str (by decide +kernel) rfl) pa_nil))))) (pw_or1 (pt_not (pt_chain op_le op_le pe_int (pe_callB call_len_str (by rfl) T.z_len (by decide +kernel) (pa_cons (pv 0) pa_nil)) pe_int))))) (pss_one (ps_ret pe_bl)) pss_nil)
      (pss_one (ps_ret (pe_and (pe_cmpR (op_notInK K) (pv 0) (pe_glob (v := .ref T.aNO) (by rfl) T.m_NO rfl) (by rfl)) (pe_one (pe_callB (cr_allK K rfl) (by rfl) T.z_all (by decide +kernel) (pa_cons (pe_lc (own := [("letter", 1)]) (g := gName 1) (by rfl) sc_is_name.nd (pi_str (pv 0)) (blkOk_by (own := [("letter", 1)]) (N := N_is_name) (sc := defScope s_is_name) (by decide +kernel)) (fun _ _ _ _ _ => (pg_name (i := 1) sc_is_name.nd rfl (Or.inl rfl))) (fun _ _ _ _ _ => pts_nil) (fun _ _ _ _ _ => (pe_cmpR op_in_sign (pv 1) (pe_glob (v := .str ABC) (by rfl) T.m_LET ⟨_, rfl⟩) (by rfl)))) pa_nil))))))), ?_⟩
  cases hv with
  | oth n ty k =>
    have e : nmV v = false := by cases v <;> first | rfl | exact absurd rfl (n _)
    refine ⟨_, rfl, v, .ty "str", _, _, _, rfl, .ty _, ty, k, _, rfl, ?_⟩
    have r := q H (Same.refl H)
    rw [e] at r
    exact r
  | str x hx =>
    have hz : x.length ≤ sizeLine := by rw [sizeLine_eq]; omega
    have no : isNm x = false → Q (.bl false) H := fun e => by
      have r := q H (Same.refl H)
      rwa [show nmV (.str x) = false from e] at r
    refine ⟨_, rfl, .str x, .ty "str", _, _, true, rfl, .ty _, .base (.str x), kit_ty (by decide +kernel), _, rfl, ?_⟩
    refine ⟨_, rfl, x, rfl, hz, _, _, rfl, rfl, _, rfl, ?_⟩
    refine ite2 (fun c => ?_) (fun c => ?_)
    · have h1 : (1 : Int) ≤ (x.length : Int) := of_decide_eq_true c
      refine ⟨_, _, rfl, rfl, _, rfl, ?_⟩
      refine ite2 (fun c => ?_) (fun c => ?_)
      · have h4 : ¬ (x.length : Int) ≤ 4 := of_decide_eq_false (by simpa using c)
        exact no (by unfold isNm; rw [show decide (x.length ≤ 4) = false from decide_eq_false (by omega)]; simp)
      · have h4 : (x.length : Int) ≤ 4 := of_decide_eq_true (by simpa using c)
        refine ⟨_, rfl, T.aNO, BAR.map V.str, rfl, .inr (T.t_NO _), rfl, by decide +kernel, _, rfl, ?_⟩
        refine ite2 (fun c => ?_) (fun c => ?_)
        · have hb : BAR.contains x = false := by
            have c' : (!inV (.str x) (BAR.map V.str)) = true := c
            rw [inV_strs] at c'
            simpa using c'
          refine ⟨_, rfl, x, rfl, fun D hD => lc_it walk_str (fun i H' => Same H H' ∧ H' D = some (.lst (((x.cps.toList.take i).map fun c => decide (c ∈ ABC.cps.toList)).map V.bl))) ⟨same_upd hD _, upd_same⟩ (fun _ _ _ _ => trivial) ?_ ?_⟩
          · rintro i v H1 H2 hi ⟨s1, hD1⟩ ⟨rfl, c, hc, rfl⟩
            have hi' : i ≤ 4 := by have : i < x.length := hi; omega
            refine ⟨rfl, ?_⟩
            refine ⟨_, rfl, c, ABC, rfl, rfl, _, hD1, small1000 (by simp; omega), ?_, ?_⟩
            · intro b o e
              rw [upd_ne (ne_of_none e hD)]
              exact s1 b o e
            · have hc' : x.cps.toList[i]? = some c := by rw [Array.getElem?_toList]; exact hc
              rw [upd_same, List.take_add_one, hc']
              simp
          · rintro H' ⟨s1, hD1⟩
            refine ⟨D, _, rfl, SqL.of hD1, ?_⟩
            have e : isNm x = (((x.cps.toList.take x.cps.size).map fun c => decide (c ∈ ABC.cps.toList))).all id := by
              unfold isNm
              rw [decide_eq_true (show 1 ≤ x.length by omega), decide_eq_true (show x.length ≤ 4 by omega), hb, List.take_of_length_le (by simp), List.all_map]
              simp
            have r := q H' s1
            rw [show nmV (.str x) = isNm x from rfl, e] at r
            exact r
        · have hb : BAR.contains x = true := by
            have c' : ¬ (!inV (.str x) (BAR.map V.str)) = true := c
            rw [inV_strs] at c'
            simpa using c'
          exact no (by unfold isNm; rw [hb]; simp)
    · have h1 : ¬ (1 : Int) ≤ (x.length : Int) := of_decide_eq_false (Bool.eq_false_iff.mpr c)
      refine ⟨_, rfl, ?_⟩
      exact no (by unfold isNm; rw [show decide (1 ≤ x.length) = false from decide_eq_false (by omega)]; simp)
end
end My

/-! ## The program: rows -/
namespace My
open PySem L2
abbrev s_is_name_or : Stmt := top 8
abbrev N_is_name_or : List Str := ["value", "words"]
abbrev P_is_name_or : List Str := ["value", "words"]
theorem sc_is_name_or : FnScope N_is_name_or P_is_name_or (defScope s_is_name_or) := ⟨rfl, rfl, rfl, by decide +kernel, rfl, by decide +kernel, by decide +kernel⟩
abbrev s_InvalidRow_init : Stmt := inClass (top 6) 0
abbrev N_InvalidRow_init : List Str := ["self", "word"]
abbrev P_InvalidRow_init : List Str := ["self", "word"]
theorem sc_InvalidRow_init : FnScope N_InvalidRow_init P_InvalidRow_init (defScope s_InvalidRow_init) := ⟨rfl, rfl, rfl, by decide +kernel, rfl, by decide +kernel, by decide +kernel⟩
abbrev s_Begin_init : Stmt := inClass (top 10) 0
abbrev N_Begin_init : List Str := ["self", "mark", "kind", "mood"]
abbrev P_Begin_init : List Str := ["self", "mark", "kind", "mood"]
theorem sc_Begin_init : FnScope N_Begin_init P_Begin_init (defScope s_Begin_init) := ⟨rfl, rfl, rfl, by decide +kernel, rfl, by decide +kernel, by decide +kernel⟩
abbrev s_Send_init : Stmt := inClass (top 11) 0
abbrev N_Send_init : List Str := ["self", "mood", "service", "mark"]
abbrev P_Send_init : List Str := ["self", "mood", "service", "mark"]
theorem sc_Send_init : FnScope N_Send_init P_Send_init (defScope s_Send_init) := ⟨rfl, rfl, rfl, by decide +kernel, rfl, by decide +kernel, by decide +kernel⟩
abbrev s_Back_init : Stmt := inClass (top 12) 0
abbrev N_Back_init : List Str := ["self", "mood", "service", "sign", "then"]
abbrev P_Back_init : List Str := ["self", "mood", "service", "sign", "then"]
theorem sc_Back_init : FnScope N_Back_init P_Back_init (defScope s_Back_init) := ⟨rfl, rfl, rfl, by decide +kernel, rfl, by decide +kernel, by decide +kernel⟩
abbrev s_End_init : Stmt := inClass (top 13) 0
abbrev N_End_init : List Str := ["self", "mood", "outcome", "sign", "part"]
abbrev P_End_init : List Str := ["self", "mood", "outcome", "sign", "part"]
theorem sc_End_init : FnScope N_End_init P_End_init (defScope s_End_init) := ⟨rfl, rfl, rfl, by decide +kernel, rfl, by decide +kernel, by decide +kernel⟩
structure TxRows (K : PySem.W.Frag) (mg : Str → Option Value) extends TxCheck K mg where
  f_is_name_or : Addr
  d_is_name_or : FuncData
  F_is_name_or : Fun K "is_name_or" "is_name_or" s_is_name_or f_is_name_or d_is_name_or
  m_is_name_or : mg "is_name_or" = some (.ref f_is_name_or)
  b_is_name_or : Binds K d_is_name_or P_is_name_or []
  C_InvalidRow : Addr
  m_InvalidRow : mg "InvalidRow" = some (.ref C_InvalidRow)
  oxRow : OexC K C_InvalidRow
  nwRow : PySem.W.findIn K (.ref C_InvalidRow) "word" = some none
  f_InvalidRow_init : Addr
  d_InvalidRow_init : FuncData
  iRow : PySem.W.findIn K (.ref C_InvalidRow) "__init__" = some (some (.ref f_InvalidRow_init))
  tRow : PySem.W.typeIn K (.ref f_InvalidRow_init) = some (.type "function")
  F_InvalidRow_init : Fun K "__init__" "InvalidRow.__init__" s_InvalidRow_init f_InvalidRow_init d_InvalidRow_init
  b_InvalidRow_init : Binds K d_InvalidRow_init P_InvalidRow_init []
  C_Begin : Addr
  m_Begin : mg "Begin" = some (.ref C_Begin)
  c_Begin : Cls K C_Begin
  f_Begin_init : Addr
  d_Begin_init : FuncData
  mk_Begin : Mk K C_Begin f_Begin_init
  F_Begin_init : Fun K "__init__" "Begin.__init__" s_Begin_init f_Begin_init d_Begin_init
  b_Begin_init : Binds K d_Begin_init P_Begin_init []
  n_Begin_mark : NoAttr K C_Begin "mark"
  n_Begin_kind : NoAttr K C_Begin "kind"
  n_Begin_mood : NoAttr K C_Begin "mood"
  C_Send : Addr
  m_Send : mg "Send" = some (.ref C_Send)
  c_Send : Cls K C_Send
  f_Send_init : Addr
  d_Send_init : FuncData
  mk_Send : Mk K C_Send f_Send_init
  F_Send_init : Fun K "__init__" "Send.__init__" s_Send_init f_Send_init d_Send_init
  b_Send_init : Binds K d_Send_init P_Send_init []
  n_Send_mood : NoAttr K C_Send "mood"
  n_Send_service : NoAttr K C_Send "service"
  n_Send_mark : NoAttr K C_Send "mark"
  C_Back : Addr
  m_Back : mg "Back" = some (.ref C_Back)
  c_Back : Cls K C_Back
  f_Back_init : Addr
  d_Back_init : FuncData
  mk_Back : Mk K C_Back f_Back_init
  F_Back_init : Fun K "__init__" "Back.__init__" s_Back_init f_Back_init d_Back_init
  b_Back_init : Binds K d_Back_init P_Back_init []
  n_Back_mood : NoAttr K C_Back "mood"
  n_Back_service : NoAttr K C_Back "service"
  n_Back_sign : NoAttr K C_Back "sign"
  n_Back_then : NoAttr K C_Back "then"
  C_End : Addr
  m_End : mg "End" = some (.ref C_End)
  c_End : Cls K C_End
  f_End_init : Addr
  d_End_init : FuncData
  mk_End : Mk K C_End f_End_init
  F_End_init : Fun K "__init__" "End.__init__" s_End_init f_End_init d_End_init
  b_End_init : Binds K d_End_init P_End_init []
  n_End_mood : NoAttr K C_End "mood"
  n_End_outcome : NoAttr K C_End "outcome"
  n_End_sign : NoAttr K C_End "sign"
  n_End_part : NoAttr K C_End "part"
def spXInit (K : PySem.W.Frag) (C : Addr) : Sp := fun vs H Q _ => ∃ (a : Addr) (y : V), vs = [.ref a, y] ∧ H a = some (exo a C none) ∧
  ∀ dx, H dx = none → dx ≠ a → Q .non (upd (upd H dx (exd dx [("word", y)])) a (exo a C (some dx)))
def spNameOr (K : PySem.W.Frag) : Sp := fun vs H Q _ => ∃ (v : V) (d : PyData) (a : Addr) (l : List Str), vs = [v, .ref a] ∧ Dv K H v d ∧ SqT K H a (l.map V.str) ∧ l.all PyData.strOk = true ∧
  ∀ H', Same H H' → Q (.bl (nmD d || txD l d)) H'
section
variable {P : Program} {w : World} {K : PySem.W.Frag} {mg : Str → Option Value} {base : Heap}
theorem ok_is_name_or (T : TxRows K mg) : FnOk P w K mg base CX0 2 T.f_is_name_or T.d_is_name_or P_is_name_or (spNameOr K) := by
  have G_is_name := ok_is_name (P := P) (w := w) (base := base) T.toTxCheck
  refine T.F_is_name_or.ok sc_is_name_or (fun vs H Q E h => ?_) (fun cdv A outer s H vs Q E hr h => ?_)
  · obtain ⟨v, d, a, l, rfl, _⟩ := h
    rfl
  obtain ⟨v, d, a, l, rfl, hv, hl, ho, q⟩ := h
  refine ⟨_, (pss_one (ps_ret (pe_or (pe_call G_is_name (hr.mono (by decide)) (by rfl) T.m_is_name T.F_is_name.kp T.b_is_name .nil pass0 (pa_cons (pv 0) pa_nil)) (pe_one (pe_cmpR (op_inT K (room65 hr)) (pv 0) (pv 1) (by rfl)))))), ?_⟩
  refine ⟨_, rfl, v, rfl, hv.any, fun H' s1 => ⟨_, rfl, ?_⟩⟩
  rw [hv.nm] at *
  cases e : nmD d with
  | true =>
    have r := q H' s1
    rw [e] at r
    exact r
  | false =>
    refine ⟨_, rfl, _, rfl, d, l.map PyData.str, Dp.same s1 d v hv.dp, .tup (seqT_same s1 hl) (Dp.all_strs l), hv.sh, shaped_strs ho, ?_⟩
    have r := q H' s1
    rw [e, Bool.false_or, ← any_strs] at r
    exact r
theorem ok_xrow (T : TxRows K mg) : FnOk P w K mg base CX0 1 T.f_InvalidRow_init T.d_InvalidRow_init P_InvalidRow_init (spXInit K T.C_InvalidRow) := by
  refine T.F_InvalidRow_init.ok sc_InvalidRow_init (fun vs H Q E h => ?_) (fun cdv A outer s H vs Q E hr h => ?_)
  · obtain ⟨a, y, rfl, _⟩ := h
    rfl
  obtain ⟨a, y, rfl, ha, q⟩ := h
  refine ⟨_, (pss_one (ps_ost (pv 0) (pv 1))), ?_⟩
  exact ⟨_, rfl, _, rfl, a, T.C_InvalidRow, rfl, T.oxRow, T.nwRow, .inl ⟨ha, fun dx h1 h2 => q dx h1 h2⟩⟩
/-- raise X('word'), X's own __init__ keeping the word -/
theorem mk_word {K : PySem.W.Frag} {C : Addr} {σ : St} {H1 : Hp} {wd : Str} {Q : XK} (q : ∀ (d : Addr) (H' : Hp), Same H1 H' → H1 d = none → H' d = some (.xd [("word", .str wd)]) → Q (.ref C) (some d) H') :
    tMkO C (spXInit K C) [] (tCons (tC (.str wd)) tNil) σ H1 Q := by
  refine ⟨by show 1 ≤ 1000; decide, fun a na => ⟨a, .str wd, rfl, upd_same, fun dx h1 h2 => ⟨rfl, dx, [("word", .str wd)], upd_same, ?_, ?_, ?_⟩⟩⟩
  · rw [upd_ne h2, upd_same]
  · rw [upd_ne h2] at h1
    exact h1
  · rw [upd_ne h2] at h1
    refine q dx _ (fun b u e => ?_) h1 upd_same
    have hb : b ≠ a := ne_of_none e na
    have hd : b ≠ dx := ne_of_none e h1
    rw [upd_ne hd, del_ne hb, upd_ne hb, upd_ne hd, upd_ne hb]
    exact e
def spRow (K : PySem.W.Frag) (C CX : Addr) (names : List Str) (wr : List PyData → Option Str) : Sp := fun vs H Q E => ∃ (p dx : Addr) (as : List V) (ds : List PyData), vs = .ref p :: as ∧ as.length = names.length ∧ Paired (Dv K H) as ds ∧ H p = some (.ins C dx []) ∧
  (∀ H', wr ds = none → H' p = some (.ins C dx (names.zip as)) → (∀ b u, H b = some u → b ≠ p → H' b = some u) → Q .non H') ∧
  (∀ wd d H', wr ds = some wd → Same H H' → H d = none → H' d = some (.xd [("word", .str wd)]) → E (.ref CX) (some d) H')
theorem bnot_eq {b : Bool} (h : (!b) = true) : b = false := by simpa using h
theorem bnot_ne {b : Bool} (h : ¬ (!b) = true) : b = true := by simpa using h
def wBegin : List PyData → Option Str
  | [d0, d1, d2] => if (nmD d0 || txD ["none", "any"] d0) = false then some "mark" else if (nmD d1 || txD ["any"] d1) = false then some "kind" else if nmD d2 = false then some "mood" else none
  | _ => none
theorem ok_Begin_init (T : TxRows K mg) : FnOk P w K mg base (L2.CX P w) 3 T.f_Begin_init T.d_Begin_init P_Begin_init (spRow K T.C_Begin T.C_InvalidRow ["mark", "kind", "mood"] wBegin) := by
  have G_is_name := ok_is_name (P := P) (w := w) (base := base) T.toTxCheck
  have G_is_name_or := ok_is_name_or (P := P) (w := w) (base := base) T
  have G_InvalidRow_init := ok_xrow (P := P) (w := w) (base := base) T
  refine T.F_Begin_init.okX sc_Begin_init (fun vs H Q E h => ?_) (fun cdv A outer s H vs Q E hr h => ?_)
  · obtain ⟨p, dx, as, ds, rfl, hl, _⟩ := h
    exact congrArg Nat.succ hl
  obtain ⟨p, dx, as, ds, rfl, hl, hd, hp, q, qe⟩ := h
  obtain ⟨x0, x1, x2, rfl⟩ : ∃ x0 x1 x2, as = [x0, x1, x2] := by
    match as, hl with
    | [x0, x1, x2], _ => exact ⟨x0, x1, x2, rfl⟩
  cases hd with
  | cons h0 hd =>
  cases hd with
  | cons h1 hd =>
  cases hd with
  | cons h2 hd =>
  cases hd
  rename_i d0 d1 d2
  refine ⟨_, (pss_cons (ps_if (pt_not (pt_val (pe_call G_is_name_or (hr.mono (by decide)) (by rfl) T.m_is_name_or T.F_is_name_or.kp T.b_is_name_or .nil pass0 (pa_cons (pv 1) (pa_cons (pe_tup (pa_cons pe_str (pa_cons pe_str pa_nil))) pa_nil))))) (pss_one (ps_raise rfl (takes_of rfl rfl rfl rfl) (pmk_oex T.oxRow T.iRow T.tRow G_InvalidRow_init (hr.mono (by decide)) T.b_InvalidRow_init .nil pass0 (by rfl) T.m_InvalidRow (pa_cons pe_str pa_nil)))) pss_nil)
      (pss_cons (ps_if (pt_not (pt_val (pe_call G_is_name_or (hr.mono (by decide)) (by rfl) T.m_is_name_or T.F_is_name_or.kp T.b_is_name_or .nil pass0 (pa_cons (pv 2) (pa_cons (pe_tup (pa_cons pe_str pa_nil)) pa_nil))))) (pss_one (ps_raise rfl (takes_of rfl rfl rfl rfl) (pmk_oex T.oxRow T.iRow T.tRow G_InvalidRow_init (hr.mono (by decide)) T.b_InvalidRow_init .nil pass0 (by rfl) T.m_InvalidRow (pa_cons pe_str pa_nil)))) pss_nil)
      (pss_cons (ps_if (pt_not (pt_val (pe_call G_is_name (hr.mono (by decide)) (by rfl) T.m_is_name T.F_is_name.kp T.b_is_name .nil pass0 (pa_cons (pv 3) pa_nil)))) (pss_one (ps_raise rfl (takes_of rfl rfl rfl rfl) (pmk_oex T.oxRow T.iRow T.tRow G_InvalidRow_init (hr.mono (by decide)) T.b_InvalidRow_init .nil pass0 (by rfl) T.m_InvalidRow (pa_cons pe_str pa_nil)))) pss_nil)
      (pss_cons (ps_fld (pv 0) (pv 1) rfl)
      (pss_cons (ps_fld (pv 0) (pv 2) rfl)
      (pss_one (ps_fld (pv 0) (pv 3) rfl))))))), ?_⟩
  have s0 : Same H H := Same.refl H
  refine ⟨_, rfl, by show 2 ≤ sizeLine; decide, fun t0 ht0 => ⟨x0, d0, t0, ["none", "any"], rfl, h0.same (s0.trans (same_upd ht0 _)), SqT.of upd_same, by decide +kernel, fun H0 z0 => ⟨_, rfl, ?_⟩⟩⟩
  have s1 := s0.trans ((same_upd ht0 _).trans z0)
  refine ite2 (fun c0 => ?_) (fun c0 => ?_)
  · exact mk_word fun d H' s' n' e' => qe "mark" d H' (if_pos (bnot_eq c0)) (s1.trans s') (s1.free n') e'
  refine ⟨_, rfl, by show 1 ≤ sizeLine; decide, fun t1 ht1 => ⟨x1, d1, t1, ["any"], rfl, h1.same (s1.trans (same_upd ht1 _)), SqT.of upd_same, by decide +kernel, fun H1 z1 => ⟨_, rfl, ?_⟩⟩⟩
  have s2 := s1.trans ((same_upd ht1 _).trans z1)
  refine ite2 (fun c1 => ?_) (fun c1 => ?_)
  · exact mk_word fun d H' s' n' e' => qe "kind" d H' ((if_neg (by rw [bnot_ne c0]; decide)).trans (if_pos (bnot_eq c1))) (s2.trans s') (s2.free n') e'
  refine ⟨_, rfl, x2, rfl, (h2.same s2).any, fun H2 z2 => ⟨_, rfl, ?_⟩⟩
  rw [(h2.same s2).nm]
  have s3 := s2.trans z2
  refine ite2 (fun c2 => ?_) (fun c2 => ?_)
  · exact mk_word fun d H' s' n' e' => qe "mood" d H' ((if_neg (by rw [bnot_ne c0]; decide)).trans ((if_neg (by rw [bnot_ne c1]; decide)).trans (if_pos (bnot_eq c2)))) (s3.trans s') (s3.free n') e'
  have hp3 := s3 _ _ hp
  refine ⟨_, rfl, _, rfl, p, T.C_Begin, dx, _, rfl, hp3, T.c_Begin, T.n_Begin_mark, (by show 0 < 1000; decide), ?_⟩
  refine ⟨_, rfl, _, rfl, p, T.C_Begin, dx, _, rfl, upd_same, T.c_Begin, T.n_Begin_kind, (by show 1 < 1000; decide), ?_⟩
  refine ⟨_, rfl, _, rfl, p, T.C_Begin, dx, _, rfl, upd_same, T.c_Begin, T.n_Begin_mood, (by show 2 < 1000; decide), ?_⟩
  rw [upd_upd, upd_upd]
  refine q _ ((if_neg (by rw [bnot_ne c0]; decide)).trans ((if_neg (by rw [bnot_ne c1]; decide)).trans (if_neg (by rw [bnot_ne c2]; decide)))) upd_same fun b u e nb => ?_
  rw [upd_ne nb]
  exact s3 _ _ e
def wSend : List PyData → Option Str
  | [d0, d1, d2] => if (nmD d0 || txD ["any"] d0) = false then some "mood" else if (nmD d1 || txD ["any"] d1) = false then some "service" else if (nmD d2 || txD ["none", "same"] d2) = false then some "mark" else none
  | _ => none
theorem ok_Send_init (T : TxRows K mg) : FnOk P w K mg base (L2.CX P w) 3 T.f_Send_init T.d_Send_init P_Send_init (spRow K T.C_Send T.C_InvalidRow ["mood", "service", "mark"] wSend) := by
  have G_is_name := ok_is_name (P := P) (w := w) (base := base) T.toTxCheck
  have G_is_name_or := ok_is_name_or (P := P) (w := w) (base := base) T
  have G_InvalidRow_init := ok_xrow (P := P) (w := w) (base := base) T
  refine T.F_Send_init.okX sc_Send_init (fun vs H Q E h => ?_) (fun cdv A outer s H vs Q E hr h => ?_)
  · obtain ⟨p, dx, as, ds, rfl, hl, _⟩ := h
    exact congrArg Nat.succ hl
  obtain ⟨p, dx, as, ds, rfl, hl, hd, hp, q, qe⟩ := h
  obtain ⟨x0, x1, x2, rfl⟩ : ∃ x0 x1 x2, as = [x0, x1, x2] := by
    match as, hl with
    | [x0, x1, x2], _ => exact ⟨x0, x1, x2, rfl⟩
  cases hd with
  | cons h0 hd =>
  cases hd with
  | cons h1 hd =>
  cases hd with
  | cons h2 hd =>
  cases hd
  rename_i d0 d1 d2
  refine ⟨_, (pss_cons (ps_if (pt_not (pt_val (pe_call G_is_name_or (hr.mono (by decide)) (by rfl) T.m_is_name_or T.F_is_name_or.kp T.b_is_name_or .nil pass0 (pa_cons (pv 1) (pa_cons (pe_tup (pa_cons pe_str pa_nil)) pa_nil))))) (pss_one (ps_raise rfl (takes_of rfl rfl rfl rfl) (pmk_oex T.oxRow T.iRow T.tRow G_InvalidRow_init (hr.mono (by decide)) T.b_InvalidRow_init .nil pass0 (by rfl) T.m_InvalidRow (pa_cons pe_str pa_nil)))) pss_nil)
      (pss_cons (ps_if (pt_not (pt_val (pe_call G_is_name_or (hr.mono (by decide)) (by rfl) T.m_is_name_or T.F_is_name_or.kp T.b_is_name_or .nil pass0 (pa_cons (pv 2) (pa_cons (pe_tup (pa_cons pe_str pa_nil)) pa_nil))))) (pss_one (ps_raise rfl (takes_of rfl rfl rfl rfl) (pmk_oex T.oxRow T.iRow T.tRow G_InvalidRow_init (hr.mono (by decide)) T.b_InvalidRow_init .nil pass0 (by rfl) T.m_InvalidRow (pa_cons pe_str pa_nil)))) pss_nil)
      (pss_cons (ps_if (pt_not (pt_val (pe_call G_is_name_or (hr.mono (by decide)) (by rfl) T.m_is_name_or T.F_is_name_or.kp T.b_is_name_or .nil pass0 (pa_cons (pv 3) (pa_cons (pe_tup (pa_cons pe_str (pa_cons pe_str pa_nil))) pa_nil))))) (pss_one (ps_raise rfl (takes_of rfl rfl rfl rfl) (pmk_oex T.oxRow T.iRow T.tRow G_InvalidRow_init (hr.mono (by decide)) T.b_InvalidRow_init .nil pass0 (by rfl) T.m_InvalidRow (pa_cons pe_str pa_nil)))) pss_nil)
      (pss_cons (ps_fld (pv 0) (pv 1) rfl)
      (pss_cons (ps_fld (pv 0) (pv 2) rfl)
      (pss_one (ps_fld (pv 0) (pv 3) rfl))))))), ?_⟩
  have s0 : Same H H := Same.refl H
  refine ⟨_, rfl, by show 1 ≤ sizeLine; decide, fun t0 ht0 => ⟨x0, d0, t0, ["any"], rfl, h0.same (s0.trans (same_upd ht0 _)), SqT.of upd_same, by decide +kernel, fun H0 z0 => ⟨_, rfl, ?_⟩⟩⟩
  have s1 := s0.trans ((same_upd ht0 _).trans z0)
  refine ite2 (fun c0 => ?_) (fun c0 => ?_)
  · exact mk_word fun d H' s' n' e' => qe "mood" d H' (if_pos (bnot_eq c0)) (s1.trans s') (s1.free n') e'
  refine ⟨_, rfl, by show 1 ≤ sizeLine; decide, fun t1 ht1 => ⟨x1, d1, t1, ["any"], rfl, h1.same (s1.trans (same_upd ht1 _)), SqT.of upd_same, by decide +kernel, fun H1 z1 => ⟨_, rfl, ?_⟩⟩⟩
  have s2 := s1.trans ((same_upd ht1 _).trans z1)
  refine ite2 (fun c1 => ?_) (fun c1 => ?_)
  · exact mk_word fun d H' s' n' e' => qe "service" d H' ((if_neg (by rw [bnot_ne c0]; decide)).trans (if_pos (bnot_eq c1))) (s2.trans s') (s2.free n') e'
  refine ⟨_, rfl, by show 2 ≤ sizeLine; decide, fun t2 ht2 => ⟨x2, d2, t2, ["none", "same"], rfl, h2.same (s2.trans (same_upd ht2 _)), SqT.of upd_same, by decide +kernel, fun H2 z2 => ⟨_, rfl, ?_⟩⟩⟩
  have s3 := s2.trans ((same_upd ht2 _).trans z2)
  refine ite2 (fun c2 => ?_) (fun c2 => ?_)
  · exact mk_word fun d H' s' n' e' => qe "mark" d H' ((if_neg (by rw [bnot_ne c0]; decide)).trans ((if_neg (by rw [bnot_ne c1]; decide)).trans (if_pos (bnot_eq c2)))) (s3.trans s') (s3.free n') e'
  have hp3 := s3 _ _ hp
  refine ⟨_, rfl, _, rfl, p, T.C_Send, dx, _, rfl, hp3, T.c_Send, T.n_Send_mood, (by show 0 < 1000; decide), ?_⟩
  refine ⟨_, rfl, _, rfl, p, T.C_Send, dx, _, rfl, upd_same, T.c_Send, T.n_Send_service, (by show 1 < 1000; decide), ?_⟩
  refine ⟨_, rfl, _, rfl, p, T.C_Send, dx, _, rfl, upd_same, T.c_Send, T.n_Send_mark, (by show 2 < 1000; decide), ?_⟩
  rw [upd_upd, upd_upd]
  refine q _ ((if_neg (by rw [bnot_ne c0]; decide)).trans ((if_neg (by rw [bnot_ne c1]; decide)).trans (if_neg (by rw [bnot_ne c2]; decide)))) upd_same fun b u e nb => ?_
  rw [upd_ne nb]
  exact s3 _ _ e
def wBack : List PyData → Option Str
  | [d0, d1, d2, d3] => if (nmD d0 || txD ["any"] d0) = false then some "mood" else if (nmD d1 || txD ["any"] d1) = false then some "service" else if (nmD d2 || txD ["none", "any"] d2) = false then some "sign" else if (nmD d3 || txD ["same"] d3) = false then some "then" else none
  | _ => none
theorem ok_Back_init (T : TxRows K mg) : FnOk P w K mg base (L2.CX P w) 3 T.f_Back_init T.d_Back_init P_Back_init (spRow K T.C_Back T.C_InvalidRow ["mood", "service", "sign", "then"] wBack) := by
  have G_is_name := ok_is_name (P := P) (w := w) (base := base) T.toTxCheck
  have G_is_name_or := ok_is_name_or (P := P) (w := w) (base := base) T
  have G_InvalidRow_init := ok_xrow (P := P) (w := w) (base := base) T
  refine T.F_Back_init.okX sc_Back_init (fun vs H Q E h => ?_) (fun cdv A outer s H vs Q E hr h => ?_)
  · obtain ⟨p, dx, as, ds, rfl, hl, _⟩ := h
    exact congrArg Nat.succ hl
  obtain ⟨p, dx, as, ds, rfl, hl, hd, hp, q, qe⟩ := h
  obtain ⟨x0, x1, x2, x3, rfl⟩ : ∃ x0 x1 x2 x3, as = [x0, x1, x2, x3] := by
    match as, hl with
    | [x0, x1, x2, x3], _ => exact ⟨x0, x1, x2, x3, rfl⟩
  cases hd with
  | cons h0 hd =>
  cases hd with
  | cons h1 hd =>
  cases hd with
  | cons h2 hd =>
  cases hd with
  | cons h3 hd =>
  cases hd
  rename_i d0 d1 d2 d3
  refine ⟨_, (pss_cons (ps_if (pt_not (pt_val (pe_call G_is_name_or (hr.mono (by decide)) (by rfl) T.m_is_name_or T.F_is_name_or.kp T.b_is_name_or .nil pass0 (pa_cons (pv 1) (pa_cons (pe_tup (pa_cons pe_str pa_nil)) pa_nil))))) (pss_one (ps_raise rfl (takes_of rfl rfl rfl rfl) (pmk_oex T.oxRow T.iRow T.tRow G_InvalidRow_init (hr.mono (by decide)) T.b_InvalidRow_init .nil pass0 (by rfl) T.m_InvalidRow (pa_cons pe_str pa_nil)))) pss_nil)
      (pss_cons (ps_if (pt_not (pt_val (pe_call G_is_name_or (hr.mono (by decide)) (by rfl) T.m_is_name_or T.F_is_name_or.kp T.b_is_name_or .nil pass0 (pa_cons (pv 2) (pa_cons (pe_tup (pa_cons pe_str pa_nil)) pa_nil))))) (pss_one (ps_raise rfl (takes_of rfl rfl rfl rfl) (pmk_oex T.oxRow T.iRow T.tRow G_InvalidRow_init (hr.mono (by decide)) T.b_InvalidRow_init .nil pass0 (by rfl) T.m_InvalidRow (pa_cons pe_str pa_nil)))) pss_nil)
      (pss_cons (ps_if (pt_not (pt_val (pe_call G_is_name_or (hr.mono (by decide)) (by rfl) T.m_is_name_or T.F_is_name_or.kp T.b_is_name_or .nil pass0 (pa_cons (pv 3) (pa_cons (pe_tup (pa_cons pe_str (pa_cons pe_str pa_nil))) pa_nil))))) (pss_one (ps_raise rfl (takes_of rfl rfl rfl rfl) (pmk_oex T.oxRow T.iRow T.tRow G_InvalidRow_init (hr.mono (by decide)) T.b_InvalidRow_init .nil pass0 (by rfl) T.m_InvalidRow (pa_cons pe_str pa_nil)))) pss_nil)
      (pss_cons (ps_if (pt_not (pt_val (pe_call G_is_name_or (hr.mono (by decide)) (by rfl) T.m_is_name_or T.F_is_name_or.kp T.b_is_name_or .nil pass0 (pa_cons (pv 4) (pa_cons (pe_tup (pa_cons pe_str pa_nil)) pa_nil))))) (pss_one (ps_raise rfl (takes_of rfl rfl rfl rfl) (pmk_oex T.oxRow T.iRow T.tRow G_InvalidRow_init (hr.mono (by decide)) T.b_InvalidRow_init .nil pass0 (by rfl) T.m_InvalidRow (pa_cons pe_str pa_nil)))) pss_nil)
      (pss_cons (ps_fld (pv 0) (pv 1) rfl)
      (pss_cons (ps_fld (pv 0) (pv 2) rfl)
      (pss_cons (ps_fld (pv 0) (pv 3) rfl)
      (pss_one (ps_fld (pv 0) (pv 4) rfl))))))))), ?_⟩
  have s0 : Same H H := Same.refl H
  refine ⟨_, rfl, by show 1 ≤ sizeLine; decide, fun t0 ht0 => ⟨x0, d0, t0, ["any"], rfl, h0.same (s0.trans (same_upd ht0 _)), SqT.of upd_same, by decide +kernel, fun H0 z0 => ⟨_, rfl, ?_⟩⟩⟩
  have s1 := s0.trans ((same_upd ht0 _).trans z0)
  refine ite2 (fun c0 => ?_) (fun c0 => ?_)
  · exact mk_word fun d H' s' n' e' => qe "mood" d H' (if_pos (bnot_eq c0)) (s1.trans s') (s1.free n') e'
  refine ⟨_, rfl, by show 1 ≤ sizeLine; decide, fun t1 ht1 => ⟨x1, d1, t1, ["any"], rfl, h1.same (s1.trans (same_upd ht1 _)), SqT.of upd_same, by decide +kernel, fun H1 z1 => ⟨_, rfl, ?_⟩⟩⟩
  have s2 := s1.trans ((same_upd ht1 _).trans z1)
  refine ite2 (fun c1 => ?_) (fun c1 => ?_)
  · exact mk_word fun d H' s' n' e' => qe "service" d H' ((if_neg (by rw [bnot_ne c0]; decide)).trans (if_pos (bnot_eq c1))) (s2.trans s') (s2.free n') e'
  refine ⟨_, rfl, by show 2 ≤ sizeLine; decide, fun t2 ht2 => ⟨x2, d2, t2, ["none", "any"], rfl, h2.same (s2.trans (same_upd ht2 _)), SqT.of upd_same, by decide +kernel, fun H2 z2 => ⟨_, rfl, ?_⟩⟩⟩
  have s3 := s2.trans ((same_upd ht2 _).trans z2)
  refine ite2 (fun c2 => ?_) (fun c2 => ?_)
  · exact mk_word fun d H' s' n' e' => qe "sign" d H' ((if_neg (by rw [bnot_ne c0]; decide)).trans ((if_neg (by rw [bnot_ne c1]; decide)).trans (if_pos (bnot_eq c2)))) (s3.trans s') (s3.free n') e'
  refine ⟨_, rfl, by show 1 ≤ sizeLine; decide, fun t3 ht3 => ⟨x3, d3, t3, ["same"], rfl, h3.same (s3.trans (same_upd ht3 _)), SqT.of upd_same, by decide +kernel, fun H3 z3 => ⟨_, rfl, ?_⟩⟩⟩
  have s4 := s3.trans ((same_upd ht3 _).trans z3)
  refine ite2 (fun c3 => ?_) (fun c3 => ?_)
  · exact mk_word fun d H' s' n' e' => qe "then" d H' ((if_neg (by rw [bnot_ne c0]; decide)).trans ((if_neg (by rw [bnot_ne c1]; decide)).trans ((if_neg (by rw [bnot_ne c2]; decide)).trans (if_pos (bnot_eq c3))))) (s4.trans s') (s4.free n') e'
  have hp3 := s4 _ _ hp
  refine ⟨_, rfl, _, rfl, p, T.C_Back, dx, _, rfl, hp3, T.c_Back, T.n_Back_mood, (by show 0 < 1000; decide), ?_⟩
  refine ⟨_, rfl, _, rfl, p, T.C_Back, dx, _, rfl, upd_same, T.c_Back, T.n_Back_service, (by show 1 < 1000; decide), ?_⟩
  refine ⟨_, rfl, _, rfl, p, T.C_Back, dx, _, rfl, upd_same, T.c_Back, T.n_Back_sign, (by show 2 < 1000; decide), ?_⟩
  refine ⟨_, rfl, _, rfl, p, T.C_Back, dx, _, rfl, upd_same, T.c_Back, T.n_Back_then, (by show 3 < 1000; decide), ?_⟩
  rw [upd_upd, upd_upd, upd_upd]
  refine q _ ((if_neg (by rw [bnot_ne c0]; decide)).trans ((if_neg (by rw [bnot_ne c1]; decide)).trans ((if_neg (by rw [bnot_ne c2]; decide)).trans (if_neg (by rw [bnot_ne c3]; decide))))) upd_same fun b u e nb => ?_
  rw [upd_ne nb]
  exact s4 _ _ e
def wEnd : List PyData → Option Str
  | [d0, d1, d2, d3] => if (nmD d0 || txD ["any"] d0) = false then some "mood" else if txD ["good", "bad", "any"] d1 = false then some "outcome" else if (nmD d2 || txD ["none"] d2) = false then some "sign" else if txD ["keep", "drop"] d3 = false then some "part" else none
  | _ => none
theorem ok_End_init (T : TxRows K mg) : FnOk P w K mg base (L2.CX P w) 3 T.f_End_init T.d_End_init P_End_init (spRow K T.C_End T.C_InvalidRow ["mood", "outcome", "sign", "part"] wEnd) := by
  have G_is_name := ok_is_name (P := P) (w := w) (base := base) T.toTxCheck
  have G_is_name_or := ok_is_name_or (P := P) (w := w) (base := base) T
  have G_InvalidRow_init := ok_xrow (P := P) (w := w) (base := base) T
  refine T.F_End_init.okX sc_End_init (fun vs H Q E h => ?_) (fun cdv A outer s H vs Q E hr h => ?_)
  · obtain ⟨p, dx, as, ds, rfl, hl, _⟩ := h
    exact congrArg Nat.succ hl
  obtain ⟨p, dx, as, ds, rfl, hl, hd, hp, q, qe⟩ := h
  obtain ⟨x0, x1, x2, x3, rfl⟩ : ∃ x0 x1 x2 x3, as = [x0, x1, x2, x3] := by
    match as, hl with
    | [x0, x1, x2, x3], _ => exact ⟨x0, x1, x2, x3, rfl⟩
  cases hd with
  | cons h0 hd =>
  cases hd with
  | cons h1 hd =>
  cases hd with
  | cons h2 hd =>
  cases hd with
  | cons h3 hd =>
  cases hd
  rename_i d0 d1 d2 d3
  refine ⟨_, (pss_cons (ps_if (pt_not (pt_val (pe_call G_is_name_or (hr.mono (by decide)) (by rfl) T.m_is_name_or T.F_is_name_or.kp T.b_is_name_or .nil pass0 (pa_cons (pv 1) (pa_cons (pe_tup (pa_cons pe_str pa_nil)) pa_nil))))) (pss_one (ps_raise rfl (takes_of rfl rfl rfl rfl) (pmk_oex T.oxRow T.iRow T.tRow G_InvalidRow_init (hr.mono (by decide)) T.b_InvalidRow_init .nil pass0 (by rfl) T.m_InvalidRow (pa_cons pe_str pa_nil)))) pss_nil)
      (pss_cons (ps_if (pt_cmpR (op_notInT K (room65 hr)) (pv 2) (pe_tup (pa_cons pe_str (pa_cons pe_str (pa_cons pe_str pa_nil)))) (by rfl)) (pss_one (ps_raise rfl (takes_of rfl rfl rfl rfl) (pmk_oex T.oxRow T.iRow T.tRow G_InvalidRow_init (hr.mono (by decide)) T.b_InvalidRow_init .nil pass0 (by rfl) T.m_InvalidRow (pa_cons pe_str pa_nil)))) pss_nil)
      (pss_cons (ps_if (pt_not (pt_val (pe_call G_is_name_or (hr.mono (by decide)) (by rfl) T.m_is_name_or T.F_is_name_or.kp T.b_is_name_or .nil pass0 (pa_cons (pv 3) (pa_cons (pe_tup (pa_cons pe_str pa_nil)) pa_nil))))) (pss_one (ps_raise rfl (takes_of rfl rfl rfl rfl) (pmk_oex T.oxRow T.iRow T.tRow G_InvalidRow_init (hr.mono (by decide)) T.b_InvalidRow_init .nil pass0 (by rfl) T.m_InvalidRow (pa_cons pe_str pa_nil)))) pss_nil)
      (pss_cons (ps_if (pt_cmpR (op_notInT K (room65 hr)) (pv 4) (pe_tup (pa_cons pe_str (pa_cons pe_str pa_nil))) (by rfl)) (pss_one (ps_raise rfl (takes_of rfl rfl rfl rfl) (pmk_oex T.oxRow T.iRow T.tRow G_InvalidRow_init (hr.mono (by decide)) T.b_InvalidRow_init .nil pass0 (by rfl) T.m_InvalidRow (pa_cons pe_str pa_nil)))) pss_nil)
      (pss_cons (ps_fld (pv 0) (pv 1) rfl)
      (pss_cons (ps_fld (pv 0) (pv 2) rfl)
      (pss_cons (ps_fld (pv 0) (pv 3) rfl)
      (pss_one (ps_fld (pv 0) (pv 4) rfl))))))))), ?_⟩
  have s0 : Same H H := Same.refl H
  refine ⟨_, rfl, by show 1 ≤ sizeLine; decide, fun t0 ht0 => ⟨x0, d0, t0, ["any"], rfl, h0.same (s0.trans (same_upd ht0 _)), SqT.of upd_same, by decide +kernel, fun H0 z0 => ⟨_, rfl, ?_⟩⟩⟩
  have s1 := s0.trans ((same_upd ht0 _).trans z0)
  refine ite2 (fun c0 => ?_) (fun c0 => ?_)
  · exact mk_word fun d H' s' n' e' => qe "mood" d H' (if_pos (bnot_eq c0)) (s1.trans s') (s1.free n') e'
  refine ⟨_, rfl, by show 3 ≤ sizeLine; decide, fun t1 ht1 => ⟨d1, (["good", "bad", "any"] : List Str).map PyData.str, (h1.same (s1.trans (same_upd ht1 _))).dp, .tup (SqT.of upd_same) (Dp.all_strs ["good", "bad", "any"]), h1.sh, shaped_strs (by decide +kernel), _, rfl, ?_⟩⟩
  have s2 := s1.trans (same_upd ht1 (.tup ((["good", "bad", "any"] : List Str).map V.str)))
  refine ite2 (fun c1 => ?_) (fun c1 => ?_)
  · exact mk_word fun d H' s' n' e' => qe "outcome" d H' ((if_neg (by rw [bnot_ne c0]; decide)).trans (if_pos (by rw [← any_strs]; exact bnot_eq c1))) (s2.trans s') (s2.free n') e'
  refine ⟨_, rfl, by show 1 ≤ sizeLine; decide, fun t2 ht2 => ⟨x2, d2, t2, ["none"], rfl, h2.same (s2.trans (same_upd ht2 _)), SqT.of upd_same, by decide +kernel, fun H2 z2 => ⟨_, rfl, ?_⟩⟩⟩
  have s3 := s2.trans ((same_upd ht2 _).trans z2)
  refine ite2 (fun c2 => ?_) (fun c2 => ?_)
  · exact mk_word fun d H' s' n' e' => qe "sign" d H' ((if_neg (by rw [bnot_ne c0]; decide)).trans ((if_neg (by rw [← any_strs]; rw [bnot_ne c1]; decide)).trans (if_pos (bnot_eq c2)))) (s3.trans s') (s3.free n') e'
  refine ⟨_, rfl, by show 2 ≤ sizeLine; decide, fun t3 ht3 => ⟨d3, (["keep", "drop"] : List Str).map PyData.str, (h3.same (s3.trans (same_upd ht3 _))).dp, .tup (SqT.of upd_same) (Dp.all_strs ["keep", "drop"]), h3.sh, shaped_strs (by decide +kernel), _, rfl, ?_⟩⟩
  have s4 := s3.trans (same_upd ht3 (.tup ((["keep", "drop"] : List Str).map V.str)))
  refine ite2 (fun c3 => ?_) (fun c3 => ?_)
  · exact mk_word fun d H' s' n' e' => qe "part" d H' ((if_neg (by rw [bnot_ne c0]; decide)).trans ((if_neg (by rw [← any_strs]; rw [bnot_ne c1]; decide)).trans ((if_neg (by rw [bnot_ne c2]; decide)).trans (if_pos (by rw [← any_strs]; exact bnot_eq c3))))) (s4.trans s') (s4.free n') e'
  have hp3 := s4 _ _ hp
  refine ⟨_, rfl, _, rfl, p, T.C_End, dx, _, rfl, hp3, T.c_End, T.n_End_mood, (by show 0 < 1000; decide), ?_⟩
  refine ⟨_, rfl, _, rfl, p, T.C_End, dx, _, rfl, upd_same, T.c_End, T.n_End_outcome, (by show 1 < 1000; decide), ?_⟩
  refine ⟨_, rfl, _, rfl, p, T.C_End, dx, _, rfl, upd_same, T.c_End, T.n_End_sign, (by show 2 < 1000; decide), ?_⟩
  refine ⟨_, rfl, _, rfl, p, T.C_End, dx, _, rfl, upd_same, T.c_End, T.n_End_part, (by show 3 < 1000; decide), ?_⟩
  rw [upd_upd, upd_upd, upd_upd]
  refine q _ ((if_neg (by rw [bnot_ne c0]; decide)).trans ((if_neg (by rw [← any_strs]; rw [bnot_ne c1]; decide)).trans ((if_neg (by rw [bnot_ne c2]; decide)).trans (if_neg (by rw [← any_strs]; rw [bnot_ne c3]; decide))))) upd_same fun b u e nb => ?_
  rw [upd_ne nb]
  exact s4 _ _ e
end
end My

/-! ## The law's rows: the words that may stand, rows drawn -/
namespace My
open PySem L2
def ws_begin : List (Str × List Str) := [("mark", ["none", "any"]), ("kind", ["any"]), ("mood", [])]
def ws_send : List (Str × List Str) := [("mood", ["any"]), ("service", ["any"]), ("mark", ["none", "same"])]
def ws_back : List (Str × List Str) := [("mood", ["any"]), ("service", ["any"]), ("sign", ["none", "any"]), ("then", ["same"])]
def ws_end : List (Str × List Str) := [("mood", ["any"]), ("outcome", ["good", "bad", "any"]), ("sign", ["none"]), ("part", ["keep", "drop"])]
/-- the words of a sort -/
def wsOf (s : Str) : List (Str × List Str) := if s = "begin" then ws_begin else if s = "send" then ws_send else if s = "back" then ws_back else ws_end
/-- the list of pairs stands at p, made of objects of a kind -/
def WordsAt (ok : Addr → Prop) (H : Hp) (p : Addr) (ws : List (Str × List Str)) : Prop :=
  ∃ vs : List V, H p = some (.lst vs) ∧ Paired (fun v w => ∃ (a l : Addr), v = V.ref a ∧ H a = some (.tup [.str w.1, .ref l]) ∧ H l = some (.lst (w.2.map V.str)) ∧ ok a ∧ ok l) vs ws
abbrev s_words : Stmt := top 22
abbrev N_words : List Str := ["_law_row_here"]
abbrev P_words : List Str := ["_law_row_here"]
theorem sc_words : FnScope N_words P_words (defScope s_words) := ⟨rfl, rfl, rfl, by decide +kernel, rfl, by decide +kernel, by decide +kernel⟩
structure TxWords (K : PySem.W.Frag) (mg : Str → Option Value) extends TxNames K mg where
  f_words : Addr
  d_words : FuncData
  F_words : Fun K "_law_words" "_law_words" s_words f_words d_words
  m_words : mg "_law_words" = some (.ref f_words)
  b_words : Binds K d_words P_words []
def spWords (K : PySem.W.Frag) : Sp := fun vs H Q _ => ∃ (a : Addr) (s : Str) (r : List V), vs = [.ref a] ∧ (SqL K H a (.str s :: r) ∨ SqT K H a (.str s :: r)) ∧
  ∀ (p : Addr) (H' : Hp), Same H H' → H p = none → WordsAt (fun a => H a = none) H' p (wsOf s) → Q (.ref p) H'
section
variable {P : Program} {w : World} {K : PySem.W.Frag} {mg : Str → Option Value} {base : Heap}
theorem rIx_first {K : PySem.W.Frag} {H : Hp} {a : Addr} {s : Str} {r : List V} {Q : VK} (h : SqL K H a (.str s :: r) ∨ SqT K H a (.str s :: r)) (q : Q (.str s) H) : rIx K (.ref a) (.int 0) H Q := by
  rcases h with h | h
  · exact .inl ⟨a, _, 0, _, rfl, rfl, h, atI_nat (j := 0) rfl, q⟩
  · exact .inr (.inl ⟨a, _, 0, _, rfl, rfl, h, atI_nat (j := 0) rfl, q⟩)
theorem str_eq_of {a b : Str} (h : decide (V.str a = V.str b) = true) : a = b := by
  have e := of_decide_eq_true h
  cases e
  rfl
theorem str_ne_of {a b : Str} (h : ¬ decide (V.str a = V.str b) = true) : a ≠ b := fun e => h (by rw [e]; exact decide_eq_true rfl)
theorem ok_words (T : TxWords K mg) : FnOk P w K mg base CX0 1 T.f_words T.d_words P_words (spWords K) := by
  refine T.F_words.ok sc_words (fun vs H Q E h => ?_) (fun cdv A outer s H vs Q E hr h => ?_)
  · obtain ⟨a, s, r, rfl, _⟩ := h
    rfl
  obtain ⟨a, so, r, rfl, hS, q⟩ := h
  refine ⟨_, (pss_cons (ps_if (pt_cmpR op_eq (pe_ix ix_seq (pv 0) pe_int (fun _ _ => rfl)) pe_str (nomark _)) (pss_one (ps_ret (pe_lst (pa_cons (pe_tup (pa_cons pe_str (pa_cons (pe_lst (pa_cons pe_str (pa_cons pe_str pa_nil))) pa_nil))) (pa_cons (pe_tup (pa_cons pe_str (pa_cons (pe_lst (pa_cons pe_str pa_nil)) pa_nil))) (pa_cons (pe_tup (pa_cons pe_str (pa_cons (pe_lst pa_nil) pa_nil))) pa_nil)))))) pss_nil)
      (pss_cons (ps_if (pt_cmpR op_eq (pe_ix ix_seq (pv 0) pe_int (fun _ _ => rfl)) pe_str (nomark _)) (pss_one (ps_ret (pe_lst (pa_cons (pe_tup (pa_cons pe_str (pa_cons (pe_lst (pa_cons pe_str pa_nil)) pa_nil))) (pa_cons (pe_tup (pa_cons pe_str (pa_cons (pe_lst (pa_cons pe_str pa_nil)) pa_nil))) (pa_cons (pe_tup (pa_cons pe_str (pa_cons (pe_lst (pa_cons pe_str (pa_cons pe_str pa_nil))) pa_nil))) pa_nil)))))) pss_nil)
      (pss_cons (ps_if (pt_cmpR op_eq (pe_ix ix_seq (pv 0) pe_int (fun _ _ => rfl)) pe_str (nomark _)) (pss_one (ps_ret (pe_lst (pa_cons (pe_tup (pa_cons pe_str (pa_cons (pe_lst (pa_cons pe_str pa_nil)) pa_nil))) (pa_cons (pe_tup (pa_cons pe_str (pa_cons (pe_lst (pa_cons pe_str pa_nil)) pa_nil))) (pa_cons (pe_tup (pa_cons pe_str (pa_cons (pe_lst (pa_cons pe_str (pa_cons pe_str pa_nil))) pa_nil))) (pa_cons (pe_tup (pa_cons pe_str (pa_cons (pe_lst (pa_cons pe_str pa_nil)) pa_nil))) pa_nil))))))) pss_nil)
      (pss_one (ps_ret (pe_lst (pa_cons (pe_tup (pa_cons pe_str (pa_cons (pe_lst (pa_cons pe_str pa_nil)) pa_nil))) (pa_cons (pe_tup (pa_cons pe_str (pa_cons (pe_lst (pa_cons pe_str (pa_cons pe_str (pa_cons pe_str pa_nil)))) pa_nil))) (pa_cons (pe_tup (pa_cons pe_str (pa_cons (pe_lst (pa_cons pe_str pa_nil)) pa_nil))) (pa_cons (pe_tup (pa_cons pe_str (pa_cons (pe_lst (pa_cons pe_str (pa_cons pe_str pa_nil))) pa_nil))) pa_nil)))))))))), ?_⟩
  refine ⟨_, rfl, rIx_first hS ⟨rfl, _, rfl, ?_⟩⟩
  refine ite2 (fun c => ?_) (fun c => ?_)
  · have e := str_eq_of c
    subst e
    have z0 : Same H H := Same.refl H
    refine ⟨by show 2 ≤ sizeLine; decide, fun l0 hl0 => ⟨by show 2 ≤ sizeLine; decide, fun t0 ht0 => ?_⟩⟩
    have y0 := (same_upd hl0 (.lst ((["none", "any"] : List Str).map V.str))).trans (same_upd ht0 (.tup [.str "mark", .ref l0]))
    have z1 := z0.trans y0
    have fl0 : H l0 = none := z0.free hl0
    have ft0 : H t0 = none := (z0.trans (same_upd hl0 (.lst ((["none", "any"] : List Str).map V.str)))).free ht0
    have al0 := (same_upd ht0 (.tup [.str "mark", .ref l0])) _ _ (upd_same (a := l0) (o := .lst ((["none", "any"] : List Str).map V.str)))
    refine ⟨by show 1 ≤ sizeLine; decide, fun l1 hl1 => ⟨by show 2 ≤ sizeLine; decide, fun t1 ht1 => ?_⟩⟩
    have y1 := (same_upd hl1 (.lst ((["any"] : List Str).map V.str))).trans (same_upd ht1 (.tup [.str "kind", .ref l1]))
    have z2 := z1.trans y1
    have fl1 : H l1 = none := z1.free hl1
    have ft1 : H t1 = none := (z1.trans (same_upd hl1 (.lst ((["any"] : List Str).map V.str)))).free ht1
    have al1 := (same_upd ht1 (.tup [.str "kind", .ref l1])) _ _ (upd_same (a := l1) (o := .lst ((["any"] : List Str).map V.str)))
    refine ⟨by show 0 ≤ sizeLine; decide, fun l2 hl2 => ⟨by show 2 ≤ sizeLine; decide, fun t2 ht2 => ?_⟩⟩
    have y2 := (same_upd hl2 (.lst (([] : List Str).map V.str))).trans (same_upd ht2 (.tup [.str "mood", .ref l2]))
    have z3 := z2.trans y2
    have fl2 : H l2 = none := z2.free hl2
    have ft2 : H t2 = none := (z2.trans (same_upd hl2 (.lst (([] : List Str).map V.str)))).free ht2
    have al2 := (same_upd ht2 (.tup [.str "mood", .ref l2])) _ _ (upd_same (a := l2) (o := .lst (([] : List Str).map V.str)))
    refine ⟨by show 3 ≤ sizeLine; decide, fun p hp => ?_⟩
    have yp := same_upd hp (.lst [.ref t0, .ref t1, .ref t2])
    exact q p _ (z3.trans yp) (z3.free hp) ⟨_, upd_same, .cons ⟨t0, l0, rfl, ((y1.trans y2).trans yp) _ _ upd_same, ((y1.trans y2).trans yp) _ _ al0, ft0, fl0⟩ (.cons ⟨t1, l1, rfl, (y2.trans yp) _ _ upd_same, (y2.trans yp) _ _ al1, ft1, fl1⟩ (.cons ⟨t2, l2, rfl, yp _ _ upd_same, yp _ _ al2, ft2, fl2⟩ (.nil)))⟩
  refine ⟨_, rfl, rIx_first hS ⟨rfl, _, rfl, ?_⟩⟩
  refine ite2 (fun c2 => ?_) (fun c2 => ?_)
  · have e := str_eq_of c2
    subst e
    have z0 : Same H H := Same.refl H
    refine ⟨by show 1 ≤ sizeLine; decide, fun l0 hl0 => ⟨by show 2 ≤ sizeLine; decide, fun t0 ht0 => ?_⟩⟩
    have y0 := (same_upd hl0 (.lst ((["any"] : List Str).map V.str))).trans (same_upd ht0 (.tup [.str "mood", .ref l0]))
    have z1 := z0.trans y0
    have fl0 : H l0 = none := z0.free hl0
    have ft0 : H t0 = none := (z0.trans (same_upd hl0 (.lst ((["any"] : List Str).map V.str)))).free ht0
    have al0 := (same_upd ht0 (.tup [.str "mood", .ref l0])) _ _ (upd_same (a := l0) (o := .lst ((["any"] : List Str).map V.str)))
    refine ⟨by show 1 ≤ sizeLine; decide, fun l1 hl1 => ⟨by show 2 ≤ sizeLine; decide, fun t1 ht1 => ?_⟩⟩
    have y1 := (same_upd hl1 (.lst ((["any"] : List Str).map V.str))).trans (same_upd ht1 (.tup [.str "service", .ref l1]))
    have z2 := z1.trans y1
    have fl1 : H l1 = none := z1.free hl1
    have ft1 : H t1 = none := (z1.trans (same_upd hl1 (.lst ((["any"] : List Str).map V.str)))).free ht1
    have al1 := (same_upd ht1 (.tup [.str "service", .ref l1])) _ _ (upd_same (a := l1) (o := .lst ((["any"] : List Str).map V.str)))
    refine ⟨by show 2 ≤ sizeLine; decide, fun l2 hl2 => ⟨by show 2 ≤ sizeLine; decide, fun t2 ht2 => ?_⟩⟩
    have y2 := (same_upd hl2 (.lst ((["none", "same"] : List Str).map V.str))).trans (same_upd ht2 (.tup [.str "mark", .ref l2]))
    have z3 := z2.trans y2
    have fl2 : H l2 = none := z2.free hl2
    have ft2 : H t2 = none := (z2.trans (same_upd hl2 (.lst ((["none", "same"] : List Str).map V.str)))).free ht2
    have al2 := (same_upd ht2 (.tup [.str "mark", .ref l2])) _ _ (upd_same (a := l2) (o := .lst ((["none", "same"] : List Str).map V.str)))
    refine ⟨by show 3 ≤ sizeLine; decide, fun p hp => ?_⟩
    have yp := same_upd hp (.lst [.ref t0, .ref t1, .ref t2])
    exact q p _ (z3.trans yp) (z3.free hp) ⟨_, upd_same, .cons ⟨t0, l0, rfl, ((y1.trans y2).trans yp) _ _ upd_same, ((y1.trans y2).trans yp) _ _ al0, ft0, fl0⟩ (.cons ⟨t1, l1, rfl, (y2.trans yp) _ _ upd_same, (y2.trans yp) _ _ al1, ft1, fl1⟩ (.cons ⟨t2, l2, rfl, yp _ _ upd_same, yp _ _ al2, ft2, fl2⟩ (.nil)))⟩
  refine ⟨_, rfl, rIx_first hS ⟨rfl, _, rfl, ?_⟩⟩
  refine ite2 (fun c3 => ?_) (fun c3 => ?_)
  · have e := str_eq_of c3
    subst e
    have z0 : Same H H := Same.refl H
    refine ⟨by show 1 ≤ sizeLine; decide, fun l0 hl0 => ⟨by show 2 ≤ sizeLine; decide, fun t0 ht0 => ?_⟩⟩
    have y0 := (same_upd hl0 (.lst ((["any"] : List Str).map V.str))).trans (same_upd ht0 (.tup [.str "mood", .ref l0]))
    have z1 := z0.trans y0
    have fl0 : H l0 = none := z0.free hl0
    have ft0 : H t0 = none := (z0.trans (same_upd hl0 (.lst ((["any"] : List Str).map V.str)))).free ht0
    have al0 := (same_upd ht0 (.tup [.str "mood", .ref l0])) _ _ (upd_same (a := l0) (o := .lst ((["any"] : List Str).map V.str)))
    refine ⟨by show 1 ≤ sizeLine; decide, fun l1 hl1 => ⟨by show 2 ≤ sizeLine; decide, fun t1 ht1 => ?_⟩⟩
    have y1 := (same_upd hl1 (.lst ((["any"] : List Str).map V.str))).trans (same_upd ht1 (.tup [.str "service", .ref l1]))
    have z2 := z1.trans y1
    have fl1 : H l1 = none := z1.free hl1
    have ft1 : H t1 = none := (z1.trans (same_upd hl1 (.lst ((["any"] : List Str).map V.str)))).free ht1
    have al1 := (same_upd ht1 (.tup [.str "service", .ref l1])) _ _ (upd_same (a := l1) (o := .lst ((["any"] : List Str).map V.str)))
    refine ⟨by show 2 ≤ sizeLine; decide, fun l2 hl2 => ⟨by show 2 ≤ sizeLine; decide, fun t2 ht2 => ?_⟩⟩
    have y2 := (same_upd hl2 (.lst ((["none", "any"] : List Str).map V.str))).trans (same_upd ht2 (.tup [.str "sign", .ref l2]))
    have z3 := z2.trans y2
    have fl2 : H l2 = none := z2.free hl2
    have ft2 : H t2 = none := (z2.trans (same_upd hl2 (.lst ((["none", "any"] : List Str).map V.str)))).free ht2
    have al2 := (same_upd ht2 (.tup [.str "sign", .ref l2])) _ _ (upd_same (a := l2) (o := .lst ((["none", "any"] : List Str).map V.str)))
    refine ⟨by show 1 ≤ sizeLine; decide, fun l3 hl3 => ⟨by show 2 ≤ sizeLine; decide, fun t3 ht3 => ?_⟩⟩
    have y3 := (same_upd hl3 (.lst ((["same"] : List Str).map V.str))).trans (same_upd ht3 (.tup [.str "then", .ref l3]))
    have z4 := z3.trans y3
    have fl3 : H l3 = none := z3.free hl3
    have ft3 : H t3 = none := (z3.trans (same_upd hl3 (.lst ((["same"] : List Str).map V.str)))).free ht3
    have al3 := (same_upd ht3 (.tup [.str "then", .ref l3])) _ _ (upd_same (a := l3) (o := .lst ((["same"] : List Str).map V.str)))
    refine ⟨by show 4 ≤ sizeLine; decide, fun p hp => ?_⟩
    have yp := same_upd hp (.lst [.ref t0, .ref t1, .ref t2, .ref t3])
    exact q p _ (z4.trans yp) (z4.free hp) ⟨_, upd_same, .cons ⟨t0, l0, rfl, (((y1.trans y2).trans y3).trans yp) _ _ upd_same, (((y1.trans y2).trans y3).trans yp) _ _ al0, ft0, fl0⟩ (.cons ⟨t1, l1, rfl, ((y2.trans y3).trans yp) _ _ upd_same, ((y2.trans y3).trans yp) _ _ al1, ft1, fl1⟩ (.cons ⟨t2, l2, rfl, (y3.trans yp) _ _ upd_same, (y3.trans yp) _ _ al2, ft2, fl2⟩ (.cons ⟨t3, l3, rfl, yp _ _ upd_same, yp _ _ al3, ft3, fl3⟩ (.nil))))⟩
  have e : wsOf so = ws_end := by
    unfold wsOf
    rw [if_neg (str_ne_of c), if_neg (str_ne_of c2), if_neg (str_ne_of c3)]
  rw [e] at q
  have z0 : Same H H := Same.refl H
  refine ⟨by show 1 ≤ sizeLine; decide, fun l0 hl0 => ⟨by show 2 ≤ sizeLine; decide, fun t0 ht0 => ?_⟩⟩
  have y0 := (same_upd hl0 (.lst ((["any"] : List Str).map V.str))).trans (same_upd ht0 (.tup [.str "mood", .ref l0]))
  have z1 := z0.trans y0
  have fl0 : H l0 = none := z0.free hl0
  have ft0 : H t0 = none := (z0.trans (same_upd hl0 (.lst ((["any"] : List Str).map V.str)))).free ht0
  have al0 := (same_upd ht0 (.tup [.str "mood", .ref l0])) _ _ (upd_same (a := l0) (o := .lst ((["any"] : List Str).map V.str)))
  refine ⟨by show 3 ≤ sizeLine; decide, fun l1 hl1 => ⟨by show 2 ≤ sizeLine; decide, fun t1 ht1 => ?_⟩⟩
  have y1 := (same_upd hl1 (.lst ((["good", "bad", "any"] : List Str).map V.str))).trans (same_upd ht1 (.tup [.str "outcome", .ref l1]))
  have z2 := z1.trans y1
  have fl1 : H l1 = none := z1.free hl1
  have ft1 : H t1 = none := (z1.trans (same_upd hl1 (.lst ((["good", "bad", "any"] : List Str).map V.str)))).free ht1
  have al1 := (same_upd ht1 (.tup [.str "outcome", .ref l1])) _ _ (upd_same (a := l1) (o := .lst ((["good", "bad", "any"] : List Str).map V.str)))
  refine ⟨by show 1 ≤ sizeLine; decide, fun l2 hl2 => ⟨by show 2 ≤ sizeLine; decide, fun t2 ht2 => ?_⟩⟩
  have y2 := (same_upd hl2 (.lst ((["none"] : List Str).map V.str))).trans (same_upd ht2 (.tup [.str "sign", .ref l2]))
  have z3 := z2.trans y2
  have fl2 : H l2 = none := z2.free hl2
  have ft2 : H t2 = none := (z2.trans (same_upd hl2 (.lst ((["none"] : List Str).map V.str)))).free ht2
  have al2 := (same_upd ht2 (.tup [.str "sign", .ref l2])) _ _ (upd_same (a := l2) (o := .lst ((["none"] : List Str).map V.str)))
  refine ⟨by show 2 ≤ sizeLine; decide, fun l3 hl3 => ⟨by show 2 ≤ sizeLine; decide, fun t3 ht3 => ?_⟩⟩
  have y3 := (same_upd hl3 (.lst ((["keep", "drop"] : List Str).map V.str))).trans (same_upd ht3 (.tup [.str "part", .ref l3]))
  have z4 := z3.trans y3
  have fl3 : H l3 = none := z3.free hl3
  have ft3 : H t3 = none := (z3.trans (same_upd hl3 (.lst ((["keep", "drop"] : List Str).map V.str)))).free ht3
  have al3 := (same_upd ht3 (.tup [.str "part", .ref l3])) _ _ (upd_same (a := l3) (o := .lst ((["keep", "drop"] : List Str).map V.str)))
  refine ⟨by show 4 ≤ sizeLine; decide, fun p hp => ?_⟩
  have yp := same_upd hp (.lst [.ref t0, .ref t1, .ref t2, .ref t3])
  exact q p _ (z4.trans yp) (z4.free hp) ⟨_, upd_same, .cons ⟨t0, l0, rfl, (((y1.trans y2).trans y3).trans yp) _ _ upd_same, (((y1.trans y2).trans y3).trans yp) _ _ al0, ft0, fl0⟩ (.cons ⟨t1, l1, rfl, ((y2.trans y3).trans yp) _ _ upd_same, ((y2.trans y3).trans yp) _ _ al1, ft1, fl1⟩ (.cons ⟨t2, l2, rfl, (y3.trans yp) _ _ upd_same, (y3.trans yp) _ _ al2, ft2, fl2⟩ (.cons ⟨t3, l3, rfl, yp _ _ upd_same, yp _ _ al3, ft3, fl3⟩ (.nil))))⟩
end
end My

/-! ## A row drawn -/
namespace My
open PySem L2
def POOLW : List Str := ["mark", "kind", "mood", "service", "sign"]
/-- the lists of names that a row's words are drawn from, by their words -/
structure Pools (b : Addr) (H : Hp) (pd : Addr) (pf : Str → List Str) : Prop where
  at_ : ∃ kvs : List (Key × V), At b H pd (.dK kvs) ∧ ∀ x ∈ POOLW, ∃ l, valV kvs (Sum.inr x) = some (.ref l) ∧ At b H l (.lst ((pf x).map V.str))
  ne : ∀ x ∈ POOLW, pf x ≠ [] ∧ (pf x).length ≤ 100 ∧ ∀ y ∈ pf x, isNm y = true
theorem Pools.gr {b : Addr} {H H' : Hp} {pd : Addr} {pf : Str → List Str} (h : Pools b H pd pf) (g : Gr b H H') : Pools b H' pd pf := by
  obtain ⟨kvs, h1, h2⟩ := h.at_
  refine ⟨⟨kvs, h1.gr g, fun x hx => ?_⟩, h.ne⟩
  obtain ⟨l, e, a⟩ := h2 x hx
  exact ⟨l, e, a.gr g⟩
/-- a word that may stand: one of the others, or a name where the word is none of those two -/
def fitW (y : Str) (w : Str × List Str) : Prop := y ∈ w.2 ∨ (w.1 ≠ "outcome" ∧ w.1 ≠ "part" ∧ isNm y = true)
def SORTS : List Str := ["begin", "send", "back", "end"]
/-- the words of each sort: where nothing else may stand a name is asked for; each but those two has its pool -/
def wsGood (ws : List (Str × List Str)) : Bool := ws.all fun w => decide (w.2.length ≤ 3) && (if w.1 = "outcome" ∨ w.1 = "part" then decide (w.2 ≠ []) else decide ((if w.1 = ("then" : Str) then ("mood" : Str) else w.1) ∈ POOLW))
theorem wsOf_good : ∀ s ∈ SORTS, wsGood (wsOf s) = true ∧ (wsOf s).length ≤ 4 := by decide +kernel
abbrev s_drawn_row : Stmt := top 23
abbrev N_drawn_row : List Str := ["_law_box_here", "_law_sort", "_law_pools", "_law_found", "_law_word", "_law_others", "_law_names_here", "_law_near"]
abbrev P_drawn_row : List Str := ["_law_box_here", "_law_sort", "_law_pools"]
theorem sc_drawn_row : FnScope N_drawn_row P_drawn_row (defScope s_drawn_row) := ⟨rfl, rfl, rfl, by decide +kernel, rfl, by decide +kernel, by decide +kernel⟩
structure TxDrawn (K : PySem.W.Frag) (mg : Str → Option Value) extends TxWords K mg where
  z_tuple : mg "tuple" = none
  f_drawn_row : Addr
  d_drawn_row : FuncData
  F_drawn_row : Fun K "_law_drawn_row" "_law_drawn_row" s_drawn_row f_drawn_row d_drawn_row
  m_drawn_row : mg "_law_drawn_row" = some (.ref f_drawn_row)
  b_drawn_row : Binds K d_drawn_row P_drawn_row []
def spDrawn : Sp := fun vs H Q _ => ∃ (b pd : Addr) (s : Str) (pf : Str → List Str), vs = [.ref b, .str s, .ref pd] ∧ Gr b H H ∧ s ∈ SORTS ∧ Pools b H pd pf ∧
  ∀ (p : Addr) (ys : List Str) (H' : Hp), Gr b H H' → H p = none → At b H' p (.tup (.str s :: ys.map V.str)) → Paired fitW ys (wsOf s) → Q (.ref p) H'
theorem paired_get {α β : Type} {R : α → β → Prop} : ∀ {xs : List α} {ys : List β} {i : Nat} {x : α}, Paired R xs ys → xs[i]? = some x → ∃ y, ys[i]? = some y ∧ R x y
  | _, _, _, _, .nil, e => by simp at e
  | _, _, 0, _, .cons r _, e => by simp at e; subst e; exact ⟨_, rfl, r⟩
  | _, _, i + 1, x, .cons _ t, e => by
    obtain ⟨y, h1, h2⟩ := paired_get (i := i) (x := x) t (by simpa using e)
    exact ⟨y, by simpa using h1, h2⟩
theorem paired_snoc {α β : Type} {R : α → β → Prop} {x : α} {y : β} : ∀ {xs : List α} {ys : List β}, Paired R xs ys → R x y → Paired R (xs ++ [x]) (ys ++ [y])
  | _, _, .nil, h => .cons h .nil
  | _, _, .cons r t, h => .cons r (paired_snoc t h)
section
variable {P : Program} {w : World} {K : PySem.W.Frag} {mg : Str → Option Value} {base : Heap}
theorem ok_drawn (T : TxDrawn K mg) : FnOk P w K mg base CX0 3 T.f_drawn_row T.d_drawn_row P_drawn_row spDrawn := by
  have G_take : FnOk P w K mg base CX0 1 T.f_take T.d_take P_take spTakeG := ok_takeG T.toTxDraw
  have G_pick : FnOk P w K mg base CX0 2 T.f_pick T.d_pick P_pick (spPickG) := ok_pickG T.toTxDraw
  have G_words : FnOk P w K mg base CX0 1 T.f_words T.d_words P_words (spWords K) := ok_words T.toTxWords
  refine T.F_drawn_row.ok sc_drawn_row (fun vs H Q E h => ?_) (fun cdv A outer s H vs Q E hr h => ?_)
  · obtain ⟨b, pd, so, pf, rfl, _⟩ := h
    rfl
  obtain ⟨b, pd, so, pf, rfl, g0, hso, hP, q⟩ := h
  refine ⟨_, (pss_cons (ps_set (i := 3) sc_drawn_row.nd rfl (Or.inl rfl) (pe_lst (pa_cons (pv 1) pa_nil)))
      (pss_cons (ps_for PassesOwn.never rfl (pi_listK K (pe_call G_words (hr.mono (by decide)) (by rfl) T.m_words T.F_words.kp T.b_words .nil pass0 (pa_cons (pe_tup (pa_cons (pv 1) pa_nil)) pa_nil))) (pg_tup rfl (pgs_cons (pg_name (i := 4) sc_drawn_row.nd rfl (Or.inl rfl)) (pgs_cons (pg_name (i := 5) sc_drawn_row.nd rfl (Or.inl rfl)) pgs_nil))) (Evl.pss_cut (ps_set (i := 6) sc_drawn_row.nd rfl (Or.inl rfl) (pe_ifExp (pt_cmpR (op_notInK K) (pv 4) (pe_tup (pa_cons pe_str (pa_cons pe_str pa_nil))) (by rfl)) (pe_dget (hu_of hr) (pv 2) (pe_ifExp (pt_cmpR op_eq (pv 4) pe_str (nomark _)) pe_str (pv 4)) (fun _ _ => rfl)) (pe_lst pa_nil)))
      (Evl.pss_cut (ps_set (i := 7) sc_drawn_row.nd rfl (Or.inl rfl) (pe_ifExp (PW.pt (pw_or (pt_cmpR (op_eqEK K hr.units0) (pv 6) (pe_lst pa_nil) (nomark _)) (pw_or1 (PW.pt (pw_and (pt_cmpR (op_neEK K hr.units0) (pv 5) (pe_lst pa_nil) (nomark _)) (pw_and1 (pt_cmpR op_eq (pe_call G_take (hr.mono (by decide)) (by rfl) T.m_take T.F_take.kp T.b_take .nil pass0 (pa_cons (pv 0) (pa_cons pe_int pa_nil))) pe_int (nomark _)))))))) (pv 5) (pv 6)))
      (pss_one (ps_expr (pe_bm PySem.F.plainAttrs_list PySem.F.slot_list_append PySem.F.type_list_append mt_append (pv 3) (pa_cons (pe_call G_pick (hr.mono (by decide)) (by rfl) T.m_pick T.F_pick.kp T.b_pick .nil pass0 (pa_cons (pv 0) (pa_cons (pv 7) pa_nil))) pa_nil)))))))
      (pss_one (ps_ret (pe_callTy (call_tupleK K) (by rfl) T.z_tuple (by decide +kernel) (pa_cons (pv 3) pa_nil)))))), ?_⟩
  refine ⟨_, rfl, by show 1 ≤ sizeLine; decide, fun fo hfo => ?_⟩
  have g1 := g0.new hfo (.lst [.str so])
  have nfb := g0.ne_new hfo
  refine ⟨_, rfl, by show 1 ≤ sizeLine; decide, fun tu htu => ⟨tu, so, [], rfl, .inr (SqT.of upd_same), fun wl H2 s2 hwl hW => ?_⟩⟩
  have y1 := (same_upd htu (.tup [.str so])).trans s2
  obtain ⟨ws, hws, prs⟩ := hW
  have fo2 : H2 fo = some (.lst [.str so]) := y1 _ _ upd_same
  obtain ⟨bw, bs, bc, hb1⟩ := g1.box
  have g2 : Gr b H H2 := g1.trans (Same.gr y1 hb1)
  have good := wsOf_good so hso
  have ff : H fo = none := hfo
  have wfo : wl ≠ fo := fun z => by rw [z, upd_ne (fun z2 => by rw [← z2, upd_same] at htu; cases htu), upd_same] at hwl; cases hwl
  have wlb : wl ≠ b := fun z => by rw [z, upd_ne (fun z2 => by rw [← z2, hb1] at htu; cases htu), hb1] at hwl; cases hwl
  refine ⟨wl, rfl, ⟨_, SqL.of hws⟩, for_list (K := K) (a := wl) (xs := ws) (fun i σ H' => ∃ (ys : List Str) (v4 v5 v6 v7 : Option V), σ = [some (.ref b), some (.str so), some (.ref pd), some (.ref fo), v4, v5, v6, v7] ∧ Gr b H H' ∧
      (∀ a o, a ≠ b → a ≠ fo → H2 a = some o → H' a = some o) ∧ H' fo = some (.lst (.str so :: ys.map V.str)) ∧ Paired fitW ys ((wsOf so).take i) ∧ ys.length = i)
    ⟨[], none, none, none, none, rfl, g2, fun _ _ _ _ e => e, fo2, .nil, rfl⟩ (fun i σ H' _ ⟨_, _, _, _, _, _, _, k, _⟩ => SqL.of (k wl _ wlb wfo hws)) ?_ ?_⟩
  · rintro i x σ H3 hi ⟨ys, v4, v5, v6, v7, rfl, g3, k3, fo3, pr3, yl⟩
    obtain ⟨⟨wd, ls⟩, hw, a, l, rfl, ha, hl, oka, okl⟩ := paired_get prs hi
    have bo : upd (upd H fo (.lst [.str so])) tu (.tup [.str so]) b = some (bx bw bs bc) := by rw [upd_ne (fun z2 => by rw [← z2, hb1] at htu; cases htu)]; exact hb1
    have foo : upd (upd H fo (.lst [.str so])) tu (.tup [.str so]) fo = some (.lst [.str so]) := by rw [upd_ne (fun z2 => by rw [← z2, upd_same] at htu; cases htu)]; exact upd_same
    have nb : ∀ {c : Addr}, upd (upd H fo (.lst [.str so])) tu (.tup [.str so]) c = none → c ≠ b ∧ c ≠ fo := fun {c} e => ⟨(ne_of_none bo e).symm, (ne_of_none foo e).symm⟩
    have ha3 := k3 a _ (nb oka).1 (nb oka).2 ha
    have hl3 : At b H3 l (.lst (ls.map V.str)) := ⟨(nb okl).1, k3 l _ (nb okl).1 (nb okl).2 hl⟩
    have gw : decide (ls.length ≤ 3) = true ∧ (if wd = "outcome" ∨ wd = "part" then decide (ls ≠ []) else decide ((if wd = ("then" : Str) then ("mood" : Str) else wd) ∈ POOLW)) = true := by
      have h1 := List.all_eq_true.mp good.1 (wd, ls) (List.mem_of_getElem? hw)
      exact Bool.and_eq_true_iff.mp h1
    have ll : ls.length ≤ 3 := of_decide_eq_true gw.1
    have nla : l ≠ fo := (nb okl).2
    refine ⟨a, _, rfl, SqT.of ha3, rfl, _, _, rfl, _, _, rfl, rfl, ?_⟩
    refine ⟨fun σ H4 => ∃ (nl : Addr) (nms : List Str), σ = [some (.ref b), some (.str so), some (.ref pd), some (.ref fo), some (.str wd), some (.ref l), some (.ref nl), v7] ∧ Gr b H3 H4 ∧ At b H4 nl (.lst (nms.map V.str)) ∧ nl ≠ fo ∧
      nms.length ≤ 100 ∧ (nms = [] → ls ≠ []) ∧ (∀ y ∈ nms, fitW y (wd, ls)), ?_, ?_⟩
    · refine ⟨_, rfl, by show 2 ≤ sizeLine; decide, fun t4 ht4 => ⟨t4, _, rfl, .inr (SqT.of upd_same), rfl, by decide +kernel, _, rfl, ?_⟩⟩
      have r3 : Gr b H3 H3 := ⟨fun _ _ _ e => e, g3.box⟩
      have g4 := r3.new ht4 (.tup [.str "outcome", .str "part"])
      have t4o : t4 ≠ fo := fun z => by rw [z, fo3] at ht4; cases ht4
      have inw : inV (.str wd) [.str "outcome", .str "part"] = (["outcome", "part"] : List Str).contains wd := inV_strs wd ["outcome", "part"]
      refine ite2 (fun c => ?_) (fun c => ?_)
      · have nin : (["outcome", "part"] : List Str).contains wd = false := by
          have c' : (!inV (.str wd) [.str "outcome", .str "part"]) = true := c
          rw [inw] at c'
          simpa using c'
        have n1 : ¬ (wd = "outcome" ∨ wd = "part") := by
          intro z
          rcases z with z | z <;> subst z <;> revert nin <;> decide +kernel
        have gw2 : (if wd = ("then" : Str) then ("mood" : Str) else wd) ∈ POOLW := by
          have h := gw.2
          rw [if_neg n1] at h
          exact of_decide_eq_true h
        obtain ⟨kvs, hk0, hks⟩ := hP.at_
        have hk := (hk0.gr g3).gr g4
        have fin : ∀ x ∈ POOLW, ∃ l', DGet (upd H3 t4 (.tup [.str "outcome", .str "part"])) pd (kV (Sum.inr x)) (some (.ref l')) ∧
            ∃ (nl : Addr) (nms : List Str), (V.ref l') = .ref nl ∧ At b (upd H3 t4 (.tup [.str "outcome", .str "part"])) nl (.lst (nms.map V.str)) ∧ nl ≠ fo ∧ nms.length ≤ 100 ∧ (nms = [] → ls ≠ []) ∧ (∀ y ∈ nms, fitW y (wd, ls)) := by
          intro x hx
          obtain ⟨l', e, hl'⟩ := hks x hx
          obtain ⟨p1, p2, p3⟩ := hP.ne x hx
          refine ⟨l', ?_, l', pf x, rfl, (hl'.gr g3).gr g4, hl'.nep ff, p2, fun z => absurd z p1, fun y hy => .inr ⟨fun z => n1 (.inl z), fun z => n1 (.inr z), p3 y hy⟩⟩
          rw [← e]
          exact DGet.k hk.at_
        refine ⟨_, rfl, _, rfl, rfl, _, rfl, ?_⟩
        refine ite2 (fun c2 => ?_) (fun c2 => ?_)
        · have e2 := str_eq_of c2
          rw [if_pos e2] at gw2
          obtain ⟨l', hd, nl, nms, e, h1, h2, h3, h4, h5⟩ := fin _ gw2
          cases e
          exact ⟨pd, _, rfl, hd, l', nms, rfl, g4, h1, h2, h3, h4, h5⟩
        · have e2 := str_ne_of c2
          rw [if_neg e2] at gw2
          obtain ⟨l', hd, nl, nms, e, h1, h2, h3, h4, h5⟩ := fin _ gw2
          cases e
          exact ⟨_, rfl, pd, _, rfl, hd, l', nms, rfl, g4, h1, h2, h3, h4, h5⟩
      · have yin : (["outcome", "part"] : List Str).contains wd = true := by
          cases h : (["outcome", "part"] : List Str).contains wd with
          | true => rfl
          | false =>
            refine absurd ?_ c
            show (!inV (.str wd) [.str "outcome", .str "part"]) = true
            rw [inw, h]
            rfl
        have y1 : wd = "outcome" ∨ wd = "part" := by
          have h1 := List.contains_iff_mem.mp yin
          rcases List.mem_cons.mp h1 with h2 | h2
          · exact .inl h2
          · exact .inr (List.mem_singleton.mp h2)
        refine ⟨Nat.zero_le _, fun el hel => ⟨el, [], rfl, g4.new hel _, .mk_new g4 hel _, fun z => ?_, Nat.zero_le _, fun _ => ?_, fun _ h => nomatch h⟩⟩
        · rw [z, upd_ne t4o.symm, fo3] at hel
          cases hel
        · have h := gw.2
          rw [if_pos y1] at h
          exact of_decide_eq_true h
    · rintro σ H4 ⟨nl, nms, rfl, g4, hn4, nnf, nl100, nne, nfit⟩
      refine ⟨fun σ H5 => ∃ (el : Addr) (es : List Str), σ = [some (.ref b), some (.str so), some (.ref pd), some (.ref fo), some (.str wd), some (.ref l), some (.ref nl), some (.ref el)] ∧ Gr b H3 H5 ∧ At b H5 el (.lst (es.map V.str)) ∧ el ≠ fo ∧
        es ≠ [] ∧ es.length ≤ 100 ∧ (∀ y ∈ es, fitW y (wd, ls)), ?_, ?_⟩
      · have gl4 : At b H4 l (.lst (ls.map V.str)) := hl3.gr g4
        have r4 : Gr b H4 H4 := ⟨fun _ _ _ e => e, g4.box⟩
        have lfit : ∀ y ∈ ls, fitW y (wd, ls) := fun y hy => .inl hy
        refine ⟨_, rfl, Nat.zero_le _, fun e1 he1 => ⟨nl, e1, nms.map V.str, rfl, rfl, (hn4.new he1).l, SqL.of upd_same, _, rfl, ?_⟩⟩
        have g5 := r4.new he1 (.lst [])
        refine ite2 (fun c => ?_) (fun c => ?_)
        · have n0 : nms = [] := by
            have c' : (nms.map V.str).isEmpty = true := c
            simpa using c'
          exact ⟨_, rfl, l, ls, rfl, g4.trans g5, gl4.gr g5, nla, nne n0, by omega, lfit⟩
        · have n0 : nms ≠ [] := fun z => c (by rw [z]; rfl)
          refine ⟨_, rfl, Nat.zero_le _, fun e2 he2 => ⟨l, e2, ls.map V.str, rfl, rfl, ((gl4.gr g5).new he2).l, SqL.of upd_same, _, rfl, ?_⟩⟩
          have g6 := g5.new he2 (.lst [])
          refine ite2 (fun c2 => ?_) (fun c2 => ?_)
          · have l0 : ls ≠ [] := fun z => by
              have c' : (!(ls.map V.str).isEmpty) = true := c2
              rw [z] at c'
              cases c'
            refine ⟨_, rfl, b, _, rfl, ⟨fun _ _ _ e => e, g6.box⟩, by decide, by decide, fun d H7 d0 d1 g7 => ⟨rfl, _, rfl, ?_⟩⟩
            refine ite2 (fun c3 => ?_) (fun c3 => ?_)
            · exact ⟨_, rfl, l, ls, rfl, (g4.trans g6).trans g7, (gl4.gr g6).gr g7, nla, l0, by omega, lfit⟩
            · exact ⟨_, rfl, nl, nms, rfl, (g4.trans g6).trans g7, (hn4.gr g6).gr g7, nnf, n0, nl100, nfit⟩
          · exact ⟨_, rfl, nl, nms, rfl, g4.trans g6, hn4.gr g6, nnf, n0, nl100, nfit⟩
      · rintro σ H5 ⟨el, es, rfl, g5, he5, nef, ene, el100, efit⟩
        have fo5 : H5 fo = some (.lst (.str so :: ys.map V.str)) := g5.keep _ _ nfb fo3
        refine ⟨_, rfl, .inl ⟨rfl, _, SqL.of fo5⟩, _, rfl, _, rfl, b, el, _, rfl, ⟨fun _ _ _ e => e, g5.box⟩, he5, by simpa using ene, by rw [List.length_map]; omega, fun x H6 hx g6 => ?_⟩
        obtain ⟨y, hy, rfl⟩ := List.mem_map.mp hx
        have fo6 := g6.keep _ _ nfb fo5
        have pr4 : Paired fitW (ys ++ [y]) ((wsOf so).take (i + 1)) := by
          rw [List.take_add_one, hw]
          exact paired_snoc pr3 (efit y hy)
        have yl4 : (ys ++ [y]).length = i + 1 := by rw [List.length_append, yl]; rfl
        have i4 : i < 4 := by
          have h1 := (List.getElem?_eq_some_iff.mp hw).1
          have h2 := good.2
          omega
        refine ⟨fo, _, _, rfl, rfl, fo6, small1000 (by simp; omega), ?_⟩
        refine ⟨ys ++ [y], _, _, _, _, rfl, (g3.trans (g5.trans g6)).mut ff nfb _, fun c o nb nf e => ?_, ?_, pr4, yl4⟩
        · rw [upd_ne nf]
          exact g6.keep c o nb (g5.keep c o nb (k3 c o nb nf e))
        · rw [upd_same, List.map_append]
          rfl
  · rintro σ H3 ⟨ys, v4, v5, v6, v7, rfl, g3, k3, fo3, pr3, yl⟩
    refine ⟨_, rfl, fo, _, rfl, .inl ⟨SqL.of fo3, fun p hp => ?_⟩⟩
    rw [show ws.length = (wsOf so).length from prs.length, List.take_length] at pr3
    exact q p ys _ (g3.new hp _) (g3.free hp) (.mk_new g3 hp _) pr3
end
end My

/-! ## The law makes a row of its words -/
namespace My
open PySem L2
abbrev s_row : Stmt := top 21
abbrev N_row : List Str := ["_law_row_here"]
abbrev P_row : List Str := ["_law_row_here"]
theorem sc_row : FnScope N_row P_row (defScope s_row) := ⟨rfl, rfl, rfl, by decide +kernel, rfl, by decide +kernel, by decide +kernel⟩
structure TxLawRow (K : PySem.W.Frag) (mg : Str → Option Value) extends TxRows K mg where
  f_row : Addr
  d_row : FuncData
  F_row : Fun K "_law_row" "_law_row" s_row f_row d_row
  m_row : mg "_law_row" = some (.ref f_row)
  b_row : Binds K d_row P_row []
/-- a sort's class, names of its fields, the word of the first wrong argument -/
def clsOf {K : PySem.W.Frag} {mg : Str → Option Value} (T : TxRows K mg) (s : Str) : Addr := if s = "begin" then T.C_Begin else if s = "send" then T.C_Send else if s = "back" then T.C_Back else T.C_End
def fnOf (s : Str) : List Str := if s = "begin" then ["mark", "kind", "mood"] else if s = "send" then ["mood", "service", "mark"] else if s = "back" then ["mood", "service", "sign", "then"] else ["mood", "outcome", "sign", "part"]
def wrOf (s : Str) : List PyData → Option Str := if s = "begin" then wBegin else if s = "send" then wSend else if s = "back" then wBack else wEnd
def spLawRow {K : PySem.W.Frag} {mg : Str → Option Value} (T : TxRows K mg) : Sp := fun vs H Q E => ∃ (a : Addr) (s : Str) (as : List V) (ds : List PyData), vs = [.ref a] ∧ (SqL K H a (.str s :: as) ∨ SqT K H a (.str s :: as)) ∧ as.length = (fnOf s).length ∧ Paired (Dv K H) as ds ∧
  (∀ p dx H', wrOf s ds = none → Same H H' → H p = none → H' p = some (.ins (clsOf T s) dx ((fnOf s).zip as)) → Q (.ref p) H') ∧
  (∀ wd d H', wrOf s ds = some wd → Same H H' → H d = none → H' d = some (.xd [("word", .str wd)]) → E (.ref T.C_InvalidRow) (some d) H')
theorem rIx_at {K : PySem.W.Frag} {H : Hp} {a : Addr} {xs : List V} {j : Nat} {v : V} {Q : VK} (h : SqL K H a xs ∨ SqT K H a xs) (e : xs[j]? = some v) (q : Q v H) : rIx K (.ref a) (.int (j : Int)) H Q := by
  rcases h with h | h
  · exact .inl ⟨a, _, _, _, rfl, rfl, h, atI_nat e, q⟩
  · exact .inr (.inl ⟨a, _, _, _, rfl, rfl, h, atI_nat e, q⟩)
theorem paired_dv {K : PySem.W.Frag} {H H' : Hp} (e : Same H H') : ∀ {as : List V} {ds : List PyData}, Paired (Dv K H) as ds → Paired (Dv K H') as ds
  | _, _, .nil => .nil
  | _, _, .cons h t => .cons (h.same e) (paired_dv e t)
section
variable {P : Program} {w : World} {K : PySem.W.Frag} {mg : Str → Option Value} {base : Heap}
/-- what C(..) asks where C's __init__ is a row's -/
theorem row_made {C CX : Addr} {names : List Str} {wr : List PyData → Option Str} {H : Hp} {as : List V} {ds : List PyData} {Q : VK} {E : XK} (hl : as.length = names.length) (hd : Paired (Dv K H) as ds)
    (q : ∀ p dx H', wr ds = none → Same H H' → H p = none → H' p = some (.ins C dx (names.zip as)) → Q (.ref p) H') (qe : ∀ wd d H', wr ds = some wd → Same H H' → H d = none → H' d = some (.xd [("word", .str wd)]) → E (.ref CX) (some d) H') :
    ∀ x dx, H x = none → H dx = none → dx ≠ x → spRow K C CX names wr (.ref x :: as) (upd (upd H dx (.own x)) x (.ins C dx [])) (fun v H2 => v = .non ∧ Q (.ref x) H2) E := by
  intro x dx nx nd ne
  have s0 : Same H (upd (upd H dx (.own x)) x (.ins C dx [])) := fun b o e => by rw [upd_ne (ne_of_none e nx), upd_ne (ne_of_none e nd)]; exact e
  refine ⟨x, dx, as, ds, rfl, hl, paired_dv s0 hd, upd_same, fun H' e1 e2 k => ⟨rfl, q x dx H' e1 (Same.made nx nd k) nx e2⟩, fun wd d H' e1 s1 n1 e2 => qe wd d H' e1 (s0.trans s1) (s0.free n1) e2⟩
theorem ok_row (T : TxLawRow K mg) : FnOk P w K mg base (L2.CX P w) 5 T.f_row T.d_row P_row (spLawRow T.toTxRows) := by
  have G_Begin_init := ok_Begin_init (P := P) (w := w) (base := base) T.toTxRows
  have G_Send_init := ok_Send_init (P := P) (w := w) (base := base) T.toTxRows
  have G_Back_init := ok_Back_init (P := P) (w := w) (base := base) T.toTxRows
  have G_End_init := ok_End_init (P := P) (w := w) (base := base) T.toTxRows
  refine T.F_row.okX sc_row (fun vs H Q E h => ?_) (fun cdv A outer s H vs Q E hr h => ?_)
  · obtain ⟨a, so, as, ds, rfl, _⟩ := h
    rfl
  obtain ⟨a, so, as, ds, rfl, hS, hl, hd, q, qe⟩ := h
  refine ⟨_, (pss_cons (ps_if (pt_cmpR op_eq (pe_ix ix_seq (pv 0) pe_int (fun _ _ => rfl)) pe_str (nomark _)) (pss_one (ps_ret (pe_make T.mk_Begin G_Begin_init (hr.mono (by decide)) (by rfl) T.m_Begin T.b_Begin_init .nil (passes_call (W := fun cls d _ H => E cls d H) (takes_of rfl rfl rfl rfl) (fun _ _ _ _ h => h)) (pa_cons (pe_ix ix_seq (pv 0) pe_int (fun _ _ => rfl)) (pa_cons (pe_ix ix_seq (pv 0) pe_int (fun _ _ => rfl)) (pa_cons (pe_ix ix_seq (pv 0) pe_int (fun _ _ => rfl)) pa_nil)))))) pss_nil)
      (pss_cons (ps_if (pt_cmpR op_eq (pe_ix ix_seq (pv 0) pe_int (fun _ _ => rfl)) pe_str (nomark _)) (pss_one (ps_ret (pe_make T.mk_Send G_Send_init (hr.mono (by decide)) (by rfl) T.m_Send T.b_Send_init .nil (passes_call (W := fun cls d _ H => E cls d H) (takes_of rfl rfl rfl rfl) (fun _ _ _ _ h => h)) (pa_cons (pe_ix ix_seq (pv 0) pe_int (fun _ _ => rfl)) (pa_cons (pe_ix ix_seq (pv 0) pe_int (fun _ _ => rfl)) (pa_cons (pe_ix ix_seq (pv 0) pe_int (fun _ _ => rfl)) pa_nil)))))) pss_nil)
      (pss_cons (ps_if (pt_cmpR op_eq (pe_ix ix_seq (pv 0) pe_int (fun _ _ => rfl)) pe_str (nomark _)) (pss_one (ps_ret (pe_make T.mk_Back G_Back_init (hr.mono (by decide)) (by rfl) T.m_Back T.b_Back_init .nil (passes_call (W := fun cls d _ H => E cls d H) (takes_of rfl rfl rfl rfl) (fun _ _ _ _ h => h)) (pa_cons (pe_ix ix_seq (pv 0) pe_int (fun _ _ => rfl)) (pa_cons (pe_ix ix_seq (pv 0) pe_int (fun _ _ => rfl)) (pa_cons (pe_ix ix_seq (pv 0) pe_int (fun _ _ => rfl)) (pa_cons (pe_ix ix_seq (pv 0) pe_int (fun _ _ => rfl)) pa_nil))))))) pss_nil)
      (pss_one (ps_ret (pe_make T.mk_End G_End_init (hr.mono (by decide)) (by rfl) T.m_End T.b_End_init .nil (passes_call (W := fun cls d _ H => E cls d H) (takes_of rfl rfl rfl rfl) (fun _ _ _ _ h => h)) (pa_cons (pe_ix ix_seq (pv 0) pe_int (fun _ _ => rfl)) (pa_cons (pe_ix ix_seq (pv 0) pe_int (fun _ _ => rfl)) (pa_cons (pe_ix ix_seq (pv 0) pe_int (fun _ _ => rfl)) (pa_cons (pe_ix ix_seq (pv 0) pe_int (fun _ _ => rfl)) pa_nil)))))))))), ?_⟩
  refine ⟨_, rfl, rIx_at (j := 0) hS rfl ⟨rfl, _, rfl, ?_⟩⟩
  refine ite2 (fun c => ?_) (fun c => ?_)
  · have e := str_eq_of c
    subst e
    obtain ⟨x0, x1, x2, rfl⟩ : ∃ x0 x1 x2, as = [x0, x1, x2] := by
      match as, hl with
      | [x0, x1, x2], _ => exact ⟨x0, x1, x2, rfl⟩
    exact ⟨_, rfl, rIx_at (j := 1) hS rfl ⟨_, rfl, rIx_at (j := 2) hS rfl ⟨_, rfl, rIx_at (j := 3) hS rfl (row_made rfl hd q qe)⟩⟩⟩
  refine ⟨_, rfl, rIx_at (j := 0) hS rfl ⟨rfl, _, rfl, ?_⟩⟩
  refine ite2 (fun c2 => ?_) (fun c2 => ?_)
  · have e := str_eq_of c2
    subst e
    obtain ⟨x0, x1, x2, rfl⟩ : ∃ x0 x1 x2, as = [x0, x1, x2] := by
      match as, hl with
      | [x0, x1, x2], _ => exact ⟨x0, x1, x2, rfl⟩
    exact ⟨_, rfl, rIx_at (j := 1) hS rfl ⟨_, rfl, rIx_at (j := 2) hS rfl ⟨_, rfl, rIx_at (j := 3) hS rfl (row_made rfl hd q qe)⟩⟩⟩
  refine ⟨_, rfl, rIx_at (j := 0) hS rfl ⟨rfl, _, rfl, ?_⟩⟩
  refine ite2 (fun c3 => ?_) (fun c3 => ?_)
  · have e := str_eq_of c3
    subst e
    obtain ⟨x0, x1, x2, x3, rfl⟩ : ∃ x0 x1 x2 x3, as = [x0, x1, x2, x3] := by
      match as, hl with
      | [x0, x1, x2, x3], _ => exact ⟨x0, x1, x2, x3, rfl⟩
    exact ⟨_, rfl, rIx_at (j := 1) hS rfl ⟨_, rfl, rIx_at (j := 2) hS rfl ⟨_, rfl, rIx_at (j := 3) hS rfl ⟨_, rfl, rIx_at (j := 4) hS rfl (row_made rfl hd q qe)⟩⟩⟩⟩
  have e1 : fnOf so = (["mood", "outcome", "sign", "part"] : List Str) := by unfold fnOf; rw [if_neg (str_ne_of c), if_neg (str_ne_of c2), if_neg (str_ne_of c3)]
  have e2 : wrOf so = wEnd := by unfold wrOf; rw [if_neg (str_ne_of c), if_neg (str_ne_of c2), if_neg (str_ne_of c3)]
  have e3 : clsOf T.toTxRows so = T.C_End := by unfold clsOf; rw [if_neg (str_ne_of c), if_neg (str_ne_of c2), if_neg (str_ne_of c3)]
  rw [e1] at hl
  rw [e1, e2, e3] at q
  rw [e2] at qe
  obtain ⟨x0, x1, x2, x3, rfl⟩ : ∃ x0 x1 x2 x3, as = [x0, x1, x2, x3] := by
    match as, hl with
    | [x0, x1, x2, x3], _ => exact ⟨x0, x1, x2, x3, rfl⟩
  exact ⟨_, rfl, rIx_at (j := 1) hS rfl ⟨_, rfl, rIx_at (j := 2) hS rfl ⟨_, rfl, rIx_at (j := 3) hS rfl ⟨_, rfl, rIx_at (j := 4) hS rfl (row_made rfl hd q qe)⟩⟩⟩⟩
end
end My

/-! ## Rows: their texts, == -/
namespace My
open PySem L2
abbrev s_Begin_str : Stmt := inClass (top 10) 2
abbrev N_Begin_str : List Str := ["self"]
abbrev P_Begin_str : List Str := ["self"]
theorem sc_Begin_str : FnScope N_Begin_str P_Begin_str (defScope s_Begin_str) := ⟨rfl, rfl, rfl, by decide +kernel, rfl, by decide +kernel, by decide +kernel⟩
abbrev s_Send_str : Stmt := inClass (top 11) 2
abbrev N_Send_str : List Str := ["self"]
abbrev P_Send_str : List Str := ["self"]
theorem sc_Send_str : FnScope N_Send_str P_Send_str (defScope s_Send_str) := ⟨rfl, rfl, rfl, by decide +kernel, rfl, by decide +kernel, by decide +kernel⟩
abbrev s_Back_str : Stmt := inClass (top 12) 2
abbrev N_Back_str : List Str := ["self"]
abbrev P_Back_str : List Str := ["self"]
theorem sc_Back_str : FnScope N_Back_str P_Back_str (defScope s_Back_str) := ⟨rfl, rfl, rfl, by decide +kernel, rfl, by decide +kernel, by decide +kernel⟩
abbrev s_End_str : Stmt := inClass (top 13) 2
abbrev N_End_str : List Str := ["self"]
abbrev P_End_str : List Str := ["self"]
theorem sc_End_str : FnScope N_End_str P_End_str (defScope s_End_str) := ⟨rfl, rfl, rfl, by decide +kernel, rfl, by decide +kernel, by decide +kernel⟩
abbrev s_Begin_eq : Stmt := inClass (top 10) 1
abbrev N_Begin_eq : List Str := ["self", "other"]
abbrev P_Begin_eq : List Str := ["self", "other"]
theorem sc_Begin_eq : FnScope N_Begin_eq P_Begin_eq (defScope s_Begin_eq) := ⟨rfl, rfl, rfl, by decide +kernel, rfl, by decide +kernel, by decide +kernel⟩
abbrev s_Send_eq : Stmt := inClass (top 11) 1
abbrev N_Send_eq : List Str := ["self", "other"]
abbrev P_Send_eq : List Str := ["self", "other"]
theorem sc_Send_eq : FnScope N_Send_eq P_Send_eq (defScope s_Send_eq) := ⟨rfl, rfl, rfl, by decide +kernel, rfl, by decide +kernel, by decide +kernel⟩
abbrev s_Back_eq : Stmt := inClass (top 12) 1
abbrev N_Back_eq : List Str := ["self", "other"]
abbrev P_Back_eq : List Str := ["self", "other"]
theorem sc_Back_eq : FnScope N_Back_eq P_Back_eq (defScope s_Back_eq) := ⟨rfl, rfl, rfl, by decide +kernel, rfl, by decide +kernel, by decide +kernel⟩
abbrev s_End_eq : Stmt := inClass (top 13) 1
abbrev N_End_eq : List Str := ["self", "other"]
abbrev P_End_eq : List Str := ["self", "other"]
theorem sc_End_eq : FnScope N_End_eq P_End_eq (defScope s_End_eq) := ⟨rfl, rfl, rfl, by decide +kernel, rfl, by decide +kernel, by decide +kernel⟩
/-- the text of a row of a sort -/
def rowTxt (s : Str) (ws : List Str) : Str := Txt.join " " (s :: ws)
theorem txt3 (s a b c : Str) : rowTxt s [a, b, c] = s ++ " " ++ (a ++ " " ++ (b ++ " " ++ c)) := StrLaws.glued_cons " " [a, b, c] s
theorem txt4 (s a b c d : Str) : rowTxt s [a, b, c, d] = s ++ " " ++ (a ++ " " ++ (b ++ " " ++ (c ++ " " ++ d))) := StrLaws.glued_cons " " [a, b, c, d] s
/-- a row of a sort with words ws stands at a -/
structure RowAt {K : PySem.W.Frag} {mg : Str → Option Value} (T : TxRows K mg) (H : Hp) (a : Addr) (s : Str) (ws : List Str) : Prop where
  at_ : ∃ dx, H a = some (.ins (clsOf T s) dx ((fnOf s).zip (ws.map V.str)))
  len : ws.length = (fnOf s).length
  sh : ∀ y ∈ ws, y.length ≤ 10
  so : s ∈ SORTS
theorem RowAt.same {K : PySem.W.Frag} {mg : Str → Option Value} {T : TxRows K mg} {H H' : Hp} {a : Addr} {s : Str} {ws : List Str} (h : RowAt T H a s ws) (e : Same H H') : RowAt T H' a s ws := by
  obtain ⟨⟨dx, ha⟩, h1, h2, h3⟩ := h
  exact ⟨⟨dx, e _ _ ha⟩, h1, h2, h3⟩
structure TxStr (K : PySem.W.Frag) (mg : Str → Option Value) extends TxLawRow K mg where
  f_Begin_str : Addr
  d_Begin_str : FuncData
  F_Begin_str : Fun K "__str__" "Begin.__str__" s_Begin_str f_Begin_str d_Begin_str
  b_Begin_str : Binds K d_Begin_str P_Begin_str []
  si_Begin : PySem.W.findIn K (.ref C_Begin) "__str__" = some (some (.ref f_Begin_str))
  sf_Begin : PySem.W.isFn K (.ref f_Begin_str) = true
  f_Begin_eq : Addr
  d_Begin_eq : FuncData
  F_Begin_eq : Fun K "__eq__" "Begin.__eq__" s_Begin_eq f_Begin_eq d_Begin_eq
  b_Begin_eq : Binds K d_Begin_eq P_Begin_eq []
  ei_Begin : PySem.W.findIn K (.ref C_Begin) "__eq__" = some (some (.ref f_Begin_eq))
  ef_Begin : PySem.W.isFn K (.ref f_Begin_eq) = true
  en_Begin : PySem.W.findIn K (.ref C_Begin) "__ne__" = some (some (.builtin "object.__ne__"))
  eo_Begin : PySem.W.subIn K (.ref C_Begin) (.type "object") = some true
  ty_Begin : ∀ (H : Hp) (a dx : Addr) (fs : List (Str × V)), H a = some (.ins C_Begin dx fs) → TyX K H (.ref a) (.ref C_Begin)
  ks_Begin : PySem.W.kitOne K (.type "str") (.ref C_Begin) = some false
  kt_Begin : PySem.W.kitOne K (.type "tuple") (.ref C_Begin) = some false
  ns_Begin : PySem.W.notFirst K C_Begin (.type "str") = true
  nt_Begin : PySem.W.notFirst K C_Begin (.type "tuple") = true
  f_Send_str : Addr
  d_Send_str : FuncData
  F_Send_str : Fun K "__str__" "Send.__str__" s_Send_str f_Send_str d_Send_str
  b_Send_str : Binds K d_Send_str P_Send_str []
  si_Send : PySem.W.findIn K (.ref C_Send) "__str__" = some (some (.ref f_Send_str))
  sf_Send : PySem.W.isFn K (.ref f_Send_str) = true
  f_Send_eq : Addr
  d_Send_eq : FuncData
  F_Send_eq : Fun K "__eq__" "Send.__eq__" s_Send_eq f_Send_eq d_Send_eq
  b_Send_eq : Binds K d_Send_eq P_Send_eq []
  ei_Send : PySem.W.findIn K (.ref C_Send) "__eq__" = some (some (.ref f_Send_eq))
  ef_Send : PySem.W.isFn K (.ref f_Send_eq) = true
  en_Send : PySem.W.findIn K (.ref C_Send) "__ne__" = some (some (.builtin "object.__ne__"))
  eo_Send : PySem.W.subIn K (.ref C_Send) (.type "object") = some true
  ty_Send : ∀ (H : Hp) (a dx : Addr) (fs : List (Str × V)), H a = some (.ins C_Send dx fs) → TyX K H (.ref a) (.ref C_Send)
  ks_Send : PySem.W.kitOne K (.type "str") (.ref C_Send) = some false
  kt_Send : PySem.W.kitOne K (.type "tuple") (.ref C_Send) = some false
  ns_Send : PySem.W.notFirst K C_Send (.type "str") = true
  nt_Send : PySem.W.notFirst K C_Send (.type "tuple") = true
  f_Back_str : Addr
  d_Back_str : FuncData
  F_Back_str : Fun K "__str__" "Back.__str__" s_Back_str f_Back_str d_Back_str
  b_Back_str : Binds K d_Back_str P_Back_str []
  si_Back : PySem.W.findIn K (.ref C_Back) "__str__" = some (some (.ref f_Back_str))
  sf_Back : PySem.W.isFn K (.ref f_Back_str) = true
  f_Back_eq : Addr
  d_Back_eq : FuncData
  F_Back_eq : Fun K "__eq__" "Back.__eq__" s_Back_eq f_Back_eq d_Back_eq
  b_Back_eq : Binds K d_Back_eq P_Back_eq []
  ei_Back : PySem.W.findIn K (.ref C_Back) "__eq__" = some (some (.ref f_Back_eq))
  ef_Back : PySem.W.isFn K (.ref f_Back_eq) = true
  en_Back : PySem.W.findIn K (.ref C_Back) "__ne__" = some (some (.builtin "object.__ne__"))
  eo_Back : PySem.W.subIn K (.ref C_Back) (.type "object") = some true
  ty_Back : ∀ (H : Hp) (a dx : Addr) (fs : List (Str × V)), H a = some (.ins C_Back dx fs) → TyX K H (.ref a) (.ref C_Back)
  ks_Back : PySem.W.kitOne K (.type "str") (.ref C_Back) = some false
  kt_Back : PySem.W.kitOne K (.type "tuple") (.ref C_Back) = some false
  ns_Back : PySem.W.notFirst K C_Back (.type "str") = true
  nt_Back : PySem.W.notFirst K C_Back (.type "tuple") = true
  f_End_str : Addr
  d_End_str : FuncData
  F_End_str : Fun K "__str__" "End.__str__" s_End_str f_End_str d_End_str
  b_End_str : Binds K d_End_str P_End_str []
  si_End : PySem.W.findIn K (.ref C_End) "__str__" = some (some (.ref f_End_str))
  sf_End : PySem.W.isFn K (.ref f_End_str) = true
  f_End_eq : Addr
  d_End_eq : FuncData
  F_End_eq : Fun K "__eq__" "End.__eq__" s_End_eq f_End_eq d_End_eq
  b_End_eq : Binds K d_End_eq P_End_eq []
  ei_End : PySem.W.findIn K (.ref C_End) "__eq__" = some (some (.ref f_End_eq))
  ef_End : PySem.W.isFn K (.ref f_End_eq) = true
  en_End : PySem.W.findIn K (.ref C_End) "__ne__" = some (some (.builtin "object.__ne__"))
  eo_End : PySem.W.subIn K (.ref C_End) (.type "object") = some true
  ty_End : ∀ (H : Hp) (a dx : Addr) (fs : List (Str × V)), H a = some (.ins C_End dx fs) → TyX K H (.ref a) (.ref C_End)
  ks_End : PySem.W.kitOne K (.type "str") (.ref C_End) = some false
  kt_End : PySem.W.kitOne K (.type "tuple") (.ref C_End) = some false
  ns_End : PySem.W.notFirst K C_End (.type "str") = true
  nt_End : PySem.W.notFirst K C_End (.type "tuple") = true
  kk_Begin_Begin : PySem.W.kitOne K (.ref C_Begin) (.ref C_Begin) = some true
  nf_Begin_Begin : PySem.W.notFirst K C_Begin (.ref C_Begin) = true
  kk_Begin_Send : PySem.W.kitOne K (.ref C_Begin) (.ref C_Send) = some false
  nf_Begin_Send : PySem.W.notFirst K C_Begin (.ref C_Send) = true
  kk_Begin_Back : PySem.W.kitOne K (.ref C_Begin) (.ref C_Back) = some false
  nf_Begin_Back : PySem.W.notFirst K C_Begin (.ref C_Back) = true
  kk_Begin_End : PySem.W.kitOne K (.ref C_Begin) (.ref C_End) = some false
  nf_Begin_End : PySem.W.notFirst K C_Begin (.ref C_End) = true
  kk_Send_Begin : PySem.W.kitOne K (.ref C_Send) (.ref C_Begin) = some false
  nf_Send_Begin : PySem.W.notFirst K C_Send (.ref C_Begin) = true
  kk_Send_Send : PySem.W.kitOne K (.ref C_Send) (.ref C_Send) = some true
  nf_Send_Send : PySem.W.notFirst K C_Send (.ref C_Send) = true
  kk_Send_Back : PySem.W.kitOne K (.ref C_Send) (.ref C_Back) = some false
  nf_Send_Back : PySem.W.notFirst K C_Send (.ref C_Back) = true
  kk_Send_End : PySem.W.kitOne K (.ref C_Send) (.ref C_End) = some false
  nf_Send_End : PySem.W.notFirst K C_Send (.ref C_End) = true
  kk_Back_Begin : PySem.W.kitOne K (.ref C_Back) (.ref C_Begin) = some false
  nf_Back_Begin : PySem.W.notFirst K C_Back (.ref C_Begin) = true
  kk_Back_Send : PySem.W.kitOne K (.ref C_Back) (.ref C_Send) = some false
  nf_Back_Send : PySem.W.notFirst K C_Back (.ref C_Send) = true
  kk_Back_Back : PySem.W.kitOne K (.ref C_Back) (.ref C_Back) = some true
  nf_Back_Back : PySem.W.notFirst K C_Back (.ref C_Back) = true
  kk_Back_End : PySem.W.kitOne K (.ref C_Back) (.ref C_End) = some false
  nf_Back_End : PySem.W.notFirst K C_Back (.ref C_End) = true
  kk_End_Begin : PySem.W.kitOne K (.ref C_End) (.ref C_Begin) = some false
  nf_End_Begin : PySem.W.notFirst K C_End (.ref C_Begin) = true
  kk_End_Send : PySem.W.kitOne K (.ref C_End) (.ref C_Send) = some false
  nf_End_Send : PySem.W.notFirst K C_End (.ref C_Send) = true
  kk_End_Back : PySem.W.kitOne K (.ref C_End) (.ref C_Back) = some false
  nf_End_Back : PySem.W.notFirst K C_End (.ref C_Back) = true
  kk_End_End : PySem.W.kitOne K (.ref C_End) (.ref C_End) = some true
  nf_End_End : PySem.W.notFirst K C_End (.ref C_End) = true
def spStr {K : PySem.W.Frag} {mg : Str → Option Value} (T : TxRows K mg) (s : Str) : Sp := fun vs H Q _ => ∃ (a : Addr) (ws : List Str), vs = [.ref a] ∧ RowAt T H a s ws ∧ Q (.str (rowTxt s ws)) H
def spEq {K : PySem.W.Frag} {mg : Str → Option Value} (T : TxRows K mg) (s : Str) : Sp := fun vs H Q _ => ∃ (a : Addr) (ws : List Str) (y : V), vs = [.ref a, y] ∧ RowAt T H a s ws ∧
  ((∃ (b : Addr) (s2 : Str) (ws2 : List Str), y = .ref b ∧ RowAt T H b s2 ws2 ∧ Q (.bl (decide (s = s2) && decide (rowTxt s ws = rowTxt s2 ws2))) H) ∨
   ∃ t, TyX K H y t ∧ PySem.W.kitOne K t (.ref (clsOf T s)) = some false ∧ Q (.bl false) H)
section
variable {P : Program} {w : World} {K : PySem.W.Frag} {mg : Str → Option Value} {base : Heap}
theorem ok_Begin_str (T : TxStr K mg) : FnOk P w K mg base CX0 1 T.f_Begin_str T.d_Begin_str P_Begin_str (spStr T.toTxRows "begin") := by
  refine T.F_Begin_str.ok sc_Begin_str (fun vs H Q E h => ?_) (fun cdv A outer s H vs Q E hr h => ?_)
  · obtain ⟨a, ws, rfl, _⟩ := h
    rfl
  obtain ⟨a, ws, rfl, R, q⟩ := h
  obtain ⟨⟨dx, ha⟩, hl, hsh, _⟩ := R
  obtain ⟨y0, y1, y2, rfl⟩ : ∃ y0 y1 y2, ws = [y0, y1, y2] := by
    match ws, hl with
    | [y0, y1, y2], _ => exact ⟨y0, y1, y2, rfl⟩
  have l0 : y0.length ≤ 10 := hsh y0 (by simp)
  have l1 : y1.length ≤ 10 := hsh y1 (by simp)
  have l2 : y2.length ≤ 10 := hsh y2 (by simp)
  have z0 : (Str.empty : Str).length = 0 := rfl
  have z1 : (Str.ofString "begin ").length = 6 := by decide +kernel
  have z2 : (Str.ofString " ").length = 1 := by decide +kernel
  refine ⟨_, (pss_one (ps_ret (pe_joined (.cons pe_str (.cons (pe_fmt (pe_fldK K (pv 0))) (.cons pe_str (.cons (pe_fmt (pe_fldK K (pv 0))) (.cons pe_str (.cons (pe_fmt (pe_fldK K (pv 0))) .nil))))))))), ?_⟩
  refine ⟨_, rfl, (by rw [sizeLine_eq]; (try simp only [Str.length_append]); omega), _, rfl, a, T.C_Begin, dx, _, _, rfl, ha, T.c_Begin, T.n_Begin_mark, rfl, .inl ⟨_, rfl, (by rw [sizeLine_eq]; (try simp only [Str.length_append]); omega), _, rfl, (by rw [sizeLine_eq]; (try simp only [Str.length_append]); omega), _, rfl, (by rw [sizeLine_eq]; (try simp only [Str.length_append]); omega), _, rfl, a, T.C_Begin, dx, _, _, rfl, ha, T.c_Begin, T.n_Begin_kind, rfl, .inl ⟨_, rfl, (by rw [sizeLine_eq]; (try simp only [Str.length_append]); omega), _, rfl, (by rw [sizeLine_eq]; (try simp only [Str.length_append]); omega), _, rfl, (by rw [sizeLine_eq]; (try simp only [Str.length_append]); omega), _, rfl, a, T.C_Begin, dx, _, _, rfl, ha, T.c_Begin, T.n_Begin_mood, rfl, .inl ⟨_, rfl, (by rw [sizeLine_eq]; (try simp only [Str.length_append]); omega), _, rfl, (by rw [sizeLine_eq]; (try simp only [Str.length_append]); omega), ?_⟩⟩⟩⟩
  have e : rowTxt "begin" [y0, y1, y2] = _ := txt3 "begin" y0 y1 y2
  rw [e] at q
  have e2 : (Str.ofString "begin ") = "begin" ++ " " := by decide +kernel
  rw [e2]
  simp only [Str.empty_append, Str.append_assoc] at q ⊢
  exact q
theorem ok_Send_str (T : TxStr K mg) : FnOk P w K mg base CX0 1 T.f_Send_str T.d_Send_str P_Send_str (spStr T.toTxRows "send") := by
  refine T.F_Send_str.ok sc_Send_str (fun vs H Q E h => ?_) (fun cdv A outer s H vs Q E hr h => ?_)
  · obtain ⟨a, ws, rfl, _⟩ := h
    rfl
  obtain ⟨a, ws, rfl, R, q⟩ := h
  obtain ⟨⟨dx, ha⟩, hl, hsh, _⟩ := R
  obtain ⟨y0, y1, y2, rfl⟩ : ∃ y0 y1 y2, ws = [y0, y1, y2] := by
    match ws, hl with
    | [y0, y1, y2], _ => exact ⟨y0, y1, y2, rfl⟩
  have l0 : y0.length ≤ 10 := hsh y0 (by simp)
  have l1 : y1.length ≤ 10 := hsh y1 (by simp)
  have l2 : y2.length ≤ 10 := hsh y2 (by simp)
  have z0 : (Str.empty : Str).length = 0 := rfl
  have z1 : (Str.ofString "send ").length = 5 := by decide +kernel
  have z2 : (Str.ofString " ").length = 1 := by decide +kernel
  refine ⟨_, (pss_one (ps_ret (pe_joined (.cons pe_str (.cons (pe_fmt (pe_fldK K (pv 0))) (.cons pe_str (.cons (pe_fmt (pe_fldK K (pv 0))) (.cons pe_str (.cons (pe_fmt (pe_fldK K (pv 0))) .nil))))))))), ?_⟩
  refine ⟨_, rfl, (by rw [sizeLine_eq]; (try simp only [Str.length_append]); omega), _, rfl, a, T.C_Send, dx, _, _, rfl, ha, T.c_Send, T.n_Send_mood, rfl, .inl ⟨_, rfl, (by rw [sizeLine_eq]; (try simp only [Str.length_append]); omega), _, rfl, (by rw [sizeLine_eq]; (try simp only [Str.length_append]); omega), _, rfl, (by rw [sizeLine_eq]; (try simp only [Str.length_append]); omega), _, rfl, a, T.C_Send, dx, _, _, rfl, ha, T.c_Send, T.n_Send_service, rfl, .inl ⟨_, rfl, (by rw [sizeLine_eq]; (try simp only [Str.length_append]); omega), _, rfl, (by rw [sizeLine_eq]; (try simp only [Str.length_append]); omega), _, rfl, (by rw [sizeLine_eq]; (try simp only [Str.length_append]); omega), _, rfl, a, T.C_Send, dx, _, _, rfl, ha, T.c_Send, T.n_Send_mark, rfl, .inl ⟨_, rfl, (by rw [sizeLine_eq]; (try simp only [Str.length_append]); omega), _, rfl, (by rw [sizeLine_eq]; (try simp only [Str.length_append]); omega), ?_⟩⟩⟩⟩
  have e : rowTxt "send" [y0, y1, y2] = _ := txt3 "send" y0 y1 y2
  rw [e] at q
  have e2 : (Str.ofString "send ") = "send" ++ " " := by decide +kernel
  rw [e2]
  simp only [Str.empty_append, Str.append_assoc] at q ⊢
  exact q
theorem ok_Back_str (T : TxStr K mg) : FnOk P w K mg base CX0 1 T.f_Back_str T.d_Back_str P_Back_str (spStr T.toTxRows "back") := by
  refine T.F_Back_str.ok sc_Back_str (fun vs H Q E h => ?_) (fun cdv A outer s H vs Q E hr h => ?_)
  · obtain ⟨a, ws, rfl, _⟩ := h
    rfl
  obtain ⟨a, ws, rfl, R, q⟩ := h
  obtain ⟨⟨dx, ha⟩, hl, hsh, _⟩ := R
  obtain ⟨y0, y1, y2, y3, rfl⟩ : ∃ y0 y1 y2 y3, ws = [y0, y1, y2, y3] := by
    match ws, hl with
    | [y0, y1, y2, y3], _ => exact ⟨y0, y1, y2, y3, rfl⟩
  have l0 : y0.length ≤ 10 := hsh y0 (by simp)
  have l1 : y1.length ≤ 10 := hsh y1 (by simp)
  have l2 : y2.length ≤ 10 := hsh y2 (by simp)
  have l3 : y3.length ≤ 10 := hsh y3 (by simp)
  have z0 : (Str.empty : Str).length = 0 := rfl
  have z1 : (Str.ofString "back ").length = 5 := by decide +kernel
  have z2 : (Str.ofString " ").length = 1 := by decide +kernel
  refine ⟨_, (pss_one (ps_ret (pe_joined (.cons pe_str (.cons (pe_fmt (pe_fldK K (pv 0))) (.cons pe_str (.cons (pe_fmt (pe_fldK K (pv 0))) (.cons pe_str (.cons (pe_fmt (pe_fldK K (pv 0))) (.cons pe_str (.cons (pe_fmt (pe_fldK K (pv 0))) .nil))))))))))), ?_⟩
  refine ⟨_, rfl, (by rw [sizeLine_eq]; (try simp only [Str.length_append]); omega), _, rfl, a, T.C_Back, dx, _, _, rfl, ha, T.c_Back, T.n_Back_mood, rfl, .inl ⟨_, rfl, (by rw [sizeLine_eq]; (try simp only [Str.length_append]); omega), _, rfl, (by rw [sizeLine_eq]; (try simp only [Str.length_append]); omega), _, rfl, (by rw [sizeLine_eq]; (try simp only [Str.length_append]); omega), _, rfl, a, T.C_Back, dx, _, _, rfl, ha, T.c_Back, T.n_Back_service, rfl, .inl ⟨_, rfl, (by rw [sizeLine_eq]; (try simp only [Str.length_append]); omega), _, rfl, (by rw [sizeLine_eq]; (try simp only [Str.length_append]); omega), _, rfl, (by rw [sizeLine_eq]; (try simp only [Str.length_append]); omega), _, rfl, a, T.C_Back, dx, _, _, rfl, ha, T.c_Back, T.n_Back_sign, rfl, .inl ⟨_, rfl, (by rw [sizeLine_eq]; (try simp only [Str.length_append]); omega), _, rfl, (by rw [sizeLine_eq]; (try simp only [Str.length_append]); omega), _, rfl, (by rw [sizeLine_eq]; (try simp only [Str.length_append]); omega), _, rfl, a, T.C_Back, dx, _, _, rfl, ha, T.c_Back, T.n_Back_then, rfl, .inl ⟨_, rfl, (by rw [sizeLine_eq]; (try simp only [Str.length_append]); omega), _, rfl, (by rw [sizeLine_eq]; (try simp only [Str.length_append]); omega), ?_⟩⟩⟩⟩⟩
  have e : rowTxt "back" [y0, y1, y2, y3] = _ := txt4 "back" y0 y1 y2 y3
  rw [e] at q
  have e2 : (Str.ofString "back ") = "back" ++ " " := by decide +kernel
  rw [e2]
  simp only [Str.empty_append, Str.append_assoc] at q ⊢
  exact q
theorem ok_End_str (T : TxStr K mg) : FnOk P w K mg base CX0 1 T.f_End_str T.d_End_str P_End_str (spStr T.toTxRows "end") := by
  refine T.F_End_str.ok sc_End_str (fun vs H Q E h => ?_) (fun cdv A outer s H vs Q E hr h => ?_)
  · obtain ⟨a, ws, rfl, _⟩ := h
    rfl
  obtain ⟨a, ws, rfl, R, q⟩ := h
  obtain ⟨⟨dx, ha⟩, hl, hsh, _⟩ := R
  obtain ⟨y0, y1, y2, y3, rfl⟩ : ∃ y0 y1 y2 y3, ws = [y0, y1, y2, y3] := by
    match ws, hl with
    | [y0, y1, y2, y3], _ => exact ⟨y0, y1, y2, y3, rfl⟩
  have l0 : y0.length ≤ 10 := hsh y0 (by simp)
  have l1 : y1.length ≤ 10 := hsh y1 (by simp)
  have l2 : y2.length ≤ 10 := hsh y2 (by simp)
  have l3 : y3.length ≤ 10 := hsh y3 (by simp)
  have z0 : (Str.empty : Str).length = 0 := rfl
  have z1 : (Str.ofString "end ").length = 4 := by decide +kernel
  have z2 : (Str.ofString " ").length = 1 := by decide +kernel
  refine ⟨_, (pss_one (ps_ret (pe_joined (.cons pe_str (.cons (pe_fmt (pe_fldK K (pv 0))) (.cons pe_str (.cons (pe_fmt (pe_fldK K (pv 0))) (.cons pe_str (.cons (pe_fmt (pe_fldK K (pv 0))) (.cons pe_str (.cons (pe_fmt (pe_fldK K (pv 0))) .nil))))))))))), ?_⟩
  refine ⟨_, rfl, (by rw [sizeLine_eq]; (try simp only [Str.length_append]); omega), _, rfl, a, T.C_End, dx, _, _, rfl, ha, T.c_End, T.n_End_mood, rfl, .inl ⟨_, rfl, (by rw [sizeLine_eq]; (try simp only [Str.length_append]); omega), _, rfl, (by rw [sizeLine_eq]; (try simp only [Str.length_append]); omega), _, rfl, (by rw [sizeLine_eq]; (try simp only [Str.length_append]); omega), _, rfl, a, T.C_End, dx, _, _, rfl, ha, T.c_End, T.n_End_outcome, rfl, .inl ⟨_, rfl, (by rw [sizeLine_eq]; (try simp only [Str.length_append]); omega), _, rfl, (by rw [sizeLine_eq]; (try simp only [Str.length_append]); omega), _, rfl, (by rw [sizeLine_eq]; (try simp only [Str.length_append]); omega), _, rfl, a, T.C_End, dx, _, _, rfl, ha, T.c_End, T.n_End_sign, rfl, .inl ⟨_, rfl, (by rw [sizeLine_eq]; (try simp only [Str.length_append]); omega), _, rfl, (by rw [sizeLine_eq]; (try simp only [Str.length_append]); omega), _, rfl, (by rw [sizeLine_eq]; (try simp only [Str.length_append]); omega), _, rfl, a, T.C_End, dx, _, _, rfl, ha, T.c_End, T.n_End_part, rfl, .inl ⟨_, rfl, (by rw [sizeLine_eq]; (try simp only [Str.length_append]); omega), _, rfl, (by rw [sizeLine_eq]; (try simp only [Str.length_append]); omega), ?_⟩⟩⟩⟩⟩
  have e : rowTxt "end" [y0, y1, y2, y3] = _ := txt4 "end" y0 y1 y2 y3
  rw [e] at q
  have e2 : (Str.ofString "end ") = "end" ++ " " := by decide +kernel
  rw [e2]
  simp only [Str.empty_append, Str.append_assoc] at q ⊢
  exact q
theorem str_rows (T : TxStr K mg) : OwnStr P w K mg base (clsOf T.toTxRows) (· ∈ SORTS) 1 (spStr T.toTxRows) := by
  refine ⟨fun s hs => ?_⟩
  simp only [SORTS, List.mem_cons, List.not_mem_nil, or_false] at hs
  rcases hs with rfl | rfl | rfl | rfl
  · exact ⟨_, _, _, ok_Begin_str T, T.b_Begin_str, T.si_Begin, T.sf_Begin⟩
  · exact ⟨_, _, _, ok_Send_str T, T.b_Send_str, T.si_Send, T.sf_Send⟩
  · exact ⟨_, _, _, ok_Back_str T, T.b_Back_str, T.si_Back, T.sf_Back⟩
  · exact ⟨_, _, _, ok_End_str T, T.b_End_str, T.si_End, T.sf_End⟩
theorem ty_row (T : TxStr K mg) {s : Str} (hs : s ∈ SORTS) {H : Hp} {a dx : Addr} {fs : List (Str × V)} (h : H a = some (.ins (clsOf T.toTxRows s) dx fs)) : TyX K H (.ref a) (.ref (clsOf T.toTxRows s)) := by
  simp only [SORTS, List.mem_cons, List.not_mem_nil, or_false] at hs
  rcases hs with rfl | rfl | rfl | rfl
  · exact T.ty_Begin _ _ _ _ h
  · exact T.ty_Send _ _ _ _ h
  · exact T.ty_Back _ _ _ _ h
  · exact T.ty_End _ _ _ _ h
theorem kit_row (T : TxStr K mg) {s s2 : Str} (hs2 : s2 ∈ SORTS) (hs : s ∈ SORTS) : PySem.W.kitOne K (.ref (clsOf T.toTxRows s2)) (.ref (clsOf T.toTxRows s)) = some (decide (s2 = s)) := by
  simp only [SORTS, List.mem_cons, List.not_mem_nil, or_false] at hs hs2
  rcases hs with rfl | rfl | rfl | rfl <;> rcases hs2 with rfl | rfl | rfl | rfl
  · exact T.kk_Begin_Begin
  · exact T.kk_Send_Begin
  · exact T.kk_Back_Begin
  · exact T.kk_End_Begin
  · exact T.kk_Begin_Send
  · exact T.kk_Send_Send
  · exact T.kk_Back_Send
  · exact T.kk_End_Send
  · exact T.kk_Begin_Back
  · exact T.kk_Send_Back
  · exact T.kk_Back_Back
  · exact T.kk_End_Back
  · exact T.kk_Begin_End
  · exact T.kk_Send_End
  · exact T.kk_Back_End
  · exact T.kk_End_End
theorem nf_row (T : TxStr K mg) {s s2 : Str} (hs2 : s2 ∈ SORTS) (hs : s ∈ SORTS) : PySem.W.notFirst K (clsOf T.toTxRows s) (.ref (clsOf T.toTxRows s2)) = true := by
  simp only [SORTS, List.mem_cons, List.not_mem_nil, or_false] at hs hs2
  rcases hs with rfl | rfl | rfl | rfl <;> rcases hs2 with rfl | rfl | rfl | rfl
  · exact T.nf_Begin_Begin
  · exact T.nf_Begin_Send
  · exact T.nf_Begin_Back
  · exact T.nf_Begin_End
  · exact T.nf_Send_Begin
  · exact T.nf_Send_Send
  · exact T.nf_Send_Back
  · exact T.nf_Send_End
  · exact T.nf_Back_Begin
  · exact T.nf_Back_Send
  · exact T.nf_Back_Back
  · exact T.nf_Back_End
  · exact T.nf_End_Begin
  · exact T.nf_End_Send
  · exact T.nf_End_Back
  · exact T.nf_End_End
theorem ok_Begin_eq (T : TxStr K mg) : FnOk P w K mg base CX0 4 T.f_Begin_eq T.d_Begin_eq P_Begin_eq (spEq T.toTxRows "begin") := by
  have G_str := str_rows (P := P) (w := w) (base := base) T
  refine T.F_Begin_eq.ok sc_Begin_eq (fun vs H Q E h => ?_) (fun cdv A outer s H vs Q E hr h => ?_)
  · obtain ⟨a, ws, y, rfl, _⟩ := h
    rfl
  obtain ⟨a, ws, y, rfl, R, h⟩ := h
  refine ⟨_, (pss_one (ps_ret (pe_and (pe_callB (call_isiV K) (by rfl) T.z_isinstance (by decide +kernel) (pa_cons (pv 1) (pa_cons (pe_glob (v := .ref T.C_Begin) (by rfl) T.m_Begin rfl) pa_nil))) (pe_one (pe_cmpR op_eq (pe_callTy (call_strO K G_str (hr.mono (by decide))) (by rfl) T.z_str (by decide +kernel) (pa_cons (pv 0) pa_nil)) (pe_callTy (call_strO K G_str (hr.mono (by decide))) (by rfl) T.z_str (by decide +kernel) (pa_cons (pv 1) pa_nil)) (nomark _)))))), ?_⟩
  rcases h with ⟨b, s2, ws2, rfl, R2, q⟩ | ⟨t, ty, kf, q⟩
  · obtain ⟨⟨dx, ha⟩, hl, hsh, hs1⟩ := id R
    obtain ⟨⟨dx2, hb⟩, hl2, hsh2, hs2⟩ := id R2
    refine ⟨_, rfl, .ref b, .ref T.C_Begin, .ref (clsOf T.toTxRows s2), _, decide (s2 = "begin"), rfl, .own _, ty_row T hs2 hb, kit_row T (s := "begin") hs2 hs1, _, rfl, ?_⟩
    refine ite2 (fun c => ?_) (fun c => ?_)
    · have e2 : s2 = "begin" := of_decide_eq_true c
      subst e2
      refine ⟨_, rfl, a, "begin", dx, _, rfl, hs1, ha, a, ws, rfl, R, _, rfl, _, rfl, b, "begin", dx2, _, rfl, hs2, hb, b, ws2, rfl, R2, _, rfl, rfl, ?_⟩
      rw [dec_str]
      have r := q
      rw [decide_eq_true (rfl : ("begin" : Str) = "begin"), Bool.true_and] at r
      exact r
    · have r := q
      rw [decide_eq_false (fun z => c (decide_eq_true z.symm)), Bool.false_and] at r
      exact r
  · refine ⟨_, rfl, y, .ref T.C_Begin, t, _, false, rfl, .own _, ty, kf, _, rfl, ?_⟩
    exact q
theorem ok_Send_eq (T : TxStr K mg) : FnOk P w K mg base CX0 4 T.f_Send_eq T.d_Send_eq P_Send_eq (spEq T.toTxRows "send") := by
  have G_str := str_rows (P := P) (w := w) (base := base) T
  refine T.F_Send_eq.ok sc_Send_eq (fun vs H Q E h => ?_) (fun cdv A outer s H vs Q E hr h => ?_)
  · obtain ⟨a, ws, y, rfl, _⟩ := h
    rfl
  obtain ⟨a, ws, y, rfl, R, h⟩ := h
  refine ⟨_, (pss_one (ps_ret (pe_and (pe_callB (call_isiV K) (by rfl) T.z_isinstance (by decide +kernel) (pa_cons (pv 1) (pa_cons (pe_glob (v := .ref T.C_Send) (by rfl) T.m_Send rfl) pa_nil))) (pe_one (pe_cmpR op_eq (pe_callTy (call_strO K G_str (hr.mono (by decide))) (by rfl) T.z_str (by decide +kernel) (pa_cons (pv 0) pa_nil)) (pe_callTy (call_strO K G_str (hr.mono (by decide))) (by rfl) T.z_str (by decide +kernel) (pa_cons (pv 1) pa_nil)) (nomark _)))))), ?_⟩
  rcases h with ⟨b, s2, ws2, rfl, R2, q⟩ | ⟨t, ty, kf, q⟩
  · obtain ⟨⟨dx, ha⟩, hl, hsh, hs1⟩ := id R
    obtain ⟨⟨dx2, hb⟩, hl2, hsh2, hs2⟩ := id R2
    refine ⟨_, rfl, .ref b, .ref T.C_Send, .ref (clsOf T.toTxRows s2), _, decide (s2 = "send"), rfl, .own _, ty_row T hs2 hb, kit_row T (s := "send") hs2 hs1, _, rfl, ?_⟩
    refine ite2 (fun c => ?_) (fun c => ?_)
    · have e2 : s2 = "send" := of_decide_eq_true c
      subst e2
      refine ⟨_, rfl, a, "send", dx, _, rfl, hs1, ha, a, ws, rfl, R, _, rfl, _, rfl, b, "send", dx2, _, rfl, hs2, hb, b, ws2, rfl, R2, _, rfl, rfl, ?_⟩
      rw [dec_str]
      have r := q
      rw [decide_eq_true (rfl : ("send" : Str) = "send"), Bool.true_and] at r
      exact r
    · have r := q
      rw [decide_eq_false (fun z => c (decide_eq_true z.symm)), Bool.false_and] at r
      exact r
  · refine ⟨_, rfl, y, .ref T.C_Send, t, _, false, rfl, .own _, ty, kf, _, rfl, ?_⟩
    exact q
theorem ok_Back_eq (T : TxStr K mg) : FnOk P w K mg base CX0 4 T.f_Back_eq T.d_Back_eq P_Back_eq (spEq T.toTxRows "back") := by
  have G_str := str_rows (P := P) (w := w) (base := base) T
  refine T.F_Back_eq.ok sc_Back_eq (fun vs H Q E h => ?_) (fun cdv A outer s H vs Q E hr h => ?_)
  · obtain ⟨a, ws, y, rfl, _⟩ := h
    rfl
  obtain ⟨a, ws, y, rfl, R, h⟩ := h
  refine ⟨_, (pss_one (ps_ret (pe_and (pe_callB (call_isiV K) (by rfl) T.z_isinstance (by decide +kernel) (pa_cons (pv 1) (pa_cons (pe_glob (v := .ref T.C_Back) (by rfl) T.m_Back rfl) pa_nil))) (pe_one (pe_cmpR op_eq (pe_callTy (call_strO K G_str (hr.mono (by decide))) (by rfl) T.z_str (by decide +kernel) (pa_cons (pv 0) pa_nil)) (pe_callTy (call_strO K G_str (hr.mono (by decide))) (by rfl) T.z_str (by decide +kernel) (pa_cons (pv 1) pa_nil)) (nomark _)))))), ?_⟩
  rcases h with ⟨b, s2, ws2, rfl, R2, q⟩ | ⟨t, ty, kf, q⟩
  · obtain ⟨⟨dx, ha⟩, hl, hsh, hs1⟩ := id R
    obtain ⟨⟨dx2, hb⟩, hl2, hsh2, hs2⟩ := id R2
    refine ⟨_, rfl, .ref b, .ref T.C_Back, .ref (clsOf T.toTxRows s2), _, decide (s2 = "back"), rfl, .own _, ty_row T hs2 hb, kit_row T (s := "back") hs2 hs1, _, rfl, ?_⟩
    refine ite2 (fun c => ?_) (fun c => ?_)
    · have e2 : s2 = "back" := of_decide_eq_true c
      subst e2
      refine ⟨_, rfl, a, "back", dx, _, rfl, hs1, ha, a, ws, rfl, R, _, rfl, _, rfl, b, "back", dx2, _, rfl, hs2, hb, b, ws2, rfl, R2, _, rfl, rfl, ?_⟩
      rw [dec_str]
      have r := q
      rw [decide_eq_true (rfl : ("back" : Str) = "back"), Bool.true_and] at r
      exact r
    · have r := q
      rw [decide_eq_false (fun z => c (decide_eq_true z.symm)), Bool.false_and] at r
      exact r
  · refine ⟨_, rfl, y, .ref T.C_Back, t, _, false, rfl, .own _, ty, kf, _, rfl, ?_⟩
    exact q
theorem ok_End_eq (T : TxStr K mg) : FnOk P w K mg base CX0 4 T.f_End_eq T.d_End_eq P_End_eq (spEq T.toTxRows "end") := by
  have G_str := str_rows (P := P) (w := w) (base := base) T
  refine T.F_End_eq.ok sc_End_eq (fun vs H Q E h => ?_) (fun cdv A outer s H vs Q E hr h => ?_)
  · obtain ⟨a, ws, y, rfl, _⟩ := h
    rfl
  obtain ⟨a, ws, y, rfl, R, h⟩ := h
  refine ⟨_, (pss_one (ps_ret (pe_and (pe_callB (call_isiV K) (by rfl) T.z_isinstance (by decide +kernel) (pa_cons (pv 1) (pa_cons (pe_glob (v := .ref T.C_End) (by rfl) T.m_End rfl) pa_nil))) (pe_one (pe_cmpR op_eq (pe_callTy (call_strO K G_str (hr.mono (by decide))) (by rfl) T.z_str (by decide +kernel) (pa_cons (pv 0) pa_nil)) (pe_callTy (call_strO K G_str (hr.mono (by decide))) (by rfl) T.z_str (by decide +kernel) (pa_cons (pv 1) pa_nil)) (nomark _)))))), ?_⟩
  rcases h with ⟨b, s2, ws2, rfl, R2, q⟩ | ⟨t, ty, kf, q⟩
  · obtain ⟨⟨dx, ha⟩, hl, hsh, hs1⟩ := id R
    obtain ⟨⟨dx2, hb⟩, hl2, hsh2, hs2⟩ := id R2
    refine ⟨_, rfl, .ref b, .ref T.C_End, .ref (clsOf T.toTxRows s2), _, decide (s2 = "end"), rfl, .own _, ty_row T hs2 hb, kit_row T (s := "end") hs2 hs1, _, rfl, ?_⟩
    refine ite2 (fun c => ?_) (fun c => ?_)
    · have e2 : s2 = "end" := of_decide_eq_true c
      subst e2
      refine ⟨_, rfl, a, "end", dx, _, rfl, hs1, ha, a, ws, rfl, R, _, rfl, _, rfl, b, "end", dx2, _, rfl, hs2, hb, b, ws2, rfl, R2, _, rfl, rfl, ?_⟩
      rw [dec_str]
      have r := q
      rw [decide_eq_true (rfl : ("end" : Str) = "end"), Bool.true_and] at r
      exact r
    · have r := q
      rw [decide_eq_false (fun z => c (decide_eq_true z.symm)), Bool.false_and] at r
      exact r
  · refine ⟨_, rfl, y, .ref T.C_End, t, _, false, rfl, .own _, ty, kf, _, rfl, ?_⟩
    exact q
theorem eq_rows (T : TxStr K mg) : OwnEqs P w K mg base (clsOf T.toTxRows) (· ∈ SORTS) 4 (spEq T.toTxRows) := by
  refine ⟨fun s hs => ?_⟩
  simp only [SORTS, List.mem_cons, List.not_mem_nil, or_false] at hs
  rcases hs with rfl | rfl | rfl | rfl
  · exact ⟨_, _, _, ok_Begin_eq T, T.b_Begin_eq, T.ei_Begin, T.ef_Begin, T.en_Begin, T.eo_Begin⟩
  · exact ⟨_, _, _, ok_Send_eq T, T.b_Send_eq, T.ei_Send, T.ef_Send, T.en_Send, T.eo_Send⟩
  · exact ⟨_, _, _, ok_Back_eq T, T.b_Back_eq, T.ei_Back, T.ef_Back, T.en_Back, T.eo_Back⟩
  · exact ⟨_, _, _, ok_End_eq T, T.b_End_eq, T.ei_End, T.ef_End, T.en_End, T.eo_End⟩
end
end My

/-! ## The law's def called by the claim's caller: no guard stands -/
namespace My
open PySem PySem.Spec PyProof.Rows L2
/-- what a def does where no guard stands around it -/
structure FnTop (P : Program) (w : World) (K : PySem.W.Frag) (mg : Str → Option Value) (base : Heap) (k : Nat) (f : Addr) (fd : FuncData) (ps : List Str) (sp : Sp) : Prop where
  go : ∀ (A : Around) (out : List Env) (s : Shared) (H : Hp) (us : List Value) (vs : List V) (Q : VK), A.guards = some [] → Room k A → Env0 P w K mg base A out s H → BindsTo s fd ⟨us, []⟩ (ps.zip us) → Vals vs us → sp vs H Q E0 →
    codeAny (model P w) A (.call (.ref f) ⟨us, []⟩) (CR CX0 out P w H s Q E0) s
section
variable {P : Program} {w : World} {K : PySem.W.Frag} {mg : Str → Option Value} {base : Heap} {k : Nat} {f : Addr} {fd : FuncData} {N ps : List Str} {sp : Sp} {x q : Str} {st : Stmt}
set_option maxHeartbeats 400000 in
theorem top_of (F : Fun K x q st f fd) (S : FnScope N ps (defScope st)) (ln : ∀ vs H Q E, sp vs H Q E → vs.length = ps.length)
    (body : ∀ (cdv : Value) (A : Around) (out : List Env) (s : Shared) (H : Hp) (vs : List V) (Q : VK), A.guards = some [] → Room k (A.deeper (envOfC q (defScope st) s.heap.objs.size f cdv)) → sp vs H Q E0 →
      ∃ t, PSs (cxOf CX0 P w K mg base N q (defScope st) f cdv A out s H E0).nox (defBody st) t ∧ t { nx := fun _ H' => Q .non H', rt := Q } (start N vs) H) : FnTop P w K mg base (k + 1) f fd ps sp := by
  obtain ⟨oc, od, kV, dc, pm, an, cdv, ct, sl, rfl, l, c⟩ := F.ex
  constructor
  intro A out s H us vs Q gu room e0 bt rv h
  have n := ln _ _ _ _ h
  have Y : K.In s.heap := e0.mod.kin.keeps fun b o e => (e0.bs b o e).1
  have nl : s.heap.NoLimit := e0.mod.nolimit.keeps fun b o e => (e0.bs b o e).1
  have kinds : ∀ y ∈ ps.zip us, (defScope st).names.lookup y.1 = some .local ∨ ((defScope st).names.lookup y.1 = some .cell ∧ ((cellsFrom (s.heap.objs.size + 1) (defScope st).names []).lookup y.1).isSome = true) := by
    rintro ⟨a, b⟩ hy
    exact (S.par a (List.of_mem_zip hy).1).imp id fun z => ⟨z, PySem.W.cellsFrom_some _ _ _ (.inl z)⟩
  refine codeAny_call_function room.depth (Y _ _ l) rfl S.co S.gen rfl (PySem.W.codeRec_of Y c) (bt _ _ _ _ ?_)
  refine wpAny_newFunctionEnv_cells S.kind kinds fun env he s1 IC => ?_
  subst he
  refine ⟨nl.keeps IC.toInCall.keep, codeAny_func ?_⟩
  obtain ⟨t, ht, hq⟩ := body cdv A out s H vs Q gu (room.deeper _) h
  have I : Inv (cxOf CX0 P w K mg base N q (defScope st) f cdv A out s H E0) [] (start N vs) H s1 := inv_start S room.hd e0 n rv IC
  have go := ht.nox.run [] s1 (start N vs) H _ I hq
  refine wpAny_mono go (fun fl s2 h2 => ?_) fun _ _ z => z
  cases fl with
  | ret u =>
    obtain ⟨v, σ2, H2, J, r, z⟩ := h2
    exact ⟨v, H2, J.os, J.bare, J.base, J.hok, r, z⟩
  | next =>
    obtain ⟨σ2, H2, J, z⟩ := h2
    exact ⟨.non, H2, J.os, J.bare, J.base, J.hok, rfl, z⟩
  | brk =>
    obtain ⟨_, _, _, z⟩ := h2
    exact False.elim z
  | cont =>
    obtain ⟨_, _, _, z⟩ := h2
    exact False.elim z
/-- the heap in which the script alone is tracked, or nothing -/
def scr (K : PySem.W.Frag) (a : Addr) (us : List Value) (ns : List Int) : Hp := fun b => if b = a ∧ K.lookup a = none then some (.frz { cls := .type "list", data := .seq us.toArray } (.lst (ns.map V.int))) else none
theorem scr_at {K : PySem.W.Frag} {a b : Addr} {us : List Value} {ns : List Int} {o : HO} (h : scr K a us ns b = some o) : b = a ∧ K.lookup a = none ∧ o = .frz { cls := .type "list", data := .seq us.toArray } (.lst (ns.map V.int)) := by
  unfold scr at h
  split at h
  · rename_i z
    cases h
    exact ⟨z.1, z.2, rfl⟩
  · cases h
set_option maxHeartbeats 400000 in
theorem top_call {mb : Str → Option Value} {fa a : Addr} {s₁ : Shared} {us : List Value} {ns : List Int} {y : Str} (Y : K.In s₁.heap) (n1 : s₁.heap.Ns mainGlobals mg) (n2 : s₁.heap.Ns builtinsNs mb) (n3 : ∀ z : Str, z ≠ "__name__" → mb z = bootBuiltins z)
    (nl : s₁.heap.NoLimit) (gn : s₁.gens = #[]) (ha : s₁.heap.get? a = some { cls := .type "list", data := .seq us.toArray }) (hi : IntsAre us ns) (sz : ns.length ≤ sizeLine) (room : Room k callerA)
    (F : ∀ base : Heap, K.In base → base.Ns mainGlobals mg → FnTop P w K mg base k fa fd [y] sp) (bd : ∀ (s : Shared) (u : Value), BindsTo s fd ⟨[u], []⟩ [(y, u)])
    (pr : ∀ H : Hp, SqL K H a (ns.map V.int) → sp [.ref a] H (fun v _ => v = .bl true) E0) :
    codeAny (model P w) callerA (.call (.ref fa) ⟨[.ref a], []⟩) (fun r s' => r = .ok (.ret (.bool true)) ∧ OldK s₁.heap s'.heap ∧ s'.os = s₁.os ∧ AllBare s'.gens) s₁ := by
  have lenV : us.length = ns.length := hi.length
  have rv := vals_ints hi
  have seq : SqL K (scr K a us ns) a (ns.map V.int) := by
    cases z : K.lookup a with
    | none => exact .inl (.inr ⟨_, if_pos ⟨rfl, z⟩⟩)
    | some o =>
      have e := Y a o z
      rw [ha] at e
      cases e
      exact .inr ⟨_, us.toArray, _, z, rfl, rfl, rfl, by rw [List.size_toArray, lenV]; exact sz, by simpa using rv⟩
  have hok : HOk P w (scr K a us ns) s₁.heap := fun b o e => by
    obtain ⟨rfl, _, rfl⟩ := scr_at e
    exact ⟨ha, by rw [List.length_map]; exact sz, us, _, rv, ha⟩
  have other : ∀ {b : Addr} {o : Obj} {es : Array DictEntry} {ep : Nat}, s₁.heap.get? b = some o → o.data = .dict es ep → scr K a us ns b = none := fun {b o es ep} e d => by
    cases z : scr K a us ns b with
    | none => rfl
    | some u =>
      obtain ⟨rfl, _, _⟩ := scr_at z
      rw [ha] at e
      cases e
      cases d
  have part : ∀ {b : Addr} {m : Str → Option Value}, s₁.heap.Ns b m → (hidT s₁.heap (scr K a us ns)).Ns b m := fun ⟨o, es, ep, e, d, r⟩ => ⟨o, es, ep, hidT_get e (other e d), d, r⟩
  have Kb : K.In (hidT s₁.heap (scr K a us ns)) := fun b o e => hidT_get (Y b o e) (by
    cases z : scr K a us ns b with
    | none => rfl
    | some u =>
      obtain ⟨rfl, z2, _⟩ := scr_at z
      rw [z2] at e
      cases e)
  have lim : (hidT s₁.heap (scr K a us ns)).NoLimit := by
    obtain ⟨mc, h1, h2⟩ := nl
    exact ⟨mc, part h1, h2⟩
  have e0 : Env0 P w K mg (hidT s₁.heap (scr K a us ns)) callerA [] s₁ (scr K a us ns) :=
    ⟨rfl, ⟨Kb, part n1, ⟨mb, part n2, n3⟩, lim⟩, fun b o e => of_hidT e, Nat.le_of_eq (hidT_size _ _), trivial, fun b hb => absurd (show b ∈ ([] : List Addr) from hb) (by simp), hok, .of_eq gn⟩
  have run := (F _ Kb (part n1)).go callerA [] s₁ _ [.ref a] [.ref a] _ rfl room e0 (bd s₁ (.ref a)) (.cons rfl .nil) (pr _ seq)
  refine codeAny_mono run fun r s' h => ?_
  cases r with
  | error e => exact False.elim h
  | ok fl =>
    cases fl with
    | ret u =>
      obtain ⟨v, H', os, bare, un, hok', r', z⟩ := h
      have z' : v = .bl true := z
      subst z'
      have u1 : u = Value.bool true := r'
      subst u1
      refine ⟨rfl, OldK.of_keep (fun b o e => ?_), os, bare⟩
      cases zz : scr K a us ns b with
      | none => exact un.keep b o e zz (by intro t; exact absurd (show b ∈ ([] : List Addr) from t) (by simp)) (by simp)
      | some u =>
        obtain ⟨rfl, _, rfl⟩ := scr_at zz
        obtain ⟨e2, _⟩ := hok' b _ (un.frzs b _ _ zz)
        rw [ha] at e
        cases e
        exact e2
    | next => exact False.elim h
    | brk => exact False.elim h
    | cont => exact False.elim h
theorem walk_top {l : PySem.W.OpenLaw} {n k : Nat} {q : Program} {loose : List Str} {XP : (Str → Option Value) → Heap → Prop} {YP : World → Heap → Prop} {d : DefRec} {K : Params → PySem.W.Frag} {sp : World → Sp} {y : Str}
    (hn : l.most = some n) (n2 : n ≤ sizeLine) (hdf : d.params.defaults = []) (room : Room k callerA) (hY : ∀ (w : World) (h : Heap), YP w h → (K w.params).In h)
    (F : ∀ (w : World) (mg : Str → Option Value) (fa : Addr) (h : Heap), (K w.params).In h → h.Ns mainGlobals mg → mg d.name = some (.ref fa) →
      ∃ fd : FuncData, (∀ (s : Shared) (u : Value), BindsTo s fd ⟨[u], []⟩ [(y, u)]) ∧ ∀ base : Heap, (K w.params).In base → base.Ns mainGlobals mg → FnTop l.prog w (K w.params) mg base k fa fd [y] (sp w))
    (pr : ∀ (w : World) (H : Hp) (a : Addr) (ns : List Int), ns.length ≤ n → SqL (K w.params) H a (ns.map V.int) → sp w [.ref a] H (fun v _ => v = .bl true) E0) :
    PySem.W.WalkO q loose XP YP l.row.toRowW d [] (fun f vs => PySem.call f vs) := by
  refine Att.attach_call hn hdf fun w _ _ mg _ fa _ _ _ _ a us ns top fit _ _ _ at_ obj nums many gens => ?_
  have inK := hY w _ fit
  obtain ⟨fd, bd, all⟩ := F w mg fa _ inK top.T.g at_
  exact top_call inK top.T.g top.T.b top.T.builtins top.T.nolimit gens obj nums (Nat.le_trans many n2) room all bd fun H q => pr w H a ns many q
end
end My

/-! ## repr of a list of texts where no guard stands -/
namespace My
open PySem PySem.Spec PyProof.Rows L2
theorem vals_at : ∀ {ss : List Str} {its : List Value} {i : Nat} {u : Value}, Vals (ss.map V.str) its → its[i]? = some u → ∃ (y : Str) (t : Tok), ss[i]? = some y ∧ u = .str y t
  | [], _, _, _, h, e => by cases h; simp at e
  | y :: ss, _, i, u, h, e => by
    cases h with
    | cons r h =>
      cases i with
      | zero =>
        obtain ⟨t, r⟩ : ∃ t, _ = Value.str y t := r
        simp at e
        exact ⟨y, t, rfl, e ▸ r⟩
      | succ i =>
        obtain ⟨z, t, h1, h2⟩ := vals_at h (by simpa using e)
        exact ⟨z, t, by simpa using h1, h2⟩
theorem repr_small {x : Str} (h : okS x = true) (l : x.length ≤ 100) : (reprText x).length ≤ 1002 := by
  have h2 := (Bool.and_eq_true_iff.mp h).2
  have := StrLaws.reprText_len x fun c hc => by
    unfold PyData.strOk at h2
    rw [← Array.all_toList, List.all_eq_true] at h2
    have := of_decide_eq_true (h2 c hc)
    omega
  omega
/-- the text of a list of texts -/
def reprL (ss : List Str) : Str := listText (ss.map reprText)
theorem sum_le {α : Type} {f : α → Nat} {m : Nat} : ∀ {l : List α}, (∀ x ∈ l, f x ≤ m) → (l.map f).sum ≤ m * l.length
  | [], _ => by simp
  | x :: l, h => by
    have a := h x List.mem_cons_self
    have b := sum_le (f := f) (m := m) (l := l) fun y hy => h y (List.mem_cons_of_mem _ hy)
    rw [List.map_cons, List.sum_cons, List.length_cons, Nat.mul_succ]
    omega
def rRepr (K : PySem.W.Frag) : List V → Hp → VK → Prop := fun xs H Q => ∃ (a : Addr) (ss : List Str), xs = [.ref a] ∧ SqL K H a (ss.map V.str) ∧ ss ≠ [] ∧ ss.length ≤ 100 ∧ (∀ y ∈ ss, okS y = true ∧ y.length ≤ 100) ∧ Q (.str (reprL ss)) H
section
variable {X : Cx}
set_option maxHeartbeats 400000 in
theorem call_reprS (K : PySem.W.Frag) (gu : X.A.guards = some []) (hu : X.A.units + 10 < cLine) (hK : X.K = K := by rfl) : CallR X (.builtin "repr") (rRepr K) := by
  subst hK
  intro pins s σ H xs us Q I r h
  obtain ⟨a, ss, rfl, hS, ne, hl, ok, q⟩ := h
  rw [Vals.ref1 r]
  obtain ⟨its, rv, ⟨o, n, ho, hc, hd, hda⟩, _⟩ := I.list hS
  refine call_repr_slot (T := "list") (by omega) ⟨o, ho, hc⟩ F.slot_list_repr.toG ?_
  cases its with
  | nil =>
    have e := rv.length
    rw [List.length_map] at e
    exact absurd (List.length_eq_zero_iff.mp e) ne
  | cons x l =>
    have ln : ss.length = (x :: l).length := by
      have e := rv.length
      rwa [List.length_map] at e
    refine call_list_reprK (ts := ss.map reprText) (as := []) (h₀ := s.heap) (d := 0) ho hc hda (by simp) (by rw [List.length_map, List.size_toArray]; exact ln) (fun i y hy => ?_) (g := []) gu (fun b _ => Clear.nil b) (by show X.A.units + 1 + 1 < cLine; omega) (fun _ _ e => e)
      (fun h' u tk k => ⟨_, u, rfl, .str (reprL ss), H, I.kept k, ⟨u, rfl⟩, q⟩) ?_
    · obtain ⟨z, t, h1, rfl⟩ := vals_at (i := i) rv (by simpa using hy)
      have hz := ok z (List.mem_of_getElem? h1)
      have := repr_small hz.1 hz.2
      exact ⟨reprText z, by rw [List.getElem?_map, h1]; rfl, ReprK.of_is (ReprIs.str z t (by rw [sizeLine_eq]; omega)) [] s.heap 0⟩
    · have h1 := listText_len_le (ss.map reprText)
      have h2 : ((ss.map reprText).map (·.length)).sum ≤ 1002 * (ss.map reprText).length := sum_le fun y hy => by
        obtain ⟨z, hz, rfl⟩ := List.mem_map.mp hy
        exact repr_small (ok z hz).1 (ok z hz).2
      rw [List.length_map] at h1 h2
      rw [sizeLine_eq]
      omega
end
end My

/-! ## k02: what the loops share; drawn rows are no wrong ones; their texts tell them apart -/
namespace My
open PySem L2
/-- the first word whose value is none that may stand -/
def lw : List (Str × List Str) → List PyData → Option Str
  | (w, ls) :: ws, d :: ds => if txD ls d = false ∧ ((w = "outcome" ∨ w = "part") ∨ nmD d = false) then some w else lw ws ds
  | _, _ => none
theorem gr_same {b : Addr} {H H1 H2 : Hp} {o : HO} (s : Same H H1) (n : H1 b = none) (g : Gr b (upd H1 b o) H2) : Same H H2 := fun a u e => by
  have na : a ≠ b := fun z => by
    have z1 := s a u e
    rw [z, n] at z1
    cases z1
  exact g.keep a u na (by rw [upd_ne na]; exact s a u e)
theorem gr_box {b : Addr} {H1 : Hp} {w s c : Int} : Gr b (upd H1 b (bx w s c)) (upd H1 b (bx w s c)) := ⟨fun _ _ _ e => e, w, s, c, upd_same⟩
theorem gr_self {b : Addr} {H H' : Hp} (g : Gr b H H') : Gr b H' H' := ⟨fun _ _ _ e => e, g.box⟩
/-- max(1, min(n, len)) -/
theorem many_turns {n : Int} {l : Nat} (h : 1 ≤ n) (hn : n ≤ 10) : let m : Int := if (l : Int) < n then (l : Int) else n
    let t : Int := if m > 1 then m else 1
    1 ≤ t ∧ t ≤ n := by
  intro m t
  constructor
  · show 1 ≤ (if m > 1 then m else 1)
    split <;> omega
  · show (if m > 1 then m else 1) ≤ n
    have : m ≤ n := by
      show (if (l : Int) < n then (l : Int) else n) ≤ n
      split <;> omega
    split <;> omega
/-- the two readings of a row agree -/
theorem lw_wr {s : Str} (hs : s ∈ SORTS) {ds : List PyData} (hl : ds.length = (wsOf s).length) : lw (wsOf s) ds = wrOf s ds := by
  have t0 : ∀ d, txD [] d = false := fun d => by cases d <;> rfl
  simp only [SORTS, List.mem_cons, List.not_mem_nil, or_false] at hs
  rcases hs with rfl | rfl | rfl | rfl
  · match ds, hl with
    | [a, b, c], _ =>
      show lw ws_begin [a, b, c] = wBegin [a, b, c]
      simp only [ws_begin, lw, wBegin, t0]
      cases nmD a <;> cases txD ["none", "any"] a <;> cases nmD b <;> cases txD ["any"] b <;> cases nmD c <;> first | rfl | decide +kernel
  · match ds, hl with
    | [a, b, c], _ =>
      show lw ws_send [a, b, c] = wSend [a, b, c]
      simp only [ws_send, lw, wSend]
      cases nmD a <;> cases txD ["any"] a <;> cases nmD b <;> cases txD ["any"] b <;> cases nmD c <;> cases txD ["none", "same"] c <;> first | rfl | decide +kernel
  · match ds, hl with
    | [a, b, c, d], _ =>
      show lw ws_back [a, b, c, d] = wBack [a, b, c, d]
      simp only [ws_back, lw, wBack]
      cases nmD a <;> cases txD ["any"] a <;> cases nmD b <;> cases txD ["any"] b <;> cases nmD c <;> cases txD ["none", "any"] c <;> cases nmD d <;> cases txD ["same"] d <;> first | rfl | decide +kernel
  · match ds, hl with
    | [a, b, c, d], _ =>
      show lw ws_end [a, b, c, d] = wEnd [a, b, c, d]
      simp only [ws_end, lw, wEnd]
      cases nmD a <;> cases txD ["any"] a <;> cases nmD b <;> cases txD ["good", "bad", "any"] b <;> cases nmD c <;> cases txD ["none"] c <;> cases nmD d <;> cases txD ["keep", "drop"] d <;> first | rfl | decide +kernel
theorem fn_ws : ∀ s ∈ SORTS, (fnOf s).length = (wsOf s).length := by decide +kernel
theorem abc_lt : ∀ c ∈ ABC.cps.toList, c < 0x110000 ∧ c ≠ 32 := by decide +kernel
/-- a short word of code points without a blank -/
def okW (x : Str) : Bool := okS x && decide (x.length ≤ 10) && x.cps.toList.all fun c => decide (c ≠ 32)
theorem isNm_okW {x : Str} (h : isNm x = true) : okW x = true := by
  have l := (isNm_len h).2
  unfold isNm at h
  have h4 := (Bool.and_eq_true_iff.mp h).2
  have h5 := List.all_eq_true.mp h4
  unfold okW okS
  rw [Bool.and_eq_true_iff, Bool.and_eq_true_iff, Bool.and_eq_true_iff]
  refine ⟨⟨⟨decide_eq_true (by omega), ?_⟩, decide_eq_true (by omega)⟩, List.all_eq_true.mpr fun c hc => decide_eq_true (abc_lt c (of_decide_eq_true (h5 c hc))).2⟩
  unfold PyData.strOk
  rw [← Array.all_toList, List.all_eq_true]
  exact fun c hc => decide_eq_true (abc_lt c (of_decide_eq_true (h5 c hc))).1
theorem ws_okW : ∀ s ∈ SORTS, ∀ w ∈ wsOf s, w.2.all okW = true := by decide +kernel
theorem ws_len : ∀ s ∈ SORTS, 3 ≤ (wsOf s).length := by decide +kernel
theorem so_okW : ∀ s ∈ SORTS, okW s = true := by decide +kernel
theorem paired_mem {α β : Type} {R : α → β → Prop} {x : α} : ∀ {xs : List α} {ys : List β}, Paired R xs ys → x ∈ xs → ∃ y ∈ ys, R x y
  | _, _, .nil, h => nomatch h
  | _, _, .cons r t, h => by
    rcases List.mem_cons.mp h with h | h
    · subst h
      exact ⟨_, List.mem_cons_self, r⟩
    · obtain ⟨y, h1, h2⟩ := paired_mem t h
      exact ⟨y, List.mem_cons_of_mem _ h1, h2⟩
theorem paired_len {α β : Type} {R : α → β → Prop} : ∀ {xs : List α} {ys : List β}, Paired R xs ys → xs.length = ys.length
  | _, _, .nil => rfl
  | _, _, .cons _ t => by rw [List.length_cons, List.length_cons, paired_len t]
theorem paired_imp {α β : Type} {R S : α → β → Prop} (h : ∀ x y, R x y → S x y) : ∀ {xs : List α} {ys : List β}, Paired R xs ys → Paired S xs ys
  | _, _, .nil => .nil
  | _, _, .cons r t => .cons (h _ _ r) (paired_imp h t)
theorem paired_map {α β γ : Type} {R : α → β → Prop} {S : α → γ → Prop} {f : β → γ} (h : ∀ x y, R x y → S x (f y)) : ∀ {xs : List α} {ys : List β}, Paired R xs ys → Paired S xs (ys.map f)
  | _, _, .nil => .nil
  | _, _, .cons r t => .cons (h _ _ r) (paired_map h t)
/-- a drawn row: its sort, its words -/
structure GoodR (r : Str × List Str) : Prop where
  so : r.1 ∈ SORTS
  fit : Paired fitW r.2 (wsOf r.1)
theorem GoodR.len {r : Str × List Str} (g : GoodR r) : r.2.length = (wsOf r.1).length := paired_len g.fit
theorem GoodR.len2 {r : Str × List Str} (g : GoodR r) : r.2.length = (fnOf r.1).length := g.len.trans (fn_ws _ g.so).symm
theorem GoodR.okW {r : Str × List Str} (g : GoodR r) : ∀ y ∈ r.2, okW y = true := fun y hy => by
  obtain ⟨w, hw, f⟩ := paired_mem g.fit hy
  rcases f with f | f
  · exact List.all_eq_true.mp (ws_okW _ g.so w hw) y f
  · exact isNm_okW f.2.2
theorem lw_fit : ∀ {ys : List Str} {ws : List (Str × List Str)}, Paired fitW ys ws → lw ws (ys.map PyData.str) = none
  | _, _, .nil => rfl
  | _, _, .cons (a := y) (b := w) f t => by
    show (if txD w.2 (.str y) = false ∧ ((w.1 = "outcome" ∨ w.1 = "part") ∨ nmD (.str y) = false) then some w.1 else lw _ _) = none
    rw [if_neg, lw_fit t]
    rintro ⟨h1, h2⟩
    rcases f with f | f
    · have : w.2.contains y = true := List.contains_iff_mem.mpr f
      have h1' : w.2.contains y = false := h1
      rw [this] at h1'
      cases h1'
    · rcases h2 with (h2 | h2) | h2
      · exact f.1 h2
      · exact f.2.1 h2
      · have h2' : isNm y = false := h2
        rw [f.2.2] at h2'
        cases h2'
theorem GoodR.wr {r : Str × List Str} (g : GoodR r) : wrOf r.1 (r.2.map PyData.str) = none := by
  rw [← lw_wr g.so (by rw [List.length_map]; exact g.len)]
  exact lw_fit g.fit
theorem okW_S {x : Str} (h : okW x = true) : okS x = true := (Bool.and_eq_true_iff.mp (Bool.and_eq_true_iff.mp h).1).1
theorem okW_l {x : Str} (h : okW x = true) : x.length ≤ 10 := of_decide_eq_true (Bool.and_eq_true_iff.mp (Bool.and_eq_true_iff.mp h).1).2
theorem okW_b {x : Str} (h : okW x = true) : 32 ∉ x.cps.toList := fun z => of_decide_eq_true (List.all_eq_true.mp (Bool.and_eq_true_iff.mp h).2 32 z) rfl
theorem dvs_strs {K : PySem.W.Frag} {H : Hp} : ∀ {ys : List Str}, (∀ y ∈ ys, okW y = true) → Paired (Dv K H) (ys.map V.str) (ys.map PyData.str)
  | [], _ => .nil
  | y :: ys, h => .cons (Dv.str (okW_S (h y List.mem_cons_self))) (dvs_strs fun z hz => h z (List.mem_cons_of_mem _ hz))
theorem cut_blank {c : Nat} : ∀ {a a2 r r2 : List Nat}, c ∉ a → c ∉ a2 → a ++ c :: r = a2 ++ c :: r2 → a = a2 ∧ r = r2
  | [], [], _, _, _, _, e => ⟨rfl, (List.cons.inj e).2⟩
  | [], x :: a2, _, _, _, h, e => absurd (List.mem_cons.mpr (.inl (List.cons.inj e).1)) h
  | x :: a, [], _, _, h, _, e => absurd (List.mem_cons.mpr (.inl (List.cons.inj e).1.symm)) h
  | x :: a, y :: a2, _, _, h, h2, e => by
    obtain ⟨e1, e2⟩ := List.cons.inj e
    obtain ⟨p, q⟩ := cut_blank (fun z => h (List.mem_cons_of_mem _ z)) (fun z => h2 (List.mem_cons_of_mem _ z)) e2
    exact ⟨by rw [e1, p], q⟩
theorem str_of_list {x y : Str} (h : x.cps.toList = y.cps.toList) : x = y := Str.ext' (Array.ext' h)
theorem cut_str {a a2 r r2 : Str} (h : 32 ∉ a.cps.toList) (h2 : 32 ∉ a2.cps.toList) (e : a ++ " " ++ r = a2 ++ " " ++ r2) : a = a2 ∧ r = r2 := by
  have e1 : ∀ x y : Str, (x ++ " " ++ y).cps.toList = x.cps.toList ++ 32 :: y.cps.toList := fun x y => by
    show ((x.cps ++ (Str.ofString " ").cps) ++ y.cps).toList = _
    rw [Array.toList_append, Array.toList_append, show (Str.ofString " ").cps.toList = [32] by decide +kernel]
    simp
  have e2 := congrArg (fun z : Str => z.cps.toList) e
  simp only [e1] at e2
  obtain ⟨p, q⟩ := cut_blank h h2 e2
  exact ⟨str_of_list p, str_of_list q⟩
/-- the words of a row of a sort are told by its text -/
theorem row_inj {s : Str} {ws ws2 : List Str} (h : ∀ y ∈ ws, okW y = true) (h2 : ∀ y ∈ ws2, okW y = true) (hs : okW s = true) (l : ws.length = ws2.length) (n : ws.length = 3 ∨ ws.length = 4) (e : rowTxt s ws = rowTxt s ws2) : ws = ws2 := by
  rcases n with n | n
  · match ws, ws2, n, l with
    | [a, b, c], [a2, b2, c2], _, _ =>
      rw [txt3, txt3] at e
      obtain ⟨_, e1⟩ := cut_str (okW_b hs) (okW_b hs) e
      obtain ⟨p1, e2⟩ := cut_str (okW_b (h a (by simp))) (okW_b (h2 a2 (by simp))) e1
      obtain ⟨p2, p3⟩ := cut_str (okW_b (h b (by simp))) (okW_b (h2 b2 (by simp))) e2
      rw [p1, p2, p3]
  · match ws, ws2, n, l with
    | [a, b, c, d], [a2, b2, c2, d2], _, _ =>
      rw [txt4, txt4] at e
      obtain ⟨_, e1⟩ := cut_str (okW_b hs) (okW_b hs) e
      obtain ⟨p1, e2⟩ := cut_str (okW_b (h a (by simp))) (okW_b (h2 a2 (by simp))) e1
      obtain ⟨p2, e3⟩ := cut_str (okW_b (h b (by simp))) (okW_b (h2 b2 (by simp))) e2
      obtain ⟨p3, p4⟩ := cut_str (okW_b (h c (by simp))) (okW_b (h2 c2 (by simp))) e3
      rw [p1, p2, p3, p4]
theorem ws_34 : ∀ s ∈ SORTS, (wsOf s).length = 3 ∨ (wsOf s).length = 4 := by decide +kernel
theorem eqvAll_strs : ∀ l l2 : List Str, PyData.eqvAll (l.map PyData.str) (l2.map PyData.str) = decide (l = l2)
  | [], [] => rfl
  | [], _ :: _ => by simp [PyData.eqvAll]
  | _ :: _, [] => by simp [PyData.eqvAll]
  | x :: l, y :: l2 => by
    have ih := eqvAll_strs l l2
    simp only [List.map_cons, PyData.eqvAll, PyData.eqv, ih]
    rw [Bool.eq_iff_iff]
    simp
theorem eqv_strs (l l2 : List Str) : PyData.eqv (.tuple (l.map PyData.str)) (.tuple (l2.map PyData.str)) = decide (l = l2) := by
  simp only [PyData.eqv]
  exact eqvAll_strs l l2
/-- the two ways to tell rows apart agree -/
theorem row_eq {r r2 : Str × List Str} (g : GoodR r) (g2 : GoodR r2) : (decide (r.1 = r2.1) && decide (rowTxt r.1 r.2 = rowTxt r2.1 r2.2)) = decide (r.1 :: r.2 = r2.1 :: r2.2) := by
  obtain ⟨s, ws⟩ := r
  obtain ⟨s2, ws2⟩ := r2
  by_cases e : s = s2
  · subst e
    rw [decide_eq_true (rfl : s = s), Bool.true_and]
    by_cases e2 : ws = ws2
    · subst e2
      rw [decide_eq_true rfl, decide_eq_true rfl]
    · rw [decide_eq_false (fun z => e2 (row_inj g.okW g2.okW (so_okW _ g.so) (g.len.trans g2.len.symm) (g.len ▸ ws_34 _ g.so) z)), decide_eq_false (fun z => e2 (List.cons.inj z).2)]
  · rw [decide_eq_false e, Bool.false_and, decide_eq_false (fun z => e (List.cons.inj z).1)]
theorem cut_one {x : V} {as : List V} : cutV (x :: as) (some 1) none = as := by
  unfold cutV
  rw [show (1 : Int) = ((1 : Nat) : Int) from rfl, HT.sIx_nat, HT.sIx_none, List.length_cons, Nat.min_eq_left (by omega)]
  show as.take (as.length + 1 - 1) = as
  rw [Nat.add_sub_cancel, List.take_length]
theorem cut_part {n : Nat} : ¬ (HT.sIx (n + 1) 0 (some 1) = 0 ∧ HT.sIx (n + 1) (n + 1) none = n + 1) := by
  rintro ⟨z, _⟩
  rw [show (1 : Int) = ((1 : Nat) : Int) from rfl, HT.sIx_nat, Nat.min_eq_left (by omega)] at z
  cases z
theorem room10 {k : Nat} {A : Around} (r : Room k A) : A.units + 10 < cLine := by have := r.un; omega
end My

/-! ## k02: the law -/
namespace My
open PySem L2
abbrev s_told : Stmt := top 24
abbrev N_told : List Str := ["_law_made", "_law_sort"]
abbrev P_told : List Str := ["_law_made", "_law_sort"]
theorem sc_told : FnScope N_told P_told (defScope s_told) := ⟨rfl, rfl, rfl, by decide +kernel, rfl, by decide +kernel, by decide +kernel⟩
abbrev s_row_text : Stmt := top 20
abbrev N_row_text : List Str := ["_law_row_here"]
abbrev P_row_text : List Str := ["_law_row_here"]
theorem sc_row_text : FnScope N_row_text P_row_text (defScope s_row_text) := ⟨rfl, rfl, rfl, by decide +kernel, rfl, by decide +kernel, by decide +kernel⟩
abbrev s_law : Stmt := top 25
abbrev N_law : List Str := ["_law_script", "_law_k", "_law_box_here", "_law_names_here", "_law_pools", "_law_word", "_law_rows", "_law_sort", "_law_row_here", "_law_made", "_law_other"]
abbrev P_law : List Str := ["_law_script"]
theorem sc_law : FnScope N_law P_law (defScope s_law) := ⟨rfl, rfl, rfl, by decide +kernel, rfl, by decide +kernel, by decide +kernel⟩
structure TxLaw2 (K : PySem.W.Frag) (mg : Str → Option Value) extends TxStr K mg, TxDrawn K mg where
  z_max : mg "max" = none
  z_min : mg "min" = none
  z_dict : mg "dict" = none
  z_repr : mg "repr" = none
  C_Row : Addr
  m_Row : mg "Row" = some (.ref C_Row)
  kr_Begin : PySem.W.kitOne K (.ref C_Begin) (.ref C_Row) = some true
  kr_Send : PySem.W.kitOne K (.ref C_Send) (.ref C_Row) = some true
  kr_Back : PySem.W.kitOne K (.ref C_Back) (.ref C_Row) = some true
  kr_End : PySem.W.kitOne K (.ref C_End) (.ref C_Row) = some true
  f_told : Addr
  d_told : FuncData
  F_told : Fun K "_law_told" "_law_told" s_told f_told d_told
  m_told : mg "_law_told" = some (.ref f_told)
  b_told : Binds K d_told P_told []
  f_row_text : Addr
  d_row_text : FuncData
  F_row_text : Fun K "_law_row_text" "_law_row_text" s_row_text f_row_text d_row_text
  m_row_text : mg "_law_row_text" = some (.ref f_row_text)
  b_row_text : Binds K d_row_text P_row_text []
  f_law : Addr
  d_law : FuncData
  F_law : Fun K "law" "law" s_law f_law d_law
theorem kr_row {K : PySem.W.Frag} {mg : Str → Option Value} (T : TxLaw2 K mg) {s : Str} (hs : s ∈ SORTS) : PySem.W.kitOne K (.ref (clsOf T.toTxRows s)) (.ref T.C_Row) = some true := by
  simp only [SORTS, List.mem_cons, List.not_mem_nil, or_false] at hs
  rcases hs with rfl | rfl | rfl | rfl
  · exact T.kr_Begin
  · exact T.kr_Send
  · exact T.kr_Back
  · exact T.kr_End
theorem kst_row {K : PySem.W.Frag} {mg : Str → Option Value} (T : TxStr K mg) {s : Str} (hs : s ∈ SORTS) : PySem.W.kitOne K (.type "str") (.ref (clsOf T.toTxRows s)) = some false ∧ PySem.W.kitOne K (.type "tuple") (.ref (clsOf T.toTxRows s)) = some false ∧
    PySem.W.notFirst K (clsOf T.toTxRows s) (.type "str") = true ∧ PySem.W.notFirst K (clsOf T.toTxRows s) (.type "tuple") = true := by
  simp only [SORTS, List.mem_cons, List.not_mem_nil, or_false] at hs
  rcases hs with rfl | rfl | rfl | rfl
  · exact ⟨T.ks_Begin, T.kt_Begin, T.ns_Begin, T.nt_Begin⟩
  · exact ⟨T.ks_Send, T.kt_Send, T.ns_Send, T.nt_Send⟩
  · exact ⟨T.ks_Back, T.kt_Back, T.ns_Back, T.nt_Back⟩
  · exact ⟨T.ks_End, T.kt_End, T.ns_End, T.nt_End⟩
def spTold {K : PySem.W.Frag} {mg : Str → Option Value} (T : TxRows K mg) : Sp := fun vs H Q _ => ∃ (a : Addr) (s : Str) (ws : List Str), vs = [.ref a, .str s] ∧ RowAt T H a s ws ∧ ∀ p, H p = none → Q (.ref p) (upd H p (.lst (ws.map V.str)))
def spRowText (K : PySem.W.Frag) : Sp := fun vs H Q _ => ∃ (a : Addr) (ws : List Str), vs = [.ref a] ∧ SqT K H a (ws.map V.str) ∧ ws.length ≤ 10 ∧ (∀ y ∈ ws, y.length ≤ 10) ∧ Q (.str (Txt.join " " ws)) H
def spLaw (K : PySem.W.Frag) : Sp := fun vs H Q _ => ∃ (a : Addr) (ns : List Int), vs = [.ref a] ∧ SqL K H a (ns.map V.int) ∧ ns.length ≤ 63 ∧ ∀ H', Q (.bl true) H'
def S12 : List Str := SORTS ++ (SORTS ++ SORTS)
theorem S12_so : ∀ s ∈ S12, s ∈ SORTS := by decide +kernel
theorem pool_at (x : Str) (hx : x ∈ POOLW) (nl : Addr) : valV (mergeK [] (POOLW.map fun x => ((Sum.inr x : Key), V.ref nl))) (Sum.inr x) = some (.ref nl) := by
  simp only [POOLW, List.mem_cons, List.not_mem_nil, or_false] at hx
  rcases hx with rfl | rfl | rfl | rfl | rfl <;> rfl
theorem sum_le10 : ∀ {l : List Str}, (∀ x ∈ l, x.length ≤ 10) → (l.map (·.length)).sum ≤ 10 * l.length := fun h => sum_le h
section
variable {P : Program} {w : World} {K : PySem.W.Frag} {mg : Str → Option Value} {base : Heap}
theorem ok_row_text (T : TxLaw2 K mg) : FnOk P w K mg base CX0 1 T.f_row_text T.d_row_text P_row_text (spRowText K) := by
  refine T.F_row_text.ok sc_row_text (fun vs H Q E h => ?_) (fun cdv A outer s H vs Q E hr h => ?_)
  · obtain ⟨a, ws, rfl, _⟩ := h
    rfl
  obtain ⟨a, ws, rfl, hS, hl, hw, q⟩ := h
  refine ⟨_, (pss_one (ps_ret (pe_m1 PySem.F.slot_str_join PySem.F.type_str_join (mt_joinK K) pe_str (pv 0)))), ?_⟩
  have b1 := sum_le10 hw
  have b2 : (Str.ofString " ").length = 1 := by decide +kernel
  exact ⟨⟨_, rfl⟩, _, rfl, " ", a, ws, rfl, rfl, .inr hS, by rw [b2]; omega, q⟩
theorem ok_told (T : TxLaw2 K mg) : FnOk P w K mg base CX0 1 T.f_told T.d_told P_told (spTold T.toTxRows) := by
  refine T.F_told.ok sc_told (fun vs H Q E h => ?_) (fun cdv A outer s H vs Q E hr h => ?_)
  · obtain ⟨a, so, ws, rfl, _⟩ := h
    rfl
  obtain ⟨a, so, ws, rfl, R, q⟩ := h
  obtain ⟨⟨dx, ha⟩, hl, hsh, hs⟩ := R
  refine ⟨_, (pss_cons (ps_if (pt_cmpR op_eq (pv 1) pe_str (nomark _)) (pss_one (ps_ret (pe_lst (pa_cons (pe_fldK K (pv 0)) (pa_cons (pe_fldK K (pv 0)) (pa_cons (pe_fldK K (pv 0)) pa_nil)))))) pss_nil)
      (pss_cons (ps_if (pt_cmpR op_eq (pv 1) pe_str (nomark _)) (pss_one (ps_ret (pe_lst (pa_cons (pe_fldK K (pv 0)) (pa_cons (pe_fldK K (pv 0)) (pa_cons (pe_fldK K (pv 0)) pa_nil)))))) pss_nil)
      (pss_cons (ps_if (pt_cmpR op_eq (pv 1) pe_str (nomark _)) (pss_one (ps_ret (pe_lst (pa_cons (pe_fldK K (pv 0)) (pa_cons (pe_fldK K (pv 0)) (pa_cons (pe_fldK K (pv 0)) (pa_cons (pe_fldK K (pv 0)) pa_nil))))))) pss_nil)
      (pss_one (ps_ret (pe_lst (pa_cons (pe_fldK K (pv 0)) (pa_cons (pe_fldK K (pv 0)) (pa_cons (pe_fldK K (pv 0)) (pa_cons (pe_fldK K (pv 0)) pa_nil)))))))))), ?_⟩
  refine ⟨_, rfl, rfl, _, rfl, ite2 (fun c => ?_) (fun c => ?_)⟩
  · have e := str_eq_of c
    subst e
    obtain ⟨y0, y1, y2, rfl⟩ : ∃ y0 y1 y2, ws = [y0, y1, y2] := by
      match ws, hl with
      | [y0, y1, y2], _ => exact ⟨y0, y1, y2, rfl⟩
    exact ⟨_, rfl, a, T.C_Begin, dx, _, _, rfl, ha, T.c_Begin, T.n_Begin_mark, rfl, _, rfl, a, T.C_Begin, dx, _, _, rfl, ha, T.c_Begin, T.n_Begin_kind, rfl, _, rfl, a, T.C_Begin, dx, _, _, rfl, ha, T.c_Begin, T.n_Begin_mood, rfl, by show 3 ≤ sizeLine; decide, q⟩
  refine ⟨_, rfl, rfl, _, rfl, ite2 (fun c2 => ?_) (fun c2 => ?_)⟩
  · have e := str_eq_of c2
    subst e
    obtain ⟨y0, y1, y2, rfl⟩ : ∃ y0 y1 y2, ws = [y0, y1, y2] := by
      match ws, hl with
      | [y0, y1, y2], _ => exact ⟨y0, y1, y2, rfl⟩
    exact ⟨_, rfl, a, T.C_Send, dx, _, _, rfl, ha, T.c_Send, T.n_Send_mood, rfl, _, rfl, a, T.C_Send, dx, _, _, rfl, ha, T.c_Send, T.n_Send_service, rfl, _, rfl, a, T.C_Send, dx, _, _, rfl, ha, T.c_Send, T.n_Send_mark, rfl, by show 3 ≤ sizeLine; decide, q⟩
  refine ⟨_, rfl, rfl, _, rfl, ite2 (fun c3 => ?_) (fun c3 => ?_)⟩
  · have e := str_eq_of c3
    subst e
    obtain ⟨y0, y1, y2, y3, rfl⟩ : ∃ y0 y1 y2 y3, ws = [y0, y1, y2, y3] := by
      match ws, hl with
      | [y0, y1, y2, y3], _ => exact ⟨y0, y1, y2, y3, rfl⟩
    exact ⟨_, rfl, a, T.C_Back, dx, _, _, rfl, ha, T.c_Back, T.n_Back_mood, rfl, _, rfl, a, T.C_Back, dx, _, _, rfl, ha, T.c_Back, T.n_Back_service, rfl, _, rfl, a, T.C_Back, dx, _, _, rfl, ha, T.c_Back, T.n_Back_sign, rfl, _, rfl, a, T.C_Back, dx, _, _, rfl, ha, T.c_Back, T.n_Back_then, rfl, by show 4 ≤ sizeLine; decide, q⟩
  obtain rfl : so = "end" := by
    simp only [SORTS, List.mem_cons, List.not_mem_nil, or_false] at hs
    rcases hs with h | h | h | h
    · exact absurd h (str_ne_of c)
    · exact absurd h (str_ne_of c2)
    · exact absurd h (str_ne_of c3)
    · exact h
  obtain ⟨y0, y1, y2, y3, rfl⟩ : ∃ y0 y1 y2 y3, ws = [y0, y1, y2, y3] := by
    match ws, hl with
    | [y0, y1, y2, y3], _ => exact ⟨y0, y1, y2, y3, rfl⟩
  exact ⟨_, rfl, a, T.C_End, dx, _, _, rfl, ha, T.c_End, T.n_End_mood, rfl, _, rfl, a, T.C_End, dx, _, _, rfl, ha, T.c_End, T.n_End_outcome, rfl, _, rfl, a, T.C_End, dx, _, _, rfl, ha, T.c_End, T.n_End_sign, rfl, _, rfl, a, T.C_End, dx, _, _, rfl, ha, T.c_End, T.n_End_part, rfl, by show 4 ≤ sizeLine; decide, q⟩
theorem law2 (T : TxLaw2 K mg) : FnTop P w K mg base 6 T.f_law T.d_law P_law (spLaw K) := by
  have G_box : FnOk P w K mg base CX0 1 T.f_box T.d_box P_box (spBox K) := ok_box T.toTxDraw
  have G_names : FnOk P w K mg base CX0 3 T.f_names T.d_names P_names spNames := ok_names T.toTxNames
  have G_drawn_row : FnOk P w K mg base CX0 3 T.f_drawn_row T.d_drawn_row P_drawn_row spDrawn := ok_drawn T.toTxDrawn
  have G_row : FnOk P w K mg base (L2.CX P w) 5 T.f_row T.d_row P_row (spLawRow T.toTxRows) := ok_row T.toTxLawRow
  have G_told : FnOk P w K mg base CX0 1 T.f_told T.d_told P_told (spTold T.toTxRows) := ok_told T
  have G_row_text : FnOk P w K mg base CX0 1 T.f_row_text T.d_row_text P_row_text (spRowText K) := ok_row_text T
  have G_str := str_rows (P := P) (w := w) (base := base) T.toTxStr
  have G_eq := eq_rows (P := P) (w := w) (base := base) T.toTxStr
  refine top_of T.F_law sc_law (fun vs H Q E h => ?_) (fun cdv A outer s H vs Q gu hr h => ?_)
  · obtain ⟨a, ns, rfl, _⟩ := h
    rfl
  obtain ⟨a, ns, rfl, hS, h63, q⟩ := h
  refine ⟨_, (pss_cons (ps_for PassesOwn.never rfl (pi_range1 (by rfl) T.z_range (pa_cons (pe_callB (call_max2 rfl) (by rfl) T.z_max (by decide +kernel) (pa_cons pe_int (pa_cons (pe_callB (call_min2 rfl) (by rfl) T.z_min (by decide +kernel) (pa_cons pe_int (pa_cons (pe_callB (call_lenK K) (by rfl) T.z_len (by decide +kernel) (pa_cons (pv 0) pa_nil)) pa_nil))) pa_nil))) pa_nil)) (pg_name (i := 1) sc_law.nd rfl (Or.inl rfl)) (pss_cons (ps_set (i := 2) sc_law.nd rfl (Or.inr rfl) (pe_call G_box (hr.mono (by decide)) (by rfl) T.m_box T.F_box.kp T.b_box .nil pass0 (pa_cons (pv 0) (pa_cons (pv 1) pa_nil))))
      (pss_cons (ps_set (i := 3) sc_law.nd rfl (Or.inr rfl) (pe_call G_names (hr.mono (by decide)) (by rfl) T.m_names T.F_names.kp T.b_names .nil pass0 (pa_cons (pv 2) (pa_cons pe_int pa_nil))))
      (pss_cons (ps_set (i := 4) sc_law.nd rfl (Or.inr rfl) (pe_callTy (call_dictP rfl) (by rfl) T.z_dict (by decide +kernel) (pa_cons (pe_lc (own := [("_law_word", 5)]) (g := gName 5) (by rfl) sc_law.nd (pi_tupK K (pe_tup (pa_cons pe_str (pa_cons pe_str (pa_cons pe_str (pa_cons pe_str (pa_cons pe_str pa_nil))))))) (blkOk_by (own := [("_law_word", 5)]) (N := N_law) (sc := defScope s_law) (by decide +kernel)) (fun _ _ _ _ _ => (pg_name (i := 5) sc_law.nd rfl (Or.inl rfl))) (fun _ _ _ _ _ => pts_nil) (fun _ _ _ _ _ => (pe_tup (pa_cons (pv 5) (pa_cons (pv 3) pa_nil))))) pa_nil)))
      (pss_cons (ps_setLc (i := 6) (own := [("_law_sort", 7)]) (g := gName 7) (by rfl) sc_law.nd rfl rfl (sw_true rfl rfl rfl (by decide +kernel)) (pi_tupK K (pe_op op_repT (pe_tup (pa_cons pe_str (pa_cons pe_str (pa_cons pe_str (pa_cons pe_str pa_nil))))) pe_int)) (blkOk_by (own := [("_law_sort", 7)]) (N := N_law) (sc := defScope s_law) (by decide +kernel)) (fun _ _ _ _ _ => (pg_name (i := 7) sc_law.nd rfl (Or.inl rfl))) (fun _ _ _ _ _ => pts_nil) (fun _ _ _ _ _ => (pe_call G_drawn_row (hr.mono (by decide)) (by rfl) T.m_drawn_row T.F_drawn_row.kp T.b_drawn_row .nil pass0 (pa_cons (pv 2) (pa_cons (pv 7) (pa_cons (pv 4) pa_nil))))))
      (pss_one (ps_for PassesOwn.never rfl (pi_listK K (pv 6)) (pg_name (i := 8) sc_law.nd rfl (Or.inl rfl)) (pss_cons (ps_set (i := 9) sc_law.nd rfl (Or.inl rfl) (pe_call G_row (hr.mono (by decide)) (by rfl) T.m_row T.F_row.kp T.b_row .nil passL (pa_cons (pv 8) pa_nil)))
      (pss_cons (ps_if (PW.pt (pw_or (pt_cmpR op_ne (pe_callB (call_reprS K gu (room10 hr)) (by rfl) T.z_repr (by decide +kernel) (pa_cons (pe_call G_told (hr.mono (by decide)) (by rfl) T.m_told T.F_told.kp T.b_told .nil pass0 (pa_cons (pv 9) (pa_cons (pe_ix (ix_tupK K) (pv 8) pe_int (fun _ _ => rfl)) pa_nil))) pa_nil)) (pe_callB (call_reprS K gu (room10 hr)) (by rfl) T.z_repr (by decide +kernel) (pa_cons (pe_callTy (call_listK K) (by rfl) T.z_list (by decide +kernel) (pa_cons (pe_slice (sl_tupK K) (pv 8) (po_some pe_int) po_none) pa_nil)) pa_nil)) (nomark _)) (pw_or1 (pt_cmpR op_ne (pe_callTy (call_strO K G_str (hr.mono (by decide))) (by rfl) T.z_str (by decide +kernel) (pa_cons (pv 9) pa_nil)) (pe_call G_row_text (hr.mono (by decide)) (by rfl) T.m_row_text T.F_row_text.kp T.b_row_text .nil pass0 (pa_cons (pv 8) pa_nil)) (nomark _))))) (pss_one (ps_ret pe_bl)) pss_nil)
      (pss_cons (ps_if (PW.pt (pw_or (pt_not (pt_val (pe_callB (call_isiV K) (by rfl) T.z_isinstance (by decide +kernel) (pa_cons (pv 9) (pa_cons (pe_glob (v := .ref T.C_Row) (by rfl) T.m_Row rfl) pa_nil))))) (pw_or (pt_cmpR (op_neO K G_eq (hr.mono (by decide))) (pv 9) (pe_call G_row (hr.mono (by decide)) (by rfl) T.m_row T.F_row.kp T.b_row .nil passL (pa_cons (pv 8) pa_nil)) (nomark _)) (pw_or (pt_cmpR (op_eqO K G_eq (hr.mono (by decide))) (pv 9) (pe_callTy (call_strO K G_str (hr.mono (by decide))) (by rfl) T.z_str (by decide +kernel) (pa_cons (pv 9) pa_nil)) (nomark _)) (pw_or1 (pt_cmpR (op_eqO K G_eq (hr.mono (by decide))) (pv 9) (pv 8) (nomark _))))))) (pss_one (ps_ret pe_bl)) pss_nil)
      (pss_one (ps_for PassesOwn.never rfl (pi_listK K (pv 6)) (pg_name (i := 10) sc_law.nd rfl (Or.inl rfl)) (pss_one (ps_if (PW.pt (pw_or (pt_cmpR op_ne (pe_cmpR (op_eqO K G_eq (hr.mono (by decide))) (pv 9) (pe_call G_row (hr.mono (by decide)) (by rfl) T.m_row T.F_row.kp T.b_row .nil passL (pa_cons (pv 10) pa_nil)) (nomark _)) (pe_cmpR (op_eqDK K hr.units) (pv 8) (pv 10) (nomark _)) (nomark _)) (pw_or1 (pt_cmpR op_ne (pe_cmpR (op_neO K G_eq (hr.mono (by decide))) (pv 9) (pe_call G_row (hr.mono (by decide)) (by rfl) T.m_row T.F_row.kp T.b_row .nil passL (pa_cons (pv 10) pa_nil)) (nomark _)) (pe_cmpR (op_neDK K hr.units) (pv 8) (pv 10) (nomark _)) (nomark _))))) (pss_one (ps_ret pe_bl)) pss_nil))))))))))))))
      (pss_one (ps_ret pe_bl))), ?_⟩
  obtain ⟨mt1, mt2⟩ := many_turns (n := 5) (l := (ns.map V.int).length) (by decide) (by decide)
  refine ⟨_, rfl, _, _, rfl, .inl hS, _, _, rfl, _, _, rfl, _, rfl, by omega, by omega, for_range (lo := 0) (fun i σ H' => ∃ (v1 v2 v3 v4 v5 v6 v7 v8 v9 v10 : Option V), σ = [some (.ref a), v1, v2, v3, v4, v5, v6, v7, v8, v9, v10] ∧ Same H H') ⟨none, none, none, none, none, none, none, none, none, none, rfl, Same.refl _⟩ ?_ ?_⟩
  · rintro i0 σ H1 hi ⟨v1, v2, v3, v4, v5, v6, v7, v8, v9, v10, rfl, s1⟩
    refine ⟨_, rfl, _, rfl, a, ns, _, rfl, s1.seq hS, h63, by omega, fun b bw bs hb => ?_⟩
    refine ⟨_, rfl, b, 4, rfl, gr_box, by decide, by decide, fun nl ys H2 g2 nl0 aN ylen ynd ynm => ?_⟩
    refine ⟨by show 5 ≤ sizeLine; decide, fun tp htp => ⟨tp, rfl, ⟨POOLW.map V.str, SqT.of upd_same⟩, fun D hD => ?_⟩⟩
    have g3 := g2.new htp (.tup (POOLW.map V.str))
    have r3 := gr_self g3
    have atp : At b _ tp (.tup (POOLW.map V.str)) := .mk_new g2 htp _
    have nDb : D ≠ b := g3.ne_new hD
    refine lc_tup (K := K) (a := tp) (xs := POOLW.map V.str) (fun i H' => Gr b (upd H2 tp (.tup (POOLW.map V.str))) H' ∧ ∃ ps : List Addr, H' D = some (.lst (ps.map V.ref)) ∧ ps.length = i ∧ Paired (fun p w => H' p = some (.tup [.str w, .ref nl]) ∧ p ≠ b ∧ p ≠ D) ps (POOLW.take i))
      ⟨r3.new hD _, [], upd_same, rfl, .nil⟩ (fun i H' _ h => (atp.gr h.1).t) ?_ ?_
    · rintro j x H4 hx ⟨g4, ps, hD4, pl, prs⟩
      rw [List.getElem?_map] at hx
      obtain ⟨w1, hw1, rfl⟩ : ∃ w1, POOLW[j]? = some w1 ∧ V.str w1 = x := by
        cases e : POOLW[j]? with
        | none => rw [e] at hx; cases hx
        | some z => rw [e] at hx; cases hx; exact ⟨z, rfl, rfl⟩
      have j5 : j < 5 := (List.getElem?_eq_some_iff.mp hw1).1
      refine ⟨rfl, ?_⟩
      refine ⟨_, rfl, _, rfl, by show 2 ≤ sizeLine; decide, fun t ht => ?_⟩
      have nt : D ≠ t := ne_of_none hD4 ht
      have ntb := g4.ne_new ht
      refine ⟨ps.map V.ref, by rw [upd_ne nt]; exact hD4, small1000 (by simp; omega), (g4.new ht _).mut hD nDb _, ps ++ [t], by rw [upd_same, List.map_append]; rfl, by rw [List.length_append, pl]; rfl, ?_⟩
      rw [List.take_add_one, hw1]
      refine paired_snoc (paired_imp (fun p w h => ⟨?_, h.2⟩) prs) ⟨by rw [upd_ne nt.symm, upd_same], ntb, nt.symm⟩
      rw [upd_ne h.2.2, upd_ne (ne_of_none h.1 ht)]
      exact h.1
    · rintro H4 ⟨g4, ps, hD4, pl, prs⟩
      refine ⟨D, ps, POOLW.map fun x => (Sum.inr x, .ref nl), rfl, SqL.of hD4, ?_, fun pd hpd => ?_⟩
      · have pr5 : Paired (fun (p : Addr) w => H4 p = some (.tup [.str w, .ref nl]) ∧ p ≠ b ∧ p ≠ D) ps POOLW := prs
        exact paired_map (S := fun (p : Addr) (kv : Key × V) => SqT K H4 p [kV kv.1, kv.2]) (f := fun x => (Sum.inr x, .ref nl)) (fun p w h => SqT.of h.1) pr5
      have g5 := g4.new hpd (.dK (mergeK [] (POOLW.map fun x => (Sum.inr x, .ref nl))))
      have aN5 : At b _ nl (.lst (ys.map V.str)) := ((aN.new (u := .tup (POOLW.map V.str)) htp).gr g4).new (u := .dK (mergeK [] (POOLW.map fun x => (Sum.inr x, .ref nl)))) hpd
      have pools : Pools b _ pd (fun _ => ys) := ⟨⟨_, .mk_new g4 hpd _, fun x hx => ⟨nl, pool_at x hx nl, aN5⟩⟩, fun x hx => ⟨fun z => by rw [z] at ylen; exact absurd ylen (by decide), by omega, ynm⟩⟩
      generalize upd H4 pd (.dK (mergeK [] (POOLW.map fun x => (Sum.inr x, .ref nl)))) = H5 at g5 aN5 pools
      have r5 := gr_self g5
      have s5 : ∀ H', Gr b H5 H' → Same H H' := fun H' g => s1.trans (gr_same (Same.refl _) hb ((g2.new htp _).trans (g5.trans g)))
      refine ⟨by show 4 ≤ sizeLine; decide, fun t4 ht4 => ⟨t4, 3, SORTS.map V.str, rfl, rfl, SqT.of upd_same, by simp [SORTS], by decide, by decide, by decide, fun t12 ht12 => ?_⟩⟩
      have q4 := r5.new ht4 (.tup (SORTS.map V.str))
      have q12 := q4.new ht12 (.tup (S12.map V.str))
      have at12 : At b _ t12 (.tup (S12.map V.str)) := .mk_new q4 ht12 _
      have pools2 := (pools.gr q4).gr ((gr_self q4).new ht12 (.tup (S12.map V.str)))
      refine ⟨t12, rfl, ⟨S12.map V.str, SqT.of upd_same⟩, fun D2 hD2 => ?_⟩
      have nD2 : D2 ≠ b := q12.ne_new hD2
      refine lc_tup (K := K) (a := t12) (xs := S12.map V.str) (fun i H' => Gr b (upd (upd H5 t4 (.tup (SORTS.map V.str))) t12 (.tup (S12.map V.str))) H' ∧ ∃ (ps : List Addr) (rs : List (Str × List Str)), H' D2 = some (.lst (ps.map V.ref)) ∧ ps.length = i ∧
        Paired (fun p r => H' p = some (.tup (.str r.1 :: r.2.map V.str)) ∧ p ≠ b ∧ p ≠ D2) ps rs ∧ ∀ r ∈ rs, GoodR r)
        ⟨(gr_self q12).new hD2 _, [], [], upd_same, rfl, .nil, fun _ h => nomatch h⟩ (fun i H' _ h => (at12.gr h.1).t) ?_ ?_
      · rintro j x H6 hx ⟨g6, ps, rs, hD6, pl, prs, good⟩
        rw [List.getElem?_map] at hx
        obtain ⟨w1, hw1, rfl⟩ : ∃ w1, S12[j]? = some w1 ∧ V.str w1 = x := by
          cases e : S12[j]? with
          | none => rw [e] at hx; cases hx
          | some z => rw [e] at hx; cases hx; exact ⟨z, rfl, rfl⟩
        have j12 : j < 12 := (List.getElem?_eq_some_iff.mp hw1).1
        refine ⟨rfl, ?_⟩
        refine ⟨_, rfl, _, rfl, _, rfl, b, pd, w1, fun _ => ys, rfl, gr_self g6, S12_so w1 (List.mem_of_getElem? hw1), pools2.gr g6, fun p ws H7 g7 hp aP pr => ?_⟩
        have hD7 := g7.keep D2 _ nD2 hD6
        refine ⟨ps.map V.ref, hD7, small1000 (by simp; omega), (g6.trans g7).mut hD2 nD2 _, ps ++ [p], rs ++ [(w1, ws)], by rw [upd_same, List.map_append]; rfl, by rw [List.length_append, pl]; rfl, ?_, fun r hr => ?_⟩
        · have npD : p ≠ D2 := fun z => by rw [z, hD6] at hp; cases hp
          refine paired_snoc (paired_imp (fun p r h => ⟨?_, h.2⟩) prs) ⟨by rw [upd_ne npD]; exact aP.at_, aP.ne, npD⟩
          rw [upd_ne h.2.2]
          exact g7.keep _ _ h.2.1 h.1
        · rcases List.mem_append.mp hr with hr | hr
          · exact good r hr
          · rw [List.mem_singleton.mp hr]
            exact ⟨S12_so w1 (List.mem_of_getElem? hw1), pr⟩
      · rintro H6 ⟨g6, ps, rs, hD6, pl, prs, good⟩
        have s6 : Same H H6 := s5 H6 (q12.trans g6)
        refine ⟨_, rfl, D2, rfl, ⟨_, SqL.of hD6⟩, for_list (K := K) (a := D2) (xs := ps.map V.ref) (fun i σ H' => ∃ (v5 v7 v8 v9 v10 : Option V), σ = [some (.ref a), some (.int (0 + (i0 : Int))), some (.ref b), some (.ref nl), some (.ref pd), v5, some (.ref D2), v7, v8, v9, v10] ∧ Same H6 H') ⟨_, _, _, _, _, rfl, Same.refl _⟩
          (fun i σ H' _ ⟨_, _, _, _, _, _, k⟩ => SqL.of (k _ _ hD6)) ?_ ?_⟩
        · rintro i x σ H7 hx ⟨v5, v7, v8, v9, v10, rfl, s7⟩
          rw [List.getElem?_map] at hx
          obtain ⟨p, hp1, rfl⟩ : ∃ p, ps[i]? = some p ∧ V.ref p = x := by
            cases e : ps[i]? with
            | none => rw [e] at hx; cases hx
            | some z => rw [e] at hx; cases hx; exact ⟨z, rfl, rfl⟩
          obtain ⟨⟨so, ws⟩, hr1, hp6, _, _⟩ := paired_get prs hp1
          have g := good _ (List.mem_of_getElem? hr1)
          have gl : ws.length = (fnOf so).length := g.len2
          have gw : ∀ y ∈ ws, okW y = true := g.okW
          have gso : so ∈ SORTS := g.so
          have hp7 := s7 _ _ hp6
          have w34 : ws.length = 3 ∨ ws.length = 4 := by
            have e : ws.length = (wsOf so).length := g.len
            rw [e]
            exact ws_34 so gso
          have wl10 : ws.length ≤ 10 := by omega
          have wne : ws ≠ [] := fun z => by rw [z] at w34; simp at w34
          have okr : ∀ y ∈ ws, okS y = true ∧ y.length ≤ 100 := fun y hy => ⟨okW_S (gw y hy), Nat.le_trans (okW_l (gw y hy)) (by decide)⟩
          refine ⟨_, rfl, p, so, ws.map V.str, ws.map PyData.str, rfl, .inr (SqT.of hp7), by rw [List.length_map]; exact gl, dvs_strs gw, fun m dx H8 e8 s8 n8 hm => ?_, fun wd d H' e _ _ _ => by rw [show wrOf so (ws.map PyData.str) = none from g.wr] at e; cases e⟩
          have RA : RowAt T.toTxRows H8 m so ws := ⟨⟨dx, hm⟩, gl, fun y hy => okW_l (gw y hy), gso⟩
          have hp8 := s8 _ _ hp7
          refine ⟨_, rfl, _, rfl, p, _, 0, _, rfl, rfl, SqT.of hp8, atI_nat (j := 0) rfl, m, so, ws, rfl, RA, fun t1 ht1 => ⟨t1, ws, rfl, SqL.of upd_same, wne, by omega, okr, ?_⟩⟩
          have u1 := same_upd ht1 (.lst (ws.map V.str))
          refine ⟨_, rfl, 1, rfl, p, _, rfl, SqT.of (u1 _ _ hp8), cut_part, fun t2 ht2 => ⟨t2, _, rfl, .inr (SqT.of upd_same), fun t3 ht3 => ⟨t3, ws, rfl, SqL.of (by rw [upd_same, cut_one]), wne, by omega, okr, rfl, _, rfl, ?_⟩⟩⟩
          have u3 := (u1.trans (same_upd ht2 (.tup (cutV (.str so :: ws.map V.str) (some 1) none)))).trans (same_upd ht3 (.lst (cutV (.str so :: ws.map V.str) (some 1) none)))
          generalize upd (upd (upd H8 t1 (.lst (ws.map V.str))) t2 (.tup (cutV (.str so :: ws.map V.str) (some 1) none))) t3 (.lst (cutV (.str so :: ws.map V.str) (some 1) none)) = H9 at u3
          refine ite2 (fun c => absurd c (by simp)) (fun _ => ?_)
          have RA9 := RA.same u3
          have hp9 := u3 _ _ hp8
          have hm9 := u3 _ _ hm
          refine ⟨_, rfl, m, so, dx, _, rfl, gso, hm9, m, ws, rfl, RA9, _, rfl, _, rfl, p, so :: ws, rfl, SqT.of hp9, by simp; omega, fun y hy => ?_, rfl, _, rfl, ?_⟩
          · rcases List.mem_cons.mp hy with hy | hy
            · rw [hy]
              exact okW_l (so_okW so gso)
            · exact okW_l (gw y hy)
          refine ite2 (fun c => absurd c (by simp [rowTxt])) (fun _ => ?_)
          refine ⟨_, rfl, .ref m, .ref T.C_Row, .ref (clsOf T.toTxRows so), .ref T.C_Row, true, rfl, .own _, ty_row T.toTxStr gso hm9, kr_row T gso, _, rfl, ?_⟩
          refine ite2 (fun c => absurd c (by simp)) (fun _ => ?_)
          refine ⟨_, rfl, _, rfl, p, so, ws.map V.str, ws.map PyData.str, rfl, .inr (SqT.of hp9), by rw [List.length_map]; exact gl, dvs_strs gw, fun m2 dx2 H10 e10 s10 n10 hm2 => ?_, fun wd d H' e _ _ _ => by rw [show wrOf so (ws.map PyData.str) = none from g.wr] at e; cases e⟩
          have RA10 := RA9.same s10
          have hp10 := s10 _ _ hp9
          have hm10 := s10 _ _ hm9
          have RB10 : RowAt T.toTxRows H10 m2 so ws := ⟨⟨dx2, hm2⟩, gl, fun y hy => okW_l (gw y hy), gso⟩
          obtain ⟨k1, k2, k3, k4⟩ := kst_row T.toTxStr gso
          refine ⟨m, so, dx, _, _, rfl, gso, hm10, ty_row T.toTxStr gso hm2, nf_row T.toTxStr gso gso, m, ws, _, rfl, RA10, .inl ⟨m2, so, ws, rfl, RB10, _, rfl, _, rfl, ?_⟩⟩
          refine ite2 (fun c => absurd c (by simp)) (fun _ => ?_)
          refine ⟨_, rfl, _, rfl, m, so, dx, _, rfl, gso, hm10, m, ws, rfl, RA10, _, rfl, m, so, dx, _, .type "str", rfl, gso, hm10, .base (.str _), k3, m, ws, _, rfl, RA10, .inr ⟨.type "str", .base (.str _), k1, _, rfl, _, rfl, ?_⟩⟩
          refine ite2 (fun c => absurd c (by simp)) (fun _ => ?_)
          refine ⟨_, rfl, _, rfl, m, so, dx, _, .type "tuple", rfl, gso, hm10, .base (.tup hp10), k4, m, ws, _, rfl, RA10, .inr ⟨.type "tuple", .base (.tup hp10), k2, _, rfl, _, rfl, ?_⟩⟩
          refine ite2 (fun c => absurd c (by simp)) (fun _ => ?_)
          have s610 : Same H6 H10 := (s7.trans s8).trans (u3.trans s10)
          have hD10 := s610 _ _ hD6
          refine ⟨_, rfl, D2, rfl, ⟨_, SqL.of hD10⟩, for_list (K := K) (a := D2) (xs := ps.map V.ref) (fun i σ H' => ∃ (v5 v7 v10 : Option V), σ = [some (.ref a), some (.int (0 + (i0 : Int))), some (.ref b), some (.ref nl), some (.ref pd), v5, some (.ref D2), v7, some (.ref p), some (.ref m), v10] ∧ Same H10 H') ⟨_, _, _, rfl, Same.refl _⟩
            (fun i σ H' _ ⟨_, _, _, _, k⟩ => SqL.of (k _ _ hD10)) ?_ ?_⟩
          · rintro i2 x σ H11 hx2 ⟨v5, v7, v10, rfl, s11⟩
            rw [List.getElem?_map] at hx2
            obtain ⟨p2, hp2, rfl⟩ : ∃ p2, ps[i2]? = some p2 ∧ V.ref p2 = x := by
              cases e : ps[i2]? with
              | none => rw [e] at hx2; cases hx2
              | some z => rw [e] at hx2; cases hx2; exact ⟨z, rfl, rfl⟩
            obtain ⟨⟨so2, ws2⟩, hr2, hq6, _, _⟩ := paired_get prs hp2
            have g2' := good _ (List.mem_of_getElem? hr2)
            have gl2 : ws2.length = (fnOf so2).length := g2'.len2
            have gw2 : ∀ y ∈ ws2, okW y = true := g2'.okW
            have gso2 : so2 ∈ SORTS := g2'.so
            have hq11 := s11 _ _ (s610 _ _ hq6)
            have same := row_eq g g2'
            have err2 : ∀ wd, wrOf so2 (ws2.map PyData.str) = some wd → False := fun wd e => by
              rw [show wrOf so2 (ws2.map PyData.str) = none from g2'.wr] at e
              cases e
            have all1 : (so :: ws).all PyData.strOk = true := List.all_eq_true.mpr fun y hy => (Bool.and_eq_true_iff.mp (okW_S (by
              rcases List.mem_cons.mp hy with hy | hy
              · rw [hy]; exact so_okW so gso
              · exact gw y hy))).2
            have all2 : (so2 :: ws2).all PyData.strOk = true := List.all_eq_true.mpr fun y hy => (Bool.and_eq_true_iff.mp (okW_S (by
              rcases List.mem_cons.mp hy with hy | hy
              · rw [hy]; exact so_okW so2 gso2
              · exact gw2 y hy))).2
            refine ⟨_, rfl, _, rfl, p2, so2, ws2.map V.str, ws2.map PyData.str, rfl, .inr (SqT.of hq11), by rw [List.length_map]; exact gl2, dvs_strs gw2, fun m3 dx3 H12 e12 s12 n12 hm3 => ?_, fun wd d H' e _ _ _ => (err2 wd e).elim⟩
            have RA12 := RA10.same (s11.trans s12)
            have hm12 := (s11.trans s12) _ _ hm10
            have hp12 := (s11.trans s12) _ _ hp10
            have hq12 := s12 _ _ hq11
            have RC12 : RowAt T.toTxRows H12 m3 so2 ws2 := ⟨⟨dx3, hm3⟩, gl2, fun y hy => okW_l (gw2 y hy), gso2⟩
            refine ⟨m, so, dx, _, _, rfl, gso, hm12, ty_row T.toTxStr gso2 hm3, nf_row T.toTxStr gso2 gso, m, ws, _, rfl, RA12, .inl ⟨m3, so2, ws2, rfl, RC12, _, rfl, ?_⟩⟩
            refine ⟨_, rfl, _, rfl, .tuple ((so :: ws).map PyData.str), .tuple ((so2 :: ws2).map PyData.str), .tup (SqT.of hp12) (Dp.all_strs (so :: ws)), .tup (SqT.of hq12) (Dp.all_strs (so2 :: ws2)), shaped_strs all1, shaped_strs all2, rfl, _, rfl, ?_⟩
            refine ite2 (fun c => ?_) (fun _ => ?_)
            · rw [eqv_strs, ← same] at c
              simp at c
            refine ⟨_, rfl, _, rfl, p2, so2, ws2.map V.str, ws2.map PyData.str, rfl, .inr (SqT.of hq12), by rw [List.length_map]; exact gl2, dvs_strs gw2, fun m4 dx4 H13 e13 s13 n13 hm4 => ?_, fun wd d H' e _ _ _ => (err2 wd e).elim⟩
            have RA13 := RA12.same s13
            have RD13 : RowAt T.toTxRows H13 m4 so2 ws2 := ⟨⟨dx4, hm4⟩, gl2, fun y hy => okW_l (gw2 y hy), gso2⟩
            refine ⟨m, so, dx, _, _, rfl, gso, s13 _ _ hm12, ty_row T.toTxStr gso2 hm4, nf_row T.toTxStr gso2 gso, m, ws, _, rfl, RA13, .inl ⟨m4, so2, ws2, rfl, RD13, _, rfl, ?_⟩⟩
            refine ⟨_, rfl, _, rfl, .tuple ((so :: ws).map PyData.str), .tuple ((so2 :: ws2).map PyData.str), .tup (SqT.of (s13 _ _ hp12)) (Dp.all_strs (so :: ws)), .tup (SqT.of (s13 _ _ hq12)) (Dp.all_strs (so2 :: ws2)), shaped_strs all1, shaped_strs all2, rfl, _, rfl, ?_⟩
            refine ite2 (fun c => ?_) (fun _ => ?_)
            · rw [eqv_strs, ← same] at c
              simp at c
            exact ⟨_, _, _, rfl, (s11.trans s12).trans s13⟩
          · rintro σ H11 ⟨v5, v7, v10, rfl, s11⟩
            exact ⟨_, _, _, _, _, rfl, s610.trans s11⟩
        · rintro σ H7 ⟨v5, v7, v8, v9, v10, rfl, s7⟩
          exact ⟨_, _, _, _, _, _, _, _, _, _, rfl, s6.trans s7⟩
  · rintro σ H1 ⟨v1, v2, v3, v4, v5, v6, v7, v8, v9, v10, rfl, s1⟩
    exact q _
end
end My

/-! ## The end: what the top has written, the theorem -/
namespace My
open PySem L2
theorem kit_yes {K : PySem.W.Frag} {t : Value} {C : Addr} (h1 : PySem.W.isClsIn K C = true) (h2 : PySem.W.typeIn K (.ref C) = some (.type "type")) (h3 : PySem.W.subIn K t (.ref C) = some true) : PySem.W.kitOne K t (.ref C) = some true := by
  have e : ((PySem.W.clsIn K C).isSome && PySem.W.typeIn K (.ref C) == some (.type "type")) = true := by
    have h1' : (PySem.W.clsIn K C).isSome = true := h1
    rw [h1', h2] <;> rfl
  unfold PySem.W.kitOne
  split
  · rfl
  · show (if ((PySem.W.clsIn K C).isSome && PySem.W.typeIn K (.ref C) == some (.type "type")) = true then PySem.W.subIn K t (.ref C) else none) = some true
    rw [if_pos e]
    exact h3
theorem kit_no {K : PySem.W.Frag} {A C : Addr} {b : Bool} (h1 : PySem.W.isClsIn K C = true) (h2 : PySem.W.typeIn K (.ref C) = some (.type "type")) (h3 : PySem.W.subIn K (.ref A) (.ref C) = some b) (n : A ≠ C) : PySem.W.kitOne K (.ref A) (.ref C) = some b := by
  have e : ((PySem.W.clsIn K C).isSome && PySem.W.typeIn K (.ref C) == some (.type "type")) = true := by
    have h1' : (PySem.W.clsIn K C).isSome = true := h1
    rw [h1', h2] <;> rfl
  unfold PySem.W.kitOne
  rw [if_neg (fun z => n (by have z2 := beq_iff_eq.mp z; cases z2; rfl))]
  show (if ((PySem.W.clsIn K C).isSome && PySem.W.typeIn K (.ref C) == some (.type "type")) = true then PySem.W.subIn K (.ref A) (.ref C) else none) = some b
  rw [if_pos e]
  exact h3
theorem kit_tyno {K : PySem.W.Frag} {A : String} {C : Addr} {b : Bool} (h1 : PySem.W.isClsIn K C = true) (h2 : PySem.W.typeIn K (.ref C) = some (.type "type")) (h3 : PySem.W.subIn K (.type A) (.ref C) = some b) : PySem.W.kitOne K (.type A) (.ref C) = some b := by
  have e : ((PySem.W.clsIn K C).isSome && PySem.W.typeIn K (.ref C) == some (.type "type")) = true := by
    have h1' : (PySem.W.clsIn K C).isSome = true := h1
    rw [h1', h2] <;> rfl
  unfold PySem.W.kitOne
  rw [if_neg (fun z => by have z2 := beq_iff_eq.mp z; cases z2)]
  show (if ((PySem.W.clsIn K C).isSome && PySem.W.typeIn K (.ref C) == some (.type "type")) = true then PySem.W.subIn K (.type A) (.ref C) else none) = some b
  rw [if_pos e]
  exact h3
theorem exm_mk {K : PySem.W.Frag} {t : Value} {C : Addr} {b : Bool} (h0 : PySem.W.subIn K (.ref C) (.type "BaseException") = some true) (h1 : PySem.W.isClsIn K C = true) (h2 : PySem.W.typeIn K (.ref C) = some (.type "type")) (h3 : PySem.W.subIn K t (.ref C) = some b) : PySem.W.exmOne K t (.ref C) = some b := by
  have e : ((PySem.W.clsIn K C).isSome && PySem.W.typeIn K (.ref C) == some (.type "type")) = true := by
    have h1' : (PySem.W.clsIn K C).isSome = true := h1
    rw [h1', h2] <;> rfl
  have e0 : (PySem.W.subIn K (.ref C) (.type "BaseException") == some true) = true := by rw [h0] <;> rfl
  unfold PySem.W.exmOne
  rw [if_pos e0]
  show (if ((PySem.W.clsIn K C).isSome && PySem.W.typeIn K (.ref C) == some (.type "type")) = true then PySem.W.subIn K t (.ref C) else none) = some b
  rw [if_pos e]
  exact h3
theorem ve_one {C : Addr} : PySem.HandSPX.refsVE [.ref C, .type "ValueError", .type "Exception", .type "BaseException", .type "object"] = true := by
  show PySem.HandSPX.refsVE [.type "ValueError", .type "Exception", .type "BaseException", .type "object"] = true
  decide +kernel
theorem all_mk {P : Program} {w : World} {K : PySem.W.Frag} {h : Heap} {mg : Str → Option Value} {fa : Addr} (X : K.In h) (G : h.Ns mainGlobals mg) (hfa : mg "law" = some (.ref fa))
    {oc_is_name kV_is_name dc_is_name pm_is_name cd_is_name ct_is_name oc_is_name_or kV_is_name_or dc_is_name_or pm_is_name_or cd_is_name_or ct_is_name_or oc_InvalidRow_init kV_InvalidRow_init dc_InvalidRow_init pm_InvalidRow_init cd_InvalidRow_init ct_InvalidRow_init oc_Begin_init kV_Begin_init dc_Begin_init pm_Begin_init cd_Begin_init ct_Begin_init oc_Send_init kV_Send_init dc_Send_init pm_Send_init cd_Send_init ct_Send_init oc_Back_init kV_Back_init dc_Back_init pm_Back_init cd_Back_init ct_Back_init oc_End_init kV_End_init dc_End_init pm_End_init cd_End_init ct_End_init oc_row kV_row dc_row pm_row cd_row ct_row oc_Begin_str kV_Begin_str dc_Begin_str pm_Begin_str cd_Begin_str ct_Begin_str oc_Begin_eq kV_Begin_eq dc_Begin_eq pm_Begin_eq cd_Begin_eq ct_Begin_eq oc_Send_str kV_Send_str dc_Send_str pm_Send_str cd_Send_str ct_Send_str oc_Send_eq kV_Send_eq dc_Send_eq pm_Send_eq cd_Send_eq ct_Send_eq oc_Back_str kV_Back_str dc_Back_str pm_Back_str cd_Back_str ct_Back_str oc_Back_eq kV_Back_eq dc_Back_eq pm_Back_eq cd_Back_eq ct_Back_eq oc_End_str kV_End_str dc_End_str pm_End_str cd_End_str ct_End_str oc_End_eq kV_End_eq dc_End_eq pm_End_eq cd_End_eq ct_End_eq oc_take kV_take dc_take pm_take cd_take ct_take oc_box kV_box dc_box pm_box cd_box ct_box oc_pick kV_pick dc_pick pm_pick cd_pick ct_pick oc_mixed kV_mixed dc_mixed pm_mixed cd_mixed ct_mixed oc_names kV_names dc_names pm_names cd_names ct_names oc_words kV_words dc_words pm_words cd_words ct_words oc_drawn_row kV_drawn_row dc_drawn_row pm_drawn_row cd_drawn_row ct_drawn_row oc_told kV_told dc_told pm_told cd_told ct_told oc_row_text kV_row_text dc_row_text pm_row_text cd_row_text ct_row_text oc_law kV_law dc_law pm_law cd_law ct_law : Value}
    {od_is_name an_is_name od_is_name_or an_is_name_or od_InvalidRow_init an_InvalidRow_init od_Begin_init an_Begin_init od_Send_init an_Send_init od_Back_init an_Back_init od_End_init an_End_init od_row an_row od_Begin_str an_Begin_str od_Begin_eq an_Begin_eq od_Send_str an_Send_str od_Send_eq an_Send_eq od_Back_str an_Back_str od_Back_eq an_Back_eq od_End_str an_End_str od_End_eq an_End_eq od_take an_take od_box an_box od_pick an_pick od_mixed an_mixed od_names an_names od_words an_words od_drawn_row an_drawn_row od_told an_told od_row_text an_row_text od_law an_law dt_aNO dd_C_InvalidRow : Option Addr}
    {sl_is_name sl_is_name_or sl_InvalidRow_init sl_Begin_init sl_Send_init sl_Back_init sl_End_init sl_row sl_Begin_str sl_Begin_eq sl_Send_str sl_Send_eq sl_Back_str sl_Back_eq sl_End_str sl_End_eq sl_take sl_box sl_pick sl_mixed sl_names sl_words sl_drawn_row sl_told sl_row_text sl_law so_aNO : Array (Option Value)}
    {letT w0_aNO w1_aNO w2_aNO w3_aNO w4_aNO w5_aNO w6_aNO w7_aNO w8_aNO w9_aNO : Tok}
    {aNO f_is_name f_is_name_or C_InvalidRow N_C_InvalidRow bC_C_InvalidRow f_InvalidRow_init C_Begin f_Begin_init C_Send f_Send_init C_Back f_Back_init C_End f_End_init f_row f_Begin_str f_Begin_eq f_Send_str f_Send_eq f_Back_str f_Back_eq f_End_str f_End_eq f_take f_box f_pick f_mixed f_names f_words f_drawn_row C_Row f_told f_row_text f_law : Addr}
    {sz_aNO : Nat}
    {nm_C_InvalidRow qn_C_InvalidRow : Str}
    {bs_C_InvalidRow sb_C_InvalidRow : List Value}
    {sn_C_InvalidRow : List Str}
    {ab_C_InvalidRow : Bool}
    {co_C_InvalidRow : Option Bool}
    {m0_C_InvalidRow m1_C_InvalidRow m2_C_InvalidRow m3_C_InvalidRow m5_C_InvalidRow : Option Value}
    (a_law : PySem.W.nsIn K mainGlobals "law" = some (some (.ref f_law)))
    (a_LETTERS : PySem.W.nsIn K mainGlobals "LETTERS" = some (some (.str ABC letT)))
    (a_NO_NAMES : PySem.W.nsIn K mainGlobals "NO_NAMES" = some (some (.ref aNO)))
    (a_is_name : PySem.W.nsIn K mainGlobals "is_name" = some (some (.ref f_is_name)))
    (a_is_name_or : PySem.W.nsIn K mainGlobals "is_name_or" = some (some (.ref f_is_name_or)))
    (a_InvalidRow : PySem.W.nsIn K mainGlobals "InvalidRow" = some (some (.ref C_InvalidRow)))
    (a_Begin : PySem.W.nsIn K mainGlobals "Begin" = some (some (.ref C_Begin)))
    (a_Send : PySem.W.nsIn K mainGlobals "Send" = some (some (.ref C_Send)))
    (a_Back : PySem.W.nsIn K mainGlobals "Back" = some (some (.ref C_Back)))
    (a_End : PySem.W.nsIn K mainGlobals "End" = some (some (.ref C_End)))
    (a__law_row : PySem.W.nsIn K mainGlobals "_law_row" = some (some (.ref f_row)))
    (a__law_take : PySem.W.nsIn K mainGlobals "_law_take" = some (some (.ref f_take)))
    (a__law_box : PySem.W.nsIn K mainGlobals "_law_box" = some (some (.ref f_box)))
    (a__law_pick : PySem.W.nsIn K mainGlobals "_law_pick" = some (some (.ref f_pick)))
    (a__law_mixed : PySem.W.nsIn K mainGlobals "_law_mixed" = some (some (.ref f_mixed)))
    (a__law_names : PySem.W.nsIn K mainGlobals "_law_names" = some (some (.ref f_names)))
    (a__law_words : PySem.W.nsIn K mainGlobals "_law_words" = some (some (.ref f_words)))
    (a__law_drawn_row : PySem.W.nsIn K mainGlobals "_law_drawn_row" = some (some (.ref f_drawn_row)))
    (a_Row : PySem.W.nsIn K mainGlobals "Row" = some (some (.ref C_Row)))
    (a__law_told : PySem.W.nsIn K mainGlobals "_law_told" = some (some (.ref f_told)))
    (a__law_row_text : PySem.W.nsIn K mainGlobals "_law_row_text" = some (some (.ref f_row_text)))
    (in_f_InvalidRow_init : PySem.W.findIn K (.ref C_InvalidRow) "__init__" = some (some (.ref f_InvalidRow_init)))
    (in_f_Begin_init : PySem.W.findIn K (.ref C_Begin) "__init__" = some (some (.ref f_Begin_init)))
    (in_f_Send_init : PySem.W.findIn K (.ref C_Send) "__init__" = some (some (.ref f_Send_init)))
    (in_f_Back_init : PySem.W.findIn K (.ref C_Back) "__init__" = some (some (.ref f_Back_init)))
    (in_f_End_init : PySem.W.findIn K (.ref C_End) "__init__" = some (some (.ref f_End_init)))
    (q_si_Begin : PySem.W.findIn K (.ref C_Begin) "__str__" = some (some (.ref f_Begin_str)))
    (q_ei_Begin : PySem.W.findIn K (.ref C_Begin) "__eq__" = some (some (.ref f_Begin_eq)))
    (q_si_Send : PySem.W.findIn K (.ref C_Send) "__str__" = some (some (.ref f_Send_str)))
    (q_ei_Send : PySem.W.findIn K (.ref C_Send) "__eq__" = some (some (.ref f_Send_eq)))
    (q_si_Back : PySem.W.findIn K (.ref C_Back) "__str__" = some (some (.ref f_Back_str)))
    (q_ei_Back : PySem.W.findIn K (.ref C_Back) "__eq__" = some (some (.ref f_Back_eq)))
    (q_si_End : PySem.W.findIn K (.ref C_End) "__str__" = some (some (.ref f_End_str)))
    (q_ei_End : PySem.W.findIn K (.ref C_End) "__eq__" = some (some (.ref f_End_eq)))
    (l_is_name : K.lookup f_is_name = some ⟨oc_is_name, od_is_name, .func (PySem.W.fnOf "is_name" "is_name" (defArgs s_is_name) (defBody s_is_name) (defScope s_is_name) .none kV_is_name dc_is_name pm_is_name an_is_name cd_is_name ct_is_name), sl_is_name⟩)
    (l_is_name_or : K.lookup f_is_name_or = some ⟨oc_is_name_or, od_is_name_or, .func (PySem.W.fnOf "is_name_or" "is_name_or" (defArgs s_is_name_or) (defBody s_is_name_or) (defScope s_is_name_or) .none kV_is_name_or dc_is_name_or pm_is_name_or an_is_name_or cd_is_name_or ct_is_name_or), sl_is_name_or⟩)
    (l_InvalidRow_init : K.lookup f_InvalidRow_init = some ⟨oc_InvalidRow_init, od_InvalidRow_init, .func (PySem.W.fnOf "__init__" "InvalidRow.__init__" (defArgs s_InvalidRow_init) (defBody s_InvalidRow_init) (defScope s_InvalidRow_init) .none kV_InvalidRow_init dc_InvalidRow_init pm_InvalidRow_init an_InvalidRow_init cd_InvalidRow_init ct_InvalidRow_init), sl_InvalidRow_init⟩)
    (l_Begin_init : K.lookup f_Begin_init = some ⟨oc_Begin_init, od_Begin_init, .func (PySem.W.fnOf "__init__" "Begin.__init__" (defArgs s_Begin_init) (defBody s_Begin_init) (defScope s_Begin_init) .none kV_Begin_init dc_Begin_init pm_Begin_init an_Begin_init cd_Begin_init ct_Begin_init), sl_Begin_init⟩)
    (l_Send_init : K.lookup f_Send_init = some ⟨oc_Send_init, od_Send_init, .func (PySem.W.fnOf "__init__" "Send.__init__" (defArgs s_Send_init) (defBody s_Send_init) (defScope s_Send_init) .none kV_Send_init dc_Send_init pm_Send_init an_Send_init cd_Send_init ct_Send_init), sl_Send_init⟩)
    (l_Back_init : K.lookup f_Back_init = some ⟨oc_Back_init, od_Back_init, .func (PySem.W.fnOf "__init__" "Back.__init__" (defArgs s_Back_init) (defBody s_Back_init) (defScope s_Back_init) .none kV_Back_init dc_Back_init pm_Back_init an_Back_init cd_Back_init ct_Back_init), sl_Back_init⟩)
    (l_End_init : K.lookup f_End_init = some ⟨oc_End_init, od_End_init, .func (PySem.W.fnOf "__init__" "End.__init__" (defArgs s_End_init) (defBody s_End_init) (defScope s_End_init) .none kV_End_init dc_End_init pm_End_init an_End_init cd_End_init ct_End_init), sl_End_init⟩)
    (l_row : K.lookup f_row = some ⟨oc_row, od_row, .func (PySem.W.fnOf "_law_row" "_law_row" (defArgs s_row) (defBody s_row) (defScope s_row) .none kV_row dc_row pm_row an_row cd_row ct_row), sl_row⟩)
    (l_Begin_str : K.lookup f_Begin_str = some ⟨oc_Begin_str, od_Begin_str, .func (PySem.W.fnOf "__str__" "Begin.__str__" (defArgs s_Begin_str) (defBody s_Begin_str) (defScope s_Begin_str) .none kV_Begin_str dc_Begin_str pm_Begin_str an_Begin_str cd_Begin_str ct_Begin_str), sl_Begin_str⟩)
    (l_Begin_eq : K.lookup f_Begin_eq = some ⟨oc_Begin_eq, od_Begin_eq, .func (PySem.W.fnOf "__eq__" "Begin.__eq__" (defArgs s_Begin_eq) (defBody s_Begin_eq) (defScope s_Begin_eq) .none kV_Begin_eq dc_Begin_eq pm_Begin_eq an_Begin_eq cd_Begin_eq ct_Begin_eq), sl_Begin_eq⟩)
    (l_Send_str : K.lookup f_Send_str = some ⟨oc_Send_str, od_Send_str, .func (PySem.W.fnOf "__str__" "Send.__str__" (defArgs s_Send_str) (defBody s_Send_str) (defScope s_Send_str) .none kV_Send_str dc_Send_str pm_Send_str an_Send_str cd_Send_str ct_Send_str), sl_Send_str⟩)
    (l_Send_eq : K.lookup f_Send_eq = some ⟨oc_Send_eq, od_Send_eq, .func (PySem.W.fnOf "__eq__" "Send.__eq__" (defArgs s_Send_eq) (defBody s_Send_eq) (defScope s_Send_eq) .none kV_Send_eq dc_Send_eq pm_Send_eq an_Send_eq cd_Send_eq ct_Send_eq), sl_Send_eq⟩)
    (l_Back_str : K.lookup f_Back_str = some ⟨oc_Back_str, od_Back_str, .func (PySem.W.fnOf "__str__" "Back.__str__" (defArgs s_Back_str) (defBody s_Back_str) (defScope s_Back_str) .none kV_Back_str dc_Back_str pm_Back_str an_Back_str cd_Back_str ct_Back_str), sl_Back_str⟩)
    (l_Back_eq : K.lookup f_Back_eq = some ⟨oc_Back_eq, od_Back_eq, .func (PySem.W.fnOf "__eq__" "Back.__eq__" (defArgs s_Back_eq) (defBody s_Back_eq) (defScope s_Back_eq) .none kV_Back_eq dc_Back_eq pm_Back_eq an_Back_eq cd_Back_eq ct_Back_eq), sl_Back_eq⟩)
    (l_End_str : K.lookup f_End_str = some ⟨oc_End_str, od_End_str, .func (PySem.W.fnOf "__str__" "End.__str__" (defArgs s_End_str) (defBody s_End_str) (defScope s_End_str) .none kV_End_str dc_End_str pm_End_str an_End_str cd_End_str ct_End_str), sl_End_str⟩)
    (l_End_eq : K.lookup f_End_eq = some ⟨oc_End_eq, od_End_eq, .func (PySem.W.fnOf "__eq__" "End.__eq__" (defArgs s_End_eq) (defBody s_End_eq) (defScope s_End_eq) .none kV_End_eq dc_End_eq pm_End_eq an_End_eq cd_End_eq ct_End_eq), sl_End_eq⟩)
    (l_take : K.lookup f_take = some ⟨oc_take, od_take, .func (PySem.W.fnOf "_law_take" "_law_take" (defArgs s_take) (defBody s_take) (defScope s_take) .none kV_take dc_take pm_take an_take cd_take ct_take), sl_take⟩)
    (l_box : K.lookup f_box = some ⟨oc_box, od_box, .func (PySem.W.fnOf "_law_box" "_law_box" (defArgs s_box) (defBody s_box) (defScope s_box) .none kV_box dc_box pm_box an_box cd_box ct_box), sl_box⟩)
    (l_pick : K.lookup f_pick = some ⟨oc_pick, od_pick, .func (PySem.W.fnOf "_law_pick" "_law_pick" (defArgs s_pick) (defBody s_pick) (defScope s_pick) .none kV_pick dc_pick pm_pick an_pick cd_pick ct_pick), sl_pick⟩)
    (l_mixed : K.lookup f_mixed = some ⟨oc_mixed, od_mixed, .func (PySem.W.fnOf "_law_mixed" "_law_mixed" (defArgs s_mixed) (defBody s_mixed) (defScope s_mixed) .none kV_mixed dc_mixed pm_mixed an_mixed cd_mixed ct_mixed), sl_mixed⟩)
    (l_names : K.lookup f_names = some ⟨oc_names, od_names, .func (PySem.W.fnOf "_law_names" "_law_names" (defArgs s_names) (defBody s_names) (defScope s_names) .none kV_names dc_names pm_names an_names cd_names ct_names), sl_names⟩)
    (l_words : K.lookup f_words = some ⟨oc_words, od_words, .func (PySem.W.fnOf "_law_words" "_law_words" (defArgs s_words) (defBody s_words) (defScope s_words) .none kV_words dc_words pm_words an_words cd_words ct_words), sl_words⟩)
    (l_drawn_row : K.lookup f_drawn_row = some ⟨oc_drawn_row, od_drawn_row, .func (PySem.W.fnOf "_law_drawn_row" "_law_drawn_row" (defArgs s_drawn_row) (defBody s_drawn_row) (defScope s_drawn_row) .none kV_drawn_row dc_drawn_row pm_drawn_row an_drawn_row cd_drawn_row ct_drawn_row), sl_drawn_row⟩)
    (l_told : K.lookup f_told = some ⟨oc_told, od_told, .func (PySem.W.fnOf "_law_told" "_law_told" (defArgs s_told) (defBody s_told) (defScope s_told) .none kV_told dc_told pm_told an_told cd_told ct_told), sl_told⟩)
    (l_row_text : K.lookup f_row_text = some ⟨oc_row_text, od_row_text, .func (PySem.W.fnOf "_law_row_text" "_law_row_text" (defArgs s_row_text) (defBody s_row_text) (defScope s_row_text) .none kV_row_text dc_row_text pm_row_text an_row_text cd_row_text ct_row_text), sl_row_text⟩)
    (l_law : K.lookup f_law = some ⟨oc_law, od_law, .func (PySem.W.fnOf "law" "law" (defArgs s_law) (defBody s_law) (defScope s_law) .none kV_law dc_law pm_law an_law cd_law ct_law), sl_law⟩)
    (l_aNO : K.lookup aNO = some ⟨.type "tuple", dt_aNO, .seq #[.str "none" w0_aNO, .str "any" w1_aNO, .str "same" w2_aNO, .str "keep" w3_aNO, .str "drop" w4_aNO, .str "good" w5_aNO, .str "bad" w6_aNO, .str "old" w7_aNO, .str "new" w8_aNO, .str "both" w9_aNO] sz_aNO, so_aNO⟩)
    (xL_C_InvalidRow : K.lookup C_InvalidRow = some (excClassObj nm_C_InvalidRow qn_C_InvalidRow C_InvalidRow N_C_InvalidRow bs_C_InvalidRow [.ref bC_C_InvalidRow, .type "ValueError", .type "Exception", .type "BaseException", .type "object"] true sn_C_InvalidRow sb_C_InvalidRow ab_C_InvalidRow co_C_InvalidRow dd_C_InvalidRow m0_C_InvalidRow m1_C_InvalidRow m2_C_InvalidRow m3_C_InvalidRow m5_C_InvalidRow "ValueError.__new__"))
    (cc_is_name : PySem.W.codeIn K cd_is_name "is_name" = true)
    (k_is_name : PySem.W.keepIn K (.ref f_is_name) = true)
    (cc_is_name_or : PySem.W.codeIn K cd_is_name_or "is_name_or" = true)
    (k_is_name_or : PySem.W.keepIn K (.ref f_is_name_or) = true)
    (cc_InvalidRow_init : PySem.W.codeIn K cd_InvalidRow_init "InvalidRow.__init__" = true)
    (k_InvalidRow_init : PySem.W.keepIn K (.ref f_InvalidRow_init) = true)
    (cc_Begin_init : PySem.W.codeIn K cd_Begin_init "Begin.__init__" = true)
    (k_Begin_init : PySem.W.keepIn K (.ref f_Begin_init) = true)
    (cc_Send_init : PySem.W.codeIn K cd_Send_init "Send.__init__" = true)
    (k_Send_init : PySem.W.keepIn K (.ref f_Send_init) = true)
    (cc_Back_init : PySem.W.codeIn K cd_Back_init "Back.__init__" = true)
    (k_Back_init : PySem.W.keepIn K (.ref f_Back_init) = true)
    (cc_End_init : PySem.W.codeIn K cd_End_init "End.__init__" = true)
    (k_End_init : PySem.W.keepIn K (.ref f_End_init) = true)
    (cc_row : PySem.W.codeIn K cd_row "_law_row" = true)
    (k_row : PySem.W.keepIn K (.ref f_row) = true)
    (cc_Begin_str : PySem.W.codeIn K cd_Begin_str "Begin.__str__" = true)
    (k_Begin_str : PySem.W.keepIn K (.ref f_Begin_str) = true)
    (cc_Begin_eq : PySem.W.codeIn K cd_Begin_eq "Begin.__eq__" = true)
    (k_Begin_eq : PySem.W.keepIn K (.ref f_Begin_eq) = true)
    (cc_Send_str : PySem.W.codeIn K cd_Send_str "Send.__str__" = true)
    (k_Send_str : PySem.W.keepIn K (.ref f_Send_str) = true)
    (cc_Send_eq : PySem.W.codeIn K cd_Send_eq "Send.__eq__" = true)
    (k_Send_eq : PySem.W.keepIn K (.ref f_Send_eq) = true)
    (cc_Back_str : PySem.W.codeIn K cd_Back_str "Back.__str__" = true)
    (k_Back_str : PySem.W.keepIn K (.ref f_Back_str) = true)
    (cc_Back_eq : PySem.W.codeIn K cd_Back_eq "Back.__eq__" = true)
    (k_Back_eq : PySem.W.keepIn K (.ref f_Back_eq) = true)
    (cc_End_str : PySem.W.codeIn K cd_End_str "End.__str__" = true)
    (k_End_str : PySem.W.keepIn K (.ref f_End_str) = true)
    (cc_End_eq : PySem.W.codeIn K cd_End_eq "End.__eq__" = true)
    (k_End_eq : PySem.W.keepIn K (.ref f_End_eq) = true)
    (cc_take : PySem.W.codeIn K cd_take "_law_take" = true)
    (k_take : PySem.W.keepIn K (.ref f_take) = true)
    (cc_box : PySem.W.codeIn K cd_box "_law_box" = true)
    (k_box : PySem.W.keepIn K (.ref f_box) = true)
    (cc_pick : PySem.W.codeIn K cd_pick "_law_pick" = true)
    (k_pick : PySem.W.keepIn K (.ref f_pick) = true)
    (cc_mixed : PySem.W.codeIn K cd_mixed "_law_mixed" = true)
    (k_mixed : PySem.W.keepIn K (.ref f_mixed) = true)
    (cc_names : PySem.W.codeIn K cd_names "_law_names" = true)
    (k_names : PySem.W.keepIn K (.ref f_names) = true)
    (cc_words : PySem.W.codeIn K cd_words "_law_words" = true)
    (k_words : PySem.W.keepIn K (.ref f_words) = true)
    (cc_drawn_row : PySem.W.codeIn K cd_drawn_row "_law_drawn_row" = true)
    (k_drawn_row : PySem.W.keepIn K (.ref f_drawn_row) = true)
    (cc_told : PySem.W.codeIn K cd_told "_law_told" = true)
    (k_told : PySem.W.keepIn K (.ref f_told) = true)
    (cc_row_text : PySem.W.codeIn K cd_row_text "_law_row_text" = true)
    (k_row_text : PySem.W.keepIn K (.ref f_row_text) = true)
    (cc_law : PySem.W.codeIn K cd_law "law" = true)
    (k_law : PySem.W.keepIn K (.ref f_law) = true)
    (z_len : PySem.W.nsIn K mainGlobals "len" = some none)
    (z_isinstance : PySem.W.nsIn K mainGlobals "isinstance" = some none)
    (z_str : PySem.W.nsIn K mainGlobals "str" = some none)
    (z_all : PySem.W.nsIn K mainGlobals "all" = some none)
    (sa_C_InvalidRow : PySem.W.findIn K (.ref C_InvalidRow) "__setattr__" = some (some (.builtin "object.__setattr__")))
    (eb_C_InvalidRow : PySem.W.subIn K (.ref C_InvalidRow) (.type "BaseException") = some true)
    (tyC_C_InvalidRow : PySem.W.typeIn K (.ref C_InvalidRow) = some (.type "type"))
    (kc_C_InvalidRow : PySem.W.keepIn K (.ref C_InvalidRow) = true)
    (q_nwRow : PySem.W.findIn K (.ref C_InvalidRow) "word" = some none)
    (q_tRow : PySem.W.typeIn K (.ref f_InvalidRow_init) = some (.type "function"))
    (pg_C_Begin : PySem.W.plainGet K C_Begin Str.empty = true)
    (hd_C_Begin : PySem.W.hasDictIn K C_Begin = true)
    (po_C_Begin : PySem.W.plainOver K C_Begin = true)
    (sa_C_Begin : PySem.W.findIn K (.ref C_Begin) "__setattr__" = some (some (.builtin "object.__setattr__")))
    (mk_C_Begin : PySem.W.makesIn K C_Begin = true)
    (fi_f_Begin_init : PySem.W.isFn K (.ref f_Begin_init) = true)
    (kc_C_Begin : PySem.W.keepIn K (.ref C_Begin) = true)
    (n_C_Begin_mark : PySem.W.findIn K (.ref C_Begin) "mark" = some none)
    (n_C_Begin_kind : PySem.W.findIn K (.ref C_Begin) "kind" = some none)
    (n_C_Begin_mood : PySem.W.findIn K (.ref C_Begin) "mood" = some none)
    (pg_C_Send : PySem.W.plainGet K C_Send Str.empty = true)
    (hd_C_Send : PySem.W.hasDictIn K C_Send = true)
    (po_C_Send : PySem.W.plainOver K C_Send = true)
    (sa_C_Send : PySem.W.findIn K (.ref C_Send) "__setattr__" = some (some (.builtin "object.__setattr__")))
    (mk_C_Send : PySem.W.makesIn K C_Send = true)
    (fi_f_Send_init : PySem.W.isFn K (.ref f_Send_init) = true)
    (kc_C_Send : PySem.W.keepIn K (.ref C_Send) = true)
    (n_C_Send_mood : PySem.W.findIn K (.ref C_Send) "mood" = some none)
    (n_C_Send_service : PySem.W.findIn K (.ref C_Send) "service" = some none)
    (n_C_Send_mark : PySem.W.findIn K (.ref C_Send) "mark" = some none)
    (pg_C_Back : PySem.W.plainGet K C_Back Str.empty = true)
    (hd_C_Back : PySem.W.hasDictIn K C_Back = true)
    (po_C_Back : PySem.W.plainOver K C_Back = true)
    (sa_C_Back : PySem.W.findIn K (.ref C_Back) "__setattr__" = some (some (.builtin "object.__setattr__")))
    (mk_C_Back : PySem.W.makesIn K C_Back = true)
    (fi_f_Back_init : PySem.W.isFn K (.ref f_Back_init) = true)
    (kc_C_Back : PySem.W.keepIn K (.ref C_Back) = true)
    (n_C_Back_mood : PySem.W.findIn K (.ref C_Back) "mood" = some none)
    (n_C_Back_service : PySem.W.findIn K (.ref C_Back) "service" = some none)
    (n_C_Back_sign : PySem.W.findIn K (.ref C_Back) "sign" = some none)
    (n_C_Back_then : PySem.W.findIn K (.ref C_Back) "then" = some none)
    (pg_C_End : PySem.W.plainGet K C_End Str.empty = true)
    (hd_C_End : PySem.W.hasDictIn K C_End = true)
    (po_C_End : PySem.W.plainOver K C_End = true)
    (sa_C_End : PySem.W.findIn K (.ref C_End) "__setattr__" = some (some (.builtin "object.__setattr__")))
    (mk_C_End : PySem.W.makesIn K C_End = true)
    (fi_f_End_init : PySem.W.isFn K (.ref f_End_init) = true)
    (kc_C_End : PySem.W.keepIn K (.ref C_End) = true)
    (n_C_End_mood : PySem.W.findIn K (.ref C_End) "mood" = some none)
    (n_C_End_outcome : PySem.W.findIn K (.ref C_End) "outcome" = some none)
    (n_C_End_sign : PySem.W.findIn K (.ref C_End) "sign" = some none)
    (n_C_End_part : PySem.W.findIn K (.ref C_End) "part" = some none)
    (q_sf_Begin : PySem.W.isFn K (.ref f_Begin_str) = true)
    (q_ef_Begin : PySem.W.isFn K (.ref f_Begin_eq) = true)
    (q_en_Begin : PySem.W.findIn K (.ref C_Begin) "__ne__" = some (some (.builtin "object.__ne__")))
    (q_eo_Begin : PySem.W.subIn K (.ref C_Begin) (.type "object") = some true)
    (ca_C_Begin : PySem.W.findIn K (.ref C_Begin) "__class__" = some (some (.builtin "object.__class__")))
    (cg_ : PySem.W.specialIn K (.builtin "object.__class__") "__get__" = some (some (.builtin "getset_descriptor.__get__")))
    (ck_ : PySem.W.takesIn K (.builtin "object.__class__") = some true)
    (cm_C_Begin : PySem.W.mroIn K C_Begin (.type "object") = some true)
    (isC_C_Begin : PySem.W.isClsIn K C_Begin = true)
    (tyC_C_Begin : PySem.W.typeIn K (.ref C_Begin) = some (.type "type"))
    (sub_Tstr_C_Begin : PySem.W.subIn K (.type "str") (.ref C_Begin) = some false)
    (sub_Ttuple_C_Begin : PySem.W.subIn K (.type "tuple") (.ref C_Begin) = some false)
    (q_ns_Begin : PySem.W.notFirst K C_Begin (.type "str") = true)
    (q_nt_Begin : PySem.W.notFirst K C_Begin (.type "tuple") = true)
    (q_sf_Send : PySem.W.isFn K (.ref f_Send_str) = true)
    (q_ef_Send : PySem.W.isFn K (.ref f_Send_eq) = true)
    (q_en_Send : PySem.W.findIn K (.ref C_Send) "__ne__" = some (some (.builtin "object.__ne__")))
    (q_eo_Send : PySem.W.subIn K (.ref C_Send) (.type "object") = some true)
    (ca_C_Send : PySem.W.findIn K (.ref C_Send) "__class__" = some (some (.builtin "object.__class__")))
    (cm_C_Send : PySem.W.mroIn K C_Send (.type "object") = some true)
    (isC_C_Send : PySem.W.isClsIn K C_Send = true)
    (tyC_C_Send : PySem.W.typeIn K (.ref C_Send) = some (.type "type"))
    (sub_Tstr_C_Send : PySem.W.subIn K (.type "str") (.ref C_Send) = some false)
    (sub_Ttuple_C_Send : PySem.W.subIn K (.type "tuple") (.ref C_Send) = some false)
    (q_ns_Send : PySem.W.notFirst K C_Send (.type "str") = true)
    (q_nt_Send : PySem.W.notFirst K C_Send (.type "tuple") = true)
    (q_sf_Back : PySem.W.isFn K (.ref f_Back_str) = true)
    (q_ef_Back : PySem.W.isFn K (.ref f_Back_eq) = true)
    (q_en_Back : PySem.W.findIn K (.ref C_Back) "__ne__" = some (some (.builtin "object.__ne__")))
    (q_eo_Back : PySem.W.subIn K (.ref C_Back) (.type "object") = some true)
    (ca_C_Back : PySem.W.findIn K (.ref C_Back) "__class__" = some (some (.builtin "object.__class__")))
    (cm_C_Back : PySem.W.mroIn K C_Back (.type "object") = some true)
    (isC_C_Back : PySem.W.isClsIn K C_Back = true)
    (tyC_C_Back : PySem.W.typeIn K (.ref C_Back) = some (.type "type"))
    (sub_Tstr_C_Back : PySem.W.subIn K (.type "str") (.ref C_Back) = some false)
    (sub_Ttuple_C_Back : PySem.W.subIn K (.type "tuple") (.ref C_Back) = some false)
    (q_ns_Back : PySem.W.notFirst K C_Back (.type "str") = true)
    (q_nt_Back : PySem.W.notFirst K C_Back (.type "tuple") = true)
    (q_sf_End : PySem.W.isFn K (.ref f_End_str) = true)
    (q_ef_End : PySem.W.isFn K (.ref f_End_eq) = true)
    (q_en_End : PySem.W.findIn K (.ref C_End) "__ne__" = some (some (.builtin "object.__ne__")))
    (q_eo_End : PySem.W.subIn K (.ref C_End) (.type "object") = some true)
    (ca_C_End : PySem.W.findIn K (.ref C_End) "__class__" = some (some (.builtin "object.__class__")))
    (cm_C_End : PySem.W.mroIn K C_End (.type "object") = some true)
    (isC_C_End : PySem.W.isClsIn K C_End = true)
    (tyC_C_End : PySem.W.typeIn K (.ref C_End) = some (.type "type"))
    (sub_Tstr_C_End : PySem.W.subIn K (.type "str") (.ref C_End) = some false)
    (sub_Ttuple_C_End : PySem.W.subIn K (.type "tuple") (.ref C_End) = some false)
    (q_ns_End : PySem.W.notFirst K C_End (.type "str") = true)
    (q_nt_End : PySem.W.notFirst K C_End (.type "tuple") = true)
    (sub_C_Begin_C_Begin : PySem.W.subIn K (.ref C_Begin) (.ref C_Begin) = some true)
    (q_nf_Begin_Begin : PySem.W.notFirst K C_Begin (.ref C_Begin) = true)
    (sub_C_Begin_C_Send : PySem.W.subIn K (.ref C_Begin) (.ref C_Send) = some false)
    (ne_C_Begin_C_Send : C_Begin ≠ C_Send)
    (q_nf_Begin_Send : PySem.W.notFirst K C_Begin (.ref C_Send) = true)
    (sub_C_Begin_C_Back : PySem.W.subIn K (.ref C_Begin) (.ref C_Back) = some false)
    (ne_C_Begin_C_Back : C_Begin ≠ C_Back)
    (q_nf_Begin_Back : PySem.W.notFirst K C_Begin (.ref C_Back) = true)
    (sub_C_Begin_C_End : PySem.W.subIn K (.ref C_Begin) (.ref C_End) = some false)
    (ne_C_Begin_C_End : C_Begin ≠ C_End)
    (q_nf_Begin_End : PySem.W.notFirst K C_Begin (.ref C_End) = true)
    (sub_C_Send_C_Begin : PySem.W.subIn K (.ref C_Send) (.ref C_Begin) = some false)
    (ne_C_Send_C_Begin : C_Send ≠ C_Begin)
    (q_nf_Send_Begin : PySem.W.notFirst K C_Send (.ref C_Begin) = true)
    (sub_C_Send_C_Send : PySem.W.subIn K (.ref C_Send) (.ref C_Send) = some true)
    (q_nf_Send_Send : PySem.W.notFirst K C_Send (.ref C_Send) = true)
    (sub_C_Send_C_Back : PySem.W.subIn K (.ref C_Send) (.ref C_Back) = some false)
    (ne_C_Send_C_Back : C_Send ≠ C_Back)
    (q_nf_Send_Back : PySem.W.notFirst K C_Send (.ref C_Back) = true)
    (sub_C_Send_C_End : PySem.W.subIn K (.ref C_Send) (.ref C_End) = some false)
    (ne_C_Send_C_End : C_Send ≠ C_End)
    (q_nf_Send_End : PySem.W.notFirst K C_Send (.ref C_End) = true)
    (sub_C_Back_C_Begin : PySem.W.subIn K (.ref C_Back) (.ref C_Begin) = some false)
    (ne_C_Back_C_Begin : C_Back ≠ C_Begin)
    (q_nf_Back_Begin : PySem.W.notFirst K C_Back (.ref C_Begin) = true)
    (sub_C_Back_C_Send : PySem.W.subIn K (.ref C_Back) (.ref C_Send) = some false)
    (ne_C_Back_C_Send : C_Back ≠ C_Send)
    (q_nf_Back_Send : PySem.W.notFirst K C_Back (.ref C_Send) = true)
    (sub_C_Back_C_Back : PySem.W.subIn K (.ref C_Back) (.ref C_Back) = some true)
    (q_nf_Back_Back : PySem.W.notFirst K C_Back (.ref C_Back) = true)
    (sub_C_Back_C_End : PySem.W.subIn K (.ref C_Back) (.ref C_End) = some false)
    (ne_C_Back_C_End : C_Back ≠ C_End)
    (q_nf_Back_End : PySem.W.notFirst K C_Back (.ref C_End) = true)
    (sub_C_End_C_Begin : PySem.W.subIn K (.ref C_End) (.ref C_Begin) = some false)
    (ne_C_End_C_Begin : C_End ≠ C_Begin)
    (q_nf_End_Begin : PySem.W.notFirst K C_End (.ref C_Begin) = true)
    (sub_C_End_C_Send : PySem.W.subIn K (.ref C_End) (.ref C_Send) = some false)
    (ne_C_End_C_Send : C_End ≠ C_Send)
    (q_nf_End_Send : PySem.W.notFirst K C_End (.ref C_Send) = true)
    (sub_C_End_C_Back : PySem.W.subIn K (.ref C_End) (.ref C_Back) = some false)
    (ne_C_End_C_Back : C_End ≠ C_Back)
    (q_nf_End_Back : PySem.W.notFirst K C_End (.ref C_Back) = true)
    (sub_C_End_C_End : PySem.W.subIn K (.ref C_End) (.ref C_End) = some true)
    (q_nf_End_End : PySem.W.notFirst K C_End (.ref C_End) = true)
    (z_int : PySem.W.nsIn K mainGlobals "int" = some none)
    (z_abs : PySem.W.nsIn K mainGlobals "abs" = some none)
    (z_list : PySem.W.nsIn K mainGlobals "list" = some none)
    (z_range : PySem.W.nsIn K mainGlobals "range" = some none)
    (z_tuple : PySem.W.nsIn K mainGlobals "tuple" = some none)
    (z_max : PySem.W.nsIn K mainGlobals "max" = some none)
    (z_min : PySem.W.nsIn K mainGlobals "min" = some none)
    (z_dict : PySem.W.nsIn K mainGlobals "dict" = some none)
    (z_repr : PySem.W.nsIn K mainGlobals "repr" = some none)
    (isC_C_Row : PySem.W.isClsIn K C_Row = true)
    (tyC_C_Row : PySem.W.typeIn K (.ref C_Row) = some (.type "type"))
    (sub_C_Begin_C_Row : PySem.W.subIn K (.ref C_Begin) (.ref C_Row) = some true)
    (sub_C_Send_C_Row : PySem.W.subIn K (.ref C_Send) (.ref C_Row) = some true)
    (sub_C_Back_C_Row : PySem.W.subIn K (.ref C_Back) (.ref C_Row) = some true)
    (sub_C_End_C_Row : PySem.W.subIn K (.ref C_End) (.ref C_Row) = some true)
    : ∃ fd : FuncData, (∀ (s : Shared) (v : Value), BindsTo s fd ⟨[v], []⟩ [("_law_script", v)]) ∧ ∀ base : Heap, K.In base → base.Ns mainGlobals mg → FnTop P w K mg base 6 fa fd ["_law_script"] (spLaw K) := by
  have e := hfa.symm.trans (PySem.W.mg_of X G a_law)
  have e2 : f_law = fa := by
    cases e
    rfl
  subst e2
  have F_is_name := (fun_mk (st := s_is_name) l_is_name cc_is_name k_is_name)
  have F_is_name_or := (fun_mk (st := s_is_name_or) l_is_name_or cc_is_name_or k_is_name_or)
  have F_InvalidRow_init := (fun_mk (st := s_InvalidRow_init) l_InvalidRow_init cc_InvalidRow_init k_InvalidRow_init)
  have F_Begin_init := (fun_mk (st := s_Begin_init) l_Begin_init cc_Begin_init k_Begin_init)
  have F_Send_init := (fun_mk (st := s_Send_init) l_Send_init cc_Send_init k_Send_init)
  have F_Back_init := (fun_mk (st := s_Back_init) l_Back_init cc_Back_init k_Back_init)
  have F_End_init := (fun_mk (st := s_End_init) l_End_init cc_End_init k_End_init)
  have F_row := (fun_mk (st := s_row) l_row cc_row k_row)
  have F_Begin_str := (fun_mk (st := s_Begin_str) l_Begin_str cc_Begin_str k_Begin_str)
  have F_Begin_eq := (fun_mk (st := s_Begin_eq) l_Begin_eq cc_Begin_eq k_Begin_eq)
  have F_Send_str := (fun_mk (st := s_Send_str) l_Send_str cc_Send_str k_Send_str)
  have F_Send_eq := (fun_mk (st := s_Send_eq) l_Send_eq cc_Send_eq k_Send_eq)
  have F_Back_str := (fun_mk (st := s_Back_str) l_Back_str cc_Back_str k_Back_str)
  have F_Back_eq := (fun_mk (st := s_Back_eq) l_Back_eq cc_Back_eq k_Back_eq)
  have F_End_str := (fun_mk (st := s_End_str) l_End_str cc_End_str k_End_str)
  have F_End_eq := (fun_mk (st := s_End_eq) l_End_eq cc_End_eq k_End_eq)
  have F_take := (fun_mk (st := s_take) l_take cc_take k_take)
  have F_box := (fun_mk (st := s_box) l_box cc_box k_box)
  have F_pick := (fun_mk (st := s_pick) l_pick cc_pick k_pick)
  have F_mixed := (fun_mk (st := s_mixed) l_mixed cc_mixed k_mixed)
  have F_names := (fun_mk (st := s_names) l_names cc_names k_names)
  have F_words := (fun_mk (st := s_words) l_words cc_words k_words)
  have F_drawn_row := (fun_mk (st := s_drawn_row) l_drawn_row cc_drawn_row k_drawn_row)
  have F_told := (fun_mk (st := s_told) l_told cc_told k_told)
  have F_row_text := (fun_mk (st := s_row_text) l_row_text cc_row_text k_row_text)
  have F_law := (fun_mk (st := s_law) l_law cc_law k_law)
  have b_is_name := F_is_name.binds (ps := P_is_name) fun _ _ _ _ _ _ us hl => match us, hl with | [_], _ => rfl
  have b_is_name_or := F_is_name_or.binds (ps := P_is_name_or) fun _ _ _ _ _ _ us hl => match us, hl with | [_, _], _ => rfl
  have b_InvalidRow_init := F_InvalidRow_init.binds (ps := P_InvalidRow_init) fun _ _ _ _ _ _ us hl => match us, hl with | [_, _], _ => rfl
  have b_Begin_init := F_Begin_init.binds (ps := P_Begin_init) fun _ _ _ _ _ _ us hl => match us, hl with | [_, _, _, _], _ => rfl
  have b_Send_init := F_Send_init.binds (ps := P_Send_init) fun _ _ _ _ _ _ us hl => match us, hl with | [_, _, _, _], _ => rfl
  have b_Back_init := F_Back_init.binds (ps := P_Back_init) fun _ _ _ _ _ _ us hl => match us, hl with | [_, _, _, _, _], _ => rfl
  have b_End_init := F_End_init.binds (ps := P_End_init) fun _ _ _ _ _ _ us hl => match us, hl with | [_, _, _, _, _], _ => rfl
  have b_row := F_row.binds (ps := P_row) fun _ _ _ _ _ _ us hl => match us, hl with | [_], _ => rfl
  have b_Begin_str := F_Begin_str.binds (ps := P_Begin_str) fun _ _ _ _ _ _ us hl => match us, hl with | [_], _ => rfl
  have b_Begin_eq := F_Begin_eq.binds (ps := P_Begin_eq) fun _ _ _ _ _ _ us hl => match us, hl with | [_, _], _ => rfl
  have b_Send_str := F_Send_str.binds (ps := P_Send_str) fun _ _ _ _ _ _ us hl => match us, hl with | [_], _ => rfl
  have b_Send_eq := F_Send_eq.binds (ps := P_Send_eq) fun _ _ _ _ _ _ us hl => match us, hl with | [_, _], _ => rfl
  have b_Back_str := F_Back_str.binds (ps := P_Back_str) fun _ _ _ _ _ _ us hl => match us, hl with | [_], _ => rfl
  have b_Back_eq := F_Back_eq.binds (ps := P_Back_eq) fun _ _ _ _ _ _ us hl => match us, hl with | [_, _], _ => rfl
  have b_End_str := F_End_str.binds (ps := P_End_str) fun _ _ _ _ _ _ us hl => match us, hl with | [_], _ => rfl
  have b_End_eq := F_End_eq.binds (ps := P_End_eq) fun _ _ _ _ _ _ us hl => match us, hl with | [_, _], _ => rfl
  have b_take := F_take.binds (ps := P_take) fun _ _ _ _ _ _ us hl => match us, hl with | [_, _], _ => rfl
  have b_box := F_box.binds (ps := P_box) fun _ _ _ _ _ _ us hl => match us, hl with | [_, _], _ => rfl
  have b_pick := F_pick.binds (ps := P_pick) fun _ _ _ _ _ _ us hl => match us, hl with | [_, _], _ => rfl
  have b_mixed := F_mixed.binds (ps := P_mixed) fun _ _ _ _ _ _ us hl => match us, hl with | [_, _], _ => rfl
  have b_names := F_names.binds (ps := P_names) fun _ _ _ _ _ _ us hl => match us, hl with | [_, _], _ => rfl
  have b_words := F_words.binds (ps := P_words) fun _ _ _ _ _ _ us hl => match us, hl with | [_], _ => rfl
  have b_drawn_row := F_drawn_row.binds (ps := P_drawn_row) fun _ _ _ _ _ _ us hl => match us, hl with | [_, _, _], _ => rfl
  have b_told := F_told.binds (ps := P_told) fun _ _ _ _ _ _ us hl => match us, hl with | [_, _], _ => rfl
  have b_row_text := F_row_text.binds (ps := P_row_text) fun _ _ _ _ _ _ us hl => match us, hl with | [_], _ => rfl
  let T : TxLaw2 K mg := {
    z_len := PySem.W.mg_none_of X G z_len
    z_isinstance := PySem.W.mg_none_of X G z_isinstance
    z_str := PySem.W.mg_none_of X G z_str
    z_all := PySem.W.mg_none_of X G z_all
    letT := letT
    m_LET := PySem.W.mg_of X G a_LETTERS
    aNO := aNO
    m_NO := PySem.W.mg_of X G a_NO_NAMES
    t_NO := fun H => .inr ⟨_, _, _, l_aNO, rfl, rfl, by show 10 ≤ sizeLine; decide, .cons ⟨_, rfl⟩ (.cons ⟨_, rfl⟩ (.cons ⟨_, rfl⟩ (.cons ⟨_, rfl⟩ (.cons ⟨_, rfl⟩ (.cons ⟨_, rfl⟩ (.cons ⟨_, rfl⟩ (.cons ⟨_, rfl⟩ (.cons ⟨_, rfl⟩ (.cons ⟨_, rfl⟩ (.nil))))))))))⟩
    f_is_name := f_is_name
    d_is_name := _
    F_is_name := F_is_name
    m_is_name := PySem.W.mg_of X G a_is_name
    b_is_name := b_is_name
    f_is_name_or := f_is_name_or
    d_is_name_or := _
    F_is_name_or := F_is_name_or
    m_is_name_or := PySem.W.mg_of X G a_is_name_or
    b_is_name_or := b_is_name_or
    C_InvalidRow := C_InvalidRow
    m_InvalidRow := PySem.W.mg_of X G a_InvalidRow
    oxRow := ⟨⟨_, _, _, _, _, _, _, _, _, _, _, _, _, _, _, xL_C_InvalidRow, ve_one⟩, sa_C_InvalidRow, eb_C_InvalidRow, tyC_C_InvalidRow, kc_C_InvalidRow⟩
    nwRow := q_nwRow
    f_InvalidRow_init := f_InvalidRow_init
    d_InvalidRow_init := _
    iRow := in_f_InvalidRow_init
    tRow := q_tRow
    F_InvalidRow_init := F_InvalidRow_init
    b_InvalidRow_init := b_InvalidRow_init
    C_Begin := C_Begin
    m_Begin := PySem.W.mg_of X G a_Begin
    c_Begin := ⟨pg_C_Begin, hd_C_Begin, po_C_Begin, sa_C_Begin⟩
    f_Begin_init := f_Begin_init
    d_Begin_init := _
    mk_Begin := ⟨mk_C_Begin, in_f_Begin_init, fi_f_Begin_init, kc_C_Begin⟩
    F_Begin_init := F_Begin_init
    b_Begin_init := b_Begin_init
    n_Begin_mark := n_C_Begin_mark
    n_Begin_kind := n_C_Begin_kind
    n_Begin_mood := n_C_Begin_mood
    C_Send := C_Send
    m_Send := PySem.W.mg_of X G a_Send
    c_Send := ⟨pg_C_Send, hd_C_Send, po_C_Send, sa_C_Send⟩
    f_Send_init := f_Send_init
    d_Send_init := _
    mk_Send := ⟨mk_C_Send, in_f_Send_init, fi_f_Send_init, kc_C_Send⟩
    F_Send_init := F_Send_init
    b_Send_init := b_Send_init
    n_Send_mood := n_C_Send_mood
    n_Send_service := n_C_Send_service
    n_Send_mark := n_C_Send_mark
    C_Back := C_Back
    m_Back := PySem.W.mg_of X G a_Back
    c_Back := ⟨pg_C_Back, hd_C_Back, po_C_Back, sa_C_Back⟩
    f_Back_init := f_Back_init
    d_Back_init := _
    mk_Back := ⟨mk_C_Back, in_f_Back_init, fi_f_Back_init, kc_C_Back⟩
    F_Back_init := F_Back_init
    b_Back_init := b_Back_init
    n_Back_mood := n_C_Back_mood
    n_Back_service := n_C_Back_service
    n_Back_sign := n_C_Back_sign
    n_Back_then := n_C_Back_then
    C_End := C_End
    m_End := PySem.W.mg_of X G a_End
    c_End := ⟨pg_C_End, hd_C_End, po_C_End, sa_C_End⟩
    f_End_init := f_End_init
    d_End_init := _
    mk_End := ⟨mk_C_End, in_f_End_init, fi_f_End_init, kc_C_End⟩
    F_End_init := F_End_init
    b_End_init := b_End_init
    n_End_mood := n_C_End_mood
    n_End_outcome := n_C_End_outcome
    n_End_sign := n_C_End_sign
    n_End_part := n_C_End_part
    f_row := f_row
    d_row := _
    F_row := F_row
    m_row := PySem.W.mg_of X G a__law_row
    b_row := b_row
    f_Begin_str := f_Begin_str
    d_Begin_str := _
    F_Begin_str := F_Begin_str
    b_Begin_str := b_Begin_str
    si_Begin := q_si_Begin
    sf_Begin := q_sf_Begin
    f_Begin_eq := f_Begin_eq
    d_Begin_eq := _
    F_Begin_eq := F_Begin_eq
    b_Begin_eq := b_Begin_eq
    ei_Begin := q_ei_Begin
    ef_Begin := q_ef_Begin
    en_Begin := q_en_Begin
    eo_Begin := q_eo_Begin
    ty_Begin := fun H a dx fs e => .base (.ins e ⟨pg_C_Begin, hd_C_Begin, po_C_Begin, sa_C_Begin⟩ ca_C_Begin cg_ ck_ cm_C_Begin)
    ks_Begin := kit_tyno isC_C_Begin tyC_C_Begin sub_Tstr_C_Begin
    kt_Begin := kit_tyno isC_C_Begin tyC_C_Begin sub_Ttuple_C_Begin
    ns_Begin := q_ns_Begin
    nt_Begin := q_nt_Begin
    f_Send_str := f_Send_str
    d_Send_str := _
    F_Send_str := F_Send_str
    b_Send_str := b_Send_str
    si_Send := q_si_Send
    sf_Send := q_sf_Send
    f_Send_eq := f_Send_eq
    d_Send_eq := _
    F_Send_eq := F_Send_eq
    b_Send_eq := b_Send_eq
    ei_Send := q_ei_Send
    ef_Send := q_ef_Send
    en_Send := q_en_Send
    eo_Send := q_eo_Send
    ty_Send := fun H a dx fs e => .base (.ins e ⟨pg_C_Send, hd_C_Send, po_C_Send, sa_C_Send⟩ ca_C_Send cg_ ck_ cm_C_Send)
    ks_Send := kit_tyno isC_C_Send tyC_C_Send sub_Tstr_C_Send
    kt_Send := kit_tyno isC_C_Send tyC_C_Send sub_Ttuple_C_Send
    ns_Send := q_ns_Send
    nt_Send := q_nt_Send
    f_Back_str := f_Back_str
    d_Back_str := _
    F_Back_str := F_Back_str
    b_Back_str := b_Back_str
    si_Back := q_si_Back
    sf_Back := q_sf_Back
    f_Back_eq := f_Back_eq
    d_Back_eq := _
    F_Back_eq := F_Back_eq
    b_Back_eq := b_Back_eq
    ei_Back := q_ei_Back
    ef_Back := q_ef_Back
    en_Back := q_en_Back
    eo_Back := q_eo_Back
    ty_Back := fun H a dx fs e => .base (.ins e ⟨pg_C_Back, hd_C_Back, po_C_Back, sa_C_Back⟩ ca_C_Back cg_ ck_ cm_C_Back)
    ks_Back := kit_tyno isC_C_Back tyC_C_Back sub_Tstr_C_Back
    kt_Back := kit_tyno isC_C_Back tyC_C_Back sub_Ttuple_C_Back
    ns_Back := q_ns_Back
    nt_Back := q_nt_Back
    f_End_str := f_End_str
    d_End_str := _
    F_End_str := F_End_str
    b_End_str := b_End_str
    si_End := q_si_End
    sf_End := q_sf_End
    f_End_eq := f_End_eq
    d_End_eq := _
    F_End_eq := F_End_eq
    b_End_eq := b_End_eq
    ei_End := q_ei_End
    ef_End := q_ef_End
    en_End := q_en_End
    eo_End := q_eo_End
    ty_End := fun H a dx fs e => .base (.ins e ⟨pg_C_End, hd_C_End, po_C_End, sa_C_End⟩ ca_C_End cg_ ck_ cm_C_End)
    ks_End := kit_tyno isC_C_End tyC_C_End sub_Tstr_C_End
    kt_End := kit_tyno isC_C_End tyC_C_End sub_Ttuple_C_End
    ns_End := q_ns_End
    nt_End := q_nt_End
    kk_Begin_Begin := kit_yes isC_C_Begin tyC_C_Begin sub_C_Begin_C_Begin
    nf_Begin_Begin := q_nf_Begin_Begin
    kk_Begin_Send := kit_no isC_C_Send tyC_C_Send sub_C_Begin_C_Send ne_C_Begin_C_Send
    nf_Begin_Send := q_nf_Begin_Send
    kk_Begin_Back := kit_no isC_C_Back tyC_C_Back sub_C_Begin_C_Back ne_C_Begin_C_Back
    nf_Begin_Back := q_nf_Begin_Back
    kk_Begin_End := kit_no isC_C_End tyC_C_End sub_C_Begin_C_End ne_C_Begin_C_End
    nf_Begin_End := q_nf_Begin_End
    kk_Send_Begin := kit_no isC_C_Begin tyC_C_Begin sub_C_Send_C_Begin ne_C_Send_C_Begin
    nf_Send_Begin := q_nf_Send_Begin
    kk_Send_Send := kit_yes isC_C_Send tyC_C_Send sub_C_Send_C_Send
    nf_Send_Send := q_nf_Send_Send
    kk_Send_Back := kit_no isC_C_Back tyC_C_Back sub_C_Send_C_Back ne_C_Send_C_Back
    nf_Send_Back := q_nf_Send_Back
    kk_Send_End := kit_no isC_C_End tyC_C_End sub_C_Send_C_End ne_C_Send_C_End
    nf_Send_End := q_nf_Send_End
    kk_Back_Begin := kit_no isC_C_Begin tyC_C_Begin sub_C_Back_C_Begin ne_C_Back_C_Begin
    nf_Back_Begin := q_nf_Back_Begin
    kk_Back_Send := kit_no isC_C_Send tyC_C_Send sub_C_Back_C_Send ne_C_Back_C_Send
    nf_Back_Send := q_nf_Back_Send
    kk_Back_Back := kit_yes isC_C_Back tyC_C_Back sub_C_Back_C_Back
    nf_Back_Back := q_nf_Back_Back
    kk_Back_End := kit_no isC_C_End tyC_C_End sub_C_Back_C_End ne_C_Back_C_End
    nf_Back_End := q_nf_Back_End
    kk_End_Begin := kit_no isC_C_Begin tyC_C_Begin sub_C_End_C_Begin ne_C_End_C_Begin
    nf_End_Begin := q_nf_End_Begin
    kk_End_Send := kit_no isC_C_Send tyC_C_Send sub_C_End_C_Send ne_C_End_C_Send
    nf_End_Send := q_nf_End_Send
    kk_End_Back := kit_no isC_C_Back tyC_C_Back sub_C_End_C_Back ne_C_End_C_Back
    nf_End_Back := q_nf_End_Back
    kk_End_End := kit_yes isC_C_End tyC_C_End sub_C_End_C_End
    nf_End_End := q_nf_End_End
    z_int := PySem.W.mg_none_of X G z_int
    z_abs := PySem.W.mg_none_of X G z_abs
    f_take := f_take
    d_take := _
    F_take := F_take
    m_take := PySem.W.mg_of X G a__law_take
    b_take := b_take
    f_box := f_box
    d_box := _
    F_box := F_box
    m_box := PySem.W.mg_of X G a__law_box
    b_box := b_box
    f_pick := f_pick
    d_pick := _
    F_pick := F_pick
    m_pick := PySem.W.mg_of X G a__law_pick
    b_pick := b_pick
    z_list := PySem.W.mg_none_of X G z_list
    z_range := PySem.W.mg_none_of X G z_range
    f_mixed := f_mixed
    d_mixed := _
    F_mixed := F_mixed
    m_mixed := PySem.W.mg_of X G a__law_mixed
    b_mixed := b_mixed
    f_names := f_names
    d_names := _
    F_names := F_names
    m_names := PySem.W.mg_of X G a__law_names
    b_names := b_names
    f_words := f_words
    d_words := _
    F_words := F_words
    m_words := PySem.W.mg_of X G a__law_words
    b_words := b_words
    z_tuple := PySem.W.mg_none_of X G z_tuple
    f_drawn_row := f_drawn_row
    d_drawn_row := _
    F_drawn_row := F_drawn_row
    m_drawn_row := PySem.W.mg_of X G a__law_drawn_row
    b_drawn_row := b_drawn_row
    z_max := PySem.W.mg_none_of X G z_max
    z_min := PySem.W.mg_none_of X G z_min
    z_dict := PySem.W.mg_none_of X G z_dict
    z_repr := PySem.W.mg_none_of X G z_repr
    C_Row := C_Row
    m_Row := PySem.W.mg_of X G a_Row
    kr_Begin := kit_yes isC_C_Row tyC_C_Row sub_C_Begin_C_Row
    kr_Send := kit_yes isC_C_Row tyC_C_Row sub_C_Send_C_Row
    kr_Back := kit_yes isC_C_Row tyC_C_Row sub_C_Back_C_Row
    kr_End := kit_yes isC_C_Row tyC_C_Row sub_C_End_C_Row
    f_told := f_told
    d_told := _
    F_told := F_told
    m_told := PySem.W.mg_of X G a__law_told
    b_told := b_told
    f_row_text := f_row_text
    d_row_text := _
    F_row_text := F_row_text
    m_row_text := PySem.W.mg_of X G a__law_row_text
    b_row_text := b_row_text
    f_law := f_law
    d_law := _
    F_law := F_law
  }
  exact ⟨PySem.W.fnOf "law" "law" (defArgs s_law) (defBody s_law) (defScope s_law) .none kV_law dc_law pm_law an_law cd_law ct_law, fun s v => .of_eq rfl, fun base _ _ => law2 T⟩
theorem walk {l : PySem.W.OpenLaw} {q : Program} {loose : List Str} {XP : (Str → Option Value) → Heap → Prop} {YP : World → Heap → Prop} {d : DefRec} {K : Params → PySem.W.Frag} (hn : l.most = some 63) (hdf : d.params.defaults = [])
    (hY : ∀ (w : World) (h : Heap), YP w h → (K w.params).In h)
    (F : ∀ (w : World) (mg : Str → Option Value) (fa : Addr) (h : Heap), (K w.params).In h → h.Ns mainGlobals mg → mg d.name = some (.ref fa) →
      ∃ fd : FuncData, (∀ (s : Shared) (u : Value), BindsTo s fd ⟨[u], []⟩ [("_law_script", u)]) ∧ ∀ base : Heap, (K w.params).In base → base.Ns mainGlobals mg → FnTop l.prog w (K w.params) mg base 6 fa fd ["_law_script"] (spLaw (K w.params))) :
    PySem.W.WalkO q loose XP YP l.row.toRowW d [] (fun f vs => PySem.call f vs) :=
  walk_top (n := 63) (k := 6) (y := "_law_script") (sp := fun w => spLaw (K w.params)) hn (by decide) hdf ⟨rfl, by decide, by decide⟩ hY F (fun _ _ a ns hl hS => ⟨a, ns, rfl, hS, hl, fun _ => rfl⟩)
end My
open PySem PySem.W PyProof.Rows
set_option maxRecDepth 100000 in
set_option maxHeartbeats 0 in
theorem PySem.Challenge.cw_wholetraces_k02_rows_made_holds : PySem.Challenge.rw_wholetraces_k02_rows_made.Holds := by
  w_on; o_law; k_head; (case hw => w_witness2)
  k_fill
  refine My.walk (l := PySem.Challenge.rw_wholetraces_k02_rows_made) rfl rfl (fun w h Y => PySem.W.kIn_of Y) ?F
  case F =>
    intro w mg fa h KX G hmg
    refine' My.all_mk KX G hmg ?a_law ?a_LETTERS ?a_NO_NAMES ?a_is_name ?a_is_name_or ?a_InvalidRow ?a_Begin ?a_Send ?a_Back ?a_End ?a__law_row ?a__law_take ?a__law_box ?a__law_pick ?a__law_mixed ?a__law_names ?a__law_words ?a__law_drawn_row ?a_Row ?a__law_told ?a__law_row_text ?in_f_InvalidRow_init ?in_f_Begin_init ?in_f_Send_init ?in_f_Back_init ?in_f_End_init ?q_si_Begin ?q_ei_Begin ?q_si_Send ?q_ei_Send ?q_si_Back ?q_ei_Back ?q_si_End ?q_ei_End ?l_is_name ?l_is_name_or ?l_InvalidRow_init ?l_Begin_init ?l_Send_init ?l_Back_init ?l_End_init ?l_row ?l_Begin_str ?l_Begin_eq ?l_Send_str ?l_Send_eq ?l_Back_str ?l_Back_eq ?l_End_str ?l_End_eq ?l_take ?l_box ?l_pick ?l_mixed ?l_names ?l_words ?l_drawn_row ?l_told ?l_row_text ?l_law ?l_aNO ?xL_C_InvalidRow ?cc_is_name ?k_is_name ?cc_is_name_or ?k_is_name_or ?cc_InvalidRow_init ?k_InvalidRow_init ?cc_Begin_init ?k_Begin_init ?cc_Send_init ?k_Send_init ?cc_Back_init ?k_Back_init ?cc_End_init ?k_End_init ?cc_row ?k_row ?cc_Begin_str ?k_Begin_str ?cc_Begin_eq ?k_Begin_eq ?cc_Send_str ?k_Send_str ?cc_Send_eq ?k_Send_eq ?cc_Back_str ?k_Back_str ?cc_Back_eq ?k_Back_eq ?cc_End_str ?k_End_str ?cc_End_eq ?k_End_eq ?cc_take ?k_take ?cc_box ?k_box ?cc_pick ?k_pick ?cc_mixed ?k_mixed ?cc_names ?k_names ?cc_words ?k_words ?cc_drawn_row ?k_drawn_row ?cc_told ?k_told ?cc_row_text ?k_row_text ?cc_law ?k_law ?z_len ?z_isinstance ?z_str ?z_all ?sa_C_InvalidRow ?eb_C_InvalidRow ?tyC_C_InvalidRow ?kc_C_InvalidRow ?q_nwRow ?q_tRow ?pg_C_Begin ?hd_C_Begin ?po_C_Begin ?sa_C_Begin ?mk_C_Begin ?fi_f_Begin_init ?kc_C_Begin ?n_C_Begin_mark ?n_C_Begin_kind ?n_C_Begin_mood ?pg_C_Send ?hd_C_Send ?po_C_Send ?sa_C_Send ?mk_C_Send ?fi_f_Send_init ?kc_C_Send ?n_C_Send_mood ?n_C_Send_service ?n_C_Send_mark ?pg_C_Back ?hd_C_Back ?po_C_Back ?sa_C_Back ?mk_C_Back ?fi_f_Back_init ?kc_C_Back ?n_C_Back_mood ?n_C_Back_service ?n_C_Back_sign ?n_C_Back_then ?pg_C_End ?hd_C_End ?po_C_End ?sa_C_End ?mk_C_End ?fi_f_End_init ?kc_C_End ?n_C_End_mood ?n_C_End_outcome ?n_C_End_sign ?n_C_End_part ?q_sf_Begin ?q_ef_Begin ?q_en_Begin ?q_eo_Begin ?ca_C_Begin ?cg_ ?ck_ ?cm_C_Begin ?isC_C_Begin ?tyC_C_Begin ?sub_Tstr_C_Begin ?sub_Ttuple_C_Begin ?q_ns_Begin ?q_nt_Begin ?q_sf_Send ?q_ef_Send ?q_en_Send ?q_eo_Send ?ca_C_Send ?cm_C_Send ?isC_C_Send ?tyC_C_Send ?sub_Tstr_C_Send ?sub_Ttuple_C_Send ?q_ns_Send ?q_nt_Send ?q_sf_Back ?q_ef_Back ?q_en_Back ?q_eo_Back ?ca_C_Back ?cm_C_Back ?isC_C_Back ?tyC_C_Back ?sub_Tstr_C_Back ?sub_Ttuple_C_Back ?q_ns_Back ?q_nt_Back ?q_sf_End ?q_ef_End ?q_en_End ?q_eo_End ?ca_C_End ?cm_C_End ?isC_C_End ?tyC_C_End ?sub_Tstr_C_End ?sub_Ttuple_C_End ?q_ns_End ?q_nt_End ?sub_C_Begin_C_Begin ?q_nf_Begin_Begin ?sub_C_Begin_C_Send ?ne_C_Begin_C_Send ?q_nf_Begin_Send ?sub_C_Begin_C_Back ?ne_C_Begin_C_Back ?q_nf_Begin_Back ?sub_C_Begin_C_End ?ne_C_Begin_C_End ?q_nf_Begin_End ?sub_C_Send_C_Begin ?ne_C_Send_C_Begin ?q_nf_Send_Begin ?sub_C_Send_C_Send ?q_nf_Send_Send ?sub_C_Send_C_Back ?ne_C_Send_C_Back ?q_nf_Send_Back ?sub_C_Send_C_End ?ne_C_Send_C_End ?q_nf_Send_End ?sub_C_Back_C_Begin ?ne_C_Back_C_Begin ?q_nf_Back_Begin ?sub_C_Back_C_Send ?ne_C_Back_C_Send ?q_nf_Back_Send ?sub_C_Back_C_Back ?q_nf_Back_Back ?sub_C_Back_C_End ?ne_C_Back_C_End ?q_nf_Back_End ?sub_C_End_C_Begin ?ne_C_End_C_Begin ?q_nf_End_Begin ?sub_C_End_C_Send ?ne_C_End_C_Send ?q_nf_End_Send ?sub_C_End_C_Back ?ne_C_End_C_Back ?q_nf_End_Back ?sub_C_End_C_End ?q_nf_End_End ?z_int ?z_abs ?z_list ?z_range ?z_tuple ?z_max ?z_min ?z_dict ?z_repr ?isC_C_Row ?tyC_C_Row ?sub_C_Begin_C_Row ?sub_C_Send_C_Row ?sub_C_Back_C_Row ?sub_C_End_C_Row
    (case a_law => k_is)
    (case a_LETTERS => k_is)
    (case a_NO_NAMES => k_is)
    (case a_is_name => k_is)
    (case a_is_name_or => k_is)
    (case a_InvalidRow => k_is)
    (case a_Begin => k_is)
    (case a_Send => k_is)
    (case a_Back => k_is)
    (case a_End => k_is)
    (case a__law_row => k_is)
    (case a__law_take => k_is)
    (case a__law_box => k_is)
    (case a__law_pick => k_is)
    (case a__law_mixed => k_is)
    (case a__law_names => k_is)
    (case a__law_words => k_is)
    (case a__law_drawn_row => k_is)
    (case a_Row => k_is)
    (case a__law_told => k_is)
    (case a__law_row_text => k_is)
    (case in_f_InvalidRow_init => k_is)
    (case in_f_Begin_init => k_is)
    (case in_f_Send_init => k_is)
    (case in_f_Back_init => k_is)
    (case in_f_End_init => k_is)
    (case q_si_Begin => k_is)
    (case q_ei_Begin => k_is)
    (case q_si_Send => k_is)
    (case q_ei_Send => k_is)
    (case q_si_Back => k_is)
    (case q_ei_Back => k_is)
    (case q_si_End => k_is)
    (case q_ei_End => k_is)
    (case l_is_name => k_is)
    (case l_is_name_or => k_is)
    (case l_InvalidRow_init => k_is)
    (case l_Begin_init => k_is)
    (case l_Send_init => k_is)
    (case l_Back_init => k_is)
    (case l_End_init => k_is)
    (case l_row => k_is)
    (case l_Begin_str => k_is)
    (case l_Begin_eq => k_is)
    (case l_Send_str => k_is)
    (case l_Send_eq => k_is)
    (case l_Back_str => k_is)
    (case l_Back_eq => k_is)
    (case l_End_str => k_is)
    (case l_End_eq => k_is)
    (case l_take => k_is)
    (case l_box => k_is)
    (case l_pick => k_is)
    (case l_mixed => k_is)
    (case l_names => k_is)
    (case l_words => k_is)
    (case l_drawn_row => k_is)
    (case l_told => k_is)
    (case l_row_text => k_is)
    (case l_law => k_is)
    (case l_aNO => k_is)
    (case xL_C_InvalidRow => k_is)
    (case cc_is_name => k_is)
    (case k_is_name => k_is)
    (case cc_is_name_or => k_is)
    (case k_is_name_or => k_is)
    (case cc_InvalidRow_init => k_is)
    (case k_InvalidRow_init => k_is)
    (case cc_Begin_init => k_is)
    (case k_Begin_init => k_is)
    (case cc_Send_init => k_is)
    (case k_Send_init => k_is)
    (case cc_Back_init => k_is)
    (case k_Back_init => k_is)
    (case cc_End_init => k_is)
    (case k_End_init => k_is)
    (case cc_row => k_is)
    (case k_row => k_is)
    (case cc_Begin_str => k_is)
    (case k_Begin_str => k_is)
    (case cc_Begin_eq => k_is)
    (case k_Begin_eq => k_is)
    (case cc_Send_str => k_is)
    (case k_Send_str => k_is)
    (case cc_Send_eq => k_is)
    (case k_Send_eq => k_is)
    (case cc_Back_str => k_is)
    (case k_Back_str => k_is)
    (case cc_Back_eq => k_is)
    (case k_Back_eq => k_is)
    (case cc_End_str => k_is)
    (case k_End_str => k_is)
    (case cc_End_eq => k_is)
    (case k_End_eq => k_is)
    (case cc_take => k_is)
    (case k_take => k_is)
    (case cc_box => k_is)
    (case k_box => k_is)
    (case cc_pick => k_is)
    (case k_pick => k_is)
    (case cc_mixed => k_is)
    (case k_mixed => k_is)
    (case cc_names => k_is)
    (case k_names => k_is)
    (case cc_words => k_is)
    (case k_words => k_is)
    (case cc_drawn_row => k_is)
    (case k_drawn_row => k_is)
    (case cc_told => k_is)
    (case k_told => k_is)
    (case cc_row_text => k_is)
    (case k_row_text => k_is)
    (case cc_law => k_is)
    (case k_law => k_is)
    (case z_len => k_is)
    (case z_isinstance => k_is)
    (case z_str => k_is)
    (case z_all => k_is)
    (case sa_C_InvalidRow => k_is)
    (case eb_C_InvalidRow => k_is)
    (case tyC_C_InvalidRow => k_is)
    (case kc_C_InvalidRow => k_is)
    (case q_nwRow => k_is)
    (case q_tRow => k_is)
    (case pg_C_Begin => k_is)
    (case hd_C_Begin => k_is)
    (case po_C_Begin => k_is)
    (case sa_C_Begin => k_is)
    (case mk_C_Begin => k_is)
    (case fi_f_Begin_init => k_is)
    (case kc_C_Begin => k_is)
    (case n_C_Begin_mark => k_is)
    (case n_C_Begin_kind => k_is)
    (case n_C_Begin_mood => k_is)
    (case pg_C_Send => k_is)
    (case hd_C_Send => k_is)
    (case po_C_Send => k_is)
    (case sa_C_Send => k_is)
    (case mk_C_Send => k_is)
    (case fi_f_Send_init => k_is)
    (case kc_C_Send => k_is)
    (case n_C_Send_mood => k_is)
    (case n_C_Send_service => k_is)
    (case n_C_Send_mark => k_is)
    (case pg_C_Back => k_is)
    (case hd_C_Back => k_is)
    (case po_C_Back => k_is)
    (case sa_C_Back => k_is)
    (case mk_C_Back => k_is)
    (case fi_f_Back_init => k_is)
    (case kc_C_Back => k_is)
    (case n_C_Back_mood => k_is)
    (case n_C_Back_service => k_is)
    (case n_C_Back_sign => k_is)
    (case n_C_Back_then => k_is)
    (case pg_C_End => k_is)
    (case hd_C_End => k_is)
    (case po_C_End => k_is)
    (case sa_C_End => k_is)
    (case mk_C_End => k_is)
    (case fi_f_End_init => k_is)
    (case kc_C_End => k_is)
    (case n_C_End_mood => k_is)
    (case n_C_End_outcome => k_is)
    (case n_C_End_sign => k_is)
    (case n_C_End_part => k_is)
    (case q_sf_Begin => k_is)
    (case q_ef_Begin => k_is)
    (case q_en_Begin => k_is)
    (case q_eo_Begin => k_is)
    (case ca_C_Begin => k_is)
    (case cg_ => k_is)
    (case ck_ => k_is)
    (case cm_C_Begin => k_is)
    (case isC_C_Begin => k_is)
    (case tyC_C_Begin => k_is)
    (case sub_Tstr_C_Begin => first | k_is | rfl)
    (case sub_Ttuple_C_Begin => first | k_is | rfl)
    (case q_ns_Begin => k_is)
    (case q_nt_Begin => k_is)
    (case q_sf_Send => k_is)
    (case q_ef_Send => k_is)
    (case q_en_Send => k_is)
    (case q_eo_Send => k_is)
    (case ca_C_Send => k_is)
    (case cm_C_Send => k_is)
    (case isC_C_Send => k_is)
    (case tyC_C_Send => k_is)
    (case sub_Tstr_C_Send => first | k_is | rfl)
    (case sub_Ttuple_C_Send => first | k_is | rfl)
    (case q_ns_Send => k_is)
    (case q_nt_Send => k_is)
    (case q_sf_Back => k_is)
    (case q_ef_Back => k_is)
    (case q_en_Back => k_is)
    (case q_eo_Back => k_is)
    (case ca_C_Back => k_is)
    (case cm_C_Back => k_is)
    (case isC_C_Back => k_is)
    (case tyC_C_Back => k_is)
    (case sub_Tstr_C_Back => first | k_is | rfl)
    (case sub_Ttuple_C_Back => first | k_is | rfl)
    (case q_ns_Back => k_is)
    (case q_nt_Back => k_is)
    (case q_sf_End => k_is)
    (case q_ef_End => k_is)
    (case q_en_End => k_is)
    (case q_eo_End => k_is)
    (case ca_C_End => k_is)
    (case cm_C_End => k_is)
    (case isC_C_End => k_is)
    (case tyC_C_End => k_is)
    (case sub_Tstr_C_End => first | k_is | rfl)
    (case sub_Ttuple_C_End => first | k_is | rfl)
    (case q_ns_End => k_is)
    (case q_nt_End => k_is)
    (case sub_C_Begin_C_Begin => first | k_is | rfl)
    (case q_nf_Begin_Begin => k_is)
    (case sub_C_Begin_C_Send => first | k_is | rfl)
    (case ne_C_Begin_C_Send => decide)
    (case q_nf_Begin_Send => k_is)
    (case sub_C_Begin_C_Back => first | k_is | rfl)
    (case ne_C_Begin_C_Back => decide)
    (case q_nf_Begin_Back => k_is)
    (case sub_C_Begin_C_End => first | k_is | rfl)
    (case ne_C_Begin_C_End => decide)
    (case q_nf_Begin_End => k_is)
    (case sub_C_Send_C_Begin => first | k_is | rfl)
    (case ne_C_Send_C_Begin => decide)
    (case q_nf_Send_Begin => k_is)
    (case sub_C_Send_C_Send => first | k_is | rfl)
    (case q_nf_Send_Send => k_is)
    (case sub_C_Send_C_Back => first | k_is | rfl)
    (case ne_C_Send_C_Back => decide)
    (case q_nf_Send_Back => k_is)
    (case sub_C_Send_C_End => first | k_is | rfl)
    (case ne_C_Send_C_End => decide)
    (case q_nf_Send_End => k_is)
    (case sub_C_Back_C_Begin => first | k_is | rfl)
    (case ne_C_Back_C_Begin => decide)
    (case q_nf_Back_Begin => k_is)
    (case sub_C_Back_C_Send => first | k_is | rfl)
    (case ne_C_Back_C_Send => decide)
    (case q_nf_Back_Send => k_is)
    (case sub_C_Back_C_Back => first | k_is | rfl)
    (case q_nf_Back_Back => k_is)
    (case sub_C_Back_C_End => first | k_is | rfl)
    (case ne_C_Back_C_End => decide)
    (case q_nf_Back_End => k_is)
    (case sub_C_End_C_Begin => first | k_is | rfl)
    (case ne_C_End_C_Begin => decide)
    (case q_nf_End_Begin => k_is)
    (case sub_C_End_C_Send => first | k_is | rfl)
    (case ne_C_End_C_Send => decide)
    (case q_nf_End_Send => k_is)
    (case sub_C_End_C_Back => first | k_is | rfl)
    (case ne_C_End_C_Back => decide)
    (case q_nf_End_Back => k_is)
    (case sub_C_End_C_End => first | k_is | rfl)
    (case q_nf_End_End => k_is)
    (case z_int => k_is)
    (case z_abs => k_is)
    (case z_list => k_is)
    (case z_range => k_is)
    (case z_tuple => k_is)
    (case z_max => k_is)
    (case z_min => k_is)
    (case z_dict => k_is)
    (case z_repr => k_is)
    (case isC_C_Row => k_is)
    (case tyC_C_Row => k_is)
    (case sub_C_Begin_C_Row => first | k_is | rfl)
    (case sub_C_Send_C_Row => first | k_is | rfl)
    (case sub_C_Back_C_Row => first | k_is | rfl)
    (case sub_C_End_C_Row => first | k_is | rfl)
