import PyProof.Rows.All
import Wide.All
import OpenK.AllK
import Wide.FinOn
import HandS.ForMost
import HandS.Evl
import HandS.Style
import HandS.Walk
import HandS.IsInst
import HandS.Deep
import HandS.StrMore
import HandS.More
import PySem.Challenge.RW_wholetraces_k21_trees_made
import HandS.FStr
import HandS.Iter
import KE.GoesEnum
import HandS.List
import HandS.Set
import HandS.SetBool
import HandS.SetFor
import HandS.Strs
import HandS.ExcIs
import HandS.ExcInit
import HandS.ExcField
import KE.KExcInit
import PyProof.ExcBaseAll.LookupError
import PyProof.ExcBaseAll.IndexError
import HandS.ExcValue
import HandS.ExcOwn
import HandS.WordsExc
import PyProof.ListRange
import HandS.Defaults
import HandS.Star
import KE.GoesMore
import KE.GoesZip
import PyProof.ReprReads
import PyProof.ReprHeadsEmpty
import PyProof.CallFns
set_option Elab.async false
set_option maxRecDepth 100000
set_option maxHeartbeats 4000000
set_option linter.all false
/-! ## Words of my own that speak of no program -/
namespace My
open PySem L2
/-- the box of draws: three ints -/
def bx (w s c : Int) : HO := .lst [.int w, .int s, .int c]
theorem small_ {n : Nat} (h : n ≤ 1000) : n ≤ sizeLine := Nat.le_of_lt (small1000 h)
theorem at_some {xs : List V} {k : Int} (h0 : 0 ≤ k) (h1 : k < (xs.length : Int)) : ∃ v : V, atI xs k = some v ∧ xs[k.toNat]? = some v := by
  have hk : k.toNat < xs.length := by omega
  have h2 : xs[k.toNat]? = some xs[k.toNat] := List.getElem?_eq_getElem hk
  have h3 := atI_nat h2
  rw [show ((k.toNat : Nat) : Int) = k by omega] at h3
  exact ⟨_, h3, h2⟩
theorem int_at {ns : List Int} {k : Int} (h0 : 0 ≤ k) (h1 : k < (ns.length : Int)) : ∃ z : Int, atI (ns.map V.int) k = some (.int z) := by
  obtain ⟨v, h, e⟩ := at_some (xs := ns.map V.int) h0 (by rw [List.length_map]; exact h1)
  rw [List.getElem?_map] at e
  cases q : ns[k.toNat]? with
  | none => rw [q] at e; cases e
  | some z => rw [q] at e; cases e; exact ⟨z, h⟩
/-! ### the heap grows, the box alone changes -/
structure Gr (b : Addr) (H H' : Hp) : Prop where
  keep : ∀ a o, a ≠ b → H a = some o → H' a = some o
  box : ∃ w s c, H' b = some (bx w s c)
/-- at a, which is not the box, stands o -/
structure At (b : Addr) (H : Hp) (a : Addr) (o : HO) : Prop where
  ne : a ≠ b
  at_ : H a = some o
theorem Gr.refl {b : Addr} {H : Hp} {w s c : Int} (h : H b = some (bx w s c)) : Gr b H H := ⟨fun _ _ _ e => e, w, s, c, h⟩
theorem Gr.trans {b : Addr} {H H1 H2 : Hp} (x : Gr b H H1) (y : Gr b H1 H2) : Gr b H H2 := ⟨fun a o n e => y.keep a o n (x.keep a o n e), y.box⟩
theorem Gr.draw {b : Addr} {H H1 : Hp} (x : Gr b H H1) (w s c : Int) : Gr b H (upd H1 b (bx w s c)) := ⟨fun a o n e => by rw [upd_ne n]; exact x.keep a o n e, w, s, c, upd_same⟩
theorem Gr.ne_new {b p : Addr} {H H1 : Hp} (x : Gr b H H1) (h : H1 p = none) : p ≠ b := fun e => by
  obtain ⟨w, s, c, q⟩ := x.box
  rw [e, q] at h
  cases h
theorem Gr.free {b p : Addr} {H H1 : Hp} (x : Gr b H H1) (h : H1 p = none) : H p = none := by
  cases q : H p with
  | none => rfl
  | some o =>
    rw [x.keep p o (x.ne_new h) q] at h
    cases h
theorem Gr.new {b p : Addr} {H H1 : Hp} (x : Gr b H H1) (h : H1 p = none) (o : HO) : Gr b H (upd H1 p o) := by
  have np := x.ne_new h
  refine ⟨fun a u n e => ?_, ?_⟩
  · rw [upd_ne (ne_of_none (x.keep a u n e) h)]
    exact x.keep a u n e
  · obtain ⟨w, s, c, q⟩ := x.box
    exact ⟨w, s, c, by rw [upd_ne np.symm]; exact q⟩
/-- what H does not know may be changed -/
theorem Gr.mut {b p : Addr} {H H1 : Hp} (x : Gr b H H1) (h : H p = none) (np : p ≠ b) (o : HO) : Gr b H (upd H1 p o) := by
  refine ⟨fun a u n e => ?_, ?_⟩
  · rw [upd_ne (ne_of_none e h)]
    exact x.keep a u n e
  · obtain ⟨w, s, c, q⟩ := x.box
    exact ⟨w, s, c, by rw [upd_ne np.symm]; exact q⟩
theorem At.gr {b a : Addr} {H H' : Hp} {o : HO} (h : At b H a o) (g : Gr b H H') : At b H' a o := ⟨h.ne, g.keep a o h.ne h.at_⟩
theorem At.l {K : PySem.W.Frag} {b a : Addr} {H : Hp} {xs : List V} (h : At b H a (.lst xs)) : SqL K H a xs := SqL.of h.at_
theorem At.t {K : PySem.W.Frag} {b a : Addr} {H : Hp} {xs : List V} (h : At b H a (.tup xs)) : SqT K H a xs := SqT.of h.at_
theorem Gr.at_new {b p : Addr} {H H1 : Hp} (x : Gr b H H1) (h : H1 p = none) (o : HO) : At b (upd H1 p o) p o := ⟨x.ne_new h, upd_same⟩
theorem At.new {b a p : Addr} {H : Hp} {o u : HO} (h : At b H a o) (hp : H p = none) : At b (upd H p u) a o := ⟨h.ne, by rw [upd_ne (ne_of_none h.at_ hp)]; exact h.at_⟩
theorem At.nep {b a p : Addr} {H : Hp} {o : HO} (h : At b H a o) (hp : H p = none) : a ≠ p := ne_of_none h.at_ hp
theorem Gr.of_new {b p : Addr} {H : Hp} {w s c : Int} (hb : H b = some (bx w s c)) (h : H p = none) (o : HO) : Gr b H (upd H p o) := (Gr.refl hb).new h o
theorem At.mk_new {b p : Addr} {H H1 : Hp} (x : Gr b H H1) (h : H1 p = none) (o : HO) : At b (upd H1 p o) p o := ⟨x.ne_new h, upd_same⟩
theorem Same.gr {b : Addr} {H H' : Hp} {w s c : Int} (e : Same H H') (h : H b = some (bx w s c)) : Gr b H H' := ⟨fun a o _ q => e a o q, w, s, c, e _ _ h⟩
theorem same_upd {H : Hp} {p : Addr} (h : H p = none) (o : HO) : Same H (upd H p o) := fun b u q => by rw [upd_ne (ne_of_none q h)]; exact q

/-! ### a list against an empty list -/
section
variable {X : Cx}
def rEqE (K : PySem.W.Frag) (neg : Bool) : R2 := fun x y H Q => ∃ (a q : Addr) (xs : List V), x = .ref a ∧ y = .ref q ∧ SqL K H a xs ∧ SqL K H q [] ∧ Q (.bl (if neg then !xs.isEmpty else xs.isEmpty)) H
theorem op_eqE (hu : X.A.units < cLine) : OpR X (compareOp .Eq) (rEqE X.K false) := by
  intro pins s σ H x y u v Q I rx ry h
  obtain ⟨a, q, xs, rfl, rfl, h1, h2, k⟩ := h
  cases rx
  cases ry
  obtain ⟨is, r, p, _⟩ := I.list h1
  obtain ⟨js, r', p', _⟩ := I.list h2
  cases r'
  cases xs with
  | nil =>
    cases r
    exact SeqAt.RcAt.lists (e := fun _ => true) p.isList p'.isList rfl hu (fun j h1 _ => absurd h1 (by simp)) X.prog X.w X.xe _ ⟨.bl true, H, I, rfl, k⟩
  | cons x xs =>
    cases r with
    | cons r1 r2 => exact SeqAt.RcAt.lists_lengths p.isList p'.isList (by simp) hu X.prog X.w X.xe _ ⟨.bl false, H, I, rfl, k⟩
theorem op_neE (hu : X.A.units < cLine) : OpR X (compareOp .NotEq) (rEqE X.K true) := by
  intro pins s σ H x y u v Q I rx ry h
  obtain ⟨a, q, xs, rfl, rfl, h1, h2, k⟩ := h
  cases rx
  cases ry
  obtain ⟨is, r, p, _⟩ := I.list h1
  obtain ⟨js, r', p', _⟩ := I.list h2
  cases r'
  cases xs with
  | nil =>
    cases r
    exact SeqAt.RcNeAt.lists (e := fun _ => true) p.isList p'.isList rfl hu (fun j h1 _ => absurd h1 (by simp)) X.prog X.w X.xe _ ⟨.bl false, H, I, rfl, k⟩
  | cons x xs =>
    cases r with
    | cons r1 r2 => exact SeqAt.RcNeAt.lists_lengths p.isList p'.isList (by simp) hu X.prog X.w X.xe _ ⟨.bl true, H, I, rfl, k⟩
/-- a text so many times -/
def timesL (x : List Nat) : Nat → List Nat
  | 0 => []
  | n + 1 => x ++ timesL x n
end
end My

/-! ## Further rules of my own: a text so many times -/
namespace My
open PySem L2
theorem timesL_one (x : List Nat) : timesL x 1 = x := by simp [timesL]
theorem fold_times (x : Array Nat) : ∀ (n : Nat) (acc : Array Nat), ((List.replicate n x).foldl (· ++ ·) acc).toList = acc.toList ++ timesL x.toList n
  | 0, acc => by simp [timesL]
  | n + 1, acc => by
    rw [List.replicate_succ, List.foldl_cons, fold_times x n, Array.toList_append, List.append_assoc]
    rfl
theorem timesL_len (x : List Nat) : ∀ n : Nat, (timesL x n).length = n * x.length
  | 0 => by simp [timesL]
  | n + 1 => by
    show (x ++ timesL x n).length = (n + 1) * x.length
    rw [List.length_append, timesL_len x n, Nat.add_mul, Nat.one_mul, Nat.add_comm]
theorem timesL_nil : ∀ n : Nat, timesL [] n = []
  | 0 => rfl
  | n + 1 => by
    show [] ++ timesL [] n = []
    rw [timesL_nil n]
    rfl
section
variable {X : Cx}
theorem op_mul_str : OpR X (binaryOp .Mult) (fun x y H Q => ∃ (z : Str) (n : Int), x = .str z ∧ y = .int n ∧ 0 ≤ n ∧ n ≤ 1000 ∧ z.length ≤ 1000 ∧ Q (.str ⟨(timesL z.cps.toList n.toNat).toArray⟩) H) := by
  intro pins s σ H x y v u Q I rx ry h
  obtain ⟨z, n, rfl, rfl, h0, h1, hz, k⟩ := h
  obtain ⟨t, rfl⟩ := rx
  obtain ⟨t', rfl⟩ := ry
  have hs : z.cps.size ≤ 1000 := hz
  refine PySem.P.mul_str (by rw [decide_eq_false (by omega), decide_eq_false (by omega)]; rfl) (fun h2 _ => ?_) (fun h2 _ => ?_) ?_
  · have h3 : (1000 : Int) ≤ (2 ^ 63 - 1) / n := by
      rw [Int.le_ediv_iff_mul_le (by omega)]
      have : (1000 : Int) * n ≤ 1000000 := by omega
      omega
    omega
  · have h3 : z.length * n.toNat ≤ 1000 * 1000 := Nat.mul_le_mul hz (by omega)
    have h4 : z.length * n.toNat ≤ sizeLine := by rw [sizeLine_eq]; omega
    show decide (z.length * n.toNat > sizeLine) = false
    exact decide_eq_false (by omega)
  · by_cases n0 : n < 1
    · have e : n = 0 := by omega
      subst e
      exact ⟨Nat.zero_le _, .str ⟨#[]⟩, H, I.tok _, ⟨_, rfl⟩, k⟩
    · rw [if_neg n0]
      by_cases e : (n == 1 || z.length == 0) = true
      · rw [if_pos e]
        have q : timesL z.cps.toList n.toNat = z.cps.toList := by
          rcases Bool.or_eq_true_iff.mp e with e | e
          · have e' : n = 1 := by simpa using e
            subst e'
            exact timesL_one _
          · have e' : z.cps.toList = [] := by
              have : z.cps.size = 0 := by simpa [Str.length] using e
              exact List.eq_nil_of_length_eq_zero (by simpa using this)
            rw [e', timesL_nil]
        rw [q] at k
        exact ⟨.str z, H, I, ⟨t, rfl⟩, by simpa using k⟩
      · rw [if_neg e]
        have q : (⟨(List.replicate n.toNat z.cps).foldl (· ++ ·) #[]⟩ : Str) = ⟨(timesL z.cps.toList n.toNat).toArray⟩ := by
          have f := fold_times z.cps n.toNat #[]
          have g : (List.replicate n.toNat z.cps).foldl (· ++ ·) #[] = (timesL z.cps.toList n.toNat).toArray := by
            apply Array.toList_inj.mp
            rw [f]
            simp
          rw [g]
        rw [← q] at k
        refine ⟨?_, .str _, H, I.tok _, ⟨_, rfl⟩, k⟩
        show ((List.replicate n.toNat z.cps).foldl (· ++ ·) #[]).size ≤ sizeLine
        rw [← Array.length_toList, fold_times, List.length_append, timesL_len]
        have h3 : n.toNat * z.cps.toList.length ≤ 1000 * 1000 := Nat.mul_le_mul (by omega) (by simpa using hs)
        rw [sizeLine_eq]
        simpa using (by omega : n.toNat * z.cps.toList.length ≤ 16777216)
end
end My

/-! ## The rules that read the written part, with it named (within a comprehension's block it must not hang on the block) -/
namespace My
open PySem L2
section
variable {X : Cx} {e a b o : Expr} {es : List Expr} {te ta tb to : TE} {t : TA} {f name : Str} {pos cpos p apos : Pos} {id T : String}
theorem pe_fldK (K : PySem.W.Frag) (he : PE X e ta) (hK : X.K = K := by rfl) (hb : attributeBase e f X.env (eval e X.env) = eval e X.env := by rfl) : PE X (.Attribute e f pos) (tFld K ta f) := hK ▸ pe_fld he hb
theorem ix_listK (K : PySem.W.Frag) (hK : X.K = K := by rfl) : IxR X (rIxL K) := hK ▸ ix_list
theorem ix_tupK (K : PySem.W.Frag) (hK : X.K = K := by rfl) : IxR X (rIxT K) := hK ▸ ix_tup
theorem sl_listK (K : PySem.W.Frag) (hK : X.K = K := by rfl) : SlR X (rSlL K) := hK ▸ sl_list
theorem sl_tupK (K : PySem.W.Frag) (hK : X.K = K := by rfl) : SlR X (rSlT K) := hK ▸ sl_tup
def rLenS (K : PySem.W.Frag) : List V → Hp → VK → Prop := fun xs H Q => ∃ p ys, xs = [.ref p] ∧ (SqL K H p ys ∨ SqT K H p ys) ∧ Q (.int ys.length) H
theorem call_lenK (K : PySem.W.Frag) (hK : X.K = K := by rfl) : CallR X (.builtin "len") (rLenS K) := hK ▸ call_len_seq
def rListO (K : PySem.W.Frag) : List V → Hp → VK → Prop := fun xs H Q => ∃ p ys, xs = [.ref p] ∧ (SqL K H p ys ∨ SqT K H p ys) ∧ ∀ l, H l = none → Q (.ref l) (upd H l (.lst ys))
theorem call_listK (K : PySem.W.Frag) (hK : X.K = K := by rfl) : CallR X (.type "list") (rListO K) := hK ▸ call_list_of
def rTupO (K : PySem.W.Frag) : List V → Hp → VK → Prop := fun xs H Q => ∃ p ys, xs = [.ref p] ∧ ((SqL K H p ys ∧ ∀ l, H l = none → Q (.ref l) (upd H l (.tup ys))) ∨ (SqT K H p ys ∧ Q (.ref p) H))
theorem call_tupleK (K : PySem.W.Frag) (hK : X.K = K := by rfl) : CallR X (.type "tuple") (rTupO K) := hK ▸ call_tuple_of
theorem op_inK (K : PySem.W.Frag) (hK : X.K = K := by rfl) : OpR X (compareOp .In) (rIn K false) := hK ▸ op_in_seq
theorem op_notInK (K : PySem.W.Frag) (hK : X.K = K := by rfl) : OpR X (compareOp .NotIn) (rIn K true) := hK ▸ op_notIn_seq
theorem op_eqDK (K : PySem.W.Frag) (hu : X.A.units + 64 < cLine) (hK : X.K = K := by rfl) : OpR X (compareOp .Eq) (rEqD K) := hK ▸ op_eqD hu
theorem op_neDK (K : PySem.W.Frag) (hu : X.A.units + 64 < cLine) (hK : X.K = K := by rfl) : OpR X (compareOp .NotEq) (rNeD K) := hK ▸ op_neD hu
theorem op_eqEK (K : PySem.W.Frag) (hu : X.A.units < cLine) (hK : X.K = K := by rfl) : OpR X (compareOp .Eq) (rEqE K false) := hK ▸ op_eqE hu
theorem op_neEK (K : PySem.W.Frag) (hu : X.A.units < cLine) (hK : X.K = K := by rfl) : OpR X (compareOp .NotEq) (rEqE K true) := hK ▸ op_neE hu
def rJoin (K : PySem.W.Frag) : V → List V → Hp → VK → Prop := fun x xs H Q => ∃ a p, ∃ ys : List Str, x = .str a ∧ xs = [.ref p] ∧ (SqL K H p (ys.map V.str) ∨ SqT K H p (ys.map V.str)) ∧
  (ys.map (·.length)).sum + ys.length * a.length ≤ 16777216 ∧ Q (.str (Txt.join a ys)) H
theorem mt_joinK (K : PySem.W.Frag) (hK : X.K = K := by rfl) : MtR X "str.join" (rJoin K) := hK ▸ mt_join
theorem pi_listK (K : PySem.W.Frag) {tg : Expr} (hl : PE X e te) (hK : X.K = K := by rfl) : PI X tg e (iList K te) := hK ▸ pi_list hl
theorem pi_tupK (K : PySem.W.Frag) {tg : Expr} (hl : PE X e te) (hK : X.K = K := by rfl) : PI X tg e (iTup K te) := hK ▸ pi_tup hl
theorem call_isiV (K : PySem.W.Frag) (hK : X.K = K := by rfl) : CallR X (.builtin "isinstance") (rIsi K) := hK ▸ call_isi
theorem call_isiTV (K : PySem.W.Frag) (hK : X.K = K := by rfl) : CallR X (.builtin "isinstance") (rIsiT K) := hK ▸ call_isiT
theorem cr_allK (K : PySem.W.Frag) (hc : X.calm = true) (hK : X.K = K := by rfl) : CallR X (.builtin "all") (rAll K) := hK ▸ cr_all hc
end
end My

/-! ## Data: values that are nested lists and tuples -/
namespace My
open PySem L2
mutual
theorem Dp.same {K : PySem.W.Frag} {H H' : Hp} (e : Same H H') : ∀ (d : PyData) (v : V), Dp K H v d → Dp K H' v d
  | .none, _, h => by cases h; exact .non
  | .bool b, _, h => by cases h; exact .bl b
  | .int i, _, h => by cases h; exact .int i
  | .str x, _, h => by cases h; exact .str x
  | .list ds, _, h => by
    cases h with
    | lst hs ha => exact .lst (e.seq hs) (DpAll.same e ds _ ha)
  | .tuple ds, _, h => by
    cases h with
    | tup hs ha =>
      refine .tup ?_ (DpAll.same e ds _ ha)
      rcases hs with (hs | ⟨o, hs⟩) | hs
      · exact .inl (.inl (e _ _ hs))
      · exact .inl (.inr ⟨o, e _ _ hs⟩)
      · exact .inr hs
  | .dict _, _, h => by cases h
theorem DpAll.same {K : PySem.W.Frag} {H H' : Hp} (e : Same H H') : ∀ (ds : List PyData) (vs : List V), DpAll K H vs ds → DpAll K H' vs ds
  | [], _, h => by cases h; exact .nil
  | d :: ds, _, h => by
    cases h with
    | cons h1 h2 => exact .cons (Dp.same e d _ h1) (DpAll.same e ds _ h2)
end
theorem seqL_same {K : PySem.W.Frag} {H H' : Hp} (e : Same H H') {a : Addr} {xs : List V} (h : SqL K H a xs) : SqL K H' a xs := e.seq h
theorem seqT_same {K : PySem.W.Frag} {H H' : Hp} (e : Same H H') {a : Addr} {xs : List V} (hs : SqT K H a xs) : SqT K H' a xs := by
  rcases hs with (hs | ⟨o, hs⟩) | hs
  · exact .inl (.inl (e _ _ hs))
  · exact .inl (.inr ⟨o, e _ _ hs⟩)
  · exact .inr hs
theorem tyL {K : PySem.W.Frag} {H : Hp} {a : Addr} {xs : List V} (h : SqL K H a xs) : TyX K H (.ref a) (.type "list") := by
  rcases h with (h | ⟨o, h⟩) | ⟨o, its, n, h, hc, _⟩
  · exact .base (.lst h)
  · exact .base (.frz h)
  · exact .kList h hc
theorem tyT {K : PySem.W.Frag} {H : Hp} {a : Addr} {xs : List V} (h : SqT K H a xs) : TyX K H (.ref a) (.type "tuple") := by
  rcases h with (h | ⟨o, h⟩) | ⟨o, its, n, h, hc, _⟩
  · exact .base (.tup h)
  · exact .fTuple h
  · exact .kTuple h hc
/-- the type of a datum -/
def tyD : PyData → String
  | .none => "NoneType"
  | .bool _ => "bool"
  | .int _ => "int"
  | .str _ => "str"
  | .list _ => "list"
  | .tuple _ => "tuple"
  | .dict _ => "dict"
theorem Dp.ty {K : PySem.W.Frag} {H : Hp} {v : V} {d : PyData} (h : Dp K H v d) : TyX K H v (.type (tyD d)) := by
  cases h with
  | non => exact .base .non
  | bl b => exact .base (.bl b)
  | int i => exact .base (.int i)
  | str x => exact .base (.str x)
  | lst hs _ => exact tyL hs
  | tup hs _ => exact tyT hs
/-- a datum of bounded depth whose text, if it is one, is short -/
structure Dv (K : PySem.W.Frag) (H : Hp) (v : V) (d : PyData) : Prop where
  dp : Dp K H v d
  sh : SeqAt.shaped d = true
  tx : ∀ x, d = .str x → x.length ≤ 2000
theorem Dv.same {K : PySem.W.Frag} {H H' : Hp} {v : V} {d : PyData} (h : Dv K H v d) (e : Same H H') : Dv K H' v d := ⟨Dp.same e d v h.dp, h.sh, h.tx⟩
/-- a short text of code points -/
def okS (x : Str) : Bool := decide (x.length ≤ 2000) && PyData.strOk x
theorem shaped_str {x : Str} (h : PyData.strOk x = true) : SeqAt.shaped (.str x) = true := by
  unfold SeqAt.shaped
  simp [PyData.canLay0, PyData.depth, h]
theorem Dv.str {K : PySem.W.Frag} {H : Hp} {x : Str} (h : okS x = true) : Dv K H (.str x) (.str x) := by
  have h' := Bool.and_eq_true_iff.mp h
  exact ⟨.str x, shaped_str h'.2, fun y e => by cases e; exact of_decide_eq_true h'.1⟩
theorem Dp.all_strs {K : PySem.W.Frag} {H : Hp} : ∀ l : List Str, DpAll K H (l.map V.str) (l.map PyData.str)
  | [] => .nil
  | x :: l => .cons (.str x) (Dp.all_strs l)
/-- a datum as a text among some -/
def txD (l : List Str) : PyData → Bool
  | .str x => l.contains x
  | _ => false
theorem any_strs (l : List Str) (d : PyData) : ((l.map PyData.str).any fun z => PyData.eqv z d) = txD l d := by
  induction l with
  | nil => cases d <;> rfl
  | cons y l ih =>
    rw [List.map_cons, List.any_cons, ih]
    cases d with
    | str x =>
      show (PyData.eqv (.str y) (.str x) || l.contains x) = (y :: l).contains x
      rw [List.contains_cons, show PyData.eqv (.str y) (.str x) = (y == x) from by simp [PyData.eqv], BEq.comm]
    | _ =>
      show (PyData.eqv (.str y) _ || false) = false
      simp [PyData.eqv]
theorem canLay_strs : ∀ l : List Str, (l.all PyData.strOk) = true → PyData.canLayAll0 (l.map PyData.str) = true
  | [], _ => rfl
  | y :: l, h => by
    rw [List.all_cons, Bool.and_eq_true] at h
    have ih := canLay_strs l h.2
    simp [PyData.canLayAll0, PyData.canLay0, h.1, ih]
theorem depth_strs : ∀ l : List Str, PyData.depthAll (l.map PyData.str) = 0
  | [] => by simp [PyData.depthAll]
  | y :: l => by
    have ih := depth_strs l
    simp [PyData.depthAll, PyData.depth, ih]
theorem shaped_strs {l : List Str} (h : (l.all PyData.strOk) = true) : SeqAt.shaped (.tuple (l.map PyData.str)) = true := by
  unfold SeqAt.shaped
  simp [PyData.canLay0, PyData.depth, canLay_strs l h, depth_strs l]
theorem shapedL_strs {l : List Str} (h : (l.all PyData.strOk) = true) : SeqAt.shaped (.list (l.map PyData.str)) = true := by
  unfold SeqAt.shaped
  simp [PyData.canLay0, PyData.depth, canLay_strs l h, depth_strs l]
section
variable {X : Cx}
def rInT (K : PySem.W.Frag) (neg : Bool) : R2 := fun x y H Q => ∃ d ds, Dp K H x d ∧ Dp K H y (.tuple ds) ∧ SeqAt.shaped d = true ∧ SeqAt.shaped (.tuple ds) = true ∧ Q (.bl (if neg then !ds.any fun z => PyData.eqv z d else ds.any fun z => PyData.eqv z d)) H
theorem op_inT (K : PySem.W.Frag) (hu : X.A.units + 65 < cLine) (hK : X.K = K := by rfl) : OpR X (compareOp .In) (rInT K false) := by
  subst hK
  intro pins s σ H x y v u Q I rx ry h
  obtain ⟨d, ds, hd, he, sd, se, q⟩ := h
  obtain ⟨as, r1⟩ := Dp.reads I d x v hd rx
  obtain ⟨bs, r2⟩ := Dp.reads I (.tuple ds) y u he ry
  exact SeqAt.in_tuple_reads r2 r1 (by simpa [PyData.canLay0] using SeqAt.canLay_of_shaped se) (SeqAt.canLay_of_shaped sd) (by have := SeqAt.depth_of_shaped sd; have := Nat.min_le_right (PyData.depthAll ds) d.depth; omega) ⟨.bl _, H, I, rfl, q⟩
theorem op_notInT (K : PySem.W.Frag) (hu : X.A.units + 65 < cLine) (hK : X.K = K := by rfl) : OpR X (compareOp .NotIn) (rInT K true) := by
  subst hK
  intro pins s σ H x y v u Q I rx ry h
  obtain ⟨d, ds, hd, he, sd, se, q⟩ := h
  obtain ⟨as, r1⟩ := Dp.reads I d x v hd rx
  obtain ⟨bs, r2⟩ := Dp.reads I (.tuple ds) y u he ry
  exact SeqAt.notIn_tuple_reads r2 r1 (by simpa [PyData.canLay0] using SeqAt.canLay_of_shaped se) (SeqAt.canLay_of_shaped sd) (by have := SeqAt.depth_of_shaped sd; have := Nat.min_le_right (PyData.depthAll ds) d.depth; omega) ⟨.bl _, H, I, rfl, q⟩
end
theorem room65 {k : Nat} {A : Around} (r : Room k A) : A.units + 65 < cLine := by have := r.un; omega
end My

/-! ## == and != of own instances, str of one -/
namespace PySem.W
open PySem PySem.Spec PySem.Calls PyProof.Rows
section
variable {prog : Program} {w : World} {A : Around} {E : Value → Shared → Prop} {s : Shared} {K : Frag} {x C f : Addr} {ox : Obj} {od : Option Obj} {b tb : Value}
theorem my_boundB {M : Model} {name : Str} {id : String} {args : List Value} {Q : Option Value → Shared → Prop} (Y : K.In s.heap) (J : InstAt s.heap x ox C od) (e : findIn K (.ref C) name = some (some (.builtin id)))
    (bd : ∀ u, bindSpecial (.builtin id) u = pure (.builtin id, [u])) (q : wpAny M A (call (.builtin id) (.ref x :: args)) (fun v => Q (some v)) E s) : wpAny M A (callSpecialIfBound? (.ref x) name args) Q E s := by
  have q' : wpAny M A (call (.builtin id) ([.ref x] ++ args) >>= fun v => pure (some v)) Q E s := wpAny_bind (wpAny_mono q (fun _ _ z => wpAny_pure z) fun _ _ z => z)
  simp only [callSpecialIfBound?, bindSpecialIfBound?, bd]
  refine wpAny_holding (wpAny_bind (wpAny_bind (wpAny_bind (J.type.here ((looks_findIn Y e).here (wpAny_bind (wpAny_askSetting (wpAny_ite ?_))))))))
  split
  · refine wpAny_bind ?_
    rw [bd]
    exact wpAny_pure (wpAny_pure q')
  · refine wpAny_tryCatch (wpAny_bind ?_)
    rw [bd]
    exact wpAny_pure (wpAny_pure q')
theorem my_neBody {Q : Fin → Shared → Prop} (hu : A.units < cLine) (Y : K.In s.heap) (J : InstAt s.heap x ox C od) (e : findIn K (.ref C) "__eq__" = some (some (.ref f))) (g : isFn K (.ref f) = true)
    (q : wpAny (model prog w) A (call (.ref f) [.ref x, b]) (fun v s' => ∃ r, v = .bool r ∧ Q (.done (.ret (.bool (!r)))) s') E s) :
    wpAny (model prog w) A (Builtin.«object.__ne__» ⟨[.ref x, b], []⟩) Q E s := by
  unfold Builtin.«object.__ne__»
  rw [show slotArgs "__ne__" 1 ⟨[.ref x, b], []⟩ = pure (.ref x, [b]) from rfl]
  refine wpAny_bind (wpAny_pure (wpAny_bind (wpAny_cRoomFor hu (wpAny_bind (ifBound_K Y J e g (wpAny_mono q (fun v s' hv => ?_) fun _ _ z => z))))))
  obtain ⟨r, rfl, hq⟩ := hv
  exact wpAny_bind (wpAny_truthy_bool (wpAny_pure hq))
theorem my_neArgs (u v : Value) : argsOk "object.__ne__" ⟨[u, v], []⟩ := PySem.F.cmpArgs_ne u v
/-- a != b where a's class has its own == and object's != -/
theorem my_ne {Q : Value → Shared → Prop} (hu : A.units + 1 < cLine) (Y : K.In s.heap) (J : InstAt s.heap x ox C od) (ty : Looks (model prog w) s.heap (typeOf b) tb) (n : notFirst K C tb = true)
    (e1 : findIn K (.ref C) "__ne__" = some (some (.builtin "object.__ne__"))) (so : subIn K (.ref C) (.type "object") = some true) (e : findIn K (.ref C) "__eq__" = some (some (.ref f))) (g : isFn K (.ref f) = true)
    (q : wpAny (model prog w) A.in1 (call (.ref f) [.ref x, b]) (fun v s' => ∃ r, v = .bool r ∧ Q (.bool (!r)) s') E s) : wpAny (model prog w) A (richCompare .NotEq (.ref x) b) Q E s := by
  have once : wpAny (model prog w) A (tryCompare (.ref x) "__ne__" b) (fun r s' => ∃ v, r = some v ∧ Q v s') E s := by
    unfold tryCompare
    refine wpAny_bind (my_boundB Y J e1 PySem.F.cmp_object.ne.bind (wpAny_call (codeAny_call_builtin PySem.F.cmp_object.ne.plain PySem.F.cmpEntry_ne (check_slot PySem.F.cmpKind_ne PySem.F.cmpSplit_ne (J.type.andThen (looks_subIn Y so)) (my_neArgs _ _) ?_))))
    refine my_neBody (by show A.units + 1 < cLine; exact hu) Y J e g (wpAny_mono q (fun v s' hv => ?_) fun _ _ z => z)
    obtain ⟨r, rfl, hq⟩ := hv
    exact ⟨r, rfl, wpAny_pure ⟨_, rfl, hq⟩⟩
  unfold richCompare
  simp only [oneThing_ref]
  refine wpAny_holding (wpAny_bind (wpAny_cRoomFor (Nat.lt_of_succ_lt hu) ?_))
  refine wpAny_bind (J.type.here (wpAny_bind (ty.here ?_)))
  have last : wpAny (model prog w) A (tryCompare (.ref x) (cmpInfo .NotEq).2.1 b) (fun r s' => ∃ v, r = some v ∧ Q v s') E s := once
  by_cases z : tb = .ref C
  · subst z
    rw [if_neg (by simp)]
    refine wpAny_bind (wpAny_pure ?_)
    simp only [Bool.false_eq_true, if_false]
    exact wpAny_bind (wpAny_mono last (fun r s' h => by
      obtain ⟨v, rfl, hq⟩ := h
      exact wpAny_pure hq) fun _ _ z => z)
  · have e2 : subIn K tb (.ref C) = some false := by
      rcases Bool.or_eq_true_iff.mp n with k | k
      · exact absurd (beq_iff_eq.mp k) z
      · exact beq_iff_eq.mp k
    rw [if_pos (by simp only [bne_iff_ne, ne_eq]; exact fun k => z k.symm)]
    refine wpAny_bind ((looks_subIn Y e2).here ?_)
    simp only [Bool.false_eq_true, if_false]
    exact wpAny_bind (wpAny_mono last (fun r s' h => by
      obtain ⟨v, rfl, hq⟩ := h
      exact wpAny_pure hq) fun _ _ z => z)
end
end PySem.W
namespace My
open PySem L2 PyProof.Rows
/-- what is said of classes with == and str of their own -/
structure OwnEqs (P : Program) (w : World) (K : PySem.W.Frag) (mg : Str → Option Value) (base : Heap) {ι : Type} (cl : ι → Addr) (ok : ι → Prop) (k : Nat) (sp : ι → Sp) : Prop where
  fn : ∀ i, ok i → ∃ (f : Addr) (fd : FuncData) (ps : List Str), FnOk P w K mg base CX0 k f fd ps (sp i) ∧ Binds K fd ps [] ∧ PySem.W.findIn K (.ref (cl i)) "__eq__" = some (some (.ref f)) ∧ PySem.W.isFn K (.ref f) = true ∧
    PySem.W.findIn K (.ref (cl i)) "__ne__" = some (some (.builtin "object.__ne__")) ∧ PySem.W.subIn K (.ref (cl i)) (.type "object") = some true
structure OwnStr (P : Program) (w : World) (K : PySem.W.Frag) (mg : Str → Option Value) (base : Heap) {ι : Type} (cl : ι → Addr) (ok : ι → Prop) (k : Nat) (sp : ι → Sp) : Prop where
  fn : ∀ i, ok i → ∃ (f : Addr) (fd : FuncData) (ps : List Str), FnOk P w K mg base CX0 k f fd ps (sp i) ∧ Binds K fd ps [] ∧ PySem.W.findIn K (.ref (cl i)) "__str__" = some (some (.ref f)) ∧ PySem.W.isFn K (.ref f) = true
section
variable {X : Cx} {pins : List (Addr × Obj)} {σ : L2.St} {H : Hp} {s : Shared}
/-- a call somewhere within an operator -/
theorem run_within {k : Nat} {f : Addr} {fd : FuncData} {ps : List Str} {sp : Sp} {B : Around} {Q : VK} {us : List Value} {vs : List V} (I : Inv X pins σ H s) (eB : Env0 X.prog X.w X.K X.mg X.base B X.stack s H) (F : FnOk X.prog X.w X.K X.mg X.base CX0 k f fd ps sp)
    (hr : Room k B) (hb : Binds X.K fd ps []) (r : Vals vs us) (h : sp vs H Q E0) : wpAny (model X.prog X.w) B (call (.ref f) us) (EP X pins σ Q) X.xe s := by
  have ln : us.length = ps.length := r.length ▸ F.len _ _ _ _ h
  have r0 : Vals (vs ++ []) (us ++ []) := r.append .nil
  rw [List.append_nil, List.append_nil] at r0
  have bt := hb s us I.kIn (by rw [List.append_nil]; exact ln)
  rw [List.append_nil] at bt
  refine wpAny_call (codeAny_mono (F.run B X.stack s H ⟨us, []⟩ us vs Q E0 hr eB bt r0 h) fun q s' hq => ?_)
  match q, hq with
  | .error e, hq => exact pass0 pins σ H s e s' I hq
  | .ok (.ret u), hq => exact I.after hq
def rEqO (K : PySem.W.Frag) {ι : Type} (cl : ι → Addr) (ok : ι → Prop) (sp : ι → Sp) (neg : Bool) : R2 := fun x y H Q => ∃ (a : Addr) (i : ι) (dx : Addr) (fs : List (Str × V)) (t : Value), x = .ref a ∧ ok i ∧ H a = some (.ins (cl i) dx fs) ∧ TyX K H y t ∧ PySem.W.notFirst K (cl i) t = true ∧
  sp i [x, y] H (fun v H' => ∃ b, v = .bl b ∧ Q (.bl (if neg then !b else b)) H') E0
theorem ty_looks {x : V} {u t : Value} (I : Inv X pins σ H s) (rx : RelV x u) (ty : TyX X.K H x t) (M : Model) : PySem.W.Looks M s.heap (typeOf u) t := by
  obtain ⟨P, k, p, _⟩ := kit_of I rx ty
  exact k.ty M s.heap I.kIn p
theorem op_eqO (K : PySem.W.Frag) {ι : Type} {cl : ι → Addr} {ok : ι → Prop} {k : Nat} {sp : ι → Sp} (G : OwnEqs X.prog X.w K X.mg X.base cl ok k sp) (hr : Room k X.A) (hK : X.K = K := by rfl) : OpR X (compareOp .Eq) (rEqO K cl ok sp false) := by
  subst hK
  intro pins s σ H x y v u Q I rx ry h
  obtain ⟨a, i, dx, fs, t, rfl, hC, ha, ty, nf, hs⟩ := h
  obtain rfl : v = Value.ref a := rx
  obtain ⟨f, fd, ps, F, hb, e, g, _, _⟩ := G.fn i hC
  obtain ⟨mA, O, _, _, _, _⟩ := ins_get I.hok ha
  obtain ⟨od, J, _⟩ := O.look
  obtain ⟨m, fr⟩ := I.fr
  have r2 : Vals [.ref a, y] [Value.ref a, u] := .cons rfl (.cons ry .nil)
  have q := run_within I I.env0 F hr hb r2 hs
  show wpAny (model X.prog X.w) X.A (richCompare .Eq (.ref a) u) (EP X pins σ Q) X.xe s
  refine PySem.W.cmp_K (op := .Eq) (by have := hr.un; omega) fr I.ok.mod.kin J (ty_looks I ry ty _) nf e g (wpAny_mono q (fun z s' hz => ?_) fun _ _ z => z)
  obtain ⟨v, H', I', r, b, rfl, q⟩ := hz
  obtain rfl : z = Value.bool b := r
  exact ⟨.bl b, H', I', rfl, q⟩
theorem op_neO (K : PySem.W.Frag) {ι : Type} {cl : ι → Addr} {ok : ι → Prop} {k : Nat} {sp : ι → Sp} (G : OwnEqs X.prog X.w K X.mg X.base cl ok k sp) (hr : Room (k + 1) X.A) (hK : X.K = K := by rfl) : OpR X (compareOp .NotEq) (rEqO K cl ok sp true) := by
  subst hK
  intro pins s σ H x y v u Q I rx ry h
  obtain ⟨a, i, dx, fs, t, rfl, hC, ha, ty, nf, hs⟩ := h
  obtain rfl : v = Value.ref a := rx
  obtain ⟨f, fd, ps, F, hb, e, g, e1, so⟩ := G.fn i hC
  obtain ⟨mA, O, _, _, _, _⟩ := ins_get I.hok ha
  obtain ⟨od, J, _⟩ := O.look
  have r2 : Vals [.ref a, y] [Value.ref a, u] := .cons rfl (.cons ry .nil)
  have q := run_within I I.env0.in1 F hr.in1 hb r2 hs
  refine PySem.W.my_ne (by have := hr.un; omega) I.kIn J (ty_looks I ry ty _) nf e1 so e g (wpAny_mono q (fun z s' hz => ?_) fun _ _ z => z)
  obtain ⟨v, H', I', r, b, rfl, q⟩ := hz
  obtain rfl : z = Value.bool b := r
  exact ⟨b, rfl, .bl (!b), H', I', rfl, q⟩
def rStrO {ι : Type} (cl : ι → Addr) (ok : ι → Prop) (sp : ι → Sp) : List V → Hp → VK → Prop := fun xs H Q => ∃ (a : Addr) (i : ι) (dx : Addr) (fs : List (Str × V)), xs = [.ref a] ∧ ok i ∧ H a = some (.ins (cl i) dx fs) ∧ sp i [.ref a] H (fun v H' => ∃ y, v = .str y ∧ Q (.str y) H') E0
/-- str(x) by its own __str__ -/
theorem call_strO (K : PySem.W.Frag) {ι : Type} {cl : ι → Addr} {ok : ι → Prop} {k : Nat} {sp : ι → Sp} (G : OwnStr X.prog X.w K X.mg X.base cl ok k sp) (hr : Room (k + 2) X.A) (hK : X.K = K := by rfl) : CallR X (.type "str") (rStrO cl ok sp) := by
  subst hK
  intro pins s σ H xs us Q I r h
  obtain ⟨a, i, dx, fs, rfl, hC, ha, hs⟩ := h
  rw [Vals.ref1 r]
  obtain ⟨f, fd, ps, F, hb, e, g⟩ := G.fn i hC
  obtain ⟨mA, O, _, _, _, _⟩ := ins_get I.hok ha
  obtain ⟨od, J, _⟩ := O.look
  have r2 : Vals [.ref a] [Value.ref a] := .cons rfl .nil
  have q := run_within I I.env0.in1.in1 F hr.in1.in1 hb r2 hs
  refine PySem.W.kso_call (by have := hr.in1.in1.un; omega) I.kIn J e g (wpAny_mono q (fun z s' hz => ?_) fun _ _ z => z)
  obtain ⟨v, H', I', r, y, rfl, q⟩ := hz
  obtain ⟨t, rfl⟩ : ∃ t, z = Value.str y t := r
  exact ⟨.str y, H', I', ⟨t, rfl⟩, q⟩
end
end My

/-! ## An own instance in an f-string: its own __str__ is asked by object's __format__ -/
namespace PySem.W
open PySem PySem.Spec PySem.Calls PyProof.Rows
section
variable {prog : Program} {w : World} {A : Around} {E : Value → Shared → Prop} {s : Shared} {K : Frag} {x C f : Addr} {ox : Obj} {od : Option Obj}
theorem my_specB {M : Model} {name : Str} {id : String} {args : List Value} {Q : Option Value → Shared → Prop} (Y : K.In s.heap) (J : InstAt s.heap x ox C od) (e : findIn K (.ref C) name = some (some (.builtin id)))
    (bd : ∀ u, bindSpecial (.builtin id) u = pure (.builtin id, [u])) (q : wpAny M A (call (.builtin id) (.ref x :: args)) (fun v => Q (some v)) E s) : wpAny M A (callSpecial? (.ref x) name args) Q E s := by
  have q' : wpAny M A (call (.builtin id) ([.ref x] ++ args) >>= fun v => pure (some v)) Q E s := wpAny_bind (wpAny_mono q (fun _ _ z => wpAny_pure z) fun _ _ z => z)
  simp only [callSpecial?, specialOf]
  refine wpAny_bind (wpAny_bind (J.type.here ((looks_findIn Y e).here ?_)))
  refine wpAny_holding (wpAny_bind ?_)
  rw [bd]
  exact wpAny_pure q'
theorem my_shown {Q : Value → Shared → Prop} (hu : A.units < cLine) (Y : K.In s.heap) (J : InstAt s.heap x ox C od) (e : findIn K (.ref C) "__str__" = some (some (.ref f))) (g : isFn K (.ref f) = true)
    (q : wpAny (model prog w) A (call (.ref f) [.ref x]) (fun v s' => ∃ y t, v = .str y t ∧ Q v s') E s) : wpAny (model prog w) A (pyStrObj (.ref x)) Q E s := by
  unfold pyStrObj
  refine wpAny_bind (wpAny_cRoomFor hu (wpAny_bind (special_fn Y J e (beq_iff_eq.mp g) (wpAny_mono q (fun v s' hv => ?_) fun _ _ z => z))))
  obtain ⟨y, t, rfl, hq⟩ := hv
  exact wpAny_bind (wpAny_isInstance (typeIs_str s' y t) isSubtype_str_str (wpAny_pure hq))
theorem my_fmtBody {Q : Fin → Shared → Prop} {t : Tok} (hu : A.units < cLine) (Y : K.In s.heap) (J : InstAt s.heap x ox C od) (e : findIn K (.ref C) "__str__" = some (some (.ref f))) (g : isFn K (.ref f) = true)
    (q : wpAny (model prog w) A (call (.ref f) [.ref x]) (fun v s' => ∃ y t, v = .str y t ∧ Q (.done (.ret v)) s') E s) : wpAny (model prog w) A (Builtin.«object.__format__» ⟨[.ref x, .str Str.empty t], []⟩) Q E s := by
  unfold Builtin.«object.__format__»
  rw [show selfAndOne "object.__format__" ⟨[.ref x, .str Str.empty t], []⟩ = pure (.ref x, .str Str.empty t) from rfl]
  refine wpAny_bind (wpAny_pure ?_)
  have go : wpAny (model prog w) A (do let shown ← pyStrObj (.ref x); ret shown) Q E s := wpAny_bind (my_shown hu Y J e g (wpAny_mono q (fun v s' hv => by
    obtain ⟨y, t, rfl, hq⟩ := hv
    exact ⟨y, t, rfl, wpAny_pure hq⟩) fun _ _ z => z))
  simp only [asStr?]
  exact wpAny_bind (wpAny_typeNameOf (typeIs_str s Str.empty t) (by rfl) fun n => wpAny_bind (wpAny_pure go))
theorem my_fk : builtinKind "object.__format__" = some Manifest.AttrKind.method := by decide +kernel
theorem my_fs : splitId "object.__format__" = some ("object", "__format__") := by decide +kernel
theorem my_checkM {M : Model} {i owner n : String} {self : Value} {rest : List Value} {Q : Unit → Shared → Prop} (k : builtinKind i = some Manifest.AttrKind.method) (sp : splitId i = some (owner, n)) (y : Looks M s.heap (isInstance self (.type owner)) true)
    (a : argsOk i ⟨self :: rest, []⟩) (q : Q () s) : wpAny M A (checkBuiltinCall i ⟨self :: rest, []⟩) Q E s := by
  unfold checkBuiltinCall
  simp only [k, sp]
  refine wpAny_bind (y.here ?_)
  rw [if_neg (by decide)]
  unfold argsOk at a
  cases e : Manifest.signature? i with
  | none => exact wpAny_pure q
  | some sig =>
    rw [e] at a
    exact wpAny_of_eq a q
theorem my_fmtCall {Q : Value → Shared → Prop} {t : Tok} (hu : A.units + 1 < cLine) (Y : K.In s.heap) (J : InstAt s.heap x ox C od) (so : subIn K (.ref C) (.type "object") = some true) (e : findIn K (.ref C) "__str__" = some (some (.ref f))) (g : isFn K (.ref f) = true)
    (q : wpAny (model prog w) A.in1 (call (.ref f) [.ref x]) (fun v s' => ∃ y t, v = .str y t ∧ Q v s') E s) : wpAny (model prog w) A (call (.builtin "object.__format__") [.ref x, .str Str.empty t]) Q E s := by
  have yl : Looks (model prog w) s.heap (isInstance (.ref x) (.type "object")) true := J.type.andThen (looks_subIn Y so)
  refine wpAny_call (codeAny_call_builtin PySem.F.slot_object_format.plain PySem.F.entry_object_format (my_checkM (s := s) (M := model prog w) (i := "object.__format__") (owner := "object") (n := "__format__") (self := .ref x) (rest := [.str Str.empty t]) my_fk my_fs yl (PySem.F.args_object_format_2 _ _) ?_))
  exact my_fmtBody (by show A.units + 1 < cLine; exact hu) Y J e g q
theorem my_formatField {Q : Value → Shared → Prop} (hu : A.units + 1 < cLine) (Y : K.In s.heap) (J : InstAt s.heap x ox C od) (fm : findIn K (.ref C) "__format__" = some (some (.builtin "object.__format__"))) (so : subIn K (.ref C) (.type "object") = some true) (e : findIn K (.ref C) "__str__" = some (some (.ref f))) (g : isFn K (.ref f) = true)
    (q : ∀ s1, s1 = { s with toks := s.toks + 1 } → wpAny (model prog w) A.in1 (call (.ref f) [.ref x]) (fun v s' => ∃ y t, v = .str y t ∧ Q v s') E s1) : wpAny (model prog w) A (formatField (.ref x) Str.empty) Q E s := by
  show wpAny (model prog w) A (holding [.ref x] (pyFormat (.ref x) Str.empty)) Q E s
  unfold pyFormat
  refine wpAny_holding (wpAny_bind (wpAny_mkStr ?_ (by decide +kernel)))
  refine wpAny_bind (my_specB (s := { s with toks := s.toks + 1 }) Y J fm PySem.F.slot_object_format.bind ?_)
  refine my_fmtCall (s := { s with toks := s.toks + 1 }) hu Y J so e g (wpAny_mono (q _ rfl) (fun v s' hv => ?_) fun _ _ z => z)
  obtain ⟨y, t, rfl, hq⟩ := hv
  exact ⟨y, t, rfl, wpAny_bind (wpAny_isInstance (typeIs_str s' y t) isSubtype_str_str (wpAny_pure hq))⟩
end
end PySem.W
namespace My
open PySem L2 PyProof.Rows
section
variable {X : Cx} {te : TE} {e : Expr} {pos : Pos}
def tFmtO {ι : Type} (cl : ι → Addr) (ok : ι → Prop) (sp : ι → Sp) (te : TE) : TE := fun σ H Q => te σ H fun x H1 => ∃ (a : Addr) (i : ι) (dx : Addr) (fs : List (Str × V)), x = .ref a ∧ ok i ∧ H1 a = some (.ins (cl i) dx fs) ∧ sp i [.ref a] H1 (fun v H' => ∃ y, v = .str y ∧ Q (.str y) H') E0
/-- {x} in an f-string by x's own __str__ -/
theorem pe_fmtO (K : PySem.W.Frag) {ι : Type} {cl : ι → Addr} {ok : ι → Prop} {k : Nat} {sp : ι → Sp} (G : OwnStr X.prog X.w K X.mg X.base cl ok k sp)
    (fm : ∀ i, ok i → PySem.W.findIn K (.ref (cl i)) "__format__" = some (some (.builtin "object.__format__")) ∧ PySem.W.subIn K (.ref (cl i)) (.type "object") = some true)
    (hr : Room (k + 1) X.A) (he : PE X e te) (hK : X.K = K := by rfl) : PE X (.FormattedValue e (-1) none pos) (tFmtO cl ok sp te) := by
  subst hK
  refine ⟨fun pins s σ H Q I h => wpAny_FormattedValue_plain (thn (he.run pins s σ H _ I h) fun v s1 hv => ?_)⟩
  obtain ⟨x, H1, I1, r1, a, i, dx, fs, rfl, hC, ha, hs⟩ := hv
  obtain rfl : v = Value.ref a := r1
  obtain ⟨f, fd, ps, F, hb, e, g⟩ := G.fn i hC
  obtain ⟨fm, so⟩ := fm i hC
  have I2 := I1.tok (s1.toks + 1)
  obtain ⟨mA, O, _, _, _, _⟩ := ins_get I1.hok ha
  obtain ⟨od, J, _⟩ := O.look
  have r2 : Vals [.ref a] [Value.ref a] := .cons rfl .nil
  refine PySem.W.my_formatField (by have := hr.un; omega) I1.kIn J fm so e g fun s2 es => ?_
  subst es
  have q := run_within I2 I2.env0.in1 F hr.in1 hb r2 hs
  refine wpAny_mono q (fun z s' hz => ?_) fun _ _ z => z
  obtain ⟨v, H', I', r, y, rfl, q⟩ := hz
  obtain ⟨t, rfl⟩ : ∃ t, z = Value.str y t := r
  exact ⟨y, t, rfl, .str y, H', I', ⟨t, rfl⟩, q⟩
end
end My

/-! ## A list or a tuple walked alike -/
namespace My
open PySem PySem.Spec PyProof.Rows L2
/-- a list or a tuple of xs at a -/
def SqA (K : PySem.W.Frag) (H : Hp) (a : Addr) (xs : List V) : Prop := SqL K H a xs ∨ SqT K H a xs
theorem SqA.same {K : PySem.W.Frag} {H H' : Hp} {a : Addr} {xs : List V} (h : SqA K H a xs) (e : Same H H') : SqA K H' a xs := h.elim (fun z => .inl (seqL_same e z)) (fun z => .inr (seqT_same e z))
/-- what is walked is a list or a tuple: J its turns, while G stands -/
def iSeq (K : PySem.W.Frag) (tl : TE) : TI := fun σ H R => tl σ H fun x H1 => ∃ (a : Addr) (xs : List V), x = .ref a ∧ SqA K H1 a xs ∧
  ∀ (J : It) (G : Hp → Prop), G H1 → (∀ H H', Same H H' → G H → G H') → Walk J xs.length G (YAt xs) → R J H1
section
variable {X : Cx} {tg : Expr}
theorem pi_seq {l : Expr} {tl : TE} (hl : PE X l tl) : PI X tg l (iSeq X.K tl) := by
  constructor
  intro pins s σ H R I h
  refine thn (hl.run pins s σ H _ I h) ?_
  rintro v s1 ⟨x, H1, I1, r1, a, xs, rfl, hq, k⟩
  cases r1
  have new : ∀ {o : Obj} (b : Addr), b ∈ [s1.heap.objs.size] → FpOk X pins H1 b := fun {o} b hb => by
    rw [List.mem_singleton.mp hb]
    exact I1.fpOk (Nat.le_refl _) (I1.hok.fresh (Nat.le_refl _))
  rcases hq with hq | hq
  · obtain ⟨its, rv, p, _⟩ := I1.list hq
    refine wpAny_pyIter_list p.isList ⟨s1.heap.objs.size, [s1.heap.objs.size], _, Itl X.K a, H1, rfl, ?_, turn_list a _, ?_, new (o := default), ?_⟩
    · exact I1.kept (t' := s1.toks) fun b o e => Heap.get?_push_of_some _ e
    · exact ⟨_, Heap.get?_push_size _ rfl, rfl, rfl⟩
    · exact k _ (fun H => SqL X.K H a xs) hq (fun H H' e z => seqL_same e z) walk_list
  · obtain ⟨its, rv, p, _⟩ := I1.tuple hq
    have p' : s1.heap.IsTuple a its.toArray := p
    refine wpAny_pyIter_tuple p' ⟨s1.heap.objs.size, [s1.heap.objs.size], _, Itt X.K a, H1, rfl, ?_, turn_tuple a _, ?_, new (o := default), ?_⟩
    · exact I1.kept (t' := s1.toks) fun b o e => Heap.get?_push_of_some _ e
    · exact ⟨_, Heap.get?_push_size _ rfl, rfl, rfl⟩
    · exact k _ (fun H => SqT X.K H a xs) hq (fun H H' e z => seqT_same e z) walk_tup
theorem pi_seqK (K : PySem.W.Frag) {l : Expr} {tl : TE} (hl : PE X l tl) (hK : X.K = K := by rfl) : PI X tg l (iSeq K tl) := hK ▸ pi_seq hl
end
end My

/-! ## enumerate(v), v a list or a tuple -/
namespace PySem
set_option maxHeartbeats 1000000 in
theorem my_meets_enumerate {v : Value} {o : Obj} {H : Heap → Prop} (B : Begins v o H) :
    Meets (Builtin.«enumerate.__new__» ⟨[.type "enumerate", v], []⟩) (fun _ R s => H s.heap ∧
      R (.ok (.ret (.ref (s.heap.push o).objs.size))) { s with heap := (s.heap.push o).push { cls := .type "enumerate", data := .fields #[.none, .bool false, .ref s.heap.objs.size, rawInt 0, .none, .none] } }) :=
  .of_wp fun prog w A R s h => by
    obtain ⟨hp, g, d, tk, os⟩ := s; obtain ⟨h1, h⟩ := h
    have hsub := sub_enumerate
    have q1 : ∀ {A' : Around} {E : Value → Shared → Prop} {Q : Value → Shared → Prop}, Q (.ref hp.objs.size) ⟨hp.push o, g, d, tk, os⟩ → wpAny (model prog w) A' (pyIter v) Q E ⟨hp, g, d, tk, os⟩ :=
      fun q => B.iter prog w _ _ ⟨hp, g, d, tk, os⟩ _ h1 q
    wp_walk using q1
    refine wpAny_stack_any fun st => wpAny_pure ?_
    split
    · rename_i c _ _ _ _ _
      cases (c == Value.type "enumerate")
      · wp_walk using q1
        exact ⟨_, rfl, h⟩
      · wp_walk using q1
        exact ⟨_, rfl, h⟩
    · wp_walk using q1
      exact ⟨_, rfl, h⟩
theorem my_call_enumerate {prog : Program} {w : World} {A : Around} {E : Value → Shared → Prop} {s : Shared} {v : Value} {o : Obj} {H : Heap → Prop} {Q : Value → Shared → Prop} (B : Begins v o H) (h1 : H s.heap)
    (h : ∀ h', IsEnum h' (s.heap.objs.size + 1) s.heap.objs.size 0 .none → h'.get? s.heap.objs.size = some o → h'.objs.size = s.heap.objs.size + 2 →
      (∀ b o, s.heap.get? b = some o → h'.get? b = some o) → Q (.ref (s.heap.objs.size + 1)) { s with heap := h' }) :
    wpAny (model prog w) A (call (.type "enumerate") [v]) Q E s := by
  refine callType_new F.called_enumerate (by decide) (F.typeCall_enumerate_1 _) (F.newCall_enumerate_1 _) (fun obj => F.args_object_init_2 obj _) F.entry_enumerate_new (my_meets_enumerate B) ⟨h1, ?_⟩
  have hz : (s.heap.push o).objs.size = s.heap.objs.size + 1 := Heap.size_push ..
  show _ ∧ _
  rw [hz]
  have he : IsEnum ((s.heap.push o).push { cls := .type "enumerate", data := .fields #[.none, .bool false, .ref s.heap.objs.size, rawInt 0, .none, .none] }) (s.heap.objs.size + 1) s.heap.objs.size 0 .none := by
    have := Heap.get?_push_size (s.heap.push o) (o := { cls := .type "enumerate", data := .fields #[.none, .bool false, .ref s.heap.objs.size, rawInt 0, .none, .none] }) rfl
    rw [hz] at this; exact this
  refine ⟨⟨_, he, rfl⟩, h _ he (Heap.get?_push_of_some _ (Heap.get?_push_size _ B.free)) (by rw [Heap.size_push, hz]) fun b o x => Heap.get?_push_of_some _ (Heap.get?_push_of_some _ x)⟩
end PySem
namespace My
open PySem PySem.Spec PyProof.Rows L2
/-- the tuple at a as it stands at each turn, each item in a new pair -/
def IteT (K : PySem.W.Frag) (a : Addr) : It :=
  ⟨fun i H => ∃ (xs : List V) (x : V), SqT K H a xs ∧ xs[i]? = some x, fun i H v H' => ∃ T x, v = .ref T ∧ H T = none ∧ H' = upd H T (.tup [.int (i : Nat), x]) ∧ ∀ xs, SqT K H a xs → xs[i]? = some x, fun i H => ∃ xs : List V, SqT K H a xs ∧ xs.length ≤ i⟩
theorem turn_enumT {P : Program} {w : World} {K : PySem.W.Frag} {elts : List Expr} {kk : Nat} {tpos : Pos} (a e it : Addr) :
    Turn P w K (.Tuple elts kk tpos) (IteT K a) [e, it] e (fun i h => (∃ old, IsEnum h e it ((i : Nat) : Int) old) ∧ h.IsTupleIter it a i ∧ e ≠ it) where
  mem := by simp
  obj := fun i h st b hb => by
    obtain ⟨⟨old, he⟩, ⟨o, ho, hc, hd⟩, _⟩ := st
    have e' : b = e ∨ b = it := by simpa using hb
    rcases e' with z | z
    · rw [z]; exact ⟨_, he, fun v q => nomatch q⟩
    · rw [z]; exact ⟨o, ho, fun v q => by rw [hd] at q; cases q⟩
  keep := fun i h h' st k => let ⟨⟨old, he⟩, hi, hne⟩ := st; ⟨⟨old, k e (by simp) _ he⟩, hi.at fun o q => k it (by simp) o q, hne⟩
  item := by
    intro X hP hw hK hc i pins s σ H E I hf st hg
    subst hP hw hK
    obtain ⟨⟨old, he⟩, hit, hne⟩ := st
    obtain ⟨xs, x, hq, hx⟩ := hg
    obtain ⟨its, rv, p, hz⟩ := I.tuple hq
    have pT : s.heap.IsTuple a its.toArray := p
    obtain ⟨u, hu, ru⟩ := rv.get hx
    have hel : e < s.heap.objs.size := Heap.lt_size he
    have hil : it < s.heap.objs.size := by obtain ⟨_, q, _⟩ := hit; exact Heap.lt_size q
    have hai : a ≠ it := fun z => by
      obtain ⟨o1, e1, c1, d1⟩ := hit
      obtain ⟨o2, e2, c2, n2, d2⟩ := pT
      rw [z, e1] at e2
      cases e2
      rw [d1] at d2
      cases d2
    have hae : e ≠ a := fun z => by
      obtain ⟨o2, e2, c2, n2, d2⟩ := pT
      rw [← z] at e2
      have he' : s.heap.get? e = _ := he
      rw [he'] at e2
      cases e2
      cases d2
    have hef : e ∉ [it, a] := fun z => by
      rcases List.mem_cons.mp z with z | z
      · exact hne z
      · exact hae (List.mem_singleton.mp z)
    have hi : i < its.toArray.size := by
      have := (List.getElem?_eq_some_iff.mp hu).1
      simpa using this
    refine wpAny_pyNext_enum_itemD (Draws.tuple (A := X.A.in1) (I.ok.hd hc) it a hai its.toArray) he ⟨hit, pT⟩ hi hne hef fun x' h' tk hP ho hit' hT hsz hk => ?_
    have ex : x' = u := by
      have h1 : its.toArray[i]? = some x' := hP
      rw [List.getElem?_toArray, hu] at h1
      exact (Option.some.inj h1).symm
    subst ex
    refine ⟨_, rfl, wpAny_letOwnedTupleGo_enum (s := { s with heap := h', toks := tk + 1 }) ho fun h'' he' sb => ?_⟩
    have hT2 : h''.get? s.heap.objs.size = some { cls := .type "tuple", data := .seq #[.int i tk, x'] } := (sb.2 _ (Nat.ne_of_gt hel)).trans hT
    have new : ObjOk X.prog X.w (upd H s.heap.objs.size (.tup [.int (i : Nat), x])) h'' s.heap.objs.size (.tup [.int (i : Nat), x]) :=
      ⟨by show 2 ≤ sizeLine; decide, [.int i tk, x'], .cons ⟨_, rfl⟩ (.cons ru .nil), ⟨_, hT2, rfl, _, rfl⟩⟩
    have I1 : Inv X pins σ (upd H s.heap.objs.size (.tup [.int (i : Nat), x])) { s with heap := h'', toks := tk + 1 } :=
      I.turnedNew (ch := [e, it]) (fun b ob hb q => (sb.2 b (fun z => hb (by simp [z]))).trans (hk b ob (fun z => hb (by simp [z])) (fun z => hb (by simp [z])) q)) hf (Nat.le_refl _) new
    refine ⟨.ref s.heap.objs.size, _, I1, rfl, ⟨_, x, rfl, I.hok.fresh (Nat.le_refl _), rfl, fun ys hy => by rw [I.tuple_inj hy hq]; exact hx⟩, ⟨⟨x', ?_⟩, hit'.1.at fun o q => (sb.2 it (Ne.symm hne)).trans q, hne⟩, fun b hb => ?_⟩
    · have e1 : ((i + 1 : Nat) : Int) = (i : Int) + 1 := by omega
      rw [e1]; exact he'
    · have hb' : b < s.heap.objs.size := by
        have e' : b = e ∨ b = it := by simpa using hb
        rcases e' with z | z
        · rw [z]; exact hel
        · rw [z]; exact hil
      rw [upd_ne (Nat.ne_of_lt hb')]
      exact (hf b hb).1
  done := by
    intro X hP hw hK hc i pins s σ H E I hf st hg
    subst hP hw hK
    obtain ⟨⟨old, he⟩, hit, hne⟩ := st
    obtain ⟨xs, hq, hx⟩ := hg
    obtain ⟨its, rv, p, hz⟩ := I.tuple hq
    have pT : s.heap.IsTuple a its.toArray := p
    obtain ⟨f0, f1, f2, f3, f4, f5⟩ := hf it (by simp)
    have hl := rv.length
    have D : Draws X.prog X.w X.A.in1 it [it, a] 0 (fun _ _ => True) (fun j h => j = 0 ∧ h.IsTupleIter it a i ∧ h.IsTuple a its.toArray) := {
      live := fun _ _ st => let ⟨o, ho, _⟩ := st.2.1; ⟨o, ho⟩
      frame := fun _ _ _ st hk => ⟨st.1, st.2.1.at fun o e => hk it (by simp) o e, st.2.2.at fun o e => hk a (by simp) o e⟩
      item := fun j s Q E hj => absurd hj (Nat.not_lt_zero _)
      done := fun s Q E st hE => wpAny_nextOf_tuple_end (I.ok.hd hc) st.2.1 st.2.2 (by simp; omega) hE }
    exact wpAny_pyNext_enum_endD D he ⟨rfl, hit, pT⟩ fun h' eb => ⟨rfl, I.turned (t' := s.toks) (fun b o hb q => eb b o hb q) f0 f1 f3 f4 f5⟩
  self := fun A i s Q E st h => let ⟨⟨_, he⟩, _⟩ := st; wpAny_pyIter_enum he h
theorem walk_enumT {K : PySem.W.Frag} {a : Addr} {xs : List V} : Walk (IteT K a) xs.length (fun H => SqT K H a xs) (YPair (fun i => some (.int (i : Nat))) (fun i => xs[i]?)) := by
  refine ⟨fun i _ hi q => ⟨xs, xs[i], q, by simp [hi]⟩, fun _ q => ⟨xs, q, Nat.le_refl _⟩, fun i H v H' _ q y => ?_⟩
  obtain ⟨T, x, h1, h2, h3, h4⟩ := y
  exact ⟨T, .int (i : Nat), x, h1, h2, h3, rfl, h4 xs q⟩
def iEnumA (K : PySem.W.Frag) (ta : TA) : TI := fun σ H R => ta σ H fun vs H1 => ∃ (a : Addr) (xs : List V), vs = [.ref a] ∧ SqA K H1 a xs ∧
  ∀ (J : It) (G : Hp → Prop), G H1 → (∀ H H', Same H H' → G H → G H') → Walk J xs.length G (YPair (fun i => some (.int (i : Nat))) (fun i => xs[i]?)) → R J H1
theorem pi_enumA {X : Cx} (K : PySem.W.Frag) {e : Expr} {ta : TA} {p pos tpos : Pos} {elts : List Expr} {kk : Nat} (hg : Gl X "enumerate") (hm : X.mg "enumerate" = none) (ha : PA X [e] ta) (hK : X.K = K := by rfl) (hs : starEach [e] X.env = [(false, eval e X.env)] := by rfl) :
    PI X (.Tuple elts kk tpos) (.Call (.Name "enumerate" p) [e] [] pos) (iEnumA K ta) := by
  subst hK
  refine ⟨fun pins s σ H R I h => ?_⟩
  refine Call_ (ld_blt I hg hm boot_enumerate (PyProof.Rows.callWith_type1 (thn (ha.run pos pins s σ H _ I h) fun us s1 ⟨vs, H1, I1, r1, q1⟩ => ?_) hs rfl))
  obtain ⟨a, xs, ex, hq, q⟩ := q1
  subst ex
  cases r1 with
  | cons r rr =>
    cases rr
    cases r
    have fresh : ∀ b, b ∈ [s1.heap.objs.size + 1, s1.heap.objs.size] → FpOk X pins H1 b := fun b hb => by
      have e' : b = s1.heap.objs.size + 1 ∨ b = s1.heap.objs.size := by simpa using hb
      have hle : s1.heap.objs.size ≤ b := by
        rcases e' with z | z
        · rw [z]; exact Nat.le_add_right _ _
        · rw [z]; exact Nat.le_refl _
      exact I1.fpOk hle (I1.hok.fresh hle)
    rcases hq with hq | hq
    · obtain ⟨its, rv, p', hz⟩ := I1.list hq
      refine call_enumerate_list p'.isList fun h' he hit hsz hk => wpAny_pyIter_enum he ?_
      have I2 : Inv X pins σ H1 { s1 with heap := h' } := I1.kept (t' := s1.toks) hk
      exact ⟨s1.heap.objs.size + 1, [s1.heap.objs.size + 1, s1.heap.objs.size], _, _, H1, rfl, I2, turn_enum a (s1.heap.objs.size + 1) s1.heap.objs.size, ⟨⟨.none, he⟩, hit, Nat.succ_ne_self _⟩, fresh, q _ (fun H => SqL X.K H a xs) hq (fun H H' e z => seqL_same e z) walk_enum⟩
    · obtain ⟨its, rv, p', hz⟩ := I1.tuple hq
      have pT : s1.heap.IsTuple a its.toArray := p'
      refine my_call_enumerate (begins_tuple a its.toArray) pT fun h' he hit hsz hk => wpAny_pyIter_enum he ?_
      have I2 : Inv X pins σ H1 { s1 with heap := h' } := I1.kept (t' := s1.toks) hk
      exact ⟨s1.heap.objs.size + 1, [s1.heap.objs.size + 1, s1.heap.objs.size], _, _, H1, rfl, I2, turn_enumT a (s1.heap.objs.size + 1) s1.heap.objs.size, ⟨⟨.none, he⟩, ⟨_, hit, rfl, rfl⟩, Nat.succ_ne_self _⟩, fresh, q _ (fun H => SqT X.K H a xs) hq (fun H H' e z => seqT_same e z) walk_enumT⟩
end My

/-! ## xs[::-1], a list -/
namespace My
open PySem PySem.Spec PyProof.Rows L2
theorem range_back (n : Nat) : sliceRange ((n : Int) - 1) (-1) (-1) = (List.range n).map fun k => n - 1 - k := by
  unfold sliceRange
  cases n with
  | zero => rfl
  | succ m =>
    have h : ¬ ((-1 : Int) > 0) := by decide
    have h2 : ((m + 1 : Nat) : Int) - 1 > -1 := by omega
    have e : (((m + 1 : Nat) : Int) - 1 - (-1) - (-1) - 1) / (- (-1)) = ((m + 1 : Nat) : Int) := by
      rw [show (- (-1 : Int)) = 1 from rfl, Int.ediv_one]
      omega
    simp only [if_neg h, if_pos h2, e, Int.toNat_natCast]
    apply List.map_congr_left
    intro k hk
    have := List.mem_range.mp hk
    omega
theorem pick_back {α : Type} (xs : List α) : ∀ k : Nat, k ≤ xs.length → ((List.range k).map fun j => xs.length - 1 - j).filterMap (xs[·]?) = xs.reverse.take k
  | 0, _ => rfl
  | k + 1, h => by
    rw [List.range_succ, List.map_append, List.filterMap_append, pick_back xs k (by omega), List.take_add_one]
    congr 1
    have e : xs.reverse[k]? = xs[xs.length - 1 - k]? := List.getElem?_reverse (by omega)
    rw [e]
    simp only [List.map_cons, List.map_nil]
    cases h : xs[xs.length - 1 - k]? <;> simp [h]
theorem slice_back (its : List Value) : slicePick its.toArray none none (some (-1)) = its.reverse.toArray := by
  have e : sliceBounds none none (some (-1)) its.toArray.size = ((its.length : Int) - 1, -1, -1) := by
    simp [sliceBounds]
  unfold slicePick
  rw [e, range_back]
  have f : (fun k : Nat => its.toArray[k]?) = fun k : Nat => its[k]? := by funext k; simp
  show (List.filterMap (fun x => its.toArray[x]?) _).toArray = _
  rw [f, pick_back its its.length (Nat.le_refl _), List.take_of_length_le (by simp)]
def tRev (K : PySem.W.Frag) (te ts : TE) : TE := fun σ H Q => te σ H fun x H1 => ts σ H1 fun y H2 => y = .int (-1) ∧ ∃ a xs, x = .ref a ∧ SqL K H2 a xs ∧ ∀ p, H2 p = none → Q (.ref p) (upd H2 p (.lst xs.reverse))
theorem vals_back : ∀ {vs : List V} {us : List Value}, Vals vs us → Vals vs.reverse us.reverse
  | _, _, .nil => .nil
  | _, _, .cons r t => by
    rw [List.reverse_cons, List.reverse_cons]
    exact (vals_back t).append (.cons r .nil)
section
variable {X : Cx} {e st : Expr} {te ts : TE} {pos p2 : Pos}
theorem pe_rev (K : PySem.W.Frag) (he : PE X e te) (hs : PE X st ts) (hK : X.K = K := by rfl) : PE X (.Subscript e (.Slice none none (some st) p2) pos) (tRev K te ts) := by
  subst hK
  refine ⟨fun pins s σ H Q I h => ?_⟩
  refine Subscript_ (thn (he.run pins s σ H _ I h) fun v s1 ⟨x, H1, I1, r1, q1⟩ => ?_)
  refine wpAny_Slice ?_
  rw [evalPart_none]
  refine wpAny_pure ?_
  refine wpAny_pure ?_
  rw [evalPart_some]
  refine thn (hs.run pins s1 σ H1 _ I1 q1) fun vs s3 ⟨y, H3, I3, r3, ey, a, xs, ex, hx, q3⟩ => ?_
  subst ey ex
  obtain ⟨t, rfl⟩ := r3
  cases r1
  have I4 : Inv X pins σ H3 { s3 with heap := s3.heap.push { cls := .type "slice", data := .fields #[.none, .none, .int (-1) t] } } := I3.kept (t' := s3.toks) fun b ob q => Heap.get?_push_of_some _ q
  obtain ⟨its, r, ht, hz⟩ := I4.list hx
  have hlen := r.length
  have hg : wpAny (model X.prog X.w) X.A (getItem (.ref a) (.ref s3.heap.objs.size)) (EP X pins σ Q) X.xe { s3 with heap := s3.heap.push { cls := .type "slice", data := .fields #[.none, .none, .int (-1) t] } } := by
    refine wpAny_getItem_list_slice ht.isList (Heap.IsSliceOf.new ..) .none .none (.int (-1) t) (by decide) ?_ (by rw [List.size_toArray] <;> omega)
    rw [slice_back]
    refine ⟨.ref _, _, I4.laid (t' := s3.toks) (o := .lst xs.reverse) (fun b ob q => Heap.get?_push_of_some _ q) (Nat.le_refl _) ?_, rfl, q3 _ (I4.hok.fresh (Nat.le_refl _))⟩
    exact ⟨by rw [List.length_reverse]; exact hz, _, 0, vals_back r, Heap.get?_push_size _ rfl⟩
  show wpAny (model X.prog X.w) X.A (subscriptTail e (.Slice none none (some st) p2) (.ref a) (.ref s3.heap.objs.size)) (EP X pins σ Q) X.xe { s3 with heap := s3.heap.push { cls := .type "slice", data := .fields #[.none, .none, .int (-1) t] } }
  exact tail_any (ops := [.ref a, .ref s3.heap.objs.size]) ht.isList.typeIs slot_list_getitem.lookup hg (by with_unfolding_all rfl)
end
end My

/-! ## The deal of draws (laws of stages 2 and 3): its source, a draw, a pick -/
namespace My
open PySem PySem.Spec PyProof.Rows L2
def top (i : Nat) : Stmt := PySem.Challenge.pw_wholetraces_k21_trees_made.main.body.getD i (.Pass ⟨0, 0, 0, 0⟩)
abbrev s_source : Stmt := top 16
abbrev N_source : List Str := ["_law_script", "_law_base", "_law_cells", "_law_cell", "_law_stirred", "_law_at"]
abbrev P_source : List Str := ["_law_script", "_law_base"]
theorem sc_source : FnScope N_source P_source (defScope s_source) := ⟨rfl, rfl, rfl, by decide +kernel, rfl, by decide +kernel, by decide +kernel⟩
abbrev s_draw : Stmt := top 17
abbrev N_draw : List Str := ["_law_deal", "_law_wide", "_law_great", "_law_cell"]
abbrev P_draw : List Str := ["_law_deal", "_law_wide"]
theorem sc_draw : FnScope N_draw P_draw (defScope s_draw) := ⟨rfl, rfl, rfl, by decide +kernel, rfl, by decide +kernel, by decide +kernel⟩
abbrev s_pick : Stmt := top 18
abbrev N_pick : List Str := ["_law_deal", "_law_some"]
abbrev P_pick : List Str := ["_law_deal", "_law_some"]
theorem sc_pick : FnScope N_pick P_pick (defScope s_pick) := ⟨rfl, rfl, rfl, by decide +kernel, rfl, by decide +kernel, by decide +kernel⟩
structure TxDeal (w : World) (K : PySem.W.Frag) (mg : Str → Option Value) where
  z_len : mg "len" = none
  z_int : mg "int" = none
  z_abs : mg "abs" = none
  z_enumerate : mg "enumerate" = none
  f_source : Addr
  d_source : FuncData
  F_source : Fun K "_law_source" "_law_source" s_source f_source d_source
  m_source : mg "_law_source" = some (.ref f_source)
  b_source : Binds K d_source P_source []
  f_draw : Addr
  d_draw : FuncData
  F_draw : Fun K "_law_draw" "_law_draw" s_draw f_draw d_draw
  m_draw : mg "_law_draw" = some (.ref f_draw)
  b_draw : Binds K d_draw P_draw []
  f_pick : Addr
  d_pick : FuncData
  F_pick : Fun K "_law_pick" "_law_pick" s_pick f_pick d_pick
  m_pick : mg "_law_pick" = some (.ref f_pick)
  b_pick : Binds K d_pick P_pick []
/-- the deal: its dict at d, the great cells in the list at g -/
structure DealAt (H : Hp) (d g : Addr) (ns : List Int) (s : Int) : Prop where
  ne : d ≠ g
  s0 : 0 ≤ s
  s1 : s < 2147483647
  dict : H d = some (.dK [(Sum.inr "great", .ref g), (Sum.inr "stirred", .int s)])
  great : H g = some (.lst (ns.map V.int))
  pos : ∀ n ∈ ns, 0 ≤ n
  few : ns.length ≤ 60
def KeepD (d g : Addr) (H H' : Hp) : Prop := ∀ a o, a ≠ d → a ≠ g → H a = some o → H' a = some o
def spDraw : Sp := fun vs H Q _ => ∃ (d g : Addr) (ns : List Int) (s m : Int), vs = [.ref d, .int m] ∧ DealAt H d g ns s ∧ 0 < m ∧ m < 1073741824 ∧
  ∀ (v s' : Int) (ns' : List Int) (H' : Hp), 0 ≤ v → v < m → KeepD d g H H' → DealAt H' d g ns' s' → Q (.int v) H'
def tRestD (K : PySem.W.Frag) : TS := (tSeq (tIfS (tTest (tOp (rEqE K true) (tVar 2) (tLst tNil))) (tSeq (tAsg (tBM0 K "list" rPop (tVar 2)) (gName 3)) (tSeq (tDrop (tBM K "list" rAppend (tVar 2) (tCons (tOp (rI CDiv fun i j => V.int (i / j)) (tVar 3) (tVar 1)) tNil))) (tRet (tOp (rI (fun x j => 0 < j) fun i j => V.int (i % j)) (tCB (fun xs H Q => (∃ i, xs = [V.int i] ∧ Q (V.int i) H) ∨ ∃ k, xs = [V.bl k] ∧ Q (V.int (if k = true then 1 else 0)) H) (tCons (tVar 3) tNil)) (tVar 1))))) tNext) (tSeq (sDPut (tVar 0) (tC (V.str (Str.ofString "stirred"))) (tOp (rI (fun x j => 0 < j) fun i j => V.int (i % j)) (tCB (fun xs H Q => (∃ i, xs = [V.int i] ∧ Q (V.int i) H) ∨ ∃ k, xs = [V.bl k] ∧ Q (V.int (if k = true then 1 else 0)) H) (tCons (tOp (rI0 fun i j => V.int (i + j)) (tOp (rI CMul fun i j => V.int (i * j)) (tDGet (tVar 0) (tC (V.str (Str.ofString "stirred")))) (tC (V.int 69621))) (tC (V.int 23))) tNil)) (tC (V.int 2147483647)))) (tRet (tOp (rI (fun x j => 0 < j) fun i j => V.int (i % j)) (tCB (fun xs H Q => (∃ i, xs = [V.int i] ∧ Q (V.int i) H) ∨ ∃ k, xs = [V.bl k] ∧ Q (V.int (if k = true then 1 else 0)) H) (tCons (tOp (rI CDiv fun i j => V.int (i / j)) (tDGet (tVar 0) (tC (V.str (Str.ofString "stirred")))) (tC (V.int 32))) tNil)) (tVar 1)))))
theorem DealAt.new {H : Hp} {d g : Addr} {ns : List Int} {s : Int} (D : DealAt H d g ns s) {e : Addr} (he : H e = none) (o : HO) : DealAt (upd H e o) d g ns s :=
  ⟨D.ne, D.s0, D.s1, by rw [upd_ne (ne_of_none D.dict he)]; exact D.dict, by rw [upd_ne (ne_of_none D.great he)]; exact D.great, D.pos, D.few⟩
theorem KeepD.new {d g : Addr} {H H1 : Hp} (k : KeepD d g H H1) {e : Addr} (he : H1 e = none) (o : HO) : KeepD d g H (upd H1 e o) := fun a u h1 h2 h => by
  have z := k a u h1 h2 h
  rw [upd_ne (ne_of_none z he)]
  exact z
theorem KeepD.at_g {d g : Addr} {H H1 : Hp} (k : KeepD d g H H1) (o : HO) : KeepD d g H (upd H1 g o) := fun a u h1 h2 h => by
  rw [upd_ne h2]
  exact k a u h1 h2 h
theorem KeepD.at_d {d g : Addr} {H H1 : Hp} (k : KeepD d g H H1) (o : HO) : KeepD d g H (upd H1 d o) := fun a u h1 h2 h => by
  rw [upd_ne h1]
  exact k a u h1 h2 h
theorem DealAt.put {H : Hp} {d g : Addr} {ns : List Int} {s : Int} (D : DealAt H d g ns s) {ms : List Int} (pos : ∀ n ∈ ms, 0 ≤ n) (few : ms.length ≤ 60) : DealAt (upd H g (.lst (ms.map V.int))) d g ms s :=
  ⟨D.ne, D.s0, D.s1, by rw [upd_ne D.ne]; exact D.dict, upd_same, pos, few⟩
theorem DealAt.stir {H : Hp} {d g : Addr} {ns : List Int} {s : Int} (D : DealAt H d g ns s) {t : Int} (t0 : 0 ≤ t) (t1 : t < 2147483647) : DealAt (upd H d (.dK [(Sum.inr "great", .ref g), (Sum.inr "stirred", .int t)])) d g ns t :=
  ⟨D.ne, t0, t1, upd_same, by rw [upd_ne D.ne.symm]; exact D.great, D.pos, D.few⟩
theorem ok_tRestD {K : PySem.W.Frag} {D : Ends} {d g : Addr} {ns : List Int} {s m : Int} {H0 H : Hp} (DA : DealAt H d g ns s) (k : KeepD d g H0 H) (m0 : 0 < m) (m1 : m < 1073741824)
    (q : ∀ (v s' : Int) (ns' : List Int) (H' : Hp), 0 ≤ v → v < m → KeepD d g H0 H' → DealAt H' d g ns' s' → D.rt (.int v) H') : tRestD K D [some (.ref d), some (.int m), some (.ref g), none] H := by
  refine ⟨_, rfl, Nat.zero_le _, fun e he => ⟨g, e, ns.map V.int, rfl, rfl, SqL.of (DA.new he _).great, SqL.of upd_same, _, rfl, ?_⟩⟩
  have D2 := DA.new he (.lst [])
  have k2 := k.new he (.lst [])
  generalize upd H e (.lst []) = H2 at D2 k2
  rcases List.eq_nil_or_concat ns with hn | ⟨ms, y, hn⟩
  · subst hn
    refine iteF ?_
    refine ⟨_, rfl, d, .int s, rfl, .inl ⟨_, Sum.inr "stirred", Rd.of D2.dict, rfl, rfl⟩, _, _, rfl, rfl, .inr (by decide), _, _, rfl, rfl, .inl ⟨_, rfl, _, _, rfl, rfl, (by show (0 : Int) < 2147483647; decide), ?_⟩⟩
    have t0 : 0 ≤ (s * 69621 + 23) % 2147483647 := Int.emod_nonneg _ (by decide)
    have t1 : (s * 69621 + 23) % 2147483647 < 2147483647 := Int.emod_lt_of_pos _ (by decide)
    have D3 := D2.stir t0 t1
    have k3 := k2.at_d (.dK [(Sum.inr "great", .ref g), (Sum.inr "stirred", .int ((s * 69621 + 23) % 2147483647))])
    have ep : putK [((Sum.inr "great" : Key), V.ref g), (Sum.inr "stirred", V.int s)] (Sum.inr "stirred") (V.int ((s * 69621 + 23) % 2147483647)) = [((Sum.inr "great" : Key), V.ref g), (Sum.inr "stirred", V.int ((s * 69621 + 23) % 2147483647))] := rfl
    refine ⟨_, rfl, d, _, rfl, .inl ⟨_, Sum.inr "stirred", D2.dict, rfl, by show 2 < sizeLine; decide, congrArg (fun z => upd H2 d (.dK z)) ep.symm⟩, ?_⟩
    refine ⟨_, rfl, d, .int ((s * 69621 + 23) % 2147483647), rfl, .inl ⟨_, Sum.inr "stirred", Rd.of upd_same, rfl, rfl⟩, _, _, rfl, rfl, ⟨by decide, by decide⟩, .inl ⟨_, rfl, _, rfl, _, _, rfl, rfl, m0, ?_⟩⟩
    exact q _ _ [] _ (Int.emod_nonneg _ (by omega)) (Int.emod_lt_of_pos _ m0) k3 D3
  · rw [List.concat_eq_append] at hn
    subst hn
    have h1 : (List.map V.int (ms ++ [y])).isEmpty = false := by simp
    refine ite2 (fun _ => ?_) (fun c => (c (by simp)).elim)
    have last : ((ms ++ [y]).map V.int)[((ms ++ [y]).map V.int).length - 1]? = some (.int y) := by simp
    refine ⟨_, rfl, .inl ⟨rfl, _, SqL.of D2.great⟩, g, _, .int y, rfl, rfl, D2.great, last, ?_⟩
    have dl : ((ms ++ [y]).map V.int).dropLast = ms.map V.int := by simp
    rw [dl]
    have pm : ∀ n ∈ ms, 0 ≤ n := fun n hn => D2.pos n (List.mem_append_left _ hn)
    have py : 0 ≤ y := D2.pos y (by simp)
    have few : ms.length ≤ 59 := by have := D2.few; rw [List.length_append] at this; exact Nat.le_of_succ_le_succ this
    have D3 := D2.put pm (by omega)
    have k3 := k2.at_g (.lst (ms.map V.int))
    refine ⟨_, rfl, .inl ⟨rfl, _, SqL.of upd_same⟩, _, rfl, _, rfl, _, _, rfl, rfl, ⟨m0, m1⟩, g, _, .int (y / m), rfl, rfl, upd_same, by rw [List.length_map]; exact small1000 (by omega), ?_⟩
    have e4 : ms.map V.int ++ [V.int (y / m)] = (ms ++ [y / m]).map V.int := by simp
    rw [e4]
    have D4 := D3.put (ms := ms ++ [y / m]) (fun n hn => by
      rcases List.mem_append.mp hn with z | z
      · exact pm n z
      · rw [List.mem_singleton.mp z]
        exact Int.ediv_nonneg py (by omega)) (by rw [List.length_append]; show ms.length + 1 ≤ 60; omega)
    have k4 := k3.at_g (.lst ((ms ++ [y / m]).map V.int))
    refine ⟨_, rfl, .inl ⟨_, rfl, _, rfl, _, _, rfl, rfl, m0, ?_⟩⟩
    exact q _ s _ _ (Int.emod_nonneg _ (by omega)) (Int.emod_lt_of_pos _ m0) k4 D4
section
variable {P : Program} {w : World} {K : PySem.W.Frag} {mg : Str → Option Value} {base : Heap}
theorem ok_draw (T : TxDeal w K mg) : FnOk P w K mg base CX0 1 T.f_draw T.d_draw P_draw spDraw := by
  refine T.F_draw.ok sc_draw (fun vs H Q E h => ?_) (fun cdv A outer s H vs Q E hr h => ?_)
  · obtain ⟨d, g, ns, s, m, rfl, _⟩ := h
    rfl
  obtain ⟨d, g, ns, s, m, rfl, D, m0, m1, q⟩ := h
  refine ⟨_, (pss_cons (ps_set (i := 2) sc_draw.nd rfl (Or.inl rfl) (pe_dget (hu_of hr) (pv 0) pe_str (fun _ _ => rfl)))
      (pss_cons (ps_while PassesOwn.never (PW.pt (pw_and (pt_cmpR (op_neEK K hr.units0) (pv 2) (pe_lst pa_nil) (nomark _)) (pw_and1 (pt_cmpR op_eq (pe_ix (ix_listK K) (pv 2) (pe_un un_neg pe_int) (fun _ _ => rfl)) pe_int (nomark _))))) (pss_one (ps_expr (pe_bm0 PySem.F.plainAttrs_list PySem.F.slot_list_pop PySem.F.type_list_pop mt_pop (pv 2)))))
      (pss_cons (ps_if (pt_cmpR (op_neEK K hr.units0) (pv 2) (pe_lst pa_nil) (nomark _)) (pss_cons (ps_set (i := 3) sc_draw.nd rfl (Or.inl rfl) (pe_bm0 PySem.F.plainAttrs_list PySem.F.slot_list_pop PySem.F.type_list_pop mt_pop (pv 2)))
      (pss_cons (ps_expr (pe_bm PySem.F.plainAttrs_list PySem.F.slot_list_append PySem.F.type_list_append mt_append (pv 2) (pa_cons (pe_op op_fdiv (pv 3) (pv 1)) pa_nil)))
      (pss_one (ps_ret (pe_op op_mod (pe_callTy call_int1 (by rfl) T.z_int (by decide +kernel) (pa_cons (pv 3) pa_nil)) (pv 1)))))) pss_nil)
      (pss_cons (ps_dput (hu_of hr) (pv 0) pe_str (pe_op op_mod (pe_callTy call_int1 (by rfl) T.z_int (by decide +kernel) (pa_cons (pe_op op_add (pe_op op_mul (pe_dget (hu_of hr) (pv 0) pe_str (fun _ _ => rfl)) pe_int) pe_int) pa_nil)) pe_int) rfl)
      (pss_one (ps_ret (pe_op op_mod (pe_callTy call_int1 (by rfl) T.z_int (by decide +kernel) (pa_cons (pe_op op_fdiv (pe_dget (hu_of hr) (pv 0) pe_str (fun _ _ => rfl)) pe_int) pa_nil)) (pv 1)))))))), ?_⟩
  refine ⟨_, rfl, d, .ref g, rfl, .inl ⟨_, Sum.inr "great", Rd.of D.dict, rfl, rfl⟩, ?_⟩
  refine while_by (fun σ H' => ∃ ms : List Int, σ = [some (.ref d), some (.int m), some (.ref g), none] ∧ KeepD d g H H' ∧ DealAt H' d g ms s) (fun σ H' => match H' g with | some (.lst ls) => ls.length | _ => 0) ⟨ns, rfl, fun _ _ _ _ e => e, D⟩ ?_ ?_
  · rintro σ H1 ⟨ms, rfl, k1, D1⟩
    refine ⟨_, rfl, Nat.zero_le _, fun e he => ⟨g, e, ms.map V.int, rfl, rfl, SqL.of (D1.new he _).great, SqL.of upd_same, _, rfl, ?_⟩⟩
    have D2 := D1.new he (.lst [])
    have k2 := k1.new he (.lst [])
    have hm : (match H1 g with | some (.lst ls) => ls.length | _ => 0) = ms.length := by rw [D1.great]; exact List.length_map _
    generalize upd H1 e (.lst []) = H2 at D2 k2
    rcases List.eq_nil_or_concat ms with hn | ⟨ls, y, hn⟩
    · subst hn
      refine iteF ?_
      exact ok_tRestD D2 k2 m0 m1 q
    · rw [List.concat_eq_append] at hn
      subst hn
      have h1 : (List.map V.int (ls ++ [y])).isEmpty = false := by simp
      refine ite2 (fun _ => ?_) (fun c => (c (by simp)).elim)
      have last : ((ls ++ [y]).map V.int)[((ls ++ [y]).map V.int).length - 1]? = some (.int y) := by simp
      have at1 : atI ((ls ++ [y]).map V.int) (-1) = some (.int y) := by rw [List.map_append]; exact atI_last _ _
      refine ⟨_, rfl, _, rfl, g, _, -1, .int y, rfl, rfl, SqL.of D2.great, at1, rfl, _, rfl, ?_⟩
      refine ite2 (fun c => ?_) (fun c => ?_)
      · refine ⟨_, rfl, .inl ⟨rfl, _, SqL.of D2.great⟩, g, _, .int y, rfl, rfl, D2.great, last, ?_⟩
        have dl : ((ls ++ [y]).map V.int).dropLast = ls.map V.int := by simp
        rw [dl]
        have D3 := D2.put (ms := ls) (fun n hn => D2.pos n (List.mem_append_left _ hn)) (by have := D2.few; rw [List.length_append] at this; omega)
        refine ⟨⟨ls, rfl, k2.at_g _, D3⟩, ?_⟩
        rw [hm, upd_same, List.length_append]
        show (List.map V.int ls).length < _
        rw [List.length_map]
        exact Nat.lt_succ_self _
      · exact ok_tRestD D2 k2 m0 m1 q
  · rintro σ H1 Q1 Q2 imp ⟨v, hv, h0, h⟩
    refine ⟨v, hv, h0, fun e he => ?_⟩
    obtain ⟨a', q', xs', e1, e2, e3, e4, k, e5, h5⟩ := h e he
    refine ⟨a', q', xs', e1, e2, e3, e4, k, e5, ?_⟩
    refine ite2 (fun c => ?_) (fun c => ?_)
    · rw [if_pos c] at h5
      obtain ⟨x1, y1, x2, y2, p, xs, i, w1, f1, f2, f3, f4, sc, b, eb, h6⟩ := h5
      exact ⟨x1, y1, x2, y2, p, xs, i, w1, f1, f2, f3, f4, sc, b, eb, imp _ _ h6⟩
    · rw [if_neg c] at h5
      exact imp _ _ h5
def spDPick : Sp := fun vs H Q _ => ∃ (d g a : Addr) (ns : List Int) (s : Int) (xs : List V), vs = [.ref d, .ref a] ∧ DealAt H d g ns s ∧ a ≠ d ∧ a ≠ g ∧ H a = some (.lst xs) ∧ xs ≠ [] ∧ xs.length ≤ 1000 ∧
  ∀ (x : V) (s' : Int) (ns' : List Int) (H' : Hp), x ∈ xs → KeepD d g H H' → DealAt H' d g ns' s' → Q x H'
theorem ok_dpick (T : TxDeal w K mg) : FnOk P w K mg base CX0 2 T.f_pick T.d_pick P_pick spDPick := by
  have G_draw := ok_draw (P := P) (w := w) (base := base) T
  refine T.F_pick.ok sc_pick (fun vs H Q E h => ?_) (fun cdv A outer s H vs Q E hr h => ?_)
  · obtain ⟨d, g, a, ns, s, xs, rfl, _⟩ := h
    rfl
  obtain ⟨d, g, a, ns, s, xs, rfl, D, ad, ag, ha, ne, few, q⟩ := h
  refine ⟨_, (pss_one (ps_ret (pe_ix (ix_listK K) (pv 1) (pe_call G_draw (hr.mono (by decide)) (by rfl) T.m_draw T.F_draw.kp T.b_draw .nil pass0 (pa_cons (pv 0) (pa_cons (pe_callB (call_lenK K) (by rfl) T.z_len (by decide +kernel) (pa_cons (pv 1) pa_nil)) pa_nil))) (fun _ _ => rfl)))), ?_⟩
  have l0 : 0 < xs.length := List.length_pos_iff.mpr ne
  refine ⟨_, rfl, _, rfl, _, rfl, _, _, rfl, .inl (SqL.of ha), d, g, ns, s, _, rfl, D, by omega, by omega, fun v s' ns' H' v0 v1 k D' => ?_⟩
  obtain ⟨x, h1, h2⟩ := at_some (xs := xs) v0 v1
  exact ⟨a, xs, v, x, rfl, rfl, SqL.of (k a _ ad ag ha), h1, q x s' ns' H' (List.mem_of_getElem? h2) k D'⟩
def absI (z : Int) : Int := if z < 0 then -z else z
theorem absI_pos (z : Int) : 0 ≤ absI z := by unfold absI; split <;> omega
theorem cut60 (ns : List Int) (k : Nat) : ∃ cs : List Int, cutV (ns.map V.int) (some (k : Int)) (some 60) = cs.map V.int ∧ cs.length ≤ 60 := by
  refine ⟨(ns.drop (HT.sIx (ns.map V.int).length 0 (some (k : Int)))).take (HT.sIx (ns.map V.int).length (ns.map V.int).length (some 60) - HT.sIx (ns.map V.int).length 0 (some (k : Int))), ?_, ?_⟩
  · unfold cutV
    rw [List.map_take, List.map_drop]
  · rw [List.length_take]
    have h : HT.sIx (ns.map V.int).length (ns.map V.int).length (some 60) = min 60 (ns.map V.int).length := HT.sIx_nat _ _ 60
    rw [h]
    omega
def spSource (K : PySem.W.Frag) : Sp := fun vs H Q _ => ∃ (a : Addr) (ns : List Int) (k : Nat), vs = [.ref a, .int (k : Int)] ∧ SqL K H a (ns.map V.int) ∧ ns.length ≤ 63 ∧ k ≤ 60 ∧
  ∀ (d g : Addr) (gs : List Int) (s : Int) (H' : Hp), Same H H' → H d = none → H g = none → DealAt H' d g gs s → Q (.ref d) H'
theorem ok_source (T : TxDeal w K mg) : FnOk P w K mg base CX0 1 T.f_source T.d_source P_source (spSource K) := by
  refine T.F_source.ok sc_source (fun vs H Q E h => ?_) (fun cdv A outer s H vs Q E hr h => ?_)
  · obtain ⟨a, ns, k, rfl, _⟩ := h
    rfl
  obtain ⟨a, ns, k, rfl, hS, n63, k60, q⟩ := h
  refine ⟨_, (pss_cons (ps_setLc (i := 2) (own := [("_law_cell", 3)]) (g := gName 3) (by rfl) sc_source.nd rfl rfl (sw_true rfl rfl rfl (by decide +kernel)) (pi_listK K (pe_slice (sl_listK K) (pv 0) (po_some (pv 1)) (po_some pe_int))) (blkOk_by (own := [("_law_cell", 3)]) (N := N_source) (sc := defScope s_source) (by decide +kernel)) (fun _ _ _ _ _ => (pg_name (i := 3) sc_source.nd rfl (Or.inl rfl))) (fun _ _ _ _ _ => pts_nil) (fun _ _ _ _ _ => (pe_callB call_abs (by rfl) T.z_abs (by decide +kernel) (pa_cons (pe_callTy call_int1 (by rfl) T.z_int (by decide +kernel) (pa_cons (pv 3) pa_nil)) pa_nil))))
      (pss_cons (ps_set (i := 4) sc_source.nd rfl (Or.inl rfl) (pe_op op_add pe_int (pe_op op_mul pe_int (pv 1))))
      (pss_cons (ps_for PassesOwn.never rfl (pi_enumA K (by rfl) T.z_enumerate (pa_cons (pv 2) pa_nil)) (pg_tup rfl (pgs_cons (pg_name (i := 5) sc_source.nd rfl (Or.inl rfl)) (pgs_cons (pg_name (i := 3) sc_source.nd rfl (Or.inl rfl)) pgs_nil))) (pss_one (ps_set (i := 4) sc_source.nd rfl (Or.inl rfl) (pe_op op_mod (pe_callTy call_int1 (by rfl) T.z_int (by decide +kernel) (pa_cons (pe_op op_add (pe_op op_mul (pe_op op_add (pe_op op_add (pv 4) (pv 5)) pe_int) pe_int) (pe_op op_mod (pe_callTy call_int1 (by rfl) T.z_int (by decide +kernel) (pa_cons (pv 3) pa_nil)) pe_int)) pa_nil)) pe_int))))
      (pss_one (ps_ret (pe_disp (pps_cons pe_str (pe_rev K (pe_lc (own := [("_law_cell", 3)]) (g := gName 3) (by rfl) sc_source.nd (pi_listK K (pv 2)) (blkOk_by (own := [("_law_cell", 3)]) (N := N_source) (sc := defScope s_source) (by decide +kernel)) (fun _ _ _ _ _ => (pg_name (i := 3) sc_source.nd rfl (Or.inl rfl))) (fun _ _ _ _ _ => pts_one (by exact (pt_cmpR op_ge (pv 3) (pe_op op_pow pe_int pe_int) (nomark _)))) (fun _ _ _ _ _ => (pv 3))) (pe_un un_neg pe_int)) (pps_cons pe_str (pv 4) pps_nil)) rfl rfl (fun h => nomatch h) (Nat.le_of_ble_eq_true rfl))))))), ?_⟩
  obtain ⟨cs, ecs, c60⟩ := cut60 ns k
  refine ⟨_, rfl, _, rfl, _, rfl, _, rfl, a, ns.map V.int, rfl, hS, fun p hp => ?_⟩
  have u1 := same_upd hp (.lst (cutV (ns.map V.int) (some (k : Int)) (some 60)))
  rw [ecs] at u1 ⊢
  have h1 := upd_same (H := H) (a := p) (o := .lst (cs.map V.int))
  generalize upd H p (.lst (cs.map V.int)) = H1 at u1 h1
  refine ⟨p, rfl, ⟨_, SqL.of h1⟩, fun D hD => ?_⟩
  have dh : H D = none := u1.free hD
  refine lc_list (K := K) (a := p) (xs := cs.map V.int) (fun i H' => Same H1 H' ∧ H' D = some (.lst (((cs.take i).map absI).map V.int))) ⟨same_upd hD _, upd_same⟩ (fun i H' _ h => SqL.of (h.1 _ _ h1)) ?_ ?_
  · rintro i x H3 hx ⟨s3, h3⟩
    rw [List.getElem?_map] at hx
    obtain ⟨z, hz, rfl⟩ : ∃ z, cs[i]? = some z ∧ V.int z = x := by
      cases e : cs[i]? with
      | none => rw [e] at hx; cases hx
      | some z => rw [e] at hx; cases hx; exact ⟨z, rfl, rfl⟩
    refine ⟨rfl, _, rfl, .inl ⟨_, rfl, _, rfl, _, h3, small1000 (by rw [List.length_map, List.length_map, List.length_take]; omega), fun c o e => ?_, ?_⟩⟩
    · rw [upd_ne (ne_of_none e hD)]
      exact s3 _ _ e
    · rw [upd_same, List.take_add_one, hz, List.map_append, List.map_append]
      rfl
  rintro H3 ⟨s3, h3⟩
  rw [List.length_map, List.take_length] at h3
  have as60 : (cs.map absI).length ≤ 60 := by rw [List.length_map]; exact c60
  have apos : ∀ n ∈ cs.map absI, 0 ≤ n := fun n hn => by
    obtain ⟨z, _, rfl⟩ := List.mem_map.mp hn
    exact absI_pos z
  generalize cs.map absI = as at h3 as60 apos
  refine ⟨_, rfl, _, _, rfl, rfl, .inl (by decide), _, _, rfl, rfl, ?_⟩
  have t0 : 0 ≤ 52711477 + 31 * (k : Int) := by omega
  have t1 : 52711477 + 31 * (k : Int) < 2147483647 := by omega
  refine ⟨_, rfl, D, as.map V.int, rfl, .inl (SqL.of h3), fun J G g0 gm wk => for_it wk (fun i σ H' => (∃ (v3 v5 : Option V) (t : Int), σ = [some (.ref a), some (.int (k : Int)), some (.ref D), v3, some (.int t), v5] ∧ 0 ≤ t ∧ t < 2147483647) ∧ Same H3 H') ⟨⟨_, _, _, rfl, t0, t1⟩, Same.refl _⟩ (fun i σ H' _ h => gm _ _ h.2 g0) ?_ ?_⟩
  · rintro i x σ H4 H5 hi ⟨⟨v3, v5, t, rfl, _, _⟩, s4⟩ ⟨tq, x1, x2, rfl, htq, rfl, hx1, hx2⟩
    cases hx1
    have hx2 : (as.map V.int)[i]? = some x2 := hx2
    rw [List.getElem?_map] at hx2
    obtain ⟨z, hz, rfl⟩ : ∃ z, as[i]? = some z ∧ V.int z = x2 := by
      cases e : as[i]? with
      | none => rw [e] at hx2; cases hx2
      | some z => rw [e] at hx2; cases hx2; exact ⟨z, rfl, rfl⟩
    have s5 := s4.trans (same_upd htq (.tup [.int (i : Int), .int z]))
    refine ⟨tq, _, rfl, SqT.of upd_same, rfl, _, _, rfl, _, _, rfl, rfl, ?_⟩
    refine ⟨_, rfl, _, rfl, _, _, rfl, rfl, _, _, rfl, rfl, _, _, rfl, rfl, .inr (by decide), _, rfl, .inl ⟨_, rfl, _, _, rfl, rfl, (by show (0 : Int) < 2147483563; decide), _, _, rfl, rfl, .inl ⟨_, rfl, _, _, rfl, rfl, (by show (0 : Int) < 2147483647; decide), ?_⟩⟩⟩
    exact ⟨⟨_, _, _, rfl, Int.emod_nonneg _ (by decide), Int.emod_lt_of_pos _ (by decide)⟩, s5⟩
  rintro σ H4 ⟨⟨v3, v5, t, rfl, q0, q1⟩, s4⟩
  refine fun d hd => ?_
  have u5 := same_upd hd (.dK [])
  have hd5 := upd_same (H := H4) (a := d) (o := .dK [])
  have h5 : upd H4 d (.dK []) D = some (.lst (as.map V.int)) := u5 _ _ (s4 _ _ h3)
  have dn : H d = none := ((u1.trans s3).trans s4).free hd
  have su := ((u1.trans s3).trans s4).trans u5
  generalize upd H4 d (.dK []) = H5 at u5 hd5 h5 su
  refine ⟨_, rfl, D, rfl, ⟨_, SqL.of h5⟩, fun e he => ?_⟩
  have en : H e = none := su.free he
  refine lc_list (K := K) (a := D) (xs := as.map V.int) (fun i H' => Same H5 H' ∧ ∃ gs : List Int, H' e = some (.lst (gs.map V.int)) ∧ gs.length ≤ i ∧ ∀ n ∈ gs, 0 ≤ n) ⟨same_upd he _, [], upd_same, Nat.le_refl _, fun _ z => nomatch z⟩ (fun i H' _ h => SqL.of (h.1 _ _ h5)) ?_ ?_
  · rintro i x H6 hx ⟨s6, gs, h6, gl, gp⟩
    rw [List.getElem?_map] at hx
    obtain ⟨z, hz, rfl⟩ : ∃ z, as[i]? = some z ∧ V.int z = x := by
      cases e : as[i]? with
      | none => rw [e] at hx; cases hx
      | some z => rw [e] at hx; cases hx; exact ⟨z, rfl, rfl⟩
    have il := (List.getElem?_eq_some_iff.mp hz).1
    refine ⟨rfl, _, rfl, _, _, rfl, rfl, ⟨by decide, by decide, by decide⟩, _, _, rfl, rfl, _, rfl, ?_⟩
    refine ite2 (fun c => ?_) (fun c => ?_)
    · refine ⟨_, rfl, _, h6, small1000 (by rw [List.length_map]; omega), fun b o q => ?_, gs ++ [z], ?_, by rw [List.length_append]; exact Nat.succ_le_succ gl, fun n hn => ?_⟩
      · rw [upd_ne (ne_of_none q he)]
        exact s6 _ _ q
      · rw [upd_same, List.map_append]
        rfl
      · rcases List.mem_append.mp hn with y | y
        · exact gp n y
        · rw [List.mem_singleton.mp y]
          exact apos z (List.mem_of_getElem? hz)
    · exact ⟨s6, gs, h6, Nat.le_succ_of_le gl, gp⟩
  rintro H6 ⟨s6, gs, h6, gl, gp⟩
  rw [List.length_map] at gl
  refine ⟨_, rfl, rfl, e, gs.map V.int, rfl, SqL.of h6, fun g hg => ?_⟩
  have u7 := same_upd hg (.lst (gs.map V.int).reverse)
  have h7 := upd_same (H := H6) (a := g) (o := .lst (gs.map V.int).reverse)
  have s7 := s6.trans u7
  have gn : H g = none := (su.trans s6).free hg
  have dg : d ≠ g := ne_of_none (s6 _ _ hd5) hg
  generalize upd H6 g (.lst (gs.map V.int).reverse) = H7 at u7 h7 s7
  refine ⟨_, rfl, s7 _ _ hd5, [(Sum.inr "great", .ref g), (Sum.inr "stirred", .int t)], rfl, by show 2 ≤ 15; decide, ?_⟩
  refine q d g gs.reverse t _ (fun b o h => ?_) dn gn ⟨dg, q0, q1, upd_same, ?_, fun n hn => gp n (List.mem_reverse.mp hn), by rw [List.length_reverse]; omega⟩
  · rw [upd_ne (ne_of_none h dn)]
    exact s7 _ _ (su _ _ h)
  · rw [upd_ne dg.symm, h7, List.map_reverse]
end
end My

/-! ## Names: what a name is (for a law that draws none by _law_names) -/
namespace My
open PySem L2
/-- the words that are no names -/
def BAR : List Str := ["none", "any", "same", "keep", "drop", "good", "bad", "old", "new", "both"]
def ABC : Str := "abcdefghijklmnopqrstuvwxyz"
/-- a name: one to four small letters, none of those words -/
def isNm (x : Str) : Bool := decide (1 ≤ x.length) && decide (x.length ≤ 4) && !(BAR.contains x) && x.cps.toList.all fun c => decide (c ∈ ABC.cps.toList)
theorem isNm_len {x : Str} (h : isNm x = true) : 1 ≤ x.length ∧ x.length ≤ 4 := by
  unfold isNm at h
  simp only [Bool.and_eq_true, decide_eq_true_eq] at h
  exact h.1.1
end My

/-! ## Library terms that are not to be unfolded: for lemmas that are met by their head -/
namespace My
open PySem PySem.Spec PyProof.Rows L2
@[irreducible] def qLst (ta : TA) : TE := tLst ta
@[irreducible] def qLc (wi : TI) (g : TG) (tt : TT) (te : TE) (vs : List Nat) : TE := tLc wi g tt te vs
@[irreducible] def qMake (C : Addr) (sp : Sp) (dvs : List V) (E : XK) (t : TA) : TE := tMake C sp dvs E t
theorem qLst_eq : @tLst = @qLst := by
  funext ta
  unfold qLst
  rfl
theorem qLc_eq : @tLc = @qLc := by
  funext wi g tt te vs
  unfold qLc
  rfl
theorem qMake_eq : @tMake = @qMake := by
  funext C sp dvs E t
  unfold qMake
  rfl
end My

/-! ## Words drawn by the deal (laws of stages 2 and 3): a list shuffled; names, kinds, moods, marks, signs -/
namespace My
open PySem PySem.Spec PyProof.Rows L2
abbrev s_shuffled : Stmt := top 19
abbrev N_shuffled : List Str := ["_law_deal", "_law_some", "_law_rest", "_law_found", "_law_turn"]
abbrev P_shuffled : List Str := ["_law_deal", "_law_some"]
theorem sc_shuffled : FnScope N_shuffled P_shuffled (defScope s_shuffled) := ⟨rfl, rfl, rfl, by decide +kernel, rfl, by decide +kernel, by decide +kernel⟩
structure TxShuf (w : World) (K : PySem.W.Frag) (mg : Str → Option Value) extends TxDeal w K mg where
  z_list : mg "list" = none
  z_range : mg "range" = none
  f_shuffled : Addr
  d_shuffled : FuncData
  F_shuffled : Fun K "_law_shuffled" "_law_shuffled" s_shuffled f_shuffled d_shuffled
  m_shuffled : mg "_law_shuffled" = some (.ref f_shuffled)
  b_shuffled : Binds K d_shuffled P_shuffled []
def spShuf : Sp := fun vs H Q _ => ∃ (d g a : Addr) (ns : List Int) (s : Int) (xs : List V), vs = [.ref d, .ref a] ∧ DealAt H d g ns s ∧ H a = some (.lst xs) ∧ xs.length ≤ 100 ∧
  ∀ (p : Addr) (ys : List V) (s' : Int) (ns' : List Int) (H' : Hp), KeepD d g H H' → DealAt H' d g ns' s' → H p = none → H' p = some (.lst ys) → ys.Perm xs → Q (.ref p) H'
theorem erase_perm {xs : List V} {k : Nat} {y : V} (h : xs[k]? = some y) : (y :: xs.eraseIdx k).Perm xs := by
  induction xs generalizing k with
  | nil => simp at h
  | cons x xs ih =>
    cases k with
    | zero =>
      simp at h
      subst h
      exact List.Perm.refl _
    | succ k =>
      simp at h
      exact (List.Perm.swap x y _).trans ((ih h).cons x)
theorem seq_ixD {d : Int} {n : Nat} (h0 : 0 ≤ d) (h1 : d < (n : Int)) : seqIndex? d n = some d.toNat := by
  unfold seqIndex?
  rw [if_neg (by omega : ¬ d < 0)]
  have e : (decide (0 ≤ d) && decide (d < (n : Int))) = true := by rw [decide_eq_true h0, decide_eq_true h1]; rfl
  exact if_pos e
section
variable {P : Program} {w : World} {K : PySem.W.Frag} {mg : Str → Option Value} {base : Heap}
theorem ok_shuffled (T : TxShuf w K mg) : FnOk P w K mg base CX0 2 T.f_shuffled T.d_shuffled P_shuffled spShuf := by
  have G_draw := ok_draw (P := P) (w := w) (base := base) T.toTxDeal
  refine T.F_shuffled.ok sc_shuffled (fun vs H Q E h => ?_) (fun cdv A outer s H vs Q E hr h => ?_)
  · obtain ⟨d, g, a, ns, s, xs, rfl, _⟩ := h
    rfl
  obtain ⟨d, g, a, ns, s, xs, rfl, D0, ha, hlen, q⟩ := h
  refine ⟨_, (pss_cons (ps_par (i := 2) (j := 3) (by rfl) sc_shuffled.nd rfl rfl (by decide) rfl rfl (pa_cons (pe_callTy (call_listK K) (by rfl) T.z_list (by decide +kernel) (pa_cons (pv 1) pa_nil)) (pa_cons (pe_lst pa_nil) pa_nil)) (by rfl))
      (pss_cons (ps_for PassesOwn.never rfl (pi_range1 (by rfl) T.z_range (pa_cons (pe_callB (call_lenK K) (by rfl) T.z_len (by decide +kernel) (pa_cons (pv 2) pa_nil)) pa_nil)) (pg_name (i := 4) sc_shuffled.nd rfl (Or.inl rfl)) (pss_one (ps_expr (pe_bm PySem.F.plainAttrs_list PySem.F.slot_list_append PySem.F.type_list_append mt_append (pv 3) (pa_cons (pe_bm PySem.F.plainAttrs_list PySem.F.slot_list_pop PySem.F.type_list_pop mt_popAt (pv 2) (pa_cons (pe_call G_draw (hr.mono (by decide)) (by rfl) T.m_draw T.F_draw.kp T.b_draw .nil pass0 (pa_cons (pv 0) (pa_cons (pe_callB (call_lenK K) (by rfl) T.z_len (by decide +kernel) (pa_cons (pv 2) pa_nil)) pa_nil))) pa_nil)) pa_nil)))))
      (pss_one (ps_ret (pv 3))))), ?_⟩
  refine ⟨_, rfl, a, _, rfl, .inl (SqL.of ha), fun l hl => ⟨Nat.zero_le _, fun p hp => ?_⟩⟩
  refine ⟨_, _, rfl, ?_⟩
  have y1 := same_upd hl (.lst xs)
  have y2 := same_upd hp (.lst [])
  have l1 : upd H l (.lst xs) l = some (.lst xs) := upd_same
  have l2 := y2 _ _ l1
  have p2 : upd (upd H l (.lst xs)) p (.lst []) p = some (.lst []) := upd_same
  have p0 : H p = none := y1.free hp
  have pl : p ≠ l := fun z => by rw [z, l1] at hp; cases hp
  have D2 := (D0.new hl (.lst xs)).new hp (.lst [])
  have k2 : KeepD d g H (upd (upd H l (.lst xs)) p (.lst [])) := fun b o _ _ e => y2 _ _ (y1 _ _ e)
  have ld : l ≠ d := fun z => by rw [z, D0.dict] at hl; cases hl
  have lg : l ≠ g := fun z => by rw [z, D0.great] at hl; cases hl
  have pd : p ≠ d := fun z => by rw [z, D0.dict] at p0; cases p0
  have pg : p ≠ g := fun z => by rw [z, D0.great] at p0; cases p0
  generalize upd (upd H l (.lst xs)) p (.lst []) = H2 at l2 p2 D2 k2 ⊢
  refine ⟨_, rfl, l, _, rfl, .inl (SqL.of l2), _, rfl, by omega, by omega, ?_⟩
  refine for_range (lo := 0) (n := (xs.length : Int).toNat) (fun i σ H' => (∃ v4, σ = [some (.ref d), some (.ref a), some (.ref l), some (.ref p), v4]) ∧ KeepD d g H H' ∧ (∃ ns s, DealAt H' d g ns s) ∧ ∃ ls fs : List V, H' l = some (.lst ls) ∧ H' p = some (.lst fs) ∧ (fs ++ ls).Perm xs ∧ fs.length = i) ⟨⟨_, rfl⟩, k2, ⟨_, _, D2⟩, xs, [], l2, p2, List.Perm.refl _, rfl⟩ ?_ ?_
  · rintro i σ H1 hi ⟨⟨v4, rfl⟩, k1, ⟨ns1, s1, D1⟩, ls, fs, h1, h2, pm, fl⟩
    have ple : fs.length + ls.length = xs.length := by rw [← List.length_append]; exact pm.length_eq
    have hi' : i < xs.length := by omega
    refine ⟨_, rfl, .inl ⟨rfl, _, SqL.of h2⟩, _, rfl, .inl ⟨rfl, _, SqL.of h1⟩, _, rfl, _, rfl, _, _, rfl, .inl (SqL.of h1), d, g, ns1, s1, _, rfl, D1, by omega, by omega, fun v s' ns' H3 v0 v1 kd D3 => ?_⟩
    have h13 := kd _ _ ld lg h1
    have h23 := kd _ _ pd pg h2
    obtain ⟨x, _, hv⟩ := at_some (xs := ls) v0 v1
    refine ⟨l, ls, v, v.toNat, x, rfl, rfl, h13, by omega, by omega, seq_ixD v0 v1, hv, ?_⟩
    refine ⟨p, fs, x, rfl, rfl, by rw [upd_ne pl]; exact h23, small1000 (by omega), ⟨_, rfl⟩, fun b o n1 n2 e => ?_, ⟨ns', s', ?_⟩, ls.eraseIdx v.toNat, fs ++ [x], by rw [upd_ne pl.symm, upd_same], upd_same, ?_, by rw [List.length_append, fl]; rfl⟩
    · have b1 : b ≠ l := ne_of_none e hl
      have b2 : b ≠ p := ne_of_none e p0
      rw [upd_ne b2, upd_ne b1]
      exact kd b o n1 n2 (k1 b o n1 n2 e)
    · exact ⟨D3.ne, D3.s0, D3.s1, by rw [upd_ne pd.symm, upd_ne ld.symm]; exact D3.dict, by rw [upd_ne pg.symm, upd_ne lg.symm]; exact D3.great, D3.pos, D3.few⟩
    · rw [List.append_assoc]
      exact ((erase_perm hv).append_left fs).trans pm
  · rintro σ H1 ⟨⟨v4, rfl⟩, k1, ⟨ns1, s1, D1⟩, ls, fs, h1, h2, pm, fl⟩
    have ple : fs.length + ls.length = xs.length := by rw [← List.length_append]; exact pm.length_eq
    have l0 : ls = [] := List.length_eq_zero_iff.mp (by omega)
    rw [l0, List.append_nil] at pm
    exact ⟨_, rfl, q p fs s1 ns1 H1 k1 D1 p0 h2 pm⟩
end
end My

/-! ## Words drawn by the deal: names, kinds, moods, marks, signs -/
namespace My
open PySem PySem.Spec PyProof.Rows L2
abbrev s_words : Stmt := top 20
abbrev N_words : List Str := ["_law_deal", "_law_pools", "_law_kinds", "_law_moods", "_law_marks", "_law_signs", "_law_some"]
abbrev P_words : List Str := ["_law_deal"]
theorem sc_words : FnScope N_words P_words (defScope s_words) := ⟨rfl, rfl, rfl, by decide +kernel, rfl, by decide +kernel, by decide +kernel⟩
structure TxDWords (w : World) (K : PySem.W.Frag) (mg : Str → Option Value) extends TxShuf w K mg where
  f_words : Addr
  d_words : FuncData
  F_words : Fun K "_law_words" "_law_words" s_words f_words d_words
  m_words : mg "_law_words" = some (.ref f_words)
  b_words : Binds K d_words P_words []
/-- a list of texts that the deal leaves as it is -/
structure LS (d g : Addr) (H : Hp) (a : Addr) (xs : List Str) : Prop where
  nd : a ≠ d
  ng : a ≠ g
  at_ : H a = some (.lst (xs.map V.str))
def LSs (d g : Addr) (H : Hp) (ps : List V) (xss : List (List Str)) : Prop := Paired (fun p xs => ∃ q, p = .ref q ∧ LS d g H q xs) ps xss
/-- a list of such lists -/
structure LLS (d g : Addr) (H : Hp) (a : Addr) (xss : List (List Str)) : Prop where
  nd : a ≠ d
  ng : a ≠ g
  at_ : ∃ ps, H a = some (.lst ps) ∧ LSs d g H ps xss
theorem LS.keep {d g : Addr} {H H' : Hp} {a : Addr} {xs : List Str} (h : LS d g H a xs) (k : KeepD d g H H') : LS d g H' a xs := ⟨h.nd, h.ng, k _ _ h.nd h.ng h.at_⟩
theorem LSs.keep {d g : Addr} {H H' : Hp} (k : KeepD d g H H') : ∀ {ps : List V} {xss : List (List Str)}, LSs d g H ps xss → LSs d g H' ps xss
  | _, _, .nil => .nil
  | _, _, .cons ⟨q, e, h⟩ t => .cons ⟨q, e, h.keep k⟩ (LSs.keep k t)
theorem LLS.keep {d g : Addr} {H H' : Hp} {a : Addr} {xss : List (List Str)} (h : LLS d g H a xss) (k : KeepD d g H H') : LLS d g H' a xss := by
  obtain ⟨ps, h1, h2⟩ := h.at_
  exact ⟨h.nd, h.ng, ps, k _ _ h.nd h.ng h1, LSs.keep k h2⟩
theorem KeepD.trans2 {d g : Addr} {H1 H2 H3 : Hp} (x : KeepD d g H1 H2) (y : KeepD d g H2 H3) : KeepD d g H1 H3 := fun a o n m e => y a o n m (x a o n m e)
theorem KeepD.same {d g : Addr} {H H' : Hp} (s : Same H H') : KeepD d g H H' := fun a o _ _ e => s a o e
theorem LSs.len {d g : Addr} {H : Hp} : ∀ {ps : List V} {xss : List (List Str)}, LSs d g H ps xss → ps.length = xss.length
  | _, _, .nil => rfl
  | _, _, .cons _ t => congrArg Nat.succ (LSs.len t)
theorem LSs.mem {d g : Addr} {H : Hp} : ∀ {ps : List V} {xss : List (List Str)} {p : V}, LSs d g H ps xss → p ∈ ps → ∃ q xs, p = .ref q ∧ xs ∈ xss ∧ LS d g H q xs
  | _, _, _, .cons ⟨q, e, h⟩ t, m => by
    rcases List.mem_cons.mp m with rfl | m
    · exact ⟨q, _, e, List.mem_cons_self, h⟩
    · obtain ⟨q2, xs, e2, m2, h2⟩ := LSs.mem t m
      exact ⟨q2, xs, e2, List.mem_cons_of_mem _ m2, h2⟩
/-! ### making them -/
structure StrA (ta : TA) (xs : List Str) : Prop where
  run : ∀ {σ : L2.St} {H : Hp} {Q : List V → Hp → Prop}, Q (xs.map V.str) H → ta σ H Q
theorem StrA.nil : StrA tNil [] := ⟨fun q => q⟩
theorem StrA.cons (s : Str) {ta : TA} {xs : List Str} (h : StrA ta xs) : StrA (tCons (tC (.str s)) ta) (s :: xs) := ⟨fun q => h.run q⟩
structure MkS (te : TE) (xs : List Str) : Prop where
  run : ∀ {σ : L2.St} {H : Hp} {Q : VK} {d g : Addr}, H d ≠ none → H g ≠ none → (∀ a H', Same H H' → LS d g H' a xs → Q (.ref a) H') → te σ H Q
theorem MkS.lst {ta : TA} {xs : List Str} (h : StrA ta xs) (n : xs.length ≤ 1000) : MkS (qLst ta) xs := qLst_eq ▸ ⟨fun hd hg q => h.run ⟨by rw [List.length_map, sizeLine_eq]; omega, fun p hp => q p _ (same_upd hp _) ⟨fun z => hd (z ▸ hp), fun z => hg (z ▸ hp), upd_same⟩⟩⟩
structure MkSs (ta : TA) (xss : List (List Str)) : Prop where
  run : ∀ {σ : L2.St} {H : Hp} {Q : List V → Hp → Prop} {d g : Addr}, H d ≠ none → H g ≠ none → (∀ ps H', Same H H' → LSs d g H' ps xss → Q ps H') → ta σ H Q
theorem ne_same {H H' : Hp} {a : Addr} (h : H a ≠ none) (s : Same H H') : H' a ≠ none := by
  cases e : H a with
  | none => exact absurd e h
  | some o => rw [s _ _ e]; exact fun z => nomatch z
theorem MkSs.nil : MkSs tNil [] := ⟨fun _ _ q => q _ _ (Same.refl _) .nil⟩
theorem MkSs.cons {te : TE} {ta : TA} {xs : List Str} {xss : List (List Str)} (h : MkS te xs) (r : MkSs ta xss) : MkSs (tCons te ta) (xs :: xss) := ⟨fun hd hg q => h.run hd hg fun a H1 s1 l1 => r.run (ne_same hd s1) (ne_same hg s1) fun ps H2 s2 l2 => q _ _ (s1.trans s2) (.cons ⟨a, rfl, l1.keep (KeepD.same s2)⟩ l2)⟩
structure MkLS (te : TE) (xss : List (List Str)) : Prop where
  run : ∀ {σ : L2.St} {H : Hp} {Q : VK} {d g : Addr}, H d ≠ none → H g ≠ none → (∀ a H', Same H H' → LLS d g H' a xss → Q (.ref a) H') → te σ H Q
theorem MkSs.lst {ta : TA} {xss : List (List Str)} (h : MkSs ta xss) (n : xss.length ≤ 1000) : MkLS (qLst ta) xss := qLst_eq ▸ ⟨fun hd hg q => h.run hd hg fun ps H1 s1 l1 => ⟨by rw [LSs.len l1, sizeLine_eq]; omega, fun p hp => q p _ (s1.trans (same_upd hp _)) ⟨fun z => ne_same hd s1 (z ▸ hp), fun z => ne_same hg s1 (z ▸ hp), ps, upd_same, LSs.keep (KeepD.same (same_upd hp _)) l1⟩⟩⟩
/-- one of the lists is picked -/
theorem pick_LS {d g a : Addr} {H : Hp} {ns : List Int} {s : Int} {xss : List (List Str)} {Q : VK} (D : DealAt H d g ns s) (h : LLS d g H a xss) (n0 : xss ≠ []) (few : xss.length ≤ 100)
    (q : ∀ (b : Addr) (xs : List Str) (ns' : List Int) (s' : Int) (H' : Hp), KeepD d g H H' → DealAt H' d g ns' s' → xs ∈ xss → LS d g H' b xs → Q (.ref b) H') : spDPick [.ref d, .ref a] H Q E0 := by
  obtain ⟨ps, h1, h2⟩ := h.at_
  refine ⟨d, g, a, ns, s, ps, rfl, D, h.nd, h.ng, h1, fun z => ?_, by rw [LSs.len h2]; omega, fun x s' ns' H' m k D' => ?_⟩
  · have l := LSs.len h2
    rw [z] at l
    exact n0 (List.length_eq_zero_iff.mp l.symm)
  · obtain ⟨b, xs, rfl, mx, hb⟩ := LSs.mem h2 m
    exact q b xs ns' s' H' k D' mx (hb.keep k)
theorem perm_map {α β : Type} {f : α → β} {ys xs' : List β} (h : ys.Perm xs') : ∀ xs : List α, xs' = xs.map f → ∃ zs : List α, ys = zs.map f ∧ zs.Perm xs := by
  induction h with
  | nil =>
    intro xs e
    exact ⟨[], rfl, by rw [List.map_eq_nil_iff.mp e.symm]⟩
  | cons x _ ih =>
    intro xs e
    cases xs with
    | nil => cases e
    | cons y t =>
      cases e
      obtain ⟨zs, rfl, p⟩ := ih t rfl
      exact ⟨y :: zs, rfl, p.cons y⟩
  | swap x y l =>
    intro xs e
    match xs, e with
    | a :: b :: t, rfl => exact ⟨b :: a :: t, rfl, .swap _ _ _⟩
  | trans _ _ i1 i2 =>
    intro xs e
    obtain ⟨zs, e1, p1⟩ := i2 xs e
    obtain ⟨ws, e2, p2⟩ := i1 zs e1
    exact ⟨ws, e2, p2.trans p1⟩
/-- the words of a deal -/
structure WordsD where
  names : List Str
  kinds : List Str
  moods : List Str
  marks : List Str
  signs : List Str
def POOLS3 : List (List Str) := [["web", "pay", "db", "log"], ["root", "end", "send", "back"], ["a", "ab", "abc", "zzzz"]]
def KINDS3 : List (List Str) := [["top", "sub"], ["k", "kk"], ["calm", "wait"]]
def MOODS3 : List (List Str) := [["loud", "odd"], ["calx", "l"], ["hear", "m"]]
def MARKS3 : List (List Str) := [["m", "mm"], ["hot", "cold"], ["loud", "calm"]]
def SIGNS3 : List (List Str) := [["err", "ok"], ["s", "up"], ["m", "hot"]]
structure WordsD.ok (W : WordsD) : Prop where
  names : ∃ l ∈ POOLS3, W.names.Perm l
  kinds : W.kinds ∈ KINDS3
  moods : ∃ l ∈ MOODS3, W.moods = ("calm" : Str) :: l
  marks : W.marks ∈ MARKS3
  signs : W.signs ∈ SIGNS3
/-- they stand in the list at p -/
structure WordsAt (d g : Addr) (H : Hp) (p : Addr) (W : WordsD) : Prop where
  nd : p ≠ d
  ng : p ≠ g
  at_ : ∃ q1 q2 q3 q4 q5, H p = some (.lst [.ref q1, .ref q2, .ref q3, .ref q4, .ref q5]) ∧ LS d g H q1 W.names ∧ LS d g H q2 W.kinds ∧ LS d g H q3 W.moods ∧ LS d g H q4 W.marks ∧ LS d g H q5 W.signs
def spWords : Sp := fun vs H Q _ => ∃ (d g : Addr) (ns : List Int) (s : Int), vs = [.ref d] ∧ DealAt H d g ns s ∧
  ∀ (p : Addr) (W : WordsD) (ns' : List Int) (s' : Int) (H' : Hp), KeepD d g H H' → DealAt H' d g ns' s' → WordsAt d g H' p W → W.ok → Q (.ref p) H'
section
variable {P : Program} {w : World} {K : PySem.W.Frag} {mg : Str → Option Value} {base : Heap}
theorem ok_words (T : TxDWords w K mg) : FnOk P w K mg base CX0 3 T.f_words T.d_words P_words spWords := by
  have G_pick := ok_dpick (P := P) (w := w) (base := base) T.toTxDeal
  have G_shuffled := ok_shuffled (P := P) (w := w) (base := base) T.toTxShuf
  refine T.F_words.ok sc_words (fun vs H Q E h => ?_) (fun cdv A outer s H vs Q E hr h => ?_)
  · obtain ⟨d, g, ns, s, rfl, _⟩ := h
    rfl
  obtain ⟨d, g, ns, s, rfl, D0, q⟩ := h
  refine ⟨_, (pss_cons (ps_set (i := 1) sc_words.nd rfl (Or.inl rfl) (pe_lst (pa_cons (pe_lst (pa_cons pe_str (pa_cons pe_str (pa_cons pe_str (pa_cons pe_str pa_nil))))) (pa_cons (pe_lst (pa_cons pe_str (pa_cons pe_str (pa_cons pe_str (pa_cons pe_str pa_nil))))) (pa_cons (pe_lst (pa_cons pe_str (pa_cons pe_str (pa_cons pe_str (pa_cons pe_str pa_nil))))) pa_nil)))))
      (pss_cons (ps_par (i := 2) (j := 3) (by rfl) sc_words.nd rfl rfl (by decide) rfl rfl (pa_cons (pe_lst (pa_cons (pe_lst (pa_cons pe_str (pa_cons pe_str pa_nil))) (pa_cons (pe_lst (pa_cons pe_str (pa_cons pe_str pa_nil))) (pa_cons (pe_lst (pa_cons pe_str (pa_cons pe_str pa_nil))) pa_nil)))) (pa_cons (pe_lst (pa_cons (pe_lst (pa_cons pe_str (pa_cons pe_str pa_nil))) (pa_cons (pe_lst (pa_cons pe_str (pa_cons pe_str pa_nil))) (pa_cons (pe_lst (pa_cons pe_str (pa_cons pe_str pa_nil))) pa_nil)))) pa_nil)) (by rfl))
      (pss_cons (ps_par (i := 4) (j := 5) (by rfl) sc_words.nd rfl rfl (by decide) rfl rfl (pa_cons (pe_lst (pa_cons (pe_lst (pa_cons pe_str (pa_cons pe_str pa_nil))) (pa_cons (pe_lst (pa_cons pe_str (pa_cons pe_str pa_nil))) (pa_cons (pe_lst (pa_cons pe_str (pa_cons pe_str pa_nil))) pa_nil)))) (pa_cons (pe_lst (pa_cons (pe_lst (pa_cons pe_str (pa_cons pe_str pa_nil))) (pa_cons (pe_lst (pa_cons pe_str (pa_cons pe_str pa_nil))) (pa_cons (pe_lst (pa_cons pe_str (pa_cons pe_str pa_nil))) pa_nil)))) pa_nil)) (by rfl))
      (pss_cons (ps_set (i := 6) sc_words.nd rfl (Or.inl rfl) (pe_lst (pa_cons (pe_call G_shuffled (hr.mono (by decide)) (by rfl) T.m_shuffled T.F_shuffled.kp T.b_shuffled .nil pass0 (pa_cons (pv 0) (pa_cons (pe_call G_pick (hr.mono (by decide)) (by rfl) T.m_pick T.F_pick.kp T.b_pick .nil pass0 (pa_cons (pv 0) (pa_cons (pv 1) pa_nil))) pa_nil))) (pa_cons (pe_call G_pick (hr.mono (by decide)) (by rfl) T.m_pick T.F_pick.kp T.b_pick .nil pass0 (pa_cons (pv 0) (pa_cons (pv 2) pa_nil))) (pa_cons (pe_op op_cat (pe_lst (pa_cons pe_str pa_nil)) (pe_call G_pick (hr.mono (by decide)) (by rfl) T.m_pick T.F_pick.kp T.b_pick .nil pass0 (pa_cons (pv 0) (pa_cons (pv 3) pa_nil)))) pa_nil)))))
      (pss_one (ps_ret (pe_op op_cat (pv 6) (pe_lst (pa_cons (pe_call G_pick (hr.mono (by decide)) (by rfl) T.m_pick T.F_pick.kp T.b_pick .nil pass0 (pa_cons (pv 0) (pa_cons (pv 4) pa_nil))) (pa_cons (pe_call G_pick (hr.mono (by decide)) (by rfl) T.m_pick T.F_pick.kp T.b_pick .nil pass0 (pa_cons (pv 0) (pa_cons (pv 5) pa_nil))) pa_nil)))))))))), ?_⟩
  rw [qLst_eq]
  have dn : ∀ {H1 : Hp} {ns s}, DealAt H1 d g ns s → H1 d ≠ none := fun D z => by rw [D.dict] at z; cases z
  have gn : ∀ {H1 : Hp} {ns s}, DealAt H1 d g ns s → H1 g ≠ none := fun D z => by rw [D.great] at z; cases z
  have dsame : ∀ {H1 H2 : Hp} {ns s}, DealAt H1 d g ns s → Same H1 H2 → DealAt H2 d g ns s := fun D e => ⟨D.ne, D.s0, D.s1, e _ _ D.dict, e _ _ D.great, D.pos, D.few⟩
  refine (MkSs.lst (MkSs.cons (MkS.lst (StrA.cons "web" (StrA.cons "pay" (StrA.cons "db" (StrA.cons "log" StrA.nil)))) (by decide)) (MkSs.cons (MkS.lst (StrA.cons "root" (StrA.cons "end" (StrA.cons "send" (StrA.cons "back" StrA.nil)))) (by decide)) (MkSs.cons (MkS.lst (StrA.cons "a" (StrA.cons "ab" (StrA.cons "abc" (StrA.cons "zzzz" StrA.nil)))) (by decide)) MkSs.nil))) (by decide)).run (dn D0) (gn D0) fun a1 H1 y1 L1 => ?_
  have D1 := dsame D0 y1
  refine (MkSs.lst (MkSs.cons (MkS.lst (StrA.cons "top" (StrA.cons "sub" StrA.nil)) (by decide)) (MkSs.cons (MkS.lst (StrA.cons "k" (StrA.cons "kk" StrA.nil)) (by decide)) (MkSs.cons (MkS.lst (StrA.cons "calm" (StrA.cons "wait" StrA.nil)) (by decide)) MkSs.nil))) (by decide)).run (dn D1) (gn D1) fun a2 H2 y2 L2 => ?_
  have D2 := dsame D1 y2
  refine (MkSs.lst (MkSs.cons (MkS.lst (StrA.cons "loud" (StrA.cons "odd" StrA.nil)) (by decide)) (MkSs.cons (MkS.lst (StrA.cons "calx" (StrA.cons "l" StrA.nil)) (by decide)) (MkSs.cons (MkS.lst (StrA.cons "hear" (StrA.cons "m" StrA.nil)) (by decide)) MkSs.nil))) (by decide)).run (dn D2) (gn D2) fun a3 H3 y3 L3 => ?_
  have D3 := dsame D2 y3
  refine ⟨_, _, rfl, ?_⟩
  refine (MkSs.lst (MkSs.cons (MkS.lst (StrA.cons "m" (StrA.cons "mm" StrA.nil)) (by decide)) (MkSs.cons (MkS.lst (StrA.cons "hot" (StrA.cons "cold" StrA.nil)) (by decide)) (MkSs.cons (MkS.lst (StrA.cons "loud" (StrA.cons "calm" StrA.nil)) (by decide)) MkSs.nil))) (by decide)).run (dn D3) (gn D3) fun a4 H4 y4 L4 => ?_
  have D4 := dsame D3 y4
  refine (MkSs.lst (MkSs.cons (MkS.lst (StrA.cons "err" (StrA.cons "ok" StrA.nil)) (by decide)) (MkSs.cons (MkS.lst (StrA.cons "s" (StrA.cons "up" StrA.nil)) (by decide)) (MkSs.cons (MkS.lst (StrA.cons "m" (StrA.cons "hot" StrA.nil)) (by decide)) MkSs.nil))) (by decide)).run (dn D4) (gn D4) fun a5 H5 y5 L5 => ?_
  have D5 := dsame D4 y5
  refine ⟨_, _, rfl, ?_⟩
  rw [← qLst_eq]
  have few : ∀ l ∈ POOLS3 ++ KINDS3 ++ MOODS3 ++ MARKS3 ++ SIGNS3, l.length ≤ 10 := by decide +kernel
  refine ⟨_, rfl, _, rfl, _, rfl, ?_⟩
  refine pick_LS (xss := POOLS3) D5 (L1.keep (KeepD.same (((y2.trans y3).trans y4).trans y5))) (fun z => nomatch z) (by decide) fun b1 xs1 ns6 s6 H6 k6 D6 m1 l1 => ?_
  have f1 := few xs1 (by simp [m1])
  refine ⟨d, g, b1, ns6, s6, _, rfl, D6, l1.at_, by rw [List.length_map]; omega, fun p1 ys1 s7 ns7 H7 k7 D7 n7 h7 pm1 => ?_⟩
  obtain ⟨names, rfl, pn⟩ := perm_map pm1 xs1 rfl
  have lsn : LS d g H7 p1 names := ⟨fun z => dn D6 (z ▸ n7), fun z => gn D6 (z ▸ n7), h7⟩
  have k57 := k6.trans2 k7
  refine ⟨_, rfl, _, rfl, ?_⟩
  refine pick_LS (xss := KINDS3) D7 ((L2.keep (KeepD.same ((y3.trans y4).trans y5))).keep k57) (fun z => nomatch z) (by decide) fun b2 xs2 ns8 s8 H8 k8 D8 m2 l2 => ?_
  have k58 := k57.trans2 k8
  refine ⟨by show 1 ≤ sizeLine; decide, fun c hc => ?_⟩
  have y9 := same_upd hc (.lst [.str "calm"])
  have c9 : upd H8 c (.lst [.str "calm"]) c = some (.lst [.str "calm"]) := upd_same
  have cd : c ≠ d := fun z => dn D8 (z ▸ hc)
  have cg : c ≠ g := fun z => gn D8 (z ▸ hc)
  generalize upd H8 c (.lst [.str "calm"]) = H9 at y9 c9 ⊢
  have D9 := dsame D8 y9
  have k89 : KeepD d g H8 H9 := KeepD.same y9
  have k59 := k58.trans2 k89
  refine ⟨_, rfl, _, rfl, ?_⟩
  refine pick_LS (xss := MOODS3) D9 ((L3.keep (KeepD.same (y4.trans y5))).keep k59) (fun z => nomatch z) (by decide) fun b3 xs3 ns10 s10 H10 k10 D10 m3 l3 => ?_
  have f3 := few xs3 (by simp [m3])
  refine ⟨c, b3, _, _, rfl, rfl, k10 _ _ cd cg c9, l3.at_, small_ (by rw [List.length_map]; show 1 + _ ≤ 1000; omega), fun c2 hc2 => ?_⟩
  have y11 := same_upd hc2 (.lst ([.str "calm"] ++ xs3.map V.str))
  have lsm : LS d g (upd H10 c2 (.lst ([.str "calm"] ++ xs3.map V.str))) c2 (("calm" : Str) :: xs3) := ⟨fun z => dn D10 (z ▸ hc2), fun z => gn D10 (z ▸ hc2), upd_same⟩
  generalize upd H10 c2 (.lst ([.str "calm"] ++ xs3.map V.str)) = H11 at y11 lsm ⊢
  have D11 := dsame D10 y11
  refine ⟨by show 3 ≤ sizeLine; decide, fun r hr => ?_⟩
  have y12 := same_upd hr (.lst [.ref p1, .ref b2, .ref c2])
  have r12 : upd H11 r (.lst [.ref p1, .ref b2, .ref c2]) r = some (.lst [.ref p1, .ref b2, .ref c2]) := upd_same
  have rd : r ≠ d := fun z => dn D11 (z ▸ hr)
  have rg : r ≠ g := fun z => gn D11 (z ▸ hr)
  generalize upd H11 r (.lst [.ref p1, .ref b2, .ref c2]) = H12 at y12 r12 ⊢
  have D12 := dsame D11 y12
  have k1012 : KeepD d g H10 H12 := KeepD.same (y11.trans y12)
  have k912 := k10.trans2 k1012
  have k812 := k89.trans2 k912
  have k512 := k59.trans2 k912
  refine ⟨_, rfl, _, rfl, _, rfl, ?_⟩
  refine pick_LS (xss := MARKS3) D12 ((L4.keep (KeepD.same y5)).keep k512) (fun z => nomatch z) (by decide) fun b4 xs4 ns13 s13 H13 k13 D13 m4 l4 => ?_
  refine ⟨_, rfl, _, rfl, ?_⟩
  refine pick_LS (xss := SIGNS3) D13 ((L5.keep k512).keep k13) (fun z => nomatch z) (by decide) fun b5 xs5 ns14 s14 H14 k14 D14 m5 l5 => ?_
  refine ⟨by show 2 ≤ sizeLine; decide, fun u hu => ?_⟩
  have y15 := same_upd hu (.lst [.ref b4, .ref b5])
  have u15 : upd H14 u (.lst [.ref b4, .ref b5]) u = some (.lst [.ref b4, .ref b5]) := upd_same
  generalize upd H14 u (.lst [.ref b4, .ref b5]) = H15 at y15 u15 ⊢
  have D15 := dsame D14 y15
  have k1215 : KeepD d g H12 H15 := (k13.trans2 k14).trans2 (KeepD.same y15)
  refine ⟨r, u, _, _, rfl, rfl, k1215 _ _ rd rg r12, u15, by show 5 ≤ sizeLine; decide, fun p hp => ?_⟩
  have y16 := same_upd hp (.lst ([.ref p1, .ref b2, .ref c2] ++ [.ref b4, .ref b5]))
  have k1216 : KeepD d g H12 (upd H15 p (.lst ([.ref p1, .ref b2, .ref c2] ++ [.ref b4, .ref b5]))) := k1215.trans2 (KeepD.same y16)
  have k816 := k812.trans2 k1216
  have y05 : Same H H5 := (((y1.trans y2).trans y3).trans y4).trans y5
  refine q p ⟨names, xs2, ("calm" : Str) :: xs3, xs4, xs5⟩ ns14 s14 _ (((KeepD.same y05).trans2 k512).trans2 k1216) (dsame D15 y16) ⟨fun z => dn D15 (z ▸ hp), fun z => gn D15 (z ▸ hp), p1, b2, c2, b4, b5, upd_same, (lsn.keep k8).keep k816, l2.keep k816, (lsm.keep (KeepD.same y12)).keep k1216, (l4.keep k14).keep (KeepD.same (y15.trans y16)), l5.keep (KeepD.same (y15.trans y16))⟩ ⟨⟨xs1, m1, pn⟩, m2, ⟨xs3, m3, rfl⟩, m4, m5⟩
end
end My

/-! ## A row drawn by the deal -/
namespace My
open PySem PySem.Spec PyProof.Rows L2
abbrev s_row : Stmt := top 21
abbrev N_row : List Str := ["_law_deal", "_law_names", "_law_words_here", "_law_sizes", "_law_moods", "_law_marks", "_law_signs", "_law_mood", "_law_form", "_law_here", "_law_other", "_law_mark", "_law_sign", "_law_part"]
abbrev P_row : List Str := ["_law_deal", "_law_names", "_law_words_here", "_law_sizes"]
theorem sc_row : FnScope N_row P_row (defScope s_row) := ⟨rfl, rfl, rfl, by decide +kernel, rfl, by decide +kernel, by decide +kernel⟩
structure TxDRow (w : World) (K : PySem.W.Frag) (mg : Str → Option Value) extends TxDeal w K mg where
  f_row : Addr
  d_row : FuncData
  F_row : Fun K "_law_row" "_law_row" s_row f_row d_row
  m_row : mg "_law_row" = some (.ref f_row)
  b_row : Binds K d_row P_row []
/-- a row of these words -/
inductive RowIn (W : WordsD) (names : List Str) : Str → List Str → Prop
  | begin {a b c : Str} (ha : a ∈ W.marks ++ W.marks ++ [("none" : Str), "any"]) (hb : b ∈ W.kinds ++ [("any" : Str), "any"]) (hc : c ∈ W.moods) : RowIn W names "begin" [a, b, c]
  | send {a b c : Str} (ha : a ∈ W.moods ++ W.moods ++ [("any" : Str)]) (hb : b ∈ names ++ [("any" : Str)]) (hc : c ∈ W.marks ++ W.marks ++ [("none" : Str), "same"]) : RowIn W names "send" [a, b, c]
  | back {a b c e : Str} (ha : a ∈ W.moods ++ W.moods ++ [("any" : Str)]) (hb : b ∈ names ++ [("any" : Str)]) (hc : c ∈ W.signs ++ W.signs ++ [("none" : Str), "any"]) (he : e ∈ W.moods ++ [("same" : Str)]) : RowIn W names "back" [a, b, c, e]
  | end_ {a o c e : Str} (ha : a ∈ W.moods ++ W.moods ++ [("any" : Str)]) (ho : o ∈ [("good" : Str), "bad", "bad", "any"]) (hc : c ∈ W.signs ++ W.signs ++ [("none" : Str)]) (he : e ∈ [("keep" : Str), "keep", "drop"]) : RowIn W names "end" [a, o, c, e]
def spDRow : Sp := fun vs H Q _ => ∃ (d g n p z : Addr) (ns : List Int) (s : Int) (names : List Str) (W : WordsD) (k0 k1 k2 : Nat), vs = [.ref d, .ref n, .ref p, .ref z] ∧ DealAt H d g ns s ∧ LS d g H n names ∧ names.length ≤ 10 ∧ WordsAt d g H p W ∧ W.ok ∧ H z = some (.tup [.int (k0 : Int), .int (k1 : Int), .int (k2 : Int)]) ∧ 1 ≤ k0 ∧
  ∀ (t : Addr) (so : Str) (ws : List Str) (ns' : List Int) (s' : Int) (H' : Hp), KeepD d g H H' → DealAt H' d g ns' s' → H t = none → H' t = some (.tup (.str so :: ws.map V.str)) → RowIn W names so ws → Q (.ref t) H'
/-- a text of the list is picked -/
theorem pickS {d g a : Addr} {H : Hp} {ns : List Int} {s : Int} {xs : List Str} {Q : VK} (D : DealAt H d g ns s) (h : LS d g H a xs) (n0 : xs ≠ []) (few : xs.length ≤ 100)
    (q : ∀ (y : Str) (ns' : List Int) (s' : Int) (H' : Hp), KeepD d g H H' → DealAt H' d g ns' s' → y ∈ xs → Q (.str y) H') : spDPick [.ref d, .ref a] H Q E0 := by
  refine ⟨d, g, a, ns, s, xs.map V.str, rfl, D, h.nd, h.ng, h.at_, fun z => n0 (List.map_eq_nil_iff.mp z), by rw [List.length_map]; omega, fun x s' ns' H' m k D' => ?_⟩
  obtain ⟨y, my, rfl⟩ := List.mem_map.mp m
  exact q y ns' s' H' k D' my
theorem catS {d g x y : Addr} {H : Hp} {ns : List Int} {s : Int} {xs ys : List Str} {Q : VK} (D : DealAt H d g ns s) (h1 : LS d g H x xs) (h2 : LS d g H y ys) (few : xs.length + ys.length ≤ 100) (q : ∀ p H', Same H H' → LS d g H' p (xs ++ ys) → Q (.ref p) H') : rCat (.ref x) (.ref y) H Q := by
  refine ⟨x, y, _, _, rfl, rfl, h1.at_, h2.at_, small_ (by rw [List.length_map, List.length_map]; omega), fun p hp => ?_⟩
  rw [← List.map_append]
  exact q p _ (same_upd hp _) ⟨(fun z => by rw [z, D.dict] at hp; cases hp), (fun z => by rw [z, D.great] at hp; cases hp), upd_same⟩
theorem cut_to {xs : List V} {i : Nat} : cutV xs none (some (i : Int)) = xs.take i := by
  unfold cutV
  by_cases h : i ≤ xs.length
  · rw [HT.sIx_nat, HT.sIx_none, Nat.min_eq_left h]
    simp
  · rw [HT.sIx_nat, HT.sIx_none, Nat.min_eq_right (by omega), List.take_of_length_le (by omega : xs.length ≤ i)]
    simp
theorem slS {K : PySem.W.Frag} {d g a : Addr} {H : Hp} {ns : List Int} {s : Int} {xs : List Str} {k : Nat} {Q : VK} (D : DealAt H d g ns s) (h : LS d g H a xs) (q : ∀ p H', Same H H' → LS d g H' p (xs.take k) → Q (.ref p) H') : rSlL K (.ref a) none (some (k : Int)) H Q := by
  refine ⟨a, _, rfl, SqL.of h.at_, fun p hp => ?_⟩
  rw [cut_to, ← List.map_take]
  exact q p _ (same_upd hp _) ⟨(fun z => by rw [z, D.dict] at hp; cases hp), (fun z => by rw [z, D.great] at hp; cases hp), upd_same⟩
theorem ixL_tc {K : PySem.W.Frag} {H : Hp} {a : Addr} {xs : List V} {j : Nat} {v : V} {σ : L2.St} {Q : VK} (h : SqL K H a xs) (e : xs[j]? = some v) (q : Q v H) : tC (V.int (j : Int)) σ H fun y H2 => rIxL K (.ref a) y H2 Q := ⟨a, _, _, _, rfl, rfl, h, atI_nat e, q⟩
theorem ixT_tc {K : PySem.W.Frag} {H : Hp} {a : Addr} {xs : List V} {j : Nat} {v : V} {σ : L2.St} {Q : VK} (h : SqT K H a xs) (e : xs[j]? = some v) (q : Q v H) : tC (V.int (j : Int)) σ H fun y H2 => rIxT K (.ref a) y H2 Q := ⟨a, _, _, _, rfl, rfl, h, atI_nat e, q⟩
theorem DealAt.sameD {H H' : Hp} {d g : Addr} {ns : List Int} {s : Int} (D : DealAt H d g ns s) (e : Same H H') : DealAt H' d g ns s := ⟨D.ne, D.s0, D.s1, e _ _ D.dict, e _ _ D.great, D.pos, D.few⟩
theorem DealAt.dn {H : Hp} {d g : Addr} {ns : List Int} {s : Int} (D : DealAt H d g ns s) : H d ≠ none := fun z => by rw [D.dict] at z; cases z
theorem DealAt.gn {H : Hp} {d g : Addr} {ns : List Int} {s : Int} (D : DealAt H d g ns s) : H g ≠ none := fun z => by rw [D.great] at z; cases z
theorem WordsD.ok.lens {W : WordsD} (h : W.ok) : W.names.length = 4 ∧ W.kinds.length = 2 ∧ W.moods.length = 3 ∧ W.marks.length = 2 ∧ W.signs.length = 2 := by
  obtain ⟨l, hl, pm⟩ := h.names
  obtain ⟨m, hm, e⟩ := h.moods
  have a1 : ∀ l ∈ POOLS3, l.length = 4 := by decide +kernel
  have a2 : ∀ l ∈ KINDS3, l.length = 2 := by decide +kernel
  have a3 : ∀ l ∈ MOODS3, l.length = 2 := by decide +kernel
  have a4 : ∀ l ∈ MARKS3, l.length = 2 := by decide +kernel
  have a5 : ∀ l ∈ SIGNS3, l.length = 2 := by decide +kernel
  exact ⟨by rw [pm.length_eq, a1 l hl], a2 _ h.kinds, by rw [e, List.length_cons, a3 m hm], a4 _ h.marks, a5 _ h.signs⟩
section
variable {P : Program} {w : World} {K : PySem.W.Frag} {mg : Str → Option Value} {base : Heap}
theorem ok_drow (T : TxDRow w K mg) : FnOk P w K mg base CX0 3 T.f_row T.d_row P_row spDRow := by
  have G_pick := ok_dpick (P := P) (w := w) (base := base) T.toTxDeal
  have G_draw := ok_draw (P := P) (w := w) (base := base) T.toTxDeal
  refine T.F_row.ok sc_row (fun vs H Q E h => ?_) (fun cdv A outer s H vs Q E hr h => ?_)
  · obtain ⟨d, g, n, p, z, ns, s, names, W, k0, k1, k2, rfl, _⟩ := h
    rfl
  obtain ⟨d, g, n, p, z, ns, s, names, W, k0, k1, k2, rfl, D0, Ln, n10, WA, ok, hz, k01, q⟩ := h
  refine ⟨_, (pss_cons (ps_par (i := 4) (j := 5) (by rfl) sc_row.nd rfl rfl (by decide) rfl rfl (pa_cons (pe_slice (sl_listK K) (pe_ix (ix_listK K) (pv 2) pe_int (fun _ _ => rfl)) po_none (po_some (pe_ix (ix_tupK K) (pv 3) pe_int (fun _ _ => rfl)))) (pa_cons (pe_slice (sl_listK K) (pe_ix (ix_listK K) (pv 2) pe_int (fun _ _ => rfl)) po_none (po_some (pe_ix (ix_tupK K) (pv 3) pe_int (fun _ _ => rfl)))) pa_nil)) (by rfl))
      (pss_cons (ps_par3 (i := 6) (j := 7) (l := 8) (by rfl) sc_row.nd rfl rfl rfl (by decide) (by decide) (by decide) rfl rfl rfl (pa_cons (pe_slice (sl_listK K) (pe_ix (ix_listK K) (pv 2) pe_int (fun _ _ => rfl)) po_none (po_some (pe_ix (ix_tupK K) (pv 3) pe_int (fun _ _ => rfl)))) (pa_cons (pe_call G_pick (hr.mono (by decide)) (by rfl) T.m_pick T.F_pick.kp T.b_pick .nil pass0 (pa_cons (pv 0) (pa_cons (pv 4) pa_nil))) (pa_cons (pe_call G_draw (hr.mono (by decide)) (by rfl) T.m_draw T.F_draw.kp T.b_draw .nil pass0 (pa_cons (pv 0) (pa_cons pe_int pa_nil))) pa_nil))) (by rfl))
      (pss_cons (ps_par (i := 9) (j := 10) (by rfl) sc_row.nd rfl rfl (by decide) rfl rfl (pa_cons (pe_call G_pick (hr.mono (by decide)) (by rfl) T.m_pick T.F_pick.kp T.b_pick .nil pass0 (pa_cons (pv 0) (pa_cons (pe_op op_cat (pe_op op_cat (pv 4) (pv 4)) (pe_lst (pa_cons pe_str pa_nil))) pa_nil))) (pa_cons (pe_call G_pick (hr.mono (by decide)) (by rfl) T.m_pick T.F_pick.kp T.b_pick .nil pass0 (pa_cons (pv 0) (pa_cons (pe_op op_cat (pv 1) (pe_lst (pa_cons pe_str pa_nil))) pa_nil))) pa_nil)) (by rfl))
      (pss_cons (ps_if (pt_cmpR op_lt (pv 8) pe_int (nomark _)) (pss_cons (ps_set (i := 11) sc_row.nd rfl (Or.inl rfl) (pe_call G_pick (hr.mono (by decide)) (by rfl) T.m_pick T.F_pick.kp T.b_pick .nil pass0 (pa_cons (pv 0) (pa_cons (pe_op op_cat (pe_op op_cat (pv 5) (pv 5)) (pe_lst (pa_cons pe_str (pa_cons pe_str pa_nil)))) pa_nil))))
      (pss_one (ps_ret (pe_tup (pa_cons pe_str (pa_cons (pv 11) (pa_cons (pe_call G_pick (hr.mono (by decide)) (by rfl) T.m_pick T.F_pick.kp T.b_pick .nil pass0 (pa_cons (pv 0) (pa_cons (pe_op op_cat (pe_ix (ix_listK K) (pv 2) pe_int (fun _ _ => rfl)) (pe_lst (pa_cons pe_str (pa_cons pe_str pa_nil)))) pa_nil))) (pa_cons (pv 7) pa_nil)))))))) pss_nil)
      (pss_cons (ps_if (pt_cmpR op_lt (pv 8) pe_int (nomark _)) (pss_one (ps_ret (pe_tup (pa_cons pe_str (pa_cons (pv 9) (pa_cons (pv 10) (pa_cons (pe_call G_pick (hr.mono (by decide)) (by rfl) T.m_pick T.F_pick.kp T.b_pick .nil pass0 (pa_cons (pv 0) (pa_cons (pe_op op_cat (pe_op op_cat (pv 5) (pv 5)) (pe_lst (pa_cons pe_str (pa_cons pe_str pa_nil)))) pa_nil))) pa_nil))))))) pss_nil)
      (pss_cons (ps_if (pt_cmpR op_lt (pv 8) pe_int (nomark _)) (pss_cons (ps_set (i := 12) sc_row.nd rfl (Or.inl rfl) (pe_call G_pick (hr.mono (by decide)) (by rfl) T.m_pick T.F_pick.kp T.b_pick .nil pass0 (pa_cons (pv 0) (pa_cons (pe_op op_cat (pe_op op_cat (pv 6) (pv 6)) (pe_lst (pa_cons pe_str (pa_cons pe_str pa_nil)))) pa_nil))))
      (pss_one (ps_ret (pe_tup (pa_cons pe_str (pa_cons (pv 9) (pa_cons (pv 10) (pa_cons (pv 12) (pa_cons (pe_call G_pick (hr.mono (by decide)) (by rfl) T.m_pick T.F_pick.kp T.b_pick .nil pass0 (pa_cons (pv 0) (pa_cons (pe_op op_cat (pv 4) (pe_lst (pa_cons pe_str pa_nil))) pa_nil))) pa_nil))))))))) pss_nil)
      (pss_cons (ps_par (i := 12) (j := 13) (by rfl) sc_row.nd rfl rfl (by decide) rfl rfl (pa_cons (pe_call G_pick (hr.mono (by decide)) (by rfl) T.m_pick T.F_pick.kp T.b_pick .nil pass0 (pa_cons (pv 0) (pa_cons (pe_op op_cat (pe_op op_cat (pv 6) (pv 6)) (pe_lst (pa_cons pe_str pa_nil))) pa_nil))) (pa_cons (pe_call G_pick (hr.mono (by decide)) (by rfl) T.m_pick T.F_pick.kp T.b_pick .nil pass0 (pa_cons (pv 0) (pa_cons (pe_lst (pa_cons pe_str (pa_cons pe_str (pa_cons pe_str pa_nil)))) pa_nil))) pa_nil)) (by rfl))
      (pss_one (ps_ret (pe_tup (pa_cons pe_str (pa_cons (pv 9) (pa_cons (pe_call G_pick (hr.mono (by decide)) (by rfl) T.m_pick T.F_pick.kp T.b_pick .nil pass0 (pa_cons (pv 0) (pa_cons (pe_lst (pa_cons pe_str (pa_cons pe_str (pa_cons pe_str (pa_cons pe_str pa_nil))))) pa_nil))) (pa_cons (pv 12) (pa_cons (pv 13) pa_nil))))))))))))))), ?_⟩
  rw [qLst_eq]
  obtain ⟨q1, q2, q3, q4, q5, hp, w1, w2, w3, w4, w5⟩ := id WA.at_
  obtain ⟨l1, l2, l3, l4, l5⟩ := ok.lens
  refine ⟨_, rfl, ixL_tc (j := 2) (SqL.of hp) rfl ?_⟩
  refine ⟨_, rfl, ixT_tc (j := 0) (SqT.of hz) rfl ⟨_, rfl, ?_⟩⟩
  refine slS D0 w3 fun am H1 y1 Lm => ?_
  have D1 := D0.sameD y1
  refine ⟨_, rfl, ixL_tc (j := 3) (SqL.of (y1 _ _ hp)) rfl ?_⟩
  refine ⟨_, rfl, ixT_tc (j := 1) (SqT.of (y1 _ _ hz)) rfl ⟨_, rfl, ?_⟩⟩
  refine slS D1 (w4.keep (KeepD.same y1)) fun ak H2 y2 Lk => ?_
  have D2 := D1.sameD y2
  have y02 := y1.trans y2
  refine ⟨_, _, rfl, ?_⟩
  refine ⟨_, rfl, ixL_tc (j := 4) (SqL.of (y02 _ _ hp)) rfl ?_⟩
  refine ⟨_, rfl, ixT_tc (j := 2) (SqT.of (y02 _ _ hz)) rfl ⟨_, rfl, ?_⟩⟩
  refine slS D2 (w5.keep (KeepD.same y02)) fun as_ H3 y3 Ls => ?_
  have D3 := D2.sameD y3
  have m0 : W.moods.take k0 ≠ [] := fun e => by
    have z := congrArg List.length e
    rw [List.length_take, l3] at z
    simp only [List.length_nil] at z
    omega
  have ml : (W.moods.take k0).length ≤ 3 := by rw [List.length_take]; omega
  have kl : (W.marks.take k1).length ≤ 2 := by rw [List.length_take]; omega
  have sl : (W.signs.take k2).length ≤ 2 := by rw [List.length_take]; omega
  have Lm3 := (Lm.keep (KeepD.same y2)).keep (KeepD.same y3)
  have Lk3 := Lk.keep (KeepD.same y3)
  refine ⟨_, rfl, _, rfl, pickS D3 Lm3 m0 (by omega) fun mood ns4 s4 H4 k4 D4 mm => ?_⟩
  refine ⟨_, rfl, d, g, ns4, s4, 8, rfl, D4, by decide, by decide, fun form s5 ns5 H5 f0 f8 k5 D5 => ?_⟩
  refine ⟨_, _, _, rfl, ?_⟩
  have k35 := k4.trans2 k5
  have Lm5 := Lm3.keep k35
  have Lk5 := Lk3.keep k35
  have Ls5 := Ls.keep k35
  have k05 : KeepD d g H H5 := (KeepD.same (y02.trans y3)).trans2 k35
  -- a mood, a name
  refine ⟨_, rfl, _, rfl, _, rfl, catS D5 Lm5 Lm5 (by omega) fun c1 H6 y6 L6 => ?_⟩
  have D6 := D5.sameD y6
  refine (MkS.lst (StrA.cons "any" StrA.nil) (by decide)).run D6.dn D6.gn fun c2 H7 y7 L7 => ?_
  have D7 := D6.sameD y7
  refine catS D7 (L6.keep (KeepD.same y7)) L7 (by rw [List.length_append]; show _ + 1 ≤ 100; omega) fun c3 H8 y8 L8 => ?_
  have D8 := D7.sameD y8
  refine pickS D8 L8 (by simp) (by rw [List.length_append, List.length_append]; show _ + 1 ≤ 100; omega) fun here ns9 s9 H9 k9 D9 mh => ?_
  have k59 : KeepD d g H5 H9 := (KeepD.same ((y6.trans y7).trans y8)).trans2 k9
  refine ⟨_, rfl, _, rfl, ?_⟩
  refine (MkS.lst (StrA.cons "any" StrA.nil) (by decide)).run D9.dn D9.gn fun c4 H10 y10 L10 => ?_
  have D10 := D9.sameD y10
  refine catS D10 ((Ln.keep (k05.trans2 k59)).keep (KeepD.same y10)) L10 (by show _ + 1 ≤ 100; omega) fun c5 H11 y11 L11 => ?_
  have D11 := D10.sameD y11
  refine pickS D11 L11 (by simp) (by rw [List.length_append]; show _ + 1 ≤ 100; omega) fun other ns12 s12 H12 k12 D12 mo => ?_
  refine ⟨_, _, rfl, ?_⟩
  have k512 := k59.trans2 ((KeepD.same (y10.trans y11)).trans2 k12)
  have k012 := k05.trans2 k512
  have Lm12 := Lm5.keep k512
  have Lk12 := Lk5.keep k512
  have Ls12 := Ls5.keep k512
  have hp12 := k012 _ _ WA.nd WA.ng hp
  have tkm : ∀ {y : Str}, y ∈ W.moods.take k0 → y ∈ W.moods := fun h => List.mem_of_mem_take h
  have tkk : ∀ {y : Str}, y ∈ W.marks.take k1 → y ∈ W.marks := fun h => List.mem_of_mem_take h
  have tks : ∀ {y : Str}, y ∈ W.signs.take k2 → y ∈ W.signs := fun h => List.mem_of_mem_take h
  have mh' : here ∈ W.moods ++ W.moods ++ [("any" : Str)] := by
    simp only [List.mem_append] at mh ⊢
    rcases mh with (h | h) | h
    · exact .inl (.inl (tkm h))
    · exact .inl (.inr (tkm h))
    · exact .inr h
  have done : ∀ {H13 : Hp} {ns' s'} {so : Str} {ws : List Str}, KeepD d g H12 H13 → DealAt H13 d g ns' s' → RowIn W names so ws → ∀ t, H13 t = none → Q (.ref t) (upd H13 t (.tup (.str so :: ws.map V.str))) := fun {H13 ns' s' so ws} k D R t ht => by
    have kk := k012.trans2 k
    have t0 : H t = none := by
      cases e : H t with
      | none => rfl
      | some o =>
        have n1 : t ≠ d := fun z => D.dn (z ▸ ht)
        have n2 : t ≠ g := fun z => D.gn (z ▸ ht)
        rw [kk t o n1 n2 e] at ht
        cases ht
    exact q t so ws ns' s' _ (kk.new ht _) (D.new ht _) t0 upd_same R
  refine ⟨_, rfl, _, _, rfl, rfl, _, rfl, ?_⟩
  refine ite2 (fun _ => ?_) (fun _ => ?_)
  · skip
    refine ⟨_, rfl, _, rfl, _, rfl, catS D12 Lk12 Lk12 (by omega) fun ca13 H13 y13 L13 => ?_⟩
    have D13 := D12.sameD y13
    refine (MkS.lst (StrA.cons "none" (StrA.cons "any" StrA.nil)) (by decide)).run D13.dn D13.gn fun ca14 H14 y14 L14 => ?_
    have D14 := D13.sameD y14
    refine catS D14 (L13.keep (KeepD.same y14)) L14 (by rw [List.length_append]; show _ + 2 ≤ 100; omega) fun ca15 H15 y15 L15 => ?_
    have D15 := D14.sameD y15
    refine pickS D15 L15 (by simp) (by rw [List.length_append, List.length_append]; show _ + 2 ≤ 100; omega) fun mark ns16 s16 H16 k16 D16 mk => ?_
    have K16 : KeepD d g H12 H16 := (KeepD.same ((y13.trans y14).trans y15)).trans2 k16
    have mk' : mark ∈ W.marks ++ W.marks ++ [("none" : Str), "any"] := by
      simp only [List.mem_append] at mk ⊢
      rcases mk with (h | h) | h
      · exact .inl (.inl (tkk h))
      · exact .inl (.inr (tkk h))
      · exact .inr h
    refine ⟨_, rfl, _, rfl, _, rfl, ixL_tc (j := 1) (SqL.of (K16 _ _ WA.nd WA.ng hp12)) rfl ?_⟩
    refine (MkS.lst (StrA.cons "any" (StrA.cons "any" StrA.nil)) (by decide)).run D16.dn D16.gn fun ca17 H17 y17 L17 => ?_
    have D17 := D16.sameD y17
    refine catS D17 ((w2.keep (k012.trans2 K16)).keep (KeepD.same y17)) L17 (by show _ + 2 ≤ 100; omega) fun ca18 H18 y18 L18 => ?_
    have D18 := D17.sameD y18
    refine pickS D18 L18 (by simp) (by rw [List.length_append]; show _ + 2 ≤ 100; omega) fun kind ns19 s19 H19 k19 D19 mki => ?_
    have K19 : KeepD d g H16 H19 := (KeepD.same (y17.trans y18)).trans2 k19
    exact ⟨_, rfl, by show 4 ≤ sizeLine; decide, done (K16.trans2 K19) D19 (.begin mk' mki (tkm mm))⟩
  refine ⟨_, rfl, _, _, rfl, rfl, _, rfl, ?_⟩
  refine ite2 (fun _ => ?_) (fun _ => ?_)
  · refine ⟨_, rfl, _, rfl, ?_⟩
    refine ⟨_, rfl, _, rfl, _, rfl, catS D12 Lk12 Lk12 (by omega) fun ca13 H13 y13 L13 => ?_⟩
    have D13 := D12.sameD y13
    refine (MkS.lst (StrA.cons "none" (StrA.cons "same" StrA.nil)) (by decide)).run D13.dn D13.gn fun ca14 H14 y14 L14 => ?_
    have D14 := D13.sameD y14
    refine catS D14 (L13.keep (KeepD.same y14)) L14 (by rw [List.length_append]; show _ + 2 ≤ 100; omega) fun ca15 H15 y15 L15 => ?_
    have D15 := D14.sameD y15
    refine pickS D15 L15 (by simp) (by rw [List.length_append, List.length_append]; show _ + 2 ≤ 100; omega) fun mark ns16 s16 H16 k16 D16 mk => ?_
    have K16 : KeepD d g H12 H16 := (KeepD.same ((y13.trans y14).trans y15)).trans2 k16
    have mk' : mark ∈ W.marks ++ W.marks ++ [("none" : Str), "same"] := by
      simp only [List.mem_append] at mk ⊢
      rcases mk with (h | h) | h
      · exact .inl (.inl (tkk h))
      · exact .inl (.inr (tkk h))
      · exact .inr h
    exact ⟨by show 4 ≤ sizeLine; decide, done K16 D16 (.send mh' mo mk')⟩
  refine ⟨_, rfl, _, _, rfl, rfl, _, rfl, ?_⟩
  refine ite2 (fun _ => ?_) (fun _ => ?_)
  · skip
    refine ⟨_, rfl, _, rfl, _, rfl, catS D12 Ls12 Ls12 (by omega) fun ca13 H13 y13 L13 => ?_⟩
    have D13 := D12.sameD y13
    refine (MkS.lst (StrA.cons "none" (StrA.cons "any" StrA.nil)) (by decide)).run D13.dn D13.gn fun ca14 H14 y14 L14 => ?_
    have D14 := D13.sameD y14
    refine catS D14 (L13.keep (KeepD.same y14)) L14 (by rw [List.length_append]; show _ + 2 ≤ 100; omega) fun ca15 H15 y15 L15 => ?_
    have D15 := D14.sameD y15
    refine pickS D15 L15 (by simp) (by rw [List.length_append, List.length_append]; show _ + 2 ≤ 100; omega) fun sign ns16 s16 H16 k16 D16 mk => ?_
    have K16 : KeepD d g H12 H16 := (KeepD.same ((y13.trans y14).trans y15)).trans2 k16
    have mk' : sign ∈ W.signs ++ W.signs ++ [("none" : Str), "any"] := by
      simp only [List.mem_append] at mk ⊢
      rcases mk with (h | h) | h
      · exact .inl (.inl (tks h))
      · exact .inl (.inr (tks h))
      · exact .inr h
    refine ⟨_, rfl, _, rfl, _, rfl, ?_⟩
    refine ⟨_, rfl, _, rfl, ?_⟩
    refine (MkS.lst (StrA.cons "same" StrA.nil) (by decide)).run D16.dn D16.gn fun ca17 H17 y17 L17 => ?_
    have D17 := D16.sameD y17
    refine catS D17 ((Lm12.keep K16).keep (KeepD.same y17)) L17 (by show _ + 1 ≤ 100; omega) fun ca18 H18 y18 L18 => ?_
    have D18 := D17.sameD y18
    refine pickS D18 L18 (by simp) (by rw [List.length_append]; show _ + 1 ≤ 100; omega) fun then_ ns19 s19 H19 k19 D19 mt => ?_
    have K19 : KeepD d g H16 H19 := (KeepD.same (y17.trans y18)).trans2 k19
    have mt' : then_ ∈ W.moods ++ [("same" : Str)] := by
      simp only [List.mem_append] at mt ⊢
      exact mt.imp tkm id
    exact ⟨by show 5 ≤ sizeLine; decide, done (K16.trans2 K19) D19 (.back mh' mo mk' mt')⟩
  refine ⟨_, rfl, _, rfl, _, rfl, catS D12 Ls12 Ls12 (by omega) fun ca13 H13 y13 L13 => ?_⟩
  have D13 := D12.sameD y13
  refine (MkS.lst (StrA.cons "none" StrA.nil) (by decide)).run D13.dn D13.gn fun ca14 H14 y14 L14 => ?_
  have D14 := D13.sameD y14
  refine catS D14 (L13.keep (KeepD.same y14)) L14 (by rw [List.length_append]; show _ + 1 ≤ 100; omega) fun ca15 H15 y15 L15 => ?_
  have D15 := D14.sameD y15
  refine pickS D15 L15 (by simp) (by rw [List.length_append, List.length_append]; show _ + 1 ≤ 100; omega) fun sign ns16 s16 H16 k16 D16 mk => ?_
  have K16 : KeepD d g H12 H16 := (KeepD.same ((y13.trans y14).trans y15)).trans2 k16
  have mk' : sign ∈ W.signs ++ W.signs ++ [("none" : Str)] := by
    simp only [List.mem_append] at mk ⊢
    rcases mk with (h | h) | h
    · exact .inl (.inl (tks h))
    · exact .inl (.inr (tks h))
    · exact .inr h
  refine ⟨_, rfl, ?_⟩
  refine (MkS.lst (StrA.cons "keep" (StrA.cons "keep" (StrA.cons "drop" StrA.nil))) (by decide)).run D16.dn D16.gn fun ca17 H17 y17 L17 => ?_
  have D17 := D16.sameD y17
  refine pickS D17 L17 (by simp) (by decide) fun part_ ns18 s18 H18 k18 D18 mp => ?_
  have K18 : KeepD d g H16 H18 := (KeepD.same y17).trans2 k18
  refine ⟨_, _, rfl, ?_⟩
  refine ⟨_, rfl, ?_⟩
  refine ⟨_, rfl, ?_⟩
  refine (MkS.lst (StrA.cons "good" (StrA.cons "bad" (StrA.cons "bad" (StrA.cons "any" StrA.nil)))) (by decide)).run D18.dn D18.gn fun ca19 H19 y19 L19 => ?_
  have D19 := D18.sameD y19
  refine pickS D19 L19 (by simp) (by decide) fun outc ns20 s20 H20 k20 D20 mout => ?_
  have K20 : KeepD d g H18 H20 := (KeepD.same y19).trans2 k20
  exact ⟨_, rfl, _, rfl, by show 5 ≤ sizeLine; decide, done ((K16.trans2 K18).trans2 K20) D20 (.end_ mh' mout mk' mp)⟩
end
end My

/-! ## A book's arguments drawn by the deal -/
namespace My
open PySem PySem.Spec PyProof.Rows L2
abbrev s_book : Stmt := top 22
abbrev N_book : List Str := ["_law_deal", "_law_many", "_law_most", "_law_sizes", "_law_words_here", "_law_names", "_law_services", "_law_name", "_law_kinds", "_law_waits", "_law_one", "_law_leaves", "_law_rows", "_law_turn", "_law_roots"]
abbrev P_book : List Str := ["_law_deal", "_law_many", "_law_most", "_law_sizes"]
theorem sc_book : FnScope N_book P_book (defScope s_book) := ⟨rfl, rfl, rfl, by decide +kernel, rfl, by decide +kernel, by decide +kernel⟩
structure TxDBook (w : World) (K : PySem.W.Frag) (mg : Str → Option Value) extends TxDWords w K mg, TxDRow w K mg where
  f_book : Addr
  d_book : FuncData
  F_book : Fun K "_law_book" "_law_book" s_book f_book d_book
  m_book : mg "_law_book" = some (.ref f_book)
  b_book : Binds K d_book P_book []
/-- a test that draws: it tells something, the deal goes on -/
def DrawT (tt : TT) : Prop := ∀ {σ : L2.St} {H : Hp} {Q : Bool → Hp → Prop} {d g : Addr} {ns : List Int} {s : Int}, σ[0]? = some (some (.ref d)) → DealAt H d g ns s → (∀ b ns' s' H', KeepD d g H H' → DealAt H' d g ns' s' → Q b H') → tt σ H Q
theorem drawGt (m : Int) (m0 : 0 < m) (m1 : m < 100) : DrawT (tTest (tOp (rI0 fun i j => V.bl (decide (j < i))) (tCall spDraw [] E0 (tCons (tVar 0) (tCons (tC (V.int m)) tNil))) (tC (V.int 0)))) := fun {σ H Q d g ns s} h0 D q => by
  refine ⟨_, h0, d, g, ns, s, m, rfl, D, m0, by omega, fun v s' ns' H' _ _ k D' => ?_⟩
  exact ⟨_, _, rfl, rfl, _, rfl, q _ ns' s' H' k D'⟩
theorem drawEq (m : Int) (m0 : 0 < m) (m1 : m < 100) : DrawT (tTest (tOp rEq (tCall spDraw [] E0 (tCons (tVar 0) (tCons (tC (V.int m)) tNil))) (tC (V.int 0)))) := fun {σ H Q d g ns s} h0 D q => by
  refine ⟨_, h0, d, g, ns, s, m, rfl, D, m0, by omega, fun v s' ns' H' _ _ k D' => ?_⟩
  exact ⟨rfl, _, rfl, q _ ns' s' H' k D'⟩
/-- some of the names, in some order -/
theorem ok_some_of {K : PySem.W.Frag} {σ : L2.St} {i : Nat} {o : Str} {d g n : Addr} {H : Hp} {ns : List Int} {s : Int} {names : List Str} {tt : TT} {Q : VK} (ht : DrawT tt) (h0 : σ[0]? = some (some (.ref d))) (h5 : σ[5]? = some (some (.ref n))) (i0 : i ≠ 0) (il : i < σ.length)
    (D0 : DealAt H d g ns s) (L : LS d g H n names) (n10 : names.length ≤ 10)
    (q : ∀ (p : Addr) (zs : List Str) (ns' : List Int) (s' : Int) (H' : Hp), KeepD d g H H' → DealAt H' d g ns' s' → H p = none → H' p = some (.lst (zs.map V.str)) → (∃ ys : List Str, ys.Perm names ∧ zs.Sublist ys) → Q (.ref p) H') :
    tLc (iList K (tCall spShuf [] E0 (tCons (tVar 0) (tCons (tVar 5) tNil)))) (gName i) tt (tVar i) (List.map (fun x => x.snd) [(o, i)]) σ H Q := by
  refine ⟨_, h0, _, h5, d, g, n, ns, s, _, rfl, D0, L.at_, by rw [List.length_map]; omega, fun y ys0 s1 ns1 H1 k1 D1 y0 hy pm => ?_⟩
  obtain ⟨ys, rfl, py⟩ := perm_map pm names rfl
  have yd : y ≠ d := fun z => D0.dn (z ▸ y0)
  have yg : y ≠ g := fun z => D0.gn (z ▸ y0)
  have yl : ys.length ≤ 10 := by rw [py.length_eq]; exact n10
  refine ⟨y, rfl, ⟨_, SqL.of hy⟩, fun D hD => ?_⟩
  have Dd : D ≠ d := fun z => D1.dn (z ▸ hD)
  have Dg : D ≠ g := fun z => D1.gn (z ▸ hD)
  have Dy : y ≠ D := ne_of_none hy hD
  refine lc_list (K := K) (a := y) (xs := ys.map V.str) (fun j H' => KeepD d g H1 H' ∧ (∃ ns s, DealAt H' d g ns s) ∧ ∃ zs : List Str, H' D = some (.lst (zs.map V.str)) ∧ zs.Sublist (ys.take j)) ⟨KeepD.same (same_upd hD _), ⟨_, _, D1.sameD (same_upd hD _)⟩, [], upd_same, List.Sublist.refl _⟩ (fun j H' _ h => SqL.of (h.1 _ _ yd yg hy)) ?_ ?_
  · rintro j x H2 hx ⟨k2, ⟨ns2, s2, D2⟩, zs, hz, sb⟩
    rw [List.getElem?_map] at hx
    obtain ⟨z, hzj, rfl⟩ : ∃ z, ys[j]? = some z ∧ V.str z = x := by
      cases e : ys[j]? with
      | none => rw [e] at hx; cases hx
      | some z => rw [e] at hx; cases hx; exact ⟨z, rfl, rfl⟩
    have sl : zs.length ≤ 10 := Nat.le_trans sb.length_le (by rw [List.length_take]; omega)
    have tk : ys.take (j + 1) = ys.take j ++ [z] := by rw [List.take_add_one, hzj]; rfl
    refine ⟨?_, ?_⟩
    · show ((σ.set i none).set i (some (V.str z))).set i none = σ.set i none
      rw [List.set_set, List.set_set]
    have h02 : ((σ.set i none).set i (some (V.str z)))[0]? = some (some (.ref d)) := by
      rw [List.getElem?_set_ne i0, List.getElem?_set_ne i0]
      exact h0
    refine ht (σ := (σ.set i none).set i (some (V.str z))) h02 D2 fun b ns3 s3 H3 k3 D3 => ?_
    have hz3 := k3 _ _ Dd Dg hz
    cases b with
    | true =>
      refine iteT ⟨V.str z, ?_, _, hz3, small1000 (by rw [List.length_map]; omega), fun a u n1 n2 e => ?_, ⟨ns3, s3, ?_⟩, zs ++ [z], by rw [upd_same, List.map_append]; rfl, ?_⟩
      · exact List.getElem?_set_self (l := σ.set i none) (by rw [List.length_set]; exact il)
      · rw [upd_ne (ne_of_none e hD)]
        exact k3 a u n1 n2 (k2 a u n1 n2 e)
      · exact ⟨D3.ne, D3.s0, D3.s1, by rw [upd_ne Dd.symm]; exact D3.dict, by rw [upd_ne Dg.symm]; exact D3.great, D3.pos, D3.few⟩
      · rw [tk]
        exact sb.append (List.Sublist.refl _)
    | false =>
      refine iteF ⟨k2.trans2 k3, ⟨ns3, s3, D3⟩, zs, hz3, ?_⟩
      rw [tk]
      exact sb.trans (List.sublist_append_left _ _)
  · rintro H2 ⟨k2, ⟨ns2, s2, D2⟩, zs, hz, sb⟩
    rw [List.length_map, List.take_length] at sb
    have D0_ : H D = none := by
      cases e : H D with
      | none => rfl
      | some u =>
        rw [k1 D u Dd Dg e] at hD
        cases hD
    exact q D zs ns2 s2 H2 (k1.trans2 k2) D2 D0_ hz ⟨ys, py, sb⟩
theorem paired_end {α β : Type} {R : α → β → Prop} {x : α} {y : β} : ∀ {xs : List α} {ys : List β}, Paired R xs ys → R x y → Paired R (xs ++ [x]) (ys ++ [y])
  | _, _, .nil, r => .cons r .nil
  | _, _, .cons h t, r => .cons h (paired_end t r)
theorem ok_some_ofQ {K : PySem.W.Frag} {σ : L2.St} {i : Nat} {o : Str} {d g n : Addr} {H : Hp} {ns : List Int} {s : Int} {names : List Str} {tt : TT} {Q : VK} (ht : DrawT tt) (h0 : σ[0]? = some (some (.ref d))) (h5 : σ[5]? = some (some (.ref n))) (i0 : i ≠ 0) (il : i < σ.length)
    (D0 : DealAt H d g ns s) (L : LS d g H n names) (n10 : names.length ≤ 10)
    (q : ∀ (p : Addr) (zs : List Str) (ns' : List Int) (s' : Int) (H' : Hp), KeepD d g H H' → DealAt H' d g ns' s' → H p = none → H' p = some (.lst (zs.map V.str)) → (∃ ys : List Str, ys.Perm names ∧ zs.Sublist ys) → Q (.ref p) H') :
    qLc (iList K (tCall spShuf [] E0 (tCons (tVar 0) (tCons (tVar 5) tNil)))) (gName i) tt (tVar i) (List.map (fun x => x.snd) [(o, i)]) σ H Q := by
  rw [← qLc_eq]
  exact ok_some_of ht h0 h5 i0 il D0 L n10 q
theorem WordsAt.keep {d g : Addr} {H H' : Hp} {p : Addr} {W : WordsD} (h : WordsAt d g H p W) (k : KeepD d g H H') : WordsAt d g H' p W := by
  obtain ⟨q1, q2, q3, q4, q5, hp, w1, w2, w3, w4, w5⟩ := h.at_
  exact ⟨h.nd, h.ng, q1, q2, q3, q4, q5, k _ _ h.nd h.ng hp, w1.keep k, w2.keep k, w3.keep k, w4.keep k, w5.keep k⟩
structure Sv2 where
  nm : Str
  kinds : List Str
  waits : List Str
  leaves : List Str
  rows : List (Str × List Str)
def RowsA (N : Addr → Prop) (H : Hp) (ps : List V) (rs : List (Str × List Str)) : Prop := Paired (fun p x => ∃ t, p = .ref t ∧ N t ∧ H t = some (.tup (.str x.1 :: x.2.map V.str))) ps rs
/-- a service's arguments in a dict, all at addresses of a kind -/
structure SvA (N : Addr → Prop) (H : Hp) (a : Addr) (v : Sv2) : Prop where
  at_ : ∃ (k w l r : Addr) (ps : List V), N a ∧ H a = some (.dK [(.inr "name", .str v.nm), (.inr "kinds", .ref k), (.inr "waits", .ref w), (.inr "leaves", .ref l), (.inr "rows", .ref r)]) ∧ (N k ∧ H k = some (.lst (v.kinds.map V.str))) ∧ (N w ∧ H w = some (.lst (v.waits.map V.str))) ∧ (N l ∧ H l = some (.lst (v.leaves.map V.str))) ∧ (N r ∧ H r = some (.lst ps)) ∧ RowsA N H ps v.rows
def SvAs (N : Addr → Prop) (H : Hp) (ps : List V) (vs : List Sv2) : Prop := Paired (fun p v => ∃ a, p = .ref a ∧ SvA N H a v) ps vs
theorem RowsA.keep {N M : Addr → Prop} {H H' : Hp} (k : ∀ a o, N a → H a = some o → H' a = some o) (i : ∀ a, N a → M a) : ∀ {ps : List V} {rs : List (Str × List Str)}, RowsA N H ps rs → RowsA M H' ps rs
  | _, _, .nil => .nil
  | _, _, .cons ⟨t, e, n, h⟩ r => .cons ⟨t, e, i _ n, k _ _ n h⟩ (RowsA.keep k i r)
theorem SvA.keep {N M : Addr → Prop} {H H' : Hp} {a : Addr} {v : Sv2} (h : SvA N H a v) (k : ∀ a o, N a → H a = some o → H' a = some o) (i : ∀ a, N a → M a) : SvA M H' a v := by
  obtain ⟨kk, w, l, r, ps, n, h1, ⟨n2, h2⟩, ⟨n3, h3⟩, ⟨n4, h4⟩, ⟨n5, h5⟩, h6⟩ := h.at_
  exact ⟨kk, w, l, r, ps, i _ n, k _ _ n h1, ⟨i _ n2, k _ _ n2 h2⟩, ⟨i _ n3, k _ _ n3 h3⟩, ⟨i _ n4, k _ _ n4 h4⟩, ⟨i _ n5, k _ _ n5 h5⟩, RowsA.keep k i h6⟩
theorem SvAs.keep {N M : Addr → Prop} {H H' : Hp} (k : ∀ a o, N a → H a = some o → H' a = some o) (i : ∀ a, N a → M a) : ∀ {ps : List V} {vs : List Sv2}, SvAs N H ps vs → SvAs M H' ps vs
  | _, _, .nil => .nil
  | _, _, .cons ⟨a, e, h⟩ r => .cons ⟨a, e, h.keep k i⟩ (SvAs.keep k i r)
def SomeIn (names zs : List Str) : Prop := ∃ ys : List Str, ys.Perm names ∧ zs.Sublist ys
structure Good2 (W : WordsD) (names : List Str) (most : Int) (v : Sv2) : Prop where
  kinds : ∃ j : Nat, (j = 1 ∨ j = 2) ∧ v.kinds = W.kinds.take j
  waits : SomeIn names v.waits
  leaves : SomeIn names v.leaves
  rows : ∀ r ∈ v.rows, RowIn W names r.1 r.2
  few : 1 ≤ v.rows.length ∧ (v.rows.length : Int) ≤ most
/-- a book's arguments in a dict -/
structure BkA (d g : Addr) (H : Hp) (p : Addr) (vs : List Sv2) (roots : List Str) : Prop where
  at_ : ∃ (S R : Addr) (ps : List V), p ≠ d ∧ p ≠ g ∧ H p = some (.dK [(.inr "services", .ref S), (.inr "roots", .ref R)]) ∧ (S ≠ d ∧ S ≠ g ∧ H S = some (.lst ps)) ∧ SvAs (fun a => a ≠ d ∧ a ≠ g) H ps vs ∧ LS d g H R roots
/-- what is drawn -/
structure DrawnD (W : WordsD) (many most : Int) (vs : List Sv2) (roots : List Str) : Prop where
  ok : W.ok
  names : ∃ j : Nat, 1 ≤ j ∧ (j : Int) ≤ many ∧ vs.map (·.nm) = W.names.take j
  good : ∀ v ∈ vs, Good2 W (vs.map (·.nm)) most v
  roots : roots ≠ [] ∧ SomeIn (vs.map (·.nm)) roots
def spDBook : Sp := fun vs H Q _ => ∃ (d g z : Addr) (many most : Int) (ns : List Int) (s : Int) (k0 k1 k2 : Nat), vs = [.ref d, .int many, .int most, .ref z] ∧ DealAt H d g ns s ∧ 1 ≤ many ∧ many ≤ 4 ∧ 1 ≤ most ∧ most ≤ 20 ∧ H z = some (.tup [.int (k0 : Int), .int (k1 : Int), .int (k2 : Int)]) ∧ 1 ≤ k0 ∧
  ∀ (p : Addr) (W : WordsD) (us : List Sv2) (roots : List Str) (ns' : List Int) (s' : Int) (H' : Hp), KeepD d g H H' → DealAt H' d g ns' s' → BkA d g H' p us roots → DrawnD W many most us roots → Q (.ref p) H'
theorem slS2 {K : PySem.W.Frag} {d g a : Addr} {H : Hp} {ns : List Int} {s : Int} {xs : List Str} {k : Nat} {Q : VK} (D : DealAt H d g ns s) (h : LS d g H a xs) (q : ∀ p H', Same H H' → H p = none → LS d g H' p (xs.take k) → Q (.ref p) H') : rSlL K (.ref a) none (some (k : Int)) H Q := by
  refine ⟨a, _, rfl, SqL.of h.at_, fun p hp => ?_⟩
  rw [cut_to, ← List.map_take]
  exact q p _ (same_upd hp _) hp ⟨(fun z => by rw [z, D.dict] at hp; cases hp), (fun z => by rw [z, D.great] at hp; cases hp), upd_same⟩
section
variable {P : Program} {w : World} {K : PySem.W.Frag} {mg : Str → Option Value} {base : Heap}
theorem ok_dbook (T : TxDBook w K mg) : FnOk P w K mg base CX0 4 T.f_book T.d_book P_book spDBook := by
  have G_draw := ok_draw (P := P) (w := w) (base := base) T.toTxDeal
  have G_shuffled := ok_shuffled (P := P) (w := w) (base := base) T.toTxShuf
  have G_words := ok_words (P := P) (w := w) (base := base) T.toTxDWords
  have G_row := ok_drow (P := P) (w := w) (base := base) T.toTxDRow
  refine T.F_book.ok sc_book (fun vs H Q E h => ?_) (fun cdv A outer s H vs Q E hr h => ?_)
  · obtain ⟨d, g, z, many, most, ns, s, k0, k1, k2, rfl, _⟩ := h
    rfl
  obtain ⟨d, g, z, many, most, ns, s, k0, k1, k2, rfl, D0, m1, m4, t1, t20, hz, k01, q⟩ := h
  refine ⟨_, (pss_cons (ps_set (i := 4) sc_book.nd rfl (Or.inr rfl) (pe_call G_words (hr.mono (by decide)) (by rfl) T.m_words T.F_words.kp T.b_words .nil pass0 (pa_cons (pv 0) pa_nil)))
      (pss_cons (ps_set (i := 5) sc_book.nd rfl (Or.inr rfl) (pe_slice (sl_listK K) (pe_ix (ix_listK K) (pv 4) pe_int (fun _ _ => rfl)) po_none (po_some (pe_op op_add pe_int (pe_call G_draw (hr.mono (by decide)) (by rfl) T.m_draw T.F_draw.kp T.b_draw .nil pass0 (pa_cons (pv 0) (pa_cons (pv 1) pa_nil)))))))
      (pss_cons (ps_set (i := 6) sc_book.nd rfl (Or.inl rfl) (pe_lst pa_nil))
      (pss_cons (ps_for PassesOwn.never rfl (pi_listK K (pv 5)) (pg_name (i := 7) sc_book.nd rfl (Or.inl rfl)) (pss_cons (ps_set (i := 8) sc_book.nd rfl (Or.inl rfl) (pe_slice (sl_listK K) (pe_ix (ix_listK K) (pv 4) pe_int (fun _ _ => rfl)) po_none (po_some (pe_op op_add pe_int (pe_call G_draw (hr.mono (by decide)) (by rfl) T.m_draw T.F_draw.kp T.b_draw .nil pass0 (pa_cons (pv 0) (pa_cons pe_int pa_nil)))))))
      (pss_cons (ps_setLc (i := 9) (own := [("_law_one", 10)]) (g := gName 10) (by rfl) sc_book.nd rfl rfl (sw_true rfl rfl rfl (by decide +kernel)) (pi_listK K (pe_call G_shuffled (hr.mono (by decide)) (by rfl) T.m_shuffled T.F_shuffled.kp T.b_shuffled .nil pass0 (pa_cons (pv 0) (pa_cons (pv 5) pa_nil)))) (blkOk_by (own := [("_law_one", 10)]) (N := N_book) (sc := defScope s_book) (by decide +kernel)) (fun _ _ _ _ _ => (pg_name (i := 10) sc_book.nd rfl (Or.inl rfl))) (fun _ _ _ _ _ => pts_one (by exact (pt_cmpR op_gt (pe_call G_draw (hr.mono (by decide)) (by rfl) T.m_draw T.F_draw.kp T.b_draw .nil pass0 (pa_cons (pv 0) (pa_cons pe_int pa_nil))) pe_int (nomark _)))) (fun _ _ _ _ _ => (pv 10)))
      (pss_cons (ps_setLc (i := 11) (own := [("_law_one", 10)]) (g := gName 10) (by rfl) sc_book.nd rfl rfl (sw_true rfl rfl rfl (by decide +kernel)) (pi_listK K (pe_call G_shuffled (hr.mono (by decide)) (by rfl) T.m_shuffled T.F_shuffled.kp T.b_shuffled .nil pass0 (pa_cons (pv 0) (pa_cons (pv 5) pa_nil)))) (blkOk_by (own := [("_law_one", 10)]) (N := N_book) (sc := defScope s_book) (by decide +kernel)) (fun _ _ _ _ _ => (pg_name (i := 10) sc_book.nd rfl (Or.inl rfl))) (fun _ _ _ _ _ => pts_one (by exact (pt_cmpR op_eq (pe_call G_draw (hr.mono (by decide)) (by rfl) T.m_draw T.F_draw.kp T.b_draw .nil pass0 (pa_cons (pv 0) (pa_cons pe_int pa_nil))) pe_int (nomark _)))) (fun _ _ _ _ _ => (pv 10)))
      (pss_cons (ps_setLc (i := 12) (own := [("_law_turn", 13)]) (g := gName 13) (by rfl) sc_book.nd rfl rfl (sw_true rfl rfl rfl (by decide +kernel)) (pi_range1 (by rfl) T.z_range (pa_cons (pe_op op_add pe_int (pe_call G_draw (hr.mono (by decide)) (by rfl) T.m_draw T.F_draw.kp T.b_draw .nil pass0 (pa_cons (pv 0) (pa_cons (pv 2) pa_nil)))) pa_nil)) (blkOk_by (own := [("_law_turn", 13)]) (N := N_book) (sc := defScope s_book) (by decide +kernel)) (fun _ _ _ _ _ => (pg_name (i := 13) sc_book.nd rfl (Or.inl rfl))) (fun _ _ _ _ _ => pts_nil) (fun _ _ _ _ _ => (pe_call G_row (hr.mono (by decide)) (by rfl) T.m_row T.F_row.kp T.b_row .nil pass0 (pa_cons (pv 0) (pa_cons (pv 5) (pa_cons (pv 4) (pa_cons (pv 3) pa_nil)))))))
      (pss_one (ps_expr (pe_bm PySem.F.plainAttrs_list PySem.F.slot_list_append PySem.F.type_list_append mt_append (pv 6) (pa_cons (pe_disp (pps_cons pe_str (pv 7) (pps_cons pe_str (pv 8) (pps_cons pe_str (pv 9) (pps_cons pe_str (pv 11) (pps_cons pe_str (pv 12) pps_nil))))) rfl rfl (fun h => nomatch h) (Nat.le_of_ble_eq_true rfl)) pa_nil)))))))))
      (pss_cons (ps_setLc (i := 14) (own := [("_law_name", 7)]) (g := gName 7) (by rfl) sc_book.nd rfl rfl (sw_true rfl rfl rfl (by decide +kernel)) (pi_listK K (pe_call G_shuffled (hr.mono (by decide)) (by rfl) T.m_shuffled T.F_shuffled.kp T.b_shuffled .nil pass0 (pa_cons (pv 0) (pa_cons (pv 5) pa_nil)))) (blkOk_by (own := [("_law_name", 7)]) (N := N_book) (sc := defScope s_book) (by decide +kernel)) (fun _ _ _ _ _ => (pg_name (i := 7) sc_book.nd rfl (Or.inl rfl))) (fun _ _ _ _ _ => pts_one (by exact (pt_cmpR op_eq (pe_call G_draw (hr.mono (by decide)) (by rfl) T.m_draw T.F_draw.kp T.b_draw .nil pass0 (pa_cons (pv 0) (pa_cons pe_int pa_nil))) pe_int (nomark _)))) (fun _ _ _ _ _ => (pv 7)))
      (pss_one (ps_ret (pe_disp (pps_cons pe_str (pv 6) (pps_cons pe_str (pe_ifExp (pt_cmpR (op_neEK K hr.units0) (pv 14) (pe_lst pa_nil) (nomark _)) (pv 14) (pe_slice (sl_listK K) (pv 5) po_none (po_some pe_int))) pps_nil)) rfl rfl (fun h => nomatch h) (Nat.le_of_ble_eq_true rfl))))))))), ?_⟩
  rw [qLc_eq]
  refine ⟨_, rfl, d, g, ns, s, rfl, D0, fun wp W ns1 s1 H1 k1_ D1 WA ok => ?_⟩
  obtain ⟨q1, q2, q3, q4, q5, hp, w1, w2, w3, w4, w5⟩ := id WA.at_
  obtain ⟨l1, l2, l3, l4, l5⟩ := ok.lens
  refine ⟨_, rfl, ixL_tc (j := 0) (SqL.of hp) rfl ?_⟩
  refine ⟨_, rfl, _, rfl, d, g, ns1, s1, many, rfl, D1, by omega, by omega, fun v s2 ns2 H2 v0 v1 kk2 D2 => ?_⟩
  obtain ⟨j, rfl⟩ : ∃ j : Nat, v = (j : Int) := ⟨v.toNat, by omega⟩
  refine ⟨1, j, rfl, rfl, ((1 + j : Nat) : Int), congrArg V.int (by omega : (1 : Int) + (j : Int) = ((1 + j : Nat) : Int)), ?_⟩
  refine slS2 D2 (w1.keep kk2) fun n H3 y3 n0 Ln => ?_
  have D3 := D2.sameD y3
  have k13 : KeepD d g H1 H3 := kk2.trans2 (KeepD.same y3)
  have k03 : KeepD d g H H3 := k1_.trans2 k13
  have zd : z ≠ d := fun e => by rw [e, D0.dict] at hz; cases hz
  have zg : z ≠ g := fun e => by rw [e, D0.great] at hz; cases hz
  have n10 : (W.names.take (1 + j)).length ≤ 10 := by rw [List.length_take]; omega
  have nlen : (W.names.take (1 + j)).length = 1 + j := by rw [List.length_take]; omega
  refine ⟨Nat.zero_le _, fun S hS => ?_⟩
  have Sd : S ≠ d := fun e => D3.dn (e ▸ hS)
  have Sg : S ≠ g := fun e => D3.gn (e ▸ hS)
  have y4 := same_upd hS (.lst [])
  have S4 : upd H3 S (.lst []) S = some (.lst []) := upd_same
  have D4 := D3.sameD y4
  generalize upd H3 S (.lst []) = H4 at y4 S4 D4 ⊢
  generalize hnames : W.names.take (1 + j) = names at Ln n10 nlen
  refine ⟨_, rfl, n, rfl, ⟨_, SqL.of (y4 _ _ Ln.at_)⟩, for_list (K := K) (a := n) (xs := names.map V.str) (fun i σ H' => (∃ v7 v8 v9 v10 v11 v12 v13 v14, σ = [some (.ref d), some (.int many), some (.int most), some (.ref z), some (.ref wp), some (.ref n), some (.ref S), v7, v8, v9, v10, v11, v12, v13, v14]) ∧ KeepD d g H3 H' ∧ (∃ ns s, DealAt H' d g ns s) ∧ ∃ ps us, H' S = some (.lst ps) ∧ SvAs (fun a => a ≠ d ∧ a ≠ g ∧ a ≠ S) H' ps us ∧ us.map (·.nm) = names.take i ∧ (∀ v ∈ us, Good2 W names most v) ∧ ps.length = i)
    ⟨⟨_, _, _, _, _, _, _, _, rfl⟩, KeepD.same y4, ⟨_, _, D4⟩, [], [], S4, .nil, rfl, (fun _ h => nomatch h), rfl⟩ (fun i σ H' _ h => SqL.of (h.2.1 _ _ Ln.nd Ln.ng Ln.at_)) ?_ ?_⟩
  · rintro i x σ H5 hx ⟨⟨v7, v8, v9, v10, v11, v12, v13, v14, rfl⟩, k5, ⟨ns5, s5, D5⟩, ps, us, hS5, pr, nms, gd, pl⟩
    rw [List.getElem?_map] at hx
    obtain ⟨nm, hnm, rfl⟩ : ∃ y, names[i]? = some y ∧ V.str y = x := by
      cases e : names[i]? with
      | none => rw [e] at hx; cases hx
      | some z => rw [e] at hx; cases hx; exact ⟨z, rfl, rfl⟩
    have il := (List.getElem?_eq_some_iff.mp hnm).1
    have k15 := k13.trans2 k5
    refine ⟨_, rfl, ixL_tc (j := 1) (SqL.of (k15 _ _ WA.nd WA.ng hp)) rfl ?_⟩
    refine ⟨_, rfl, d, g, ns5, s5, 2, rfl, D5, by decide, by decide, fun v s6 ns6 H6 v0 v1 k6 D6 => ?_⟩
    obtain ⟨jk, rfl⟩ : ∃ j : Nat, v = (j : Int) := ⟨v.toNat, by omega⟩
    refine ⟨1, jk, rfl, rfl, ((1 + jk : Nat) : Int), congrArg V.int (by omega : (1 : Int) + (jk : Int) = ((1 + jk : Nat) : Int)), ?_⟩
    refine slS2 D6 ((w2.keep k15).keep k6) fun ka H7 y7 ka0 Lka => ?_
    have D7 := D6.sameD y7
    have k57 : KeepD d g H5 H7 := k6.trans2 (KeepD.same y7)
    have Ln7 := (Ln.keep k5).keep k57
    refine ok_some_ofQ (drawGt 3 (by decide) (by decide)) rfl rfl (by decide) (by show 10 < 15; decide) D7 Ln7 n10 fun wa ws ns8 s8 H8 k8 D8 wa0 hwa sw => ?_
    refine ok_some_ofQ (drawEq 2 (by decide) (by decide)) rfl rfl (by decide) (by show 10 < 15; decide) D8 (Ln7.keep k8) n10 fun la ls ns9 s9 H9 k9 D9 la0 hla sl => ?_
    rw [← qLc_eq]
    have k59 := (k57.trans2 k8).trans2 k9
    refine ⟨_, rfl, _, rfl, d, g, ns9, s9, most, rfl, D9, by omega, by omega, fun v s10 ns10 H10 v0 v1 k10 D10 => ?_⟩
    obtain ⟨jr, rfl⟩ : ∃ j : Nat, v = (j : Int) := ⟨v.toNat, by omega⟩
    refine ⟨1, jr, rfl, rfl, ((1 + jr : Nat) : Int), congrArg (fun z : Int => [V.int z]) (by omega : (1 : Int) + (jr : Int) = ((1 + jr : Nat) : Int)), by omega, by omega, fun D hD => ?_⟩
    have Dd : D ≠ d := fun e => D10.dn (e ▸ hD)
    have Dg : D ≠ g := fun e => D10.gn (e ▸ hD)
    have k510 := k59.trans2 k10
    have hS10 := k510 _ _ Sd Sg hS5
    have DS : D ≠ S := fun e => by rw [e, hS10] at hD; cases hD
    have k310 := k5.trans2 k510
    refine lc_range (lo := 0) (n := ((1 + jr : Nat) : Int).toNat) (fun i H' => KeepD d g H10 H' ∧ (∃ ns s, DealAt H' d g ns s) ∧ ∃ rp rs, H' D = some (.lst rp) ∧ RowsA (fun a => (a ≠ d ∧ a ≠ g ∧ a ≠ S) ∧ a ≠ D) H' rp rs ∧ rs.length = i ∧ (∀ r ∈ rs, RowIn W names r.1 r.2) ∧ rp.length = i)
      ⟨KeepD.same (same_upd hD _), ⟨_, _, D10.sameD (same_upd hD _)⟩, [], [], upd_same, .nil, rfl, (fun _ h => nomatch h), rfl⟩ ?_ ?_
    · rintro k H11 hk ⟨k11, ⟨ns11, s11, D11⟩, rp, rs, hD11, prr, rl, rin, rpl⟩
      have k311 := k310.trans2 k11
      have hz11 := k311 _ _ zd zg (k03 _ _ zd zg hz)
      refine ⟨rfl, ?_⟩
      refine ⟨_, rfl, _, rfl, _, rfl, _, rfl, d, g, n, wp, z, ns11, s11, names, W, k0, k1, k2, rfl, D11, Ln.keep k311, n10, WA.keep (k13.trans2 k311), ok, hz11, k01, fun t so wds ns12 s12 H12 k12 D12 t0 ht rin2 => ?_⟩
      have hD12 := k12 _ _ Dd Dg hD11
      have hS11 := k11 _ _ Sd Sg hS10
      have td : t ≠ d := fun e => D11.dn (e ▸ t0)
      have tg : t ≠ g := fun e => D11.gn (e ▸ t0)
      have tS : t ≠ S := fun e => by rw [e, hS11] at t0; cases t0
      have tD : t ≠ D := fun e => by rw [e, hD11] at t0; cases t0
      have kp : ∀ a o, ((a ≠ d ∧ a ≠ g ∧ a ≠ S) ∧ a ≠ D) → H11 a = some o → upd H12 D (.lst (rp ++ [.ref t])) a = some o := fun a o n e => by
        rw [upd_ne n.2]
        exact k12 a o n.1.1 n.1.2.1 e
      refine ⟨_, hD12, small1000 (by omega), fun a o n1 n2 e => ?_, ⟨ns12, s12, D12.ne, D12.s0, D12.s1, by rw [upd_ne Dd.symm]; exact D12.dict, by rw [upd_ne Dg.symm]; exact D12.great, D12.pos, D12.few⟩, rp ++ [.ref t], rs ++ [(so, wds)], upd_same, ?_, by rw [List.length_append, rl]; rfl, fun r hr => ?_, by rw [List.length_append, rpl]; rfl⟩
      · rw [upd_ne (ne_of_none e hD)]
        exact k12 a o n1 n2 (k11 a o n1 n2 e)
      · exact paired_end (RowsA.keep kp (fun _ h => h) prr) ⟨t, rfl, ⟨⟨td, tg, tS⟩, tD⟩, by rw [upd_ne tD]; exact ht⟩
      · rcases List.mem_append.mp hr with h | h
        · exact rin r h
        · rw [List.mem_singleton.mp h]; exact rin2
    rintro H11 ⟨k11, ⟨ns11, s11, D11⟩, rp, rs, hD11, prr, rl, rin, rpl⟩
    have hS11 := k11 _ _ Sd Sg hS10
    refine ⟨_, rfl, .inl ⟨rfl, _, SqL.of hS11⟩, ?_⟩
    intro F hF
    dsimp only [tPairs]
    have yF := same_upd hF (.dK [])
    have F12 : upd H11 F (.dK []) F = some (.dK []) := upd_same
    have Fd : F ≠ d := fun e => D11.dn (e ▸ hF)
    have Fg : F ≠ g := fun e => D11.gn (e ▸ hF)
    have FS : F ≠ S := fun e => by rw [e, hS11] at hF; cases hF
    generalize upd H11 F (.dK []) = H12 at yF F12 ⊢
    refine ⟨_, rfl, _, rfl, _, rfl, _, rfl, _, rfl, F12, [(.inr "name", .str nm), (.inr "kinds", .ref ka), (.inr "waits", .ref wa), (.inr "leaves", .ref la), (.inr "rows", .ref D)], rfl, by simp, ?_⟩
    have eF : mergeK [] [((.inr "name" : Key), V.str nm), (.inr "kinds", .ref ka), (.inr "waits", .ref wa), (.inr "leaves", .ref la), (.inr "rows", .ref D)] = [((.inr "name" : Key), V.str nm), (.inr "kinds", .ref ka), (.inr "waits", .ref wa), (.inr "leaves", .ref la), (.inr "rows", .ref D)] := rfl
    rw [eF]
    have F13 : upd H12 F (.dK [((.inr "name" : Key), V.str nm), (.inr "kinds", .ref ka), (.inr "waits", .ref wa), (.inr "leaves", .ref la), (.inr "rows", .ref D)]) F = some (.dK [((.inr "name" : Key), V.str nm), (.inr "kinds", .ref ka), (.inr "waits", .ref wa), (.inr "leaves", .ref la), (.inr "rows", .ref D)]) := upd_same
    have k1113 : ∀ a o, H11 a = some o → upd H12 F (.dK [((.inr "name" : Key), V.str nm), (.inr "kinds", .ref ka), (.inr "waits", .ref wa), (.inr "leaves", .ref la), (.inr "rows", .ref D)]) a = some o := fun a o e => by
      rw [upd_ne (ne_of_none e hF)]
      exact yF _ _ e
    generalize upd H12 F (.dK [((.inr "name" : Key), V.str nm), (.inr "kinds", .ref ka), (.inr "waits", .ref wa), (.inr "leaves", .ref la), (.inr "rows", .ref D)]) = H13 at F13 k1113 ⊢
    have step : ∀ a o, a ≠ S → H11 a = some o → upd H13 S (.lst (ps ++ [.ref F])) a = some o := fun a o n e => by
      rw [upd_ne n]
      exact k1113 _ _ e
    have k511 := k510.trans2 k11
    have kp : ∀ a o, (a ≠ d ∧ a ≠ g ∧ a ≠ S) → H5 a = some o → upd H13 S (.lst (ps ++ [.ref F])) a = some o := fun a o n e => step a o n.2.2 (k511 a o n.1 n.2.1 e)
    have D13 : DealAt (upd H13 S (.lst (ps ++ [.ref F]))) d g ns11 s11 := ⟨D11.ne, D11.s0, D11.s1, step _ _ Sd.symm D11.dict, step _ _ Sg.symm D11.great, D11.pos, D11.few⟩
    have hS6 := k6 _ _ Sd Sg hS5
    have hS7 := y7 _ _ hS6
    have hS8 := k8 _ _ Sd Sg hS7
    have kaS : ka ≠ S := fun e => by rw [e, hS6] at ka0; cases ka0
    have waS : wa ≠ S := fun e => by rw [e, hS7] at wa0; cases wa0
    have laS : la ≠ S := fun e => by rw [e, hS8] at la0; cases la0
    have wad : wa ≠ d := fun e => D7.dn (e ▸ wa0)
    have wag : wa ≠ g := fun e => D7.gn (e ▸ wa0)
    have lad : la ≠ d := fun e => D8.dn (e ▸ la0)
    have lag : la ≠ g := fun e => D8.gn (e ▸ la0)
    have k911 := k10.trans2 k11
    have k811 := k9.trans2 k911
    have k711 := k8.trans2 k811
    refine ⟨S, _, _, rfl, rfl, k1113 _ _ hS11, small1000 (by rw [nlen] at il; omega), ⟨_, _, _, _, _, _, _, _, rfl⟩, fun a o n1 n2 e => ?_, ⟨ns11, s11, D13⟩, ps ++ [.ref F], us ++ [⟨nm, W.kinds.take (1 + jk), ws, ls, rs⟩], upd_same, ?_, ?_, fun v hv => ?_, by rw [List.length_append, pl]; rfl⟩
    · have aS : a ≠ S := ne_of_none e hS
      exact step a o aS (k511 a o n1 n2 (k5 a o n1 n2 e))
    · refine paired_end (SvAs.keep kp (fun _ h => h) pr) ⟨F, rfl, ka, wa, la, D, rp, ⟨Fd, Fg, FS⟩, by rw [upd_ne FS]; exact F13, ⟨⟨Lka.nd, Lka.ng, kaS⟩, step _ _ kaS (k711 _ _ Lka.nd Lka.ng Lka.at_)⟩, ⟨⟨wad, wag, waS⟩, step _ _ waS (k811 _ _ wad wag hwa)⟩, ⟨⟨lad, lag, laS⟩, step _ _ laS (k911 _ _ lad lag hla)⟩, ⟨⟨Dd, Dg, DS⟩, step _ _ DS hD11⟩, RowsA.keep (fun a o n e => step a o n.1.2.2 e) (fun _ h => h.1) prr⟩
    · rw [List.map_append, nms, List.take_add_one, hnm]
      rfl
    · rcases List.mem_append.mp hv with h | h
      · exact gd v h
      · rw [List.mem_singleton.mp h]
        exact ⟨⟨1 + jk, by omega, rfl⟩, sw, sl, rin, by show 1 ≤ rs.length; omega, by show (rs.length : Int) ≤ most; omega⟩
  · rintro σ H5 ⟨⟨v7, v8, v9, v10, v11, v12, v13, v14, rfl⟩, k5, ⟨ns5, s5, D5⟩, ps, us, hS5, pr, nms, gd, pl⟩
    rw [List.length_map, List.take_length] at nms
    refine ok_some_ofQ (drawEq 3 (by decide) (by decide)) rfl rfl (by decide) (by show 7 < 15; decide) D5 (Ln.keep k5) n10 fun ra rs ns6 s6 H6 k6 D6 ra0 hra sr => ?_
    have hS6 := k6 _ _ Sd Sg hS5
    have rad : ra ≠ d := fun e => D5.dn (e ▸ ra0)
    have rag : ra ≠ g := fun e => D5.gn (e ▸ ra0)
    intro F hF
    dsimp only [tPairs]
    have yF := same_upd hF (.dK [])
    have F7 : upd H6 F (.dK []) F = some (.dK []) := upd_same
    have Fd : F ≠ d := fun e => D6.dn (e ▸ hF)
    have Fg : F ≠ g := fun e => D6.gn (e ▸ hF)
    generalize upd H6 F (.dK []) = H7 at yF F7 ⊢
    have D7 := D6.sameD yF
    have fin : ∀ (R : Addr) (roots : List Str) (H8 : Hp), Same H7 H8 → LS d g H8 R roots → roots ≠ [] → SomeIn names roots → Q (.ref F) (upd H8 F (.dK (mergeK [] [(.inr "services", .ref S), (.inr "roots", .ref R)]))) := fun R roots H8 s8 LR r0 sr => by
      have D8 := D7.sameD s8
      have F8 := s8 _ _ F7
      have kk : ∀ a o, H6 a = some o → upd H8 F (.dK (mergeK [] [(.inr "services", .ref S), (.inr "roots", .ref R)])) a = some o := fun a o e => by
        rw [upd_ne (ne_of_none e hF)]
        exact s8 _ _ (yF _ _ e)
      have k36 := k5.trans2 k6
      have RF : R ≠ F := fun e => by have z := LR.at_; rw [e, F8] at z; cases z
      refine q F W us roots ns6 s6 _ (fun a o n1 n2 e => kk a o (k36 a o n1 n2 (k03 a o n1 n2 e))) ⟨D6.ne, D6.s0, D6.s1, kk _ _ D6.dict, kk _ _ D6.great, D6.pos, D6.few⟩ ⟨S, R, ps, Fd, Fg, upd_same, ⟨Sd, Sg, kk _ _ hS6⟩, SvAs.keep (fun a o n e => kk a o (k6 a o n.1 n.2.1 e)) (fun _ h => ⟨h.1, h.2.1⟩) pr, ⟨LR.nd, LR.ng, by rw [upd_ne RF]; exact LR.at_⟩⟩ ⟨ok, ⟨1 + j, by omega, by omega, by rw [nms, hnames]⟩, by rw [nms]; exact gd, r0, by rw [nms]; exact sr⟩
    refine ⟨_, rfl, _, rfl, Nat.zero_le _, fun e he => ?_⟩
    have ye := same_upd he (.lst [])
    refine ⟨ra, e, rs.map V.str, rfl, rfl, SqL.of (ye _ _ (yF _ _ hra)), SqL.of upd_same, _, rfl, ?_⟩
    generalize upd H7 e (.lst []) = H8 at ye ⊢
    rw [if_pos rfl]
    cases rs with
    | nil =>
      refine iteF ?_
      refine ⟨_, rfl, 1, rfl, ?_⟩
      refine slS2 (k := 1) (D7.sameD ye) ((((Ln.keep k5).keep k6).keep (KeepD.same yF)).keep (KeepD.same ye)) fun R H9 y9 R0 LR => ?_
      refine ⟨(ye.trans y9) _ _ F7, [(.inr "services", .ref S), (.inr "roots", .ref R)], rfl, by simp, ?_⟩
      refine fin R _ H9 (ye.trans y9) LR (fun z => ?_) ⟨names, .refl _, List.take_sublist _ _⟩
      have z2 := congrArg List.length z
      rw [List.length_take, nlen, List.length_nil] at z2
      omega
    | cons r0 rt =>
      refine iteT ?_
      refine ⟨_, rfl, ye _ _ F7, [(.inr "services", .ref S), (.inr "roots", .ref ra)], rfl, by simp, ?_⟩
      exact fin ra _ H8 ye ⟨rad, rag, ye _ _ (yF _ _ hra)⟩ (fun z => nomatch z) sr
end
end My

/-! ## A service's arguments by its name -/
namespace My
open PySem PySem.Spec PyProof.Rows L2
abbrev s_named : Stmt := top 23
abbrev N_named : List Str := ["_law_book_here", "_law_name", "_law_one"]
abbrev P_named : List Str := ["_law_book_here", "_law_name"]
theorem sc_named : FnScope N_named P_named (defScope s_named) := ⟨rfl, rfl, rfl, by decide +kernel, rfl, by decide +kernel, by decide +kernel⟩
structure TxDNamed (w : World) (K : PySem.W.Frag) (mg : Str → Option Value) where
  f_named : Addr
  d_named : FuncData
  F_named : Fun K "_law_named" "_law_named" s_named f_named d_named
  m_named : mg "_law_named" = some (.ref f_named)
  b_named : Binds K d_named P_named []
/-- the service of this name, where names stand once -/
def spDNamed : Sp := fun us H Q _ => ∃ (d g p : Addr) (nm : Str) (vs : List Sv2) (roots : List Str) (H0 : Hp), us = [.ref p, .str nm] ∧ BkA d g H0 p vs roots ∧ KeepD d g H0 H ∧ nm ∈ vs.map (·.nm) ∧ vs.length ≤ 10 ∧
  ∀ (a : Addr) (v : Sv2) (H' : Hp), Same H H' → SvA (fun a => a ≠ d ∧ a ≠ g) H0 a v → v ∈ vs → v.nm = nm → Q (.ref a) H'
def selN (nm : Str) (ps : List V) (vs : List Sv2) : List V := ((ps.zip vs).filter fun z => decide (z.2.nm = nm)).map (·.1)
theorem len_pairN {α β : Type} {R : α → β → Prop} : ∀ {xs : List α} {ys : List β}, Paired R xs ys → xs.length = ys.length
  | _, _, .nil => rfl
  | _, _, .cons _ t => congrArg Nat.succ (len_pairN t)
theorem pair_atN {α β : Type} {R : α → β → Prop} : ∀ {xs : List α} {ys : List β} {i : Nat} {x : α}, Paired R xs ys → xs[i]? = some x → ∃ y, ys[i]? = some y ∧ R x y
  | _, _, _, _, .nil, e => by simp at e
  | _, _, 0, _, .cons r _, e => by simp at e; subst e; exact ⟨_, rfl, r⟩
  | _, _, i + 1, x, .cons _ t, e => by
    simp at e
    obtain ⟨y, h1, h2⟩ := pair_atN t e
    exact ⟨y, by simpa using h1, h2⟩
theorem selN_snoc {nm : Str} {ps : List V} {vs : List Sv2} {i : Nat} {p : V} {v : Sv2} (h1 : ps[i]? = some p) (h2 : vs[i]? = some v) (l : ps.length = vs.length) : selN nm (ps.take (i + 1)) (vs.take (i + 1)) = selN nm (ps.take i) (vs.take i) ++ if v.nm = nm then [p] else [] := by
  unfold selN
  rw [List.take_add_one, List.take_add_one, h1, h2]
  have e : (ps.take i).length = (vs.take i).length := by rw [List.length_take, List.length_take, l]
  rw [List.zip_append e, List.filter_append, List.map_append]
  congr 1
  by_cases z : v.nm = nm <;> simp [z]
theorem selN_mem {nm : Str} {R : V → Sv2 → Prop} {x : V} : ∀ {ps : List V} {vs : List Sv2}, Paired R ps vs → x ∈ selN nm ps vs → ∃ v ∈ vs, R x v ∧ v.nm = nm
  | _, _, .nil, h => by cases h
  | p :: ps, v :: vs, .cons r t, h => by
    unfold selN at h
    rw [List.zip_cons_cons, List.filter_cons] at h
    by_cases z : v.nm = nm
    · rw [if_pos (decide_eq_true z), List.map_cons] at h
      rcases List.mem_cons.mp h with rfl | h
      · exact ⟨v, List.mem_cons_self, r, z⟩
      · obtain ⟨u, hu, a, b⟩ := selN_mem t h
        exact ⟨u, List.mem_cons_of_mem _ hu, a, b⟩
    · rw [if_neg (fun y => z (of_decide_eq_true y))] at h
      obtain ⟨u, hu, a, b⟩ := selN_mem t h
      exact ⟨u, List.mem_cons_of_mem _ hu, a, b⟩
theorem selN_ne {nm : Str} : ∀ {ps : List V} {vs : List Sv2}, ps.length = vs.length → nm ∈ vs.map (·.nm) → selN nm ps vs ≠ []
  | [], [], _, h => by cases h
  | p :: ps, v :: vs, l, h => by
    unfold selN
    rw [List.zip_cons_cons, List.filter_cons]
    by_cases z : v.nm = nm
    · rw [if_pos (decide_eq_true z)]
      exact fun y => nomatch y
    · rw [if_neg (fun y => z (of_decide_eq_true y))]
      refine selN_ne (by simpa using l) ?_
      rcases List.mem_cons.mp h with e | e
      · exact absurd e.symm z
      · exact e
  | [], _ :: _, l, _ => by cases l
  | _ :: _, [], l, _ => by cases l
section
variable {P : Program} {w : World} {K : PySem.W.Frag} {mg : Str → Option Value} {base : Heap}
theorem ok_dnamed (T : TxDNamed w K mg) : FnOk P w K mg base CX0 1 T.f_named T.d_named P_named spDNamed := by
  refine T.F_named.ok sc_named (fun vs H Q E h => ?_) (fun cdv A outer s H vs Q E hr h => ?_)
  · obtain ⟨d, g, p, nm, vs, roots, H0, rfl, _⟩ := h
    rfl
  obtain ⟨d, g, p, nm, vs, roots, H0, rfl, B, k0, hn, few, q⟩ := h
  refine ⟨_, (pss_one (ps_ret (pe_ix (ix_listK K) (pe_lc (own := [("_law_one", 2)]) (g := gName 2) (by rfl) sc_named.nd (pi_listK K (pe_dget (hu_of hr) (pv 0) pe_str (fun _ _ => rfl))) (blkOk_by (own := [("_law_one", 2)]) (N := N_named) (sc := defScope s_named) (by decide +kernel)) (fun _ _ _ _ _ => (pg_name (i := 2) sc_named.nd rfl (Or.inl rfl))) (fun _ _ _ _ _ => pts_one (by exact (pt_cmpR op_eq (pe_dget (hu_of hr) (pv 2) pe_str (fun _ _ => rfl)) (pv 1) (nomark _)))) (fun _ _ _ _ _ => (pv 2))) pe_int (fun _ _ => rfl)))), ?_⟩
  obtain ⟨S, R, ps, pd, pg, hp, ⟨Sd, Sg, hS⟩, pr0, LR⟩ := B.at_
  have hp := k0 _ _ pd pg hp
  have hS := k0 _ _ Sd Sg hS
  have pr : SvAs (fun a => a ≠ d ∧ a ≠ g) H ps vs := SvAs.keep (fun a o n z => k0 a o n.1 n.2 z) (fun _ z => z) pr0
  have lp : ps.length = vs.length := len_pairN pr
  refine ⟨_, rfl, p, _, rfl, DGet.k (k := .inr "services") hp, S, rfl, ⟨_, SqL.of hS⟩, fun D hD => ?_⟩
  refine lc_list (K := K) (a := S) (xs := ps) (fun i H' => Same H H' ∧ H' D = some (.lst (selN nm (ps.take i) (vs.take i)))) ⟨same_upd hD _, upd_same⟩ (fun i H' _ h => SqL.of (h.1 _ _ hS)) ?_ ?_
  · rintro i x H1 hx ⟨s1, d1⟩
    obtain ⟨v, hv, a, rfl, SA⟩ := pair_atN pr hx
    obtain ⟨kk, w_, l, r, rp, n, h1, _⟩ := SA.at_
    have tk := selN_snoc (nm := nm) hx hv lp
    have few2 : (selN nm (ps.take i) (vs.take i)).length < sizeLine := small1000 (by
      unfold selN
      rw [List.length_map]
      refine Nat.le_trans (List.length_filter_le _ _) ?_
      rw [List.length_zip, List.length_take, List.length_take]
      omega)
    refine ⟨rfl, ?_⟩
    refine ⟨_, rfl, a, _, rfl, DGet.k (k := .inr "name") (s1 _ _ h1), _, rfl, rfl, _, rfl, ?_⟩
    have ev : decide (V.str v.nm = V.str nm) = decide (v.nm = nm) := by
      rw [Bool.eq_iff_iff, decide_eq_true_eq, decide_eq_true_eq]
      exact ⟨fun e => by injection e, fun e => by rw [e]⟩
    rw [ev]
    by_cases c : v.nm = nm
    · rw [decide_eq_true c]
      rw [if_pos c] at tk
      refine iteT ⟨_, rfl, _, d1, few2, fun b u z => ?_, ?_⟩
      · rw [upd_ne (ne_of_none z hD)]; exact s1 _ _ z
      · rw [upd_same, tk]
    · rw [decide_eq_false c]
      rw [if_neg c, List.append_nil] at tk
      exact iteF ⟨s1, by rw [tk]; exact d1⟩
  · rintro H1 ⟨s1, d1⟩
    rw [List.take_length, lp, List.take_length] at d1
    cases e : selN nm ps vs with
    | nil => exact absurd e (selN_ne lp hn)
    | cons x xs =>
      rw [e] at d1
      obtain ⟨v, mv, ⟨a, rfl, SA⟩, ev⟩ := selN_mem (nm := nm) pr0 (by rw [e]; exact List.mem_cons_self)
      refine ixL_tc (j := 0) (SqL.of d1) rfl ?_
      exact q a v H1 s1 SA mv ev
end
end My

/-! ## Trees as nested tuples; their size -/
namespace My
open PySem PySem.Spec PyProof.Rows L2
mutual
inductive Tr where
  | node (nm kd : Str) (bad : Bool) (es : Evs)
inductive Evs where
  | nil
  | wait (t : Tr) (r : Evs)
  | leave (t : Tr) (r : Evs)
  | hear (n : Int) (r : Evs)
end
mutual
def Tr.deep : Tr → Nat
  | .node _ _ _ es => es.deep + 1
def Evs.deep : Evs → Nat
  | .nil => 0
  | .wait t r => max t.deep r.deep
  | .leave t r => max t.deep r.deep
  | .hear _ r => r.deep
end
mutual
def Tr.size : Tr → Nat
  | .node _ _ _ es => es.size + 1
def Evs.size : Evs → Nat
  | .nil => 0
  | .wait t r => t.size + r.size
  | .leave t r => t.size + r.size
  | .hear _ r => r.size
end
def Evs.len : Evs → Nat
  | .nil => 0
  | .wait _ r => r.len + 1
  | .leave _ r => r.len + 1
  | .hear _ r => r.len + 1
mutual
/-- a tree as tuples -/
inductive TrAt (H : Hp) : V → Tr → Prop
  | node {a e : Addr} {nm kd : Str} {bad : Bool} {ps : List V} {es : Evs} (h : H a = some (.tup [.str nm, .str kd, .bl bad, .ref e])) (he : H e = some (.tup ps)) (r : EvsAt H ps es) : TrAt H (.ref a) (.node nm kd bad es)
inductive EvsAt (H : Hp) : List V → Evs → Prop
  | nil : EvsAt H [] .nil
  | wait {p : Addr} {v : V} {t : Tr} {ps : List V} {r : Evs} (h : H p = some (.tup [.str "wait", v])) (ht : TrAt H v t) (hr : EvsAt H ps r) : EvsAt H (.ref p :: ps) (.wait t r)
  | leave {p : Addr} {v : V} {t : Tr} {ps : List V} {r : Evs} (h : H p = some (.tup [.str "leave", v])) (ht : TrAt H v t) (hr : EvsAt H ps r) : EvsAt H (.ref p :: ps) (.leave t r)
  | hear {p : Addr} {n : Int} {ps : List V} {r : Evs} (h : H p = some (.tup [.str "hear", .int n])) (hr : EvsAt H ps r) : EvsAt H (.ref p :: ps) (.hear n r)
end
/-- tuples stay -/
def KT (H H' : Hp) : Prop := ∀ a xs, H a = some (.tup xs) → H' a = some (.tup xs)
theorem KT.of_same {H H' : Hp} (s : Same H H') : KT H H' := fun a xs h => s _ _ h
theorem KT.of_keepD {d g : Addr} {H H' : Hp} {ns : List Int} {s : Int} (D : DealAt H d g ns s) (k : KeepD d g H H') : KT H H' := fun a xs h => k a _ (fun z => by rw [z, D.dict] at h; cases h) (fun z => by rw [z, D.great] at h; cases h) h
mutual
theorem TrAt.kt {H H' : Hp} (k : KT H H') : ∀ (t : Tr) (v : V), TrAt H v t → TrAt H' v t
  | .node _ _ _ es, _, h => by
    cases h with
    | node h he r => exact .node (k _ _ h) (k _ _ he) (EvsAt.kt k es _ r)
theorem EvsAt.kt {H H' : Hp} (k : KT H H') : ∀ (es : Evs) (ps : List V), EvsAt H ps es → EvsAt H' ps es
  | .nil, _, h => by cases h; exact .nil
  | .wait t r, _, h => by
    cases h with
    | wait h ht hr => exact .wait (k _ _ h) (TrAt.kt k t _ ht) (EvsAt.kt k r _ hr)
  | .leave t r, _, h => by
    cases h with
    | leave h ht hr => exact .leave (k _ _ h) (TrAt.kt k t _ ht) (EvsAt.kt k r _ hr)
  | .hear n r, _, h => by
    cases h with
    | hear h hr => exact .hear (k _ _ h) (EvsAt.kt k r _ hr)
end
theorem EvsAt.len {H : Hp} : ∀ {ps : List V} {es : Evs}, EvsAt H ps es → ps.length = es.len
  | _, _, .nil => rfl
  | _, _, .wait _ _ r => congrArg Nat.succ r.len
  | _, _, .leave _ _ r => congrArg Nat.succ r.len
  | _, _, .hear _ r => congrArg Nat.succ r.len
/-! ### events one after another -/
inductive EvI where
  | call (w : Bool) (t : Tr)
  | hear (n : Int)
def Evs.list : Evs → List EvI
  | .nil => []
  | .wait t r => .call true t :: r.list
  | .leave t r => .call false t :: r.list
  | .hear n r => .hear n :: r.list
def evW (w : Bool) : Str := if w = true then "wait" else "leave"
inductive EvAt (H : Hp) : V → EvI → Prop
  | call {p : Addr} {v : V} {w : Bool} {t : Tr} (h : H p = some (.tup [.str (evW w), v])) (ht : TrAt H v t) : EvAt H (.ref p) (.call w t)
  | hear {p : Addr} {n : Int} (h : H p = some (.tup [.str "hear", .int n])) : EvAt H (.ref p) (.hear n)
theorem EvAt.kt {H H' : Hp} (k : KT H H') {p : V} {e : EvI} (h : EvAt H p e) : EvAt H' p e := by
  cases h with
  | call h ht => exact .call (k _ _ h) (TrAt.kt k _ _ ht)
  | hear h => exact .hear (k _ _ h)
theorem EvsAt.pairs {H : Hp} : ∀ {ps : List V} {es : Evs}, EvsAt H ps es → Paired (EvAt H) ps es.list
  | _, _, .nil => .nil
  | _, _, .wait h ht r => .cons (.call (w := true) h ht) r.pairs
  | _, _, .leave h ht r => .cons (.call (w := false) h ht) r.pairs
  | _, _, .hear h r => .cons (.hear h) r.pairs
def sizeI : EvI → Option Nat
  | .call _ t => some t.size
  | .hear _ => none
def deepI : EvI → Nat
  | .call _ t => t.deep
  | .hear _ => 0
theorem Evs.sizes : ∀ es : Evs, (es.list.filterMap sizeI).sum = es.size
  | .nil => rfl
  | .wait t r => by
    show t.size + (r.list.filterMap sizeI).sum = t.size + r.size
    rw [r.sizes]
  | .leave t r => by
    show t.size + (r.list.filterMap sizeI).sum = t.size + r.size
    rw [r.sizes]
  | .hear n r => by
    show (r.list.filterMap sizeI).sum = r.size
    rw [r.sizes]
theorem Evs.deepL : ∀ (es : Evs) (e : EvI), e ∈ es.list → deepI e ≤ es.deep
  | .nil, _, h => by cases h
  | .wait t r, e, h => by
    rcases List.mem_cons.mp h with rfl | h
    · exact Nat.le_max_left _ _
    · exact Nat.le_trans (r.deepL e h) (Nat.le_max_right _ _)
  | .leave t r, e, h => by
    rcases List.mem_cons.mp h with rfl | h
    · exact Nat.le_max_left _ _
    · exact Nat.le_trans (r.deepL e h) (Nat.le_max_right _ _)
  | .hear n r, e, h => by
    rcases List.mem_cons.mp h with rfl | h
    · exact Nat.zero_le _
    · exact r.deepL e h
theorem Evs.sizeL : ∀ (es : Evs) (w : Bool) (t : Tr), EvI.call w t ∈ es.list → t.size ≤ es.size
  | .nil, _, _, h => by cases h
  | .wait u r, w, t, h => by
    rcases List.mem_cons.mp h with e | h
    · cases e; exact Nat.le_add_right _ _
    · exact Nat.le_trans (r.sizeL w t h) (Nat.le_add_left _ _)
  | .leave u r, w, t, h => by
    rcases List.mem_cons.mp h with e | h
    · cases e; exact Nat.le_add_right _ _
    · exact Nat.le_trans (r.sizeL w t h) (Nat.le_add_left _ _)
  | .hear n r, w, t, h => by
    rcases List.mem_cons.mp h with e | h
    · cases e
    · exact r.sizeL w t h
theorem pair_at2 {α β : Type} {R : α → β → Prop} : ∀ {xs : List α} {ys : List β} {i : Nat} {x : α}, Paired R xs ys → xs[i]? = some x → ∃ y, ys[i]? = some y ∧ R x y
  | _, _, _, _, .nil, e => by simp at e
  | _, _, 0, _, .cons r _, e => by simp at e; subst e; exact ⟨_, rfl, r⟩
  | _, _, i + 1, x, .cons _ t, e => by
    simp at e
    obtain ⟨y, h1, h2⟩ := pair_at2 t e
    exact ⟨y, by simpa using h1, h2⟩
theorem pair_len3 {α β : Type} {R : α → β → Prop} : ∀ {xs : List α} {ys : List β}, Paired R xs ys → xs.length = ys.length
  | _, _, .nil => rfl
  | _, _, .cons _ t => congrArg Nat.succ (pair_len3 t)
end My

/-! ## The size of a tree -/
namespace My
open PySem PySem.Spec PyProof.Rows L2
abbrev s_size : Stmt := top 27
abbrev N_size : List Str := ["_law_tree_here", "_law_word", "_law_thing"]
abbrev P_size : List Str := ["_law_tree_here"]
theorem sc_size : FnScope N_size P_size (defScope s_size) := ⟨rfl, rfl, rfl, by decide +kernel, rfl, by decide +kernel, by decide +kernel⟩
structure TxDSize (w : World) (K : PySem.W.Frag) (mg : Str → Option Value) where
  z_sum : mg "sum" = none
  f_size : Addr
  d_size : FuncData
  F_size : Fun K "_law_size" "_law_size" s_size f_size d_size
  m_size : mg "_law_size" = some (.ref f_size)
  b_size : Binds K d_size P_size []
theorem sum_intN : ∀ ns : List Nat, (ns.map fun n : Nat => (n : Int)).sum = ((ns.sum : Nat) : Int)
  | [] => rfl
  | n :: t => by
    rw [List.map_cons, List.sum_cons, List.sum_cons, sum_intN t]
    omega
theorem Tr.size_pos : ∀ t : Tr, 1 ≤ t.size
  | .node _ _ _ es => by unfold Tr.size; omega
theorem calls_few : ∀ es : Evs, (es.list.filterMap sizeI).length ≤ es.size
  | .nil => Nat.le_refl _
  | .wait t r => by
    show (r.list.filterMap sizeI).length + 1 ≤ t.size + r.size
    have a := calls_few r
    have b := t.size_pos
    omega
  | .leave t r => by
    show (r.list.filterMap sizeI).length + 1 ≤ t.size + r.size
    have a := calls_few r
    have b := t.size_pos
    omega
  | .hear n r => calls_few r
def spDSize (n : Nat) : Sp := fun us H Q _ => ∃ (v : V) (t : Tr), us = [v] ∧ TrAt H v t ∧ t.deep ≤ n ∧ t.size ≤ 900 ∧ ∀ H', Same H H' → Q (.int (t.size : Int)) H'
section
variable {P : Program} {w : World} {K : PySem.W.Frag} {mg : Str → Option Value} {base : Heap}
theorem ok_dsize (T : TxDSize w K mg) : ∀ n, FnOk P w K mg base CX0 (1 + n) T.f_size T.d_size P_size (spDSize n)
  | 0 => by
    refine T.F_size.ok sc_size (fun vs H Q E h => ?_) (fun cdv A outer s H vs Q E hr h => ?_)
    · obtain ⟨v, t, rfl, _⟩ := h
      rfl
    obtain ⟨v, t, rfl, ht, dp, _⟩ := h
    cases ht with
    | node => exact absurd dp (by unfold Tr.deep; omega)
  | n + 1 => by
    have G_size := ok_dsize T n
    refine T.F_size.ok sc_size (fun vs H Q E h => ?_) (fun cdv A outer s H vs Q E hr h => ?_)
    · obtain ⟨v, t, rfl, _⟩ := h
      rfl
    obtain ⟨v, t, rfl, ht, dp, few, q⟩ := h
    refine ⟨_, (pss_one (ps_ret (pe_op op_add pe_int (pe_callB (cr_sum (by rfl)) (by rfl) T.z_sum (by decide +kernel) (pa_cons (pe_lc (own := [("_law_word", 1), ("_law_thing", 2)]) (g := gTup K 2 (gCons (gName 1) (gCons (gName 2) gNil))) (by rfl) sc_size.nd (pi_tupK K (pe_ix (ix_tupK K) (pv 0) pe_int (fun _ _ => rfl))) (blkOk_by (own := [("_law_word", 1), ("_law_thing", 2)]) (N := N_size) (sc := defScope s_size) (by decide +kernel)) (fun _ _ _ _ _ => (by exact (pg_tup rfl (pgs_cons (pg_name (i := 1) sc_size.nd rfl (Or.inl rfl)) (pgs_cons (pg_name (i := 2) sc_size.nd rfl (Or.inl rfl)) pgs_nil))))) (fun _ _ _ _ _ => pts_one (by exact (pt_cmpR op_ne (pv 1) pe_str (nomark _)))) (fun _ _ _ _ _ => (pe_call G_size (hr.mono (Nat.le_refl _)) (by rfl) T.m_size T.F_size.kp T.b_size .nil pass0 (pa_cons (pv 2) pa_nil)))) pa_nil))))), ?_⟩
    cases ht with
    | @node a e nm kd bad ps es h he r =>
      have pr := r.pairs
      have lp := pair_len3 pr
      have de : es.deep ≤ n := by unfold Tr.deep at dp; omega
      refine ⟨_, rfl, ⟨_, _, _, _, rfl, rfl, SqT.of h, atI_nat (j := 3) rfl, e, rfl, ⟨_, SqT.of he⟩, fun D hD => ?_⟩⟩
      refine lc_tup (K := K) (a := e) (xs := ps) (fun i H' => Same H H' ∧ H' D = some (.lst ((((es.list.take i).filterMap sizeI).map fun n : Nat => (n : Int)).map V.int))) ⟨same_upd hD _, upd_same⟩ (fun i H' _ hh => SqT.of (hh.1 _ _ he)) ?_ ?_
      · rintro i x H1 hx ⟨s1, d1⟩
        obtain ⟨ev, hev, ea⟩ := pair_at2 pr hx
        have ea := ea.kt (KT.of_same s1)
        have tk : (es.list.take (i + 1)).filterMap sizeI = (es.list.take i).filterMap sizeI ++ (sizeI ev).toList := by
          rw [List.take_add_one, hev, List.filterMap_append]
          congr 1
        have fw : ((((es.list.take i).filterMap sizeI).map fun n : Nat => (n : Int)).map V.int).length < sizeLine := small1000 (by
          rw [List.length_map, List.length_map]
          have a1 := ((List.take_sublist i es.list).filterMap sizeI).length_le
          have a2 := calls_few es
          have a3 : es.size + 1 ≤ 900 := few
          omega)
        cases ea with
        | @call p v w t hp ht =>
          have dt : t.deep ≤ n := Nat.le_trans (es.deepL _ (List.mem_of_getElem? hev)) de
          have st : t.size ≤ 900 := by
            have a1 := es.sizeL w t (List.mem_of_getElem? hev)
            have a3 : es.size + 1 ≤ 900 := few
            omega
          refine ⟨p, _, rfl, SqT.of hp, rfl, _, _, rfl, _, _, rfl, rfl, rfl, ?_⟩
          have nh : (!decide (V.str (evW w) = V.str (Str.ofString "hear"))) = true := by cases w <;> decide +kernel
          refine ⟨_, rfl, rfl, _, rfl, ?_⟩
          rw [nh]
          refine iteT ⟨_, rfl, v, t, rfl, ht, dt, st, fun H2 s2 => ⟨_, s2 _ _ d1, fw, fun b u z => ?_, ?_⟩⟩
          · rw [upd_ne (ne_of_none z hD)]; exact s2 _ _ (s1 _ _ z)
          · rw [upd_same, tk, List.map_append, List.map_append]; rfl
        | @hear p m hp =>
          refine ⟨p, _, rfl, SqT.of hp, rfl, _, _, rfl, _, _, rfl, rfl, rfl, ?_⟩
          refine ⟨_, rfl, rfl, _, rfl, ?_⟩
          refine ite2 (fun c => absurd c (by simp)) (fun _ => ⟨s1, ?_⟩)
          rw [tk, d1]
          exact congrArg (fun z => some (HO.lst ((z.map fun n : Nat => (n : Int)).map V.int))) (List.append_nil _).symm
      · rintro H1 ⟨s1, d1⟩
        rw [lp, List.take_length] at d1
        refine ⟨D, _, rfl, SqL.of d1, _, _, rfl, rfl, ?_⟩
        rw [sum_intN, es.sizes]
        have e1 : (1 : Int) + ((es.size : Nat) : Int) = (((Tr.node nm kd bad es).size : Nat) : Int) := by
          show (1 : Int) + ((es.size : Nat) : Int) = ((es.size + 1 : Nat) : Int)
          omega
        show Q (V.int ((1 : Int) + ((es.size : Nat) : Int))) H1
        rw [e1]
        exact q H1 s1
end
end My

/-! ## The program: what is a name -/
namespace My
open PySem L2
abbrev s_is_name : Stmt := top 3
abbrev N_is_name : List Str := ["value"]
abbrev P_is_name : List Str := ["value"]
theorem sc_is_name : FnScope N_is_name P_is_name (defScope s_is_name) := ⟨rfl, rfl, rfl, by decide +kernel, rfl, by decide +kernel, by decide +kernel⟩
/-- a text, or a thing that is none -/
inductive AnyV (K : PySem.W.Frag) (H : Hp) : V → Prop where
  | str (x : Str) (h : x.length ≤ 2000) : AnyV K H (.str x)
  | oth {v : V} {t : Value} (n : ∀ x, v ≠ .str x) (ty : TyX K H v t) (k : PySem.W.kitOne K t (.type "str") = some false) : AnyV K H v
def nmV : V → Bool
  | .str x => isNm x
  | _ => false
def nmD : PyData → Bool
  | .str x => isNm x
  | _ => false
/-- the dict whose keys are the words that are no names -/
structure NoD (w : World) (K : PySem.W.Frag) (a : Addr) : Prop where
  ex : ∃ es n, KDict K w a es n
  has : ∀ z : Str, ∃ r, PySem.W.nsIn K a z = some r ∧ r.isSome = BAR.contains z
structure TxCheck (w : World) (K : PySem.W.Frag) (mg : Str → Option Value) where
  z_len : mg "len" = none
  z_isinstance : mg "isinstance" = none
  z_str : mg "str" = none
  z_all : mg "all" = none
  aNO : Addr
  m_NO : mg "NO_NAMES" = some (.ref aNO)
  t_NO : NoD w K aNO
  f_is_name : Addr
  d_is_name : FuncData
  F_is_name : Fun K "is_name" "is_name" s_is_name f_is_name d_is_name
  m_is_name : mg "is_name" = some (.ref f_is_name)
  b_is_name : Binds K d_is_name P_is_name []
def spIsName (K : PySem.W.Frag) : Sp := fun vs H Q _ => ∃ v : V, vs = [v] ∧ AnyV K H v ∧ ∀ H', Same H H' → Q (.bl (nmV v)) H'
theorem inV_strs (x : Str) : ∀ l : List Str, inV (.str x) (l.map V.str) = l.contains x
  | [] => rfl
  | y :: l => by
    have h := inV_strs x l
    show (y == x || inV (.str x) (l.map V.str)) = (y :: l).contains x
    rw [h, List.contains_cons, BEq.comm]
theorem Dv.any {K : PySem.W.Frag} {H : Hp} {v : V} {d : PyData} (h : Dv K H v d) : AnyV K H v := by
  have t := Dp.ty h.dp
  cases h.dp with
  | str x => exact .str x (h.tx x rfl)
  | non => exact .oth (fun _ e => by cases e) t (kit_ty (by decide +kernel))
  | bl b => exact .oth (fun _ e => by cases e) t (kit_ty (show kitB "bool" "str" = some false by decide +kernel))
  | int i => exact .oth (fun _ e => by cases e) t (kit_ty (show kitB "int" "str" = some false by decide +kernel))
  | lst _ _ => exact .oth (fun _ e => by cases e) t (kit_ty (show kitB "list" "str" = some false by decide +kernel))
  | tup _ _ => exact .oth (fun _ e => by cases e) t (kit_ty (show kitB "tuple" "str" = some false by decide +kernel))
theorem Dv.nm {K : PySem.W.Frag} {H : Hp} {v : V} {d : PyData} (h : Dv K H v d) : nmV v = nmD d := by
  cases h.dp <;> rfl
/-- of the signs below 128 the small letters are those that are letters and lower -/
theorem abcC_is : ∀ c < 128, decide (c ∈ ABC.cps.toList) = (PySem.Unicode.isAlpha c && PySem.Unicode.isLower c) := by decide +kernel
theorem lowC_only : ∀ c < 128, PySem.Unicode.isAlpha c = true → (PySem.Unicode.isLower c = !(PySem.Unicode.isUpper c || PySem.Unicode.isTitle c)) := by decide +kernel
theorem abcC_lt : ∀ c ∈ ABC.cps.toList, c < 128 := by decide +kernel
theorem isNm_is (x : Str) : isNm x = (decide (1 ≤ x.length) && decide (x.length ≤ 4) && Txt.isascii x && (Txt.isalpha x && (Txt.islower x && !(BAR.contains x)))) := by
  by_cases h1 : 1 ≤ x.length
  · have e : (x.cps.toList.all fun c => decide (c ∈ ABC.cps.toList)) = (Txt.isascii x && (Txt.isalpha x && Txt.islower x)) := by
      rw [Bool.eq_iff_iff]
      simp only [Txt.isascii, Txt.isalpha, Txt.islower, ← Array.all_toList, ← Array.any_toList, Bool.and_eq_true, List.all_eq_true, List.any_eq_true, decide_eq_true_eq, Bool.not_eq_true', ← Bool.not_eq_true, not_exists, not_and]
      constructor
      · intro h
        have hh : ∀ c ∈ x.cps.toList, c < 128 ∧ PySem.Unicode.isAlpha c = true ∧ PySem.Unicode.isLower c = true := fun c hc => by
          have l := abcC_lt c (h c hc)
          have q := abcC_is c l
          rw [decide_eq_true (h c hc)] at q
          have q2 := Bool.and_eq_true_iff.mp q.symm
          exact ⟨l, q2.1, q2.2⟩
        refine ⟨fun c hc => (hh c hc).1, ⟨by omega, fun c hc => (hh c hc).2.1⟩, ?_, fun c hc => ?_⟩
        · have hz : 0 < x.cps.toList.length := by
            have : x.cps.size = x.length := rfl
            simp
            omega
          obtain ⟨c, hc⟩ := List.exists_mem_of_length_pos hz
          exact ⟨c, hc, (hh c hc).2.2⟩
        · obtain ⟨l, q1, q2⟩ := hh c hc
          have q3 := lowC_only c l q1
          rw [q2] at q3
          intro z
          rw [z] at q3
          cases q3
      · rintro ⟨h2, ⟨_, h3⟩, _, h4⟩ c hc
        have l := h2 c hc
        have q1 := h3 c hc
        have q3 := lowC_only c l q1
        have q4 : (PySem.Unicode.isUpper c || PySem.Unicode.isTitle c) = false := by simpa using h4 c hc
        rw [q4] at q3
        have q := abcC_is c l
        rw [q1, q3] at q
        exact of_decide_eq_true q
    unfold isNm
    rw [e]
    simp only [Bool.and_assoc]
    cases decide (1 ≤ x.length) <;> cases decide (x.length ≤ 4) <;> cases BAR.contains x <;> cases Txt.isascii x <;> cases Txt.isalpha x <;> cases Txt.islower x <;> rfl
  · unfold isNm
    rw [decide_eq_false h1]
    rfl
section
variable {P : Program} {w : World} {K : PySem.W.Frag} {mg : Str → Option Value} {base : Heap}
theorem ok_is_name (T : TxCheck w K mg) : FnOk P w K mg base CX0 1 T.f_is_name T.d_is_name P_is_name (spIsName K) := by
  refine T.F_is_name.ok sc_is_name (fun vs H Q E h => ?_) (fun cdv A outer s H vs Q E hr h => ?_)
  · obtain ⟨v, rfl, _⟩ := h
    rfl
  obtain ⟨v, rfl, hv, q⟩ := h
  obtain ⟨es, nn, D⟩ := T.t_NO.ex
  refine ⟨_, (pss_cons (ps_if (PW.pt (pw_or (pt_not (pt_val (pe_callB (call_isiV K) (by rfl) T.z_isinstance (by decide +kernel) (pa_cons (pv 0) (pa_cons (pe_bltn (v := .ty "str") (by rfl) T.z_str (by decide +kernel) rfl) pa_nil))))) (pw_or (pt_not (pt_chain op_le op_le pe_int (pe_callB call_len_str (by rfl) T.z_len (by decide +kernel) (pa_cons (pv 0) pa_nil)) pe_int)) (pw_or1 (pt_not (pt_val (pe_bm0 PySem.F.plainAttrs_str PySem.F.slot_str_isascii PySem.F.type_str_isascii mt_isascii (pv 0)))))))) (pss_one (ps_ret pe_bl)) pss_nil)
      (pss_one (ps_ret (pe_and (pe_bm0 PySem.F.plainAttrs_str PySem.F.slot_str_isalpha PySem.F.type_str_isalpha mt_isalpha (pv 0)) (pe_and (pe_bm0 PySem.F.plainAttrs_str PySem.F.slot_str_islower PySem.F.type_str_islower mt_islower (pv 0)) (pe_one (pe_cmpR (op_notIn_kd D) (pv 0) (pe_glob (v := .ref T.aNO) (by rfl) T.m_NO rfl) (by rfl)))))))), ?_⟩
  cases hv with
  | oth n ty k =>
    have e : nmV v = false := by cases v <;> first | rfl | exact absurd rfl (n _)
    refine ⟨_, rfl, v, .ty "str", _, _, _, rfl, .ty _, ty, k, _, rfl, ?_⟩
    have r := q H (Same.refl H)
    rw [e] at r
    exact r
  | str x hx =>
    have hz : x.length ≤ sizeLine := by rw [sizeLine_eq]; omega
    have no : isNm x = false → Q (.bl false) H := fun e => by
      have r := q H (Same.refl H)
      rwa [show nmV (.str x) = false from e] at r
    refine ⟨_, rfl, .str x, .ty "str", _, _, true, rfl, .ty _, .base (.str x), kit_ty (by decide +kernel), _, rfl, ?_⟩
    refine ⟨_, rfl, x, rfl, hz, _, _, rfl, rfl, _, rfl, ?_⟩
    refine ite2 (fun c => ?_) (fun c => ?_)
    · have h1 : (1 : Int) ≤ (x.length : Int) := of_decide_eq_true c
      refine ⟨_, _, rfl, rfl, _, rfl, ?_⟩
      refine ite2 (fun c => ?_) (fun c => ?_)
      · have h4 : ¬ (x.length : Int) ≤ 4 := of_decide_eq_false (by simpa using c)
        exact no (by unfold isNm; rw [show decide (x.length ≤ 4) = false from decide_eq_false (by omega)]; simp)
      · have h4 : (x.length : Int) ≤ 4 := of_decide_eq_true (by simpa using c)
        refine ⟨_, rfl, rfl, x, rfl, rfl, trivial, _, rfl, ?_⟩
        refine ite2 (fun c => ?_) (fun c => ?_)
        · have ha : Txt.isascii x = false := by simpa using c
          exact no (by rw [isNm_is, ha]; simp)
        · have ha : Txt.isascii x = true := by simpa using c
          have yes : isNm x = (Txt.isalpha x && (Txt.islower x && !(BAR.contains x))) := by
            rw [isNm_is, ha, decide_eq_true (show 1 ≤ x.length by omega), decide_eq_true (show x.length ≤ 4 by omega)]
            rfl
          refine ⟨_, rfl, rfl, x, rfl, rfl, trivial, _, rfl, ?_⟩
          refine ite2 (fun c => ?_) (fun c => ?_)
          · refine ⟨_, rfl, rfl, x, rfl, rfl, trivial, _, rfl, ?_⟩
            refine ite2 (fun c2 => ?_) (fun c2 => ?_)
            · obtain ⟨r, hr1, hr2⟩ := T.t_NO.has x
              refine ⟨_, rfl, x, r, rfl, rfl, hr1, ?_⟩
              have z := q H (Same.refl H)
              rw [show nmV (.str x) = isNm x from rfl, yes, c, c2] at z
              rw [hr2]
              exact z
            · exact no (by rw [yes, Bool.eq_false_iff.mpr c2]; simp)
          · exact no (by rw [yes, Bool.eq_false_iff.mpr c]; simp)
    · have h1 : ¬ (1 : Int) ≤ (x.length : Int) := of_decide_eq_false (Bool.eq_false_iff.mpr c)
      refine ⟨_, rfl, ?_⟩
      exact no (by unfold isNm; rw [show decide (1 ≤ x.length) = false from decide_eq_false (by omega)]; simp)
end
end My
namespace My
open PySem L2
inductive KeyStrs : List DictEntry → List Str → Prop where
  | nil : KeyStrs [] []
  | cons {h : Int} {k : Str} {t : Tok} {v : Value} {es : List DictEntry} {ks : List Str} (r : KeyStrs es ks) : KeyStrs (⟨h, .str k t, v⟩ :: es) (k :: ks)
theorem KeyStrs.find {es : List DictEntry} {ks : List Str} (r : KeyStrs es ks) (z : Str) : (es.find? fun e => e.key.isStr z).isSome = ks.contains z ∧ (es.any fun e => e.refKey) = false := by
  induction r with
  | nil => exact ⟨rfl, rfl⟩
  | @cons h k t v es ks r ih =>
    refine ⟨?_, ?_⟩
    · rw [List.find?_cons, List.contains_cons]
      have e : (Value.str k t).isStr z = (z == k) := by
        show (k == z) = (z == k)
        exact BEq.comm
      show (match (Value.str k t).isStr z with | true => some _ | false => _).isSome = _
      rw [e]
      cases z == k with
      | true => rfl
      | false => exact ih.1
    · rw [List.any_cons, ih.2]
      rfl
theorem noD_mk {w : World} {K : PySem.W.Frag} {a : Addr} {es : List DictEntry} {n : Nat} (l : K.lookup a = some ⟨.type "dict", none, .dict es.toArray n, #[]⟩) (kl : PySem.W.KeysLit w.params es) (sm : (a == sysModules) = false) (ks : KeyStrs es BAR := by exact .cons (.cons (.cons (.cons (.cons (.cons (.cons (.cons (.cons (.cons .nil)))))))))) : NoD w K a := by
  refine ⟨⟨es.toArray, n, l, kl, sm⟩, fun z => ?_⟩
  obtain ⟨h1, h2⟩ := ks.find z
  unfold PySem.W.nsIn
  rw [l]
  show ∃ r, (match es.find? fun e => e.key.isStr z with | some e => some (some e.val) | none => if (es.any fun e => e.refKey) = true then none else some none) = some r ∧ _
  cases q : es.find? fun e => e.key.isStr z with
  | some e =>
    rw [q] at h1
    exact ⟨some e.val, rfl, h1⟩
  | none =>
    rw [q] at h1
    rw [h2]
    exact ⟨none, rfl, h1⟩
end My

/-! ## Sets of texts -/
namespace My
open PySem PySem.Spec PyProof.Rows L2
theorem is_txt0 {P : Program} {w : World} (k : Str) (u : Tok) : (PySem.strKind P w).is k (.str k u) = true := by
  show Value.isStrOf k (.str k u) = true
  unfold Value.isStrOf
  exact beq_self_eq_true _
/-- the text of an entry of a set -/
def txtOf (e : Int × Value) : Str := match e.2 with
  | .str k _ => k
  | _ => Str.empty
/-- at a: a set whose members are the texts l, each once; it can be walked -/
structure TSet (P : Program) (w : World) (h : Heap) (a : Addr) (l : List Str) : Prop where
  ob : ∃ (o : Obj) (es : Array (Int × Value)) (ep : Nat) (t : SetTable), h.get? a = some o ∧ o.ExactSet ∧ o.data = .set es ep t ∧ ElemsOf (PySem.strKind P w) es.toList ∧ (es.toList.map txtOf).Perm l ∧
    es.size < scanBound ∧ t.fits es.size = true ∧ Ris t.place.toList ∧ (w.params.followText "set-order" = true ∨ t.led = true)
  nd : l.Nodup
section
variable {P : Program} {w : World} {h h' : Heap} {a : Addr} {l : List Str}
theorem TSet.at (R : TSet P w h a l) (k : ∀ o, h.get? a = some o → h'.get? a = some o) : TSet P w h' a l := by
  obtain ⟨⟨o, es, ep, t, ho, r⟩, nd⟩ := R
  exact ⟨⟨o, es, ep, t, k o ho, r⟩, nd⟩
theorem TSet.there (R : TSet P w h a l) : ∃ o, h.get? a = some o := by
  obtain ⟨⟨o, _, _, _, ho, _⟩, _⟩ := R
  exact ⟨o, ho⟩
theorem is_txt {k : Str} {e : Int × Value} (el : (∃ k, (PySem.strKind P w).is k e.2 = true ∧ e.1 = (PySem.strKind P w).hash k) ∧ e.2.scannable = true) : (PySem.strKind P w).is k e.2 = true ↔ txtOf e = k := by
  obtain ⟨⟨k2, h1, _⟩, _⟩ := el
  obtain ⟨t, e2⟩ := Value.isStrOf_shape h1
  have e3 : txtOf e = k2 := by unfold txtOf; rw [e2]
  rw [e3]
  constructor
  · intro z
    exact (PySem.strKind P w).inj _ _ _ h1 z
  · intro z
    rw [← z]
    exact h1
theorem mem_txt {es : List (Int × Value)} (el : ElemsOf (PySem.strKind P w) es) (k : Str) : k ∈ es.map txtOf ↔ ∃ e ∈ es, (PySem.strKind P w).is k e.2 = true := by
  rw [List.mem_map]
  exact ⟨fun ⟨e, he, z⟩ => ⟨e, he, (is_txt (el e he)).mpr z⟩, fun ⟨e, he, z⟩ => ⟨e, he, (is_txt (el e he)).mp z⟩⟩
variable {A : Around} {E : Value → Shared → Prop} {s : Shared}
set_option maxHeartbeats 400000 in
/-- the table grows, or stays -/
theorem tset_tail {g : Bool → Sem Unit} (hg : ∀ (b : Bool) (s₁ : Shared) (Q' : Unit → Shared → Prop), Q' () s₁ → wpAny (model P w) A (g b) Q' E s₁) {o : Obj} {es es1 : Array (Int × Value)} {ep : Nat} {t t2 : SetTable} {l1 : List Str} (ho : s.heap.get? a = some o) (ex : o.ExactSet) (hd : o.data = .set es ep t)
    (el : ElemsOf (PySem.strKind P w) es1.toList) (pm : (es1.toList.map txtOf).Perm l1) (nd : l1.Nodup) (few : es1.size < scanBound) (fit : t2.fits es1.size = true) (ri : Ris t2.place.toList) (le : w.params.followText "set-order" = true ∨ t2.led = true)
    {old : Bool} {R : Option Bool → Shared → Prop} (q : ∀ h', Heap.SameBut a s.heap h' → TSet P w h' a l1 → R (some true) { s with heap := h' }) :
    wpAny (model P w) A (do
        storeSet a es1 t2
        if (!old && t2.tooFull) = true then do
            g (relayAll t2 es1 (SetTable.grown es1.size)).2.2
            storeSet a (relayAll t2 es1 (SetTable.grown es1.size)).1 (relayAll t2 es1 (SetTable.grown es1.size)).2.1
            pure (some true)
          else pure (some true)) R E s := by
  have first := PpSet.storeB_at (es' := es1) (t' := t2) ho hd
  have same := Heap.SameBut.update s.heap a (Obj.putSet es1 t2)
  refine wpAny_bind (wpAny_storeSet_of ho hd ?_ (fits_of_scanBound few))
  split
  · have p3 := relayAll_perm t2 es1 (SetTable.grown es1.size)
    have f3 := relayAll_fits t2 es1 (SetTable.grown es1.size)
    have r3 := relayAll_ris t2 es1 (SetTable.grown es1.size)
    have l3 := relayAll_led t2 es1 (SetTable.grown es1.size)
    generalize relayAll t2 es1 (SetTable.grown es1.size) = Z at p3 f3 r3 l3 ⊢
    obtain ⟨es3, t3, gave⟩ := Z
    dsimp only at p3 f3 r3 l3 ⊢
    have n3 : es3.size = es1.size := by rw [← Array.length_toList, p3.length_eq, Array.length_toList]
    refine wpAny_bind (hg _ _ _ (wpAny_bind (wpAny_storeSet_of first rfl ?_ (fits_of_scanBound (by rw [n3]; exact few)))))
    refine wpAny_pure (q _ (same.trans (Heap.SameBut.update _ a _)) ⟨⟨_, es3, _, t3, PpSet.storeB_at first rfl, ex, rfl, fun e he => el e (p3.mem_iff.mp he), (p3.map txtOf).trans pm, by rw [n3]; exact few, f3, r3, le.imp id fun z => by rw [l3]; exact z⟩, nd⟩)
  · exact wpAny_pure (q _ same ⟨⟨_, es1, _, t2, first, ex, rfl, el, pm, few, fit, ri, le⟩, nd⟩)
set_option maxHeartbeats 400000 in
theorem tset_put {k : Str} {tk : Tok} {Q : Bool → Shared → Prop} (R : TSet P w s.heap a l) (room : l.length + 1 < scanBound)
    (q : ∀ h', Heap.SameBut a s.heap h' → TSet P w h' a (if k ∈ l then l else k :: l) → Q (!decide (k ∈ l)) { s with heap := h' }) :
    wpAny (model P w) A (setAddHashed a (.str k tk) ((PySem.strKind P w).hash k)) Q E s := by
  obtain ⟨⟨o, es, ep, t, ho, ex, hd, el, pm, few, fit, ri, le⟩, nd⟩ := R
  have key : (PySem.strKind P w).is k (.str k tk) = true := is_txt0 k tk
  have sc : (Value.str k tk).scannable = true := rfl
  have cnt : es.size = l.length := by
    have e := pm.length_eq
    rwa [List.length_map, Array.length_toList] at e
  unfold setAddHashed setAddHashedIn
  refine wpAny_holding (wpAny_bind (wpAny_setState_of ho hd fit ?_))
  dsimp only
  rw [byScan_of sc few el]
  simp only [↓reduceIte]
  unfold setAddByScan
  refine wpAny_bind (wpAny_bind (wpAny_rule (wpAny_bind (wpAny_setScan_of key ho hd fit el ?_))))
  cases fi : List.findIdx? (fun e => (PySem.strKind P w).is k e.2) es.toList with
  | some j =>
    dsimp only
    obtain ⟨hj, pj, _⟩ := List.findIdx?_eq_some_iff_getElem.mp fi
    have inl : k ∈ l := pm.mem_iff.mp ((mem_txt el k).mpr ⟨_, List.getElem_mem hj, pj⟩)
    refine wpAny_pure (wpAny_pure ?_)
    have z := q s.heap (Heap.SameBut.refl a s.heap) (by
      rw [if_pos inl]
      exact ⟨⟨o, es, ep, t, ho, ex, hd, el, pm, few, fit, ri, le⟩, nd⟩)
    rw [decide_eq_true inl] at z
    exact z
  | none =>
    dsimp only
    have out : k ∉ l := fun z => by
      obtain ⟨e, he, c⟩ := (mem_txt el k).mp (pm.mem_iff.mpr z)
      have c2 := List.findIdx?_eq_none_iff.mp fi e he
      rw [c] at c2
      cases c2
    have gave : ∀ (b : Bool) {s₁ : Shared} {Q' : Unit → Shared → Prop}, Q' () s₁ → wpAny (model P w) A (match b with | true => rule "set.scan.the-table-gave-way" | false => pure ()) Q' E s₁ := fun b s₁ Q' z => by
      cases b
      · exact wpAny_pure z
      · exact wpAny_rule z
    have p1 := layNew_perm t es ((PySem.strKind P w).hash k) (.str k tk)
    have f1 := layNew_fits t es ((PySem.strKind P w).hash k) (.str k tk)
    have r1 := layNew_ris t es ((PySem.strKind P w).hash k) (.str k tk) ri
    have l1 := layNew_led t es ((PySem.strKind P w).hash k) (.str k tk)
    generalize layNew t es ((PySem.strKind P w).hash k) (.str k tk) = Z at p1 f1 r1 l1 ⊢
    obtain ⟨es1, t1, old, way⟩ := Z
    dsimp only at p1 f1 r1 l1 ⊢
    rw [Array.toList_push] at p1
    have pc := p1.trans (List.perm_append_singleton _ _)
    have el1 : ElemsOf (PySem.strKind P w) es1.toList := fun e he => by
      rcases List.mem_cons.mp (pc.mem_iff.mp he) with z | z
      · rw [z]
        exact ⟨⟨k, key, rfl⟩, rfl⟩
      · exact el e z
    have pm1 : (es1.toList.map txtOf).Perm (k :: l) := (pc.map txtOf).trans (pm.cons k)
    have n1 : es1.size = l.length + 1 := by
      have e := pm1.length_eq
      rwa [List.length_map, Array.length_toList, List.length_cons] at e
    have few1 : es1.size < scanBound := by rw [n1]; exact room
    have le1 : w.params.followText "set-order" = true ∨ t1.led = true := le.imp id fun z => by rw [l1]; exact z
    have nd1 : (k :: l).Nodup := List.nodup_cons.mpr ⟨out, nd⟩
    have fin : ∀ h', Heap.SameBut a s.heap h' → TSet P w h' a (k :: l) → Q true { s with heap := h' } := fun h' sb r => by
      have z := q h' sb (by rw [if_neg out]; exact r)
      rw [decide_eq_false out] at z
      exact z
    refine wpAny_bind (gave _ ?_)
    split
    · refine wpAny_bind ?_
      rw [hashByValue_scannable 8 sc]
      refine wpAny_pure ?_
      refine tset_tail (fun b s₁ Q' z => by cases b <;> first | exact wpAny_pure z | exact wpAny_rule z) ho ex hd el1 pm1 nd1 few1 ?_ ?_ ?_ ?_
      · first | (split <;> first | exact f1 | exact SetTable.fits_plain_off f1) | exact f1
      · first | (split <;> exact r1) | exact r1
      · first | (split <;> exact le1) | exact le1
      · intro h' sb r
        dsimp only
        exact wpAny_pure (fin h' sb r)
    · refine wpAny_bind (wpAny_pure ?_)
      simp only [↓reduceIte]
      refine tset_tail (fun b s₁ Q' z => by cases b <;> first | exact wpAny_pure z | exact wpAny_rule z) ho ex hd el1 pm1 nd1 few1 f1 r1 le1 ?_
      intro h' sb r
      dsimp only
      exact wpAny_pure (fin h' sb r)
set_option maxHeartbeats 400000 in
/-- found.add(text) -/
theorem tset_add {k : Str} {tk : Tok} {Q : Value → Shared → Prop} (R : TSet P w s.heap a l) (room : l.length + 1 < scanBound)
    (q : ∀ h', Heap.SameBut a s.heap h' → TSet P w h' a (if k ∈ l then l else k :: l) → Q .none { s with heap := h', toks := s.toks + 1 }) : wpAny (model P w) A (call (.builtin "set.add") [.ref a, .str k tk]) Q E s := by
  have ty : s.TypeIs (.ref a) "set" := by
    obtain ⟨⟨o, es, ep, t, ho, ex, _⟩, _⟩ := R
    exact ⟨o, ho, ex.1⟩
  refine wpAny_call_entry F.slot_set_add ty F.entry_set_add ?_ (F.args_set_add_2 _ _)
  unfold Builtin.«set.add» Builtin.Frozenset.oneOther
  simp only [List.isEmpty_nil, bind_assoc]
  unfold Builtin.Frozenset.addrOf setAdd
  refine wpAny_bind (wpAny_pure ?_)
  try dsimp only
  refine wpAny_bind (wpAny_pure ?_)
  try dsimp only
  refine wpAny_bind (wpAny_holding (wpAny_bind ((PySem.strKind P w).pyHash (is_txt0 k tk) ?_)))
  refine tset_put (s := { s with toks := s.toks + 1 }) R room fun h' sb r => ?_
  exact wpAny_pure ⟨_, rfl, q h' sb r⟩
/-- an empty one -/
theorem tset_new {h : Heap} : TSet P w (h.push { cls := .type "set", dict := none, data := .set #[] 0 (.fresh 0 0 (!w.params.followText "set-order")) }) h.objs.size [] := by
  refine ⟨⟨_, #[], 0, _, Heap.get?_push_size _ rfl, ⟨rfl, rfl, rfl⟩, rfl, (fun e he => by simp at he), .refl _, by decide, by rfl, List.Pairwise.nil, ?_⟩, List.nodup_nil⟩
  show _ ∨ (!w.params.followText "set-order") = true
  cases w.params.followText "set-order"
  · exact .inr rfl
  · exact .inl rfl
def tx : Value → Str
  | .str k _ => k
  | _ => Str.empty
theorem strs_are : ∀ vs : List Value, (∀ v ∈ vs, ∃ k t, v = .str k t) → StrsAre vs (vs.map tx)
  | [], _ => .nil
  | v :: vs, h => by
    obtain ⟨k, t, e⟩ := h v List.mem_cons_self
    have r := strs_are vs fun u hu => h u (List.mem_cons_of_mem _ hu)
    subst e
    exact .cons k t r
set_option maxHeartbeats 400000 in
theorem tset_sorted {Q : Value → Shared → Prop} (R : TSet P w s.heap a l) (hh : A.handled = none) (few : l.length < 64)
    (q : ∀ (s' : Shared) (p : Addr) (out : Array Value) (c : Nat) (ys : List Str), (∀ b o, s.heap.get? b = some o → s'.heap.get? b = some o) → s'.gens = s.gens → s'.os = s.os → s.heap.objs.size ≤ p → s'.heap.get? p = some (seqObj "list" out c) → StrsAre out.toList ys → ys.Perm l → sortedS ys = true → Q (.ref p) s') :
    wpAny (model P w) A (call (.builtin "sorted") [.ref a]) Q E s := by
  obtain ⟨⟨o, es, ep, t, ho, ex, hd, el, pm, fw, fit, ri, le⟩, nd⟩ := R
  refine Calls.call_function_entry kind_sorted plain_sorted entry_sorted (args_sorted1 _) ?_
  unfold Builtin.«sorted»
  refine wpAny_bind (m := checkCount "sorted" 1 1 _) (wpAny_pure (wpAny_bind (collect_set (A := A.in1) hh ⟨o, ho, ex.1, hd⟩ fit fw ri le fun s1 vs k1 sz g1 o1 p1 => ?_)))
  have e1 : es.toList.map txtOf = (es.toList.map (·.2)).map tx := by rw [List.map_map]; rfl
  have p2 : (vs.map tx).Perm l := (p1.map tx).trans (e1 ▸ pm)
  have all : StrsAre vs (vs.map tx) := strs_are vs fun v hv => by
    obtain ⟨e, he, z⟩ := List.mem_map.mp (p1.mem_iff.mp hv)
    obtain ⟨⟨k, i1, _⟩, _⟩ := el e he
    obtain ⟨tk, i2⟩ := Value.isStrOf_shape i1
    exact ⟨k, tk, by rw [← z]; exact i2⟩
  have n1 : vs.length = l.length := by
    have z := p2.length_eq
    rwa [List.length_map] at z
  refine wpAny_bind (wpAny_newList ?_ (by rw [n1, sizeLine_eq]; omega))
  have hoL : (s1.heap.push (seqObj "list" vs.toArray 0)).get? s1.heap.objs.size = some (seqObj "list" vs.toArray 0) := Heap.get?_push_size _ rfl
  refine wpAny_bind (wpAny_holding (wpAny_call_entry PyProof.Rows.slot_list_sort ⟨_, hoL, rfl⟩ PyProof.Rows.entry_list_sort
    (list_sort_treeK strKind_oneLt hoL all.keysOf (fun v₁ v₂ rest e => keyKind_strs (by rw [← e]; exact all)) (by rw [n1]; exact few) fun st' hp hs => ?_) (PyProof.Rows.args_list_sort _)))
  obtain ⟨ys, y1, y2, y3⟩ := sorted_out_str all hp hs
  obtain ⟨c, hc⟩ := PyProof.Rows.sortedHeap_at (vs := vs) (out := (arrOf st').map (·.2)) hoL
  refine ⟨_, rfl, wpAny_pure ⟨_, rfl, q _ s1.heap.objs.size _ c ys (fun b u e => ?_) g1 o1 sz hc y1 (y2.trans p2) y3⟩⟩
  have z := k1 b u e
  have lt := Heap.lt_size z
  show (PyProof.Rows.sortedHeap (s1.heap.push (seqObj "list" vs.toArray 0)) s1.heap.objs.size vs _).get? b = some u
  rw [PyProof.Rows.sortedHeap_old (Nat.ne_of_lt lt) (by rw [size_push']; exact Nat.lt_succ_of_lt lt)]
  exact Heap.get?_push_of_some _ z
/-- a set of texts, tracked -/
def TSetO (P : Program) (w : World) (a : Addr) (l : List Str) : HO := .ext fun h => TSet P w h a l
theorem tsetO_ok {H : Hp} {h : Heap} (R : TSet P w h a l) : ObjOk P w H h a (TSetO P w a l) := ⟨R, R.there, fun _ _ z k => TSet.at z k⟩
end
section
variable {X : Cx}
theorem tset_get {pins : List (Addr × Obj)} {σ : L2.St} {H : Hp} {s : Shared} {a : Addr} {l : List Str} (I : Inv X pins σ H s) (ha : H a = some (TSetO X.prog X.w a l)) : TSet X.prog X.w s.heap a l := (I.hok a _ ha).1
def rSortedTS (P : Program) (w : World) : List V → Hp → VK → Prop := fun xs H Q => ∃ (a : Addr) (l : List Str), xs = [.ref a] ∧ H a = some (TSetO P w a l) ∧ l.length < 64 ∧
  ∀ (ys : List Str) (p : Addr), ys.Perm l → l.Nodup → sortedS ys = true → H p = none → Q (.ref p) (upd H p (.lst (ys.map V.str)))
set_option maxHeartbeats 400000 in
/-- sorted(a set of texts) -/
theorem cr_sortedTS (hc : X.calm = true) : CallR X (.builtin "sorted") (rSortedTS X.prog X.w) := by
  intro pins s σ H xs us Q I r h
  obtain ⟨a, l, rfl, ha, few, q⟩ := h
  have R := tset_get I ha
  rw [Vals.ref1 r]
  refine tset_sorted R (I.ok.hd hc) few fun s' p out c ys keep gens os hp hp2 st pm so => ?_
  have fr : H p = none := I.hok.fresh hp
  have ln : (ys.map V.str).length ≤ sizeLine := by rw [List.length_map, pm.length_eq, sizeLine_eq]; omega
  have J : Inv X pins σ (upd H p (.lst (ys.map V.str))) { s with heap := s'.heap, gens := s'.gens, drawn := s'.drawn, toks := s'.toks } :=
    I.call (ch := []) (Un.laid keep hp fr) (I.hok.laid keep hp ⟨ln, out.toList, c, vals_of_strs st, hp2⟩) (by rw [gens]; exact I.bare) (fun _ z => nomatch z)
  have e : s' = { s with heap := s'.heap, gens := s'.gens, drawn := s'.drawn, toks := s'.toks } := by
    cases s'
    cases s
    cases os
    rfl
  rw [e]
  exact ⟨.ref p, _, J, rfl, q ys p pm R.nd so fr⟩
end
end My

/-! ## set(xs) of texts, however many; len of it -/
namespace My
open PySem PySem.Spec PyProof.Rows L2
section
variable {P : Program} {w : World} {A : Around} {s : Shared}
/-- the loop of set.update over texts: l the members so far -/
theorem texts_loop {R : Result → Shared → Prop} {I S : Addr} {fp wr : List Addr} {G : Array GenState → Array GenState → Prop} {n : Nat} {Pv : Nat → Value → Prop} {St : Nat → Shared → Prop} {xs : List Str} (W : WalksS P w A.in1 I fp wr G n Pv St) (out : S ∉ fp) (ln : xs.length = n) (few : n ≤ 1000)
    (are : ∀ i v, Pv i v → ∃ k t, xs[i]? = some k ∧ v = .str k t) : ∀ (m i : Nat) (s : Shared) (l : List Str), m + i = n → St i s → TSet P w s.heap S l → l.length ≤ i → (∀ y, y ∈ l ↔ y ∈ xs.take i) →
      (∀ (s' : Shared) (l' : List Str), Moved (S :: wr) G s s' → TSet P w s'.heap S l' → l'.length ≤ n → (∀ y, y ∈ l' ↔ y ∈ xs) → R (.ok (.ret .none)) s') →
      codeAny (model P w) A (.builtin "set.update.loop" ⟨[.ref S, .ref I], []⟩) R s := by
  have outw : S ∉ wr := fun z => out (W.sub _ z)
  have into : ∀ b ∈ wr, b ∈ S :: wr := fun b hb => List.mem_cons_of_mem _ hb
  intro m
  induction m with
  | zero =>
    intro i s l e st R0 few_ mem q
    obtain rfl : i = n := by omega
    refine codeAny_builtin PyProof.Rows.F.entry_set_update_loop ?_
    rw [Around.under_plainId PyProof.Rows.F.plain_set_update_loop _]
    refine wpAny_bind (m := pyNext (.ref I)) (W.done s _ _ st fun s1 mv => ?_)
    refine wpAny_pure (q s1 l (mv.mono into) (R0.at fun o e => mv.heap S o outw e) few_ fun y => ?_)
    rw [mem, List.take_of_length_le (Nat.le_of_eq ln)]
  | succ m ih =>
    intro i s l e st R0 few_ mem q
    have lt : i < n := by omega
    refine codeAny_builtin PyProof.Rows.F.entry_set_update_loop ?_
    rw [Around.under_plainId PyProof.Rows.F.plain_set_update_loop _]
    refine wpAny_bind (m := pyNext (.ref I)) (W.item i s _ _ lt st fun v s1 hv st1 mv => ?_)
    obtain ⟨k, t, hk, rfl⟩ := are i v hv
    have R1 : TSet P w s1.heap S l := R0.at fun o e => mv.heap S o outw e
    refine wpAny_bind (m := holding [Value.str k t] (setAdd S (.str k t))) (wpAny_holding ?_)
    unfold setAdd
    refine wpAny_holding (wpAny_bind ((PySem.strKind P w).pyHash (is_txt0 k t) ?_))
    refine tset_put (s := { s1 with toks := s1.toks + 1 }) R1 (by show l.length + 1 < 4096; omega) fun h2 sb R2 => ?_
    have apart : ∀ b, b ∈ fp → b ≠ S := fun b hb z => out (z ▸ hb)
    refine wpAny_pure ⟨plainId_quiet PyProof.Rows.F.plain_set_update_loop _, ih (i + 1) _ _ (by omega) (W.frame _ s1 _ _ st1 (Nat.le_succ _) fun b hb o e => (sb.2 b (apart b hb)).trans e) R2 ?_ ?_ fun s3 l3 mv3 => q s3 l3 (Moved.trans W.gtrans ((mv.mono into).then_heap (Nat.le_succ _) fun b o nb e => (sb.2 b fun z => nb (z ▸ List.mem_cons_self)).trans e) mv3)⟩
    · split
      · omega
      · simp only [List.length_cons]
        omega
    · intro y
      have tk : y ∈ xs.take (i + 1) ↔ y ∈ xs.take i ∨ y = k := by
        rw [List.take_add_one, hk, List.mem_append]
        simp
      rw [tk, ← mem]
      split
      · rename_i inl
        exact ⟨.inl, fun z => z.elim id fun e => e ▸ inl⟩
      · rw [List.mem_cons]
        exact Or.comm
/-- the empty set as it is made; an iterator over what stands at l -/
abbrev eSet (w : World) : Obj := { cls := .type "set", dict := none, data := .set #[] 0 (.fresh 0 0 (!w.params.followText "set-order")) }
abbrev eIter (T : String) (l : Addr) : Obj := { cls := .type T, data := .fields #[.ref l, .int 0 0] }
/-- what is asked of a list or a tuple at l -/
structure Seqs (P : Program) (w : World) (h : Heap) (l : Addr) (T it : String) (items : Array Value) : Prop where
  ob : ∃ (d : Option Addr) (n : Nat) (sl : Array (Option Value)), h.get? l = some { cls := .type T, dict := d, data := .seq items n, slots := sl }
  n1 : isSubtype (.type T) (.type "set") = pure false
  n2 : isSubtype (.type T) (.type "frozenset") = pure false
  n3 : (Value.type T == Value.type "dict") = false
  start : ∀ (A' : Around) (s1 : Shared) (Q : Value → Shared → Prop) (E : Value → Shared → Prop), (∃ (d : Option Addr) (n : Nat) (sl : Array (Option Value)), s1.heap.get? l = some { cls := .type T, dict := d, data := .seq items n, slots := sl }) →
    Q (.ref s1.heap.objs.size) { s1 with heap := s1.heap.push (eIter it l) } → wpAny (model P w) A' (pyIter (.ref l)) Q E s1
  walk : ∀ (A' : Around) (I : Addr), A'.handled = none → l ≠ I → ∃ St : Nat → Heap → Prop, Walks P w A' I [I, l] [I] items.size (fun i v => items[i]? = some v) St ∧
    ∀ h2 : Heap, h2.get? I = some (eIter it l) → (∃ (d : Option Addr) (n : Nat) (sl : Array (Option Value)), h2.get? l = some { cls := .type T, dict := d, data := .seq items n, slots := sl }) → St 0 h2
set_option maxHeartbeats 3200000 in
theorem set_of {l : Addr} {T it : String} {items : Array Value} {xs : List Str} {Q : Value → Shared → Prop} {E : Value → Shared → Prop} (hh : A.handled = none) (sq : Seqs P w s.heap l T it items) (hi : StrsAre items.toList xs) (few : xs.length ≤ 1000)
    (q : ∀ (h' : Heap) (tk : Nat) (m : List Str), TSet P w h' s.heap.objs.size m → m.length ≤ xs.length → (∀ y, y ∈ m ↔ y ∈ xs) → (∀ b o, s.heap.get? b = some o → h'.get? b = some o) → Q (.ref s.heap.objs.size) { s with heap := h', toks := tk }) :
    wpAny (model P w) A (call (.type "set") [.ref l]) Q E s := by
  obtain ⟨⟨od, nl, osl, hol⟩, hs1, hs2, hs3, start, walk⟩ := sq
  have size : items.size = xs.length := by rw [← Array.length_toList]; exact StrsAre.len_eq hi
  obtain ⟨c, tl, hmro⟩ := PySem.F.called_set.mro
  have made := PySem.F.called_set.made
  have subs := PySem.F.called_set.sub
  refine wpAny_call (codeAny_of_tree ?_)
  show wpAny _ _ (callAny (.type "set") ⟨[.ref l], []⟩) _ _ _
  refine wpAny_pure ⟨Code.quiet_builtin _ (by decide +kernel), codeAny_builtin PySem.F.entry_type_call ?_⟩
  rw [Around.under_plain (weight_type_call_type "set" [.ref l] []) rfl]
  have a1 := PySem.F.called_set.notType
  have a2 := PySem.F.called_set.canCreate
  have a3 := PySem.F.typeCall_set_1 (.ref l)
  repeat (any_goals (first | assumption | wp_step))
  let Done : Value → Shared → Prop := fun r s2 => r = .none ∧ ∃ (h' : Heap) (tk : Nat) (m : List Str), s2 = { s with heap := h', toks := tk } ∧ TSet P w h' s.heap.objs.size m ∧ m.length ≤ xs.length ∧ (∀ y, y ∈ m ↔ y ∈ xs) ∧ ∀ b o, s.heap.get? b = some o → h'.get? b = some o
  refine codeAny_mono (code_set_led1 (.ref l) (E := E) (Q₁ := fun obj s1 => obj = .ref s.heap.objs.size ∧ s1 = { s with heap := s.heap.push (eSet w) }) ⟨rfl, rfl⟩) fun r s1 hr => ?_
  match r, hr with
  | .error e, hr => exact hr
  | .ok .next, hr => exact False.elim hr
  | .ok .brk, hr => exact False.elim hr
  | .ok .cont, hr => exact False.elim hr
  | .ok (.ret obj), hr =>
    obtain ⟨rfl, rfl⟩ := hr
    have atS : (s.heap.push (eSet w)).get? s.heap.objs.size = some (eSet w) := Heap.get?_push_size _ rfl
    have tyS : Shared.TypeIs { s with heap := s.heap.push (eSet w) } (.ref s.heap.objs.size) "set" := ⟨_, atS, rfl⟩
    have b1 := PySem.F.called_set.init.lookup
    have b2 := PySem.F.called_set.init.bind (.ref s.heap.objs.size)
    repeat (any_goals (first | assumption | wp_step))
    refine codeAny_mono (codeAny_call_builtin (R := wants Done E) PySem.F.called_set.init.plain PySem.F.entry_set_init (check_set_init_1 tyS ?_)) fun r2 s2 hr2 => ?_
    · have hol' : (s.heap.push (eSet w)).get? l = some { cls := .type T, dict := od, data := .seq items nl, slots := osl } := Heap.get?_push_of_some _ hol
      unfold Builtin.«set.__init__» noKeywords Builtin.Frozenset.updateFrom
      generalize iters : pyIter = PI
      wp_walk
      subst iters
      refine start _ _ _ _ ⟨_, _, _, hol'⟩ ?_
      refine wpAny_bind (wpAny_runValue ?_)
      have lS : l < s.heap.objs.size := Heap.lt_size hol
      have sz1 : (s.heap.push (eSet w)).objs.size = s.heap.objs.size + 1 := Heap.size_push ..
      have lI : l ≠ (s.heap.push (eSet w)).objs.size := by rw [sz1]; exact Nat.ne_of_lt (Nat.lt_succ_of_lt lS)
      have free : s.heap.objs.size ∉ [(s.heap.push (eSet w)).objs.size, l] := by
        rw [sz1]
        intro z
        rcases List.mem_cons.mp z with z | z
        · exact Nat.ne_of_lt (Nat.lt_succ_self _) z
        · exact Nat.ne_of_gt lS (List.mem_singleton.mp z)
      obtain ⟨St, W, st0⟩ := walk A.in1.in1.in1 (s.heap.push (eSet w)).objs.size (by simp [hh]) lI
      have are : ∀ (i : Nat) (v : Value), items[i]? = some v → ∃ k t, xs[i]? = some k ∧ v = .str k t := fun i v hv => by
        obtain ⟨t, e⟩ := SS.strs_at hi i v (by rw [Array.getElem?_toList]; exact hv)
        have il : i < xs.length := by rw [← size]; exact (Array.getElem?_eq_some_iff.mp hv).1
        refine ⟨xs[i], t, List.getElem?_eq_getElem il, ?_⟩
        rw [e, List.getD_eq_getElem?_getD, List.getElem?_eq_getElem il]
        rfl
      have hol2 : ((s.heap.push (eSet w)).push (eIter it l)).get? l = some { cls := .type T, dict := od, data := .seq items nl, slots := osl } := Heap.get?_push_of_some _ hol'
      refine texts_loop W.toS free size.symm (by omega) are items.size 0 _ [] (by omega) (st0 _ (Heap.get?_push_size _ rfl) ⟨_, _, _, hol2⟩) ((tset_new (h := s.heap)).at fun o e => Heap.get?_push_of_some _ e) (Nat.le_refl _) (fun y => by simp) ?_
      rintro ⟨h', g', d', tk', os'⟩ m mv R few' mem
      obtain rfl : g' = s.gens := mv.gens
      obtain rfl : d' = s.drawn := mv.drawn
      obtain rfl : os' = s.os := mv.os
      refine wpAny_pure (wpAny_pure ⟨rfl, h', tk', m, rfl, R, by omega, mem, fun b o e => ?_⟩)
      have bs := Heap.lt_size e
      refine mv.heap b o (fun z => ?_) (Heap.get?_push_of_some _ (Heap.get?_push_of_some _ e))
      rcases List.mem_cons.mp z with z | z
      · exact Nat.ne_of_lt bs z
      · rw [List.mem_singleton.mp z, sz1] at bs
        exact absurd bs (Nat.not_lt.mpr (Nat.le_succ _))
    · match r2, hr2 with
      | .error e, hr2 => exact hr2
      | .ok .next, hr2 => exact False.elim hr2
      | .ok .brk, hr2 => exact False.elim hr2
      | .ok .cont, hr2 => exact False.elim hr2
      | .ok (.ret r3), hr2 =>
        obtain ⟨rfl, h', tk, m, rfl, R, few', mem, keep⟩ := hr2
        repeat (any_goals (first | assumption | wp_step))
        exact q h' tk m R few' mem keep
end
end My

/-! ## What is a sequence: any values -/
namespace My
open PySem PySem.Spec PyProof.Rows L2
abbrev s_is_sequence : Stmt := top 4
abbrev N_is_sequence : List Str := ["value"]
abbrev P_is_sequence : List Str := ["value"]
theorem sc_is_sequence : FnScope N_is_sequence P_is_sequence (defScope s_is_sequence) := ⟨rfl, rfl, rfl, by decide +kernel, rfl, by decide +kernel, by decide +kernel⟩
structure TxSeq0 (w : World) (K : PySem.W.Frag) (mg : Str → Option Value) extends TxCheck w K mg where
  z_list : mg "list" = none
  z_tuple : mg "tuple" = none
  f_is_sequence : Addr
  d_is_sequence : FuncData
  F_is_sequence : Fun K "is_sequence" "is_sequence" s_is_sequence f_is_sequence d_is_sequence
  m_is_sequence : mg "is_sequence" = some (.ref f_is_sequence)
  b_is_sequence : Binds K d_is_sequence P_is_sequence []
/-- what isinstance(v, (list, tuple)) answers -/
def SeqV (K : PySem.W.Frag) (H : Hp) (v : V) (b : Bool) : Prop := ∃ t, TyX K H v t ∧ PySem.W.kitAny K t [.type "list", .type "tuple"] = some b
def spIsSeq (K : PySem.W.Frag) : Sp := fun vs H Q _ => ∃ (v : V) (b : Bool), vs = [v] ∧ SeqV K H v b ∧ ∀ H', Same H H' → Q (.bl b) H'
theorem tyx_keep {K : PySem.W.Frag} {H H' : Hp} (e : Same H H') {v : V} {t : Value} (h : TyX K H v t) : TyX K H' v t := by
  cases h with
  | base b =>
    cases b with
    | non => exact .base .non
    | bl x => exact .base (.bl x)
    | int i => exact .base (.int i)
    | str x => exact .base (.str x)
    | flt x => exact .base (.flt x)
    | lst h => exact .base (.lst (e _ _ h))
    | frz h => exact .base (.frz (e _ _ h))
    | tup h => exact .base (.tup (e _ _ h))
    | dK h => exact .base (.dK (e _ _ h))
    | dT h => exact .base (.dT (e _ _ h))
    | ins h c1 c2 c3 c4 c5 => exact .base (.ins (e _ _ h) c1 c2 c3 c4 c5)
  | byt b => exact .byt b
  | set h => exact .set (e _ _ h)
  | kList h c => exact .kList h c
  | kTuple h c => exact .kTuple h c
  | kDict h c => exact .kDict h c
  | fTuple h => exact .fTuple (e _ _ h)
  | fDict h => exact .fDict (e _ _ h)
theorem AnyV.same {K : PySem.W.Frag} {H H' : Hp} {v : V} (h : AnyV K H v) (e : Same H H') : AnyV K H' v := by
  cases h with
  | str x hx => exact .str x hx
  | oth n ty k => exact .oth n (tyx_keep e ty) k
theorem SeqV.same {K : PySem.W.Frag} {H H' : Hp} {v : V} {b : Bool} (h : SeqV K H v b) (e : Same H H') : SeqV K H' v b := by
  obtain ⟨t, ty, k⟩ := h
  exact ⟨t, tyx_keep e ty, k⟩
theorem kit_lt {K : PySem.W.Frag} : PySem.W.kitAny K (.type "list") [.type "list", .type "tuple"] = some true := kitAny_cons (b := true) (kit_ty (show kitB "list" "list" = some true by decide +kernel)) (fun z => nomatch z) (fun _ => rfl)
theorem kit_tt {K : PySem.W.Frag} : PySem.W.kitAny K (.type "tuple") [.type "list", .type "tuple"] = some true :=
  kitAny_cons (b := false) (kit_ty (show kitB "tuple" "list" = some false by decide +kernel)) (fun _ => kitAny_cons (b := true) (kit_ty (show kitB "tuple" "tuple" = some true by decide +kernel)) (fun z => nomatch z) (fun _ => rfl)) (fun z => nomatch z)
theorem SqA.seqV {K : PySem.W.Frag} {H : Hp} {a : Addr} {xs : List V} (h : SqA K H a xs) : SeqV K H (.ref a) true := by
  rcases h with h | h
  · exact ⟨_, tyL h, kit_lt⟩
  · exact ⟨_, tyT h, kit_tt⟩
/-- all but what stands at p stays -/
def Kp (p : Addr) (H H' : Hp) : Prop := ∀ b u, b ≠ p → H b = some u → H' b = some u
theorem Kp.refl {p : Addr} {H : Hp} : Kp p H H := fun _ _ _ e => e
theorem Kp.same {p : Addr} {H H1 H2 : Hp} (k : Kp p H H1) (e : Same H1 H2) : Kp p H H2 := fun b u n z => e _ _ (k b u n z)
theorem Kp.put {p : Addr} {H H1 : Hp} (k : Kp p H H1) (o : HO) : Kp p H (upd H1 p o) := fun b u n z => by rw [upd_ne n]; exact k b u n z
theorem Kp.trans {p : Addr} {H H1 H2 : Hp} (x : Kp p H H1) (y : Kp p H1 H2) : Kp p H H2 := fun b u n z => y b u n (x b u n z)
theorem ins_ne {p b : Addr} {H : Hp} {C dx : Addr} {fs : List (Str × V)} {o : HO} (hp : H p = some (.ins C dx fs)) (hb : H b = some o) (n : ∀ C dx fs, o ≠ .ins C dx fs) : b ≠ p := fun e => by
  rw [e, hp] at hb
  exact n _ _ _ (Option.some.inj hb).symm
theorem SqA.kp {K : PySem.W.Frag} {p a : Addr} {H H' : Hp} {C dx : Addr} {fs : List (Str × V)} {xs : List V} (h : SqA K H a xs) (hp : H p = some (.ins C dx fs)) (k : Kp p H H') : SqA K H' a xs := by
  rcases h with ((h | ⟨o, h⟩) | h) | ((h | ⟨o, h⟩) | h)
  · exact .inl (.inl (.inl (k _ _ (ins_ne hp h (fun _ _ _ z => by cases z)) h)))
  · exact .inl (.inl (.inr ⟨o, k _ _ (ins_ne hp h (fun _ _ _ z => by cases z)) h⟩))
  · exact .inl (.inr h)
  · exact .inr (.inl (.inl (k _ _ (ins_ne hp h (fun _ _ _ z => by cases z)) h)))
  · exact .inr (.inl (.inr ⟨o, k _ _ (ins_ne hp h (fun _ _ _ z => by cases z)) h⟩))
  · exact .inr (.inr h)
theorem sqT_kp {K : PySem.W.Frag} {p a : Addr} {H H' : Hp} {C dx : Addr} {fs : List (Str × V)} {xs : List V} (h : SqT K H a xs) (hp : H p = some (.ins C dx fs)) (k : Kp p H H') : SqT K H' a xs := by
  rcases h with (h | ⟨o, h⟩) | h
  · exact .inl (.inl (k _ _ (ins_ne hp h (fun _ _ _ z => by cases z)) h))
  · exact .inl (.inr ⟨o, k _ _ (ins_ne hp h (fun _ _ _ z => by cases z)) h⟩)
  · exact .inr h
theorem tuple_of {K : PySem.W.Frag} {H : Hp} {a : Addr} {xs : List V} {Q : VK} (h : SqA K H a xs) (q : ∀ t H', Same H H' → SqT K H' t xs → Q (.ref t) H') : rTupO K [.ref a] H Q := by
  rcases h with h | h
  · exact ⟨a, xs, rfl, .inl ⟨h, fun l hl => q l _ (same_upd hl _) (SqT.of upd_same)⟩⟩
  · exact ⟨a, xs, rfl, .inr ⟨h, q a H (Same.refl H) h⟩⟩
section
variable {P : Program} {w : World} {K : PySem.W.Frag} {mg : Str → Option Value} {base : Heap}
theorem ok_is_sequence (T : TxSeq0 w K mg) : FnOk P w K mg base CX0 1 T.f_is_sequence T.d_is_sequence P_is_sequence (spIsSeq K) := by
  refine T.F_is_sequence.ok sc_is_sequence (fun vs H Q E h => ?_) (fun cdv A outer s H vs Q E hr h => ?_)
  · obtain ⟨v, b, rfl, _⟩ := h
    rfl
  obtain ⟨v, b, rfl, hS, q⟩ := h
  refine ⟨_, (pss_one (ps_ret (pe_callB (call_isiTV K) (by rfl) T.z_isinstance (by decide +kernel) (pa_cons (pv 0) (pa_cons (pe_tup (pa_cons (pe_bltn (v := .ty "list") (by rfl) T.z_list (by decide +kernel) rfl) (pa_cons (pe_bltn (v := .ty "tuple") (by rfl) T.z_tuple (by decide +kernel) rfl) pa_nil))) pa_nil))))), ?_⟩
  refine ⟨_, rfl, by show 2 ≤ sizeLine; decide, fun tp htp => ?_⟩
  have y := same_upd htp (.tup [.ty "list", .ty "tuple"])
  obtain ⟨t, ty, k⟩ := hS.same y
  exact ⟨v, tp, _, t, _, b, rfl, upd_same, .cons (.ty _) (.cons (.ty _) .nil), ty, k, q _ y⟩
end
end My

/-! ## isinstance of a caught error that has a dict of its own -/
namespace PySem.W
open PySem PySem.Spec PySem.Calls PyProof.Rows
section
variable {prog : Program} {w : World} {A : Around} {E : Value → Shared → Prop} {s : Shared} {K : Frag} {x D : Addr} {ox dd : Obj}
theorem my_classD {Q : Option Value → Shared → Prop} (c1 : findIn K (.ref D) "__getattribute__" = some (some (.builtin "BaseException.__getattribute__"))) (c2 : findIn K (.ref D) "__getattr__" = some none)
    (c3 : subIn K (.ref D) (.type "BaseException") = some true) (c4 : hasDictIn K D = true) (c5 : findIn K (.ref D) "__class__" = some (some (.builtin "object.__class__")))
    (c6 : specialIn K (.builtin "object.__class__") "__get__" = some (some (.builtin "getset_descriptor.__get__"))) (c7 : takesIn K (.builtin "object.__class__") = some true) (c8 : mroIn K D (.type "object") = some true)
    (Y : K.In s.heap) (J : InstAt s.heap x ox D (some dd)) (q : Q (some (.ref D)) { s with toks := s.toks + 1 }) : wpAny (model prog w) A (getAttr? (.ref x) "__class__") Q E s := by
  have fo : findObj K D (some dd) "__class__" = some (.bind (.builtin "getset_descriptor.__get__") (.builtin "object.__class__")) := findObj_data (by obtain ⟨cd, e, _⟩ := any_some c4; rw [e]; rfl) c5 c6 c7
  obtain ⟨hh, gg, dr, tt, oo⟩ := s
  have M0 := J.type (M := model prog w); have M1 := looks_findIn (M := model prog w) Y c1; have M2 := looks_findIn (M := model prog w) Y c2; have M3 := looks_find (M := model prog w) Y J fo
  have isb : Looks (model prog w) hh (isInstance (.ref x) (.type "BaseException")) true := M0.andThen (looks_subIn Y c3)
  have n2 : (Value.builtin "BaseException.__getattribute__" == Value.builtin "object.__getattribute__") = false := by decide +kernel
  have n1 : (onTheHeap (Value.ref D) && Value.builtin "BaseException.__getattribute__" == Value.builtin "object.__getattribute__") = false := by rw [n2]; rfl
  unfold getAttr? getAttrBy? getAttrBy; refine wpAny_bind (wpAny_mkText (wpAny_bind (wpAny_attempt (wpAny_holding (wpAny_bind (M0.at (wpAny_bind (M1.at ?_))))))))
  show wpAny _ _ (if (onTheHeap (Value.ref D) && Value.builtin "BaseException.__getattribute__" == Value.builtin "object.__getattribute__") = true then _ else _) _ _ _; rw [n1, if_neg Bool.false_ne_true]
  unfold getAttrByItsOwn hookBefore; refine wpAny_bind ?_; rw [if_pos (show onTheHeap (Value.ref D) = true from rfl)]; refine M2.at ?_
  refine wpAny_bind (wpAny_attempt (wpAny_holding ?_)); unfold callGetattribute; rw [show (false && onTheHeap (Value.builtin "BaseException.__getattribute__")) = false from rfl, if_neg Bool.false_ne_true]
  unfold boundAndCalled; rw [PySem.F.excAttr_ValueError.ga.bind (.ref x)]; refine wpAny_bind (wpAny_pure ?_)
  show wpAny _ _ (call (.builtin "BaseException.__getattribute__") [.ref x, .str "__class__" tt]) _ _ _
  refine wpAny_call (codeAny_call_builtin PySem.F.excAttr_ValueError.ga.plain PySem.F.entry_bexc_ga (@check_slot (model prog w) _ _ ⟨hh, gg, dr, tt + 1, oo⟩ "BaseException.__getattribute__" "BaseException" "__getattribute__" (.ref x) [.str "__class__" tt] [] _ (by decide +kernel) (by decide +kernel) isb (PySem.F.args_bexc_ga (.ref x) (.str "__class__" tt)) ?_))
  unfold Builtin.«object.__getattribute__»; refine wpAny_bind (wpAny_of_eq (a := ((Value.ref x : Value), [Value.str "__class__" tt])) (by first | rfl | (simp only [slotArgs]; rfl)) (wpAny_bind (wpAny_pure (wpAny_bind (M0.at (wpAny_bind (M3.at ?_)))))))
  show wpAny _ _ (holding [Value.builtin "object.__class__"] (call (.builtin "getset_descriptor.__get__") [.builtin "object.__class__", .ref x, .ref D]) >>= ret) _ _ _
  refine wpAny_bind (wpAny_holding (wpAny_call (class_get (s := ⟨hh, gg, dr, tt + 1, oo⟩) (ox := ox) (od := some dd) Y J c8 (wpAny_pure ?_))))
  show wpAny _ _ (handedOut (.ref D)) _ _ _; rw [handedOut_of (v := .ref D) rfl]
  first | exact wpAny_pure (wpAny_pure q) | exact wpAny_pure q | exact wpAny_pure (wpAny_bind (wpAny_pure (wpAny_pure q)))
theorem my_kitD (c1 : findIn K (.ref D) "__getattribute__" = some (some (.builtin "BaseException.__getattribute__"))) (c2 : findIn K (.ref D) "__getattr__" = some none)
    (c3 : subIn K (.ref D) (.type "BaseException") = some true) (c4 : hasDictIn K D = true) (c5 : findIn K (.ref D) "__class__" = some (some (.builtin "object.__class__")))
    (c6 : specialIn K (.builtin "object.__class__") "__get__" = some (some (.builtin "getset_descriptor.__get__"))) (c7 : takesIn K (.builtin "object.__class__") = some true) (c8 : mroIn K D (.type "object") = some true) :
    KitX K (.ref x) (.ref D) (fun h => InstAt h x ox D (some dd)) where
  ty := fun _ _ _ J => J.type
  it := fun _ _ Y _ => by
    obtain ⟨cd, e, _⟩ := any_some c4; unfold clsIn at e
    split at e
    · rename_i a1 a2 a3 a4 e2
      intro A2 Q2 E2 s2 k q; unfold isType loadHead; exact wpAny_bind (wpAny_loadPart (k _ _ (Y _ _ e2)) (wpAny_pure q))
    · cases e
  ne := (handS_kitx_exc (x := x) (ox := ox) c1 c2 c3 c4 c5 c6 c7 c8).ne
  ca := fun Y J k => my_classD c1 c2 c3 c4 c5 c6 c7 c8 Y J k
end
end PySem.W
namespace My
open PySem L2
/-- isinstance(e, c), e the error that the suite holds, with its own dict -/
def rIsD (K : PySem.W.Frag) (a : Addr) (cls : Value) (d : Option Addr) : List V → Hp → VK → Prop := fun xs H Q => ∃ (D dd : Addr) (fs : List (Str × V)) (c : V) (cv : Value) (b : Bool), xs = [.ref a, c] ∧ cls = .ref D ∧ d = some dd ∧ H dd = some (.xd fs) ∧ ExcC K D ∧ (∀ u, RelV c u → u = cv) ∧
  PySem.W.kitOne K (.ref D) cv = some b ∧ Q (.bl b) H
theorem call_isD {X : Cx} {a : Addr} {cls : Value} {d : Option Addr} {oe : Obj} {pn : List (Addr × Obj)} (hz : Zc cls d oe) (hf : ∃ vs, oe.data = .fields vs) : CallR (X.suite a ((a, oe) :: pn)) (.builtin "isinstance") (rIsD X.K a cls d) := by
  intro pins s σ H xs us Q I r h
  obtain ⟨D, dd, fs, c, cv, b, rfl, e1, e2, hd, C, hcv, e, q⟩ := h
  subst e1 e2
  cases r with
  | cons rx rr =>
  cases rr with
  | cons rt rr =>
  cases rr
  cases rx
  have ec := hcv _ rt
  subst ec
  obtain ⟨hget, _⟩ := I.pin (a, oe) (List.mem_append_left _ List.mem_cons_self)
  obtain ⟨mA, hns, hr⟩ := I.hok dd _ hd
  obtain ⟨od, ho, hl⟩ := lookIn_ns hns
  obtain ⟨vs, hv⟩ := hf
  have J : PySem.W.InstAt s.heap a oe D (some od) := ⟨hget, hz.1, by unfold PySem.W.notCls; rw [hv] <;> rfl, by rw [hz.2]; exact ho⟩
  exact PySem.W.kia_one (PySem.W.my_kitD C.hg C.hk C.hs C.hd C.ha C.hn C.ht C.hm) I.kIn J e (fun z => nomatch z) fun tk => ⟨.bl b, H, I.tok tk, rfl, q⟩
end My

/-! ## Errors over any built-in error that keep what they were made with -/
namespace PySem.MyX
open PySem PySem.W PySem.Calls PyProof.Rows PySem.HandSPX Builtin.ObjectAttr
section
variable {M : Model} {prog : Program} {w : World} {A : Around} {E : Value → Shared → Prop} {R : Result → Shared → Prop} {h : Heap} {g : Array GenState} {d : Drawn} {t : Nat} {os : OsState}
variable {nm q : Str} {C N : Addr} {bs bm bmB : List Value} {hdct : Bool} {sn : List Str} {sub : List Value} {ab : Bool} {col : Option Bool} {dd : Option Addr} {k0 k1 k2 k3 k5 : Option Value} {B nid iid : String}
/-- the built-in B makes an instance of an own class that has B among its bases, however far off: its call is let through -/
theorem let_make (F : ExcBaseFacts B nid iid bmB) (cB : bm.contains (.type B) = true) {args : List Value} {Q : Unit → Shared → Prop}
    (c : h.get? C = some (excClassObj nm q C N bs bm hdct sn sub ab col dd k0 k1 k2 k3 k5 nid)) (done : Q () ⟨h, g, d, t, os⟩) : wpAny M A (checkBuiltinCall nid ⟨.ref C :: args, []⟩) Q E ⟨h, g, d, t, os⟩ := by
  have has : (Value.ref C :: bm).contains (.type B) = true := by rw [List.contains_cons, cB, Bool.or_true]
  have far := F.noStar; simp only [checkBuiltinCall, F.newKind, F.newSplit, F.newRow]
  repeat (first | refine wpAny_loadPart_at c ?_ | (refine wpAny_isSubtype_exc c ?_; rw [has]) | refine wpAny_staticBase_exc c ?_ | refine wpAny_madeBy_exc c ?_ | simp only [bne_self_eq_false, Bool.false_eq_true, if_false] | wp_step)
  exact done
/-- the instance and its arguments are laid -/
theorem laid_make (F : ExcBaseFacts B nid iid bmB) (cB : bm.contains (.type B) = true) (nA : bm.contains (.type "AttributeError") = false) (nN : bm.contains (.type "NameError") = false) {args : List Value}
    (c : h.get? C = some (excClassObj nm q C N bs bm hdct sn sub ab col dd k0 k1 k2 k3 k5 nid)) (len : args.length ≤ sizeLine)
    (done : R (.ok (.ret (.ref (h.objs.size + 1)))) ⟨(h.push (W.kdv_tup args)).push (excO C h.objs.size), g, d, t, os⟩) : codeAny (model prog w) A (.builtin nid ⟨.ref C :: args, []⟩) R ⟨h, g, d, t, os⟩ := by
  have far := F.ends
  have has : (Value.ref C :: bm).contains (.type B) = true := by rw [List.contains_cons, cB, Bool.or_true]
  have noA : (Value.ref C :: bm).contains (.type "AttributeError") = false := by rw [List.contains_cons, nA]; rfl
  have noN : (Value.ref C :: bm).contains (.type "NameError") = false := by rw [List.contains_cons, nN]; rfl
  refine codeAny_builtinAt F.entry ?_; unfold Builtin.«BaseException.__new__»; refine wpAt_bind ?_
  show wpAt _ _ _ (stack >>= _) _ _ _; refine wpAt_bind (wpAt_stack fun p below => wpAt_of_wpAny ?_)
  wp_walk; refine wpAt_of_wpAny ?_; rw [F.owner]
  repeat (first | with_reducible refine wpAny_madeHere_exc F.canon c ?_ | with_reducible refine wpAny_loadPart_at c ?_ | (with_reducible refine wpAny_isSubtype_exc c ?_; first | rw [has] | rw [noA] | rw [noN]) | wp_step)
  show R _ _; rw [Heap.size_push]; exact done
/-- C(..) for such a class: the instance is laid, then its own __init__ runs -/
theorem made_then (F : ExcBaseFacts B nid iid bmB) (cB : bm.contains (.type B) = true) (nA : bm.contains (.type "AttributeError") = false) (nN : bm.contains (.type "NameError") = false) {args : List Value} {fI : Addr} {Q : Fin → Shared → Prop}
    (c : h.get? C = some (excClassObj nm q C N bs bm hdct sn sub ab col dd k0 k1 k2 k3 k5 nid)) (hi : W.Looks (model prog w) h (typeLookup (.ref C) "__init__") (some (.ref fI)))
    (hb : ∀ self, W.Looks (model prog w) h (bindSpecial (.ref fI) self) (.ref fI, [self])) (len : args.length ≤ sizeLine)
    (go : codeAny (model prog w) A (.call (.ref fI) ⟨.ref (h.objs.size + 1) :: args, []⟩) (fun r s' => match r with | .ok (.ret v) => v = .none ∧ Q (.done (.ret (.ref (h.objs.size + 1)))) s' | .ok _ => False | .error e => E e s')
      ⟨(h.push (W.kdv_tup args)).push (excO C h.objs.size), g, d, t, os⟩) : wpAny (model prog w) A (Builtin.«type.__call__» ⟨.ref C :: args, []⟩) Q E ⟨h, g, d, t, os⟩ := by
  repeat (first | with_reducible refine wpAny_loadPart_at c ?_ | with_reducible refine wpAny_madeBy_exc c ?_ | wp_step)
  refine codeAny_call_builtin_code (Code.quiet_builtin _ F.quiet) (let_make F cB c (laid_make F cB nA nN c len ?_))
  show wpAny _ _ _ _ _ _
  have kp : ∀ b o, h.get? b = some o → ((h.push (W.kdv_tup args)).push (excO C h.objs.size)).get? b = some o := fun b o z => Heap.get?_push_of_some _ (Heap.get?_push_of_some _ z)
  have c1 := kp _ _ c; have i1 := hi.keeps kp; have b1 := (hb (.ref (h.objs.size + 1))).keeps kp
  have new : ((h.push (W.kdv_tup args)).push (excO C h.objs.size)).get? (h.objs.size + 1) = some (excO C h.objs.size) := by heap_get
  have own : (Value.ref C :: bm).contains (.ref C) = true := by simp
  unfold isInstance; repeat (first | with_reducible refine wpAny_loadPart_at new ?_ | (with_reducible refine wpAny_isSubtype_exc c1 ?_; rw [own]) | wp_step)
  show wpAny _ _ (typeLookup (.ref C) _) _ _ _; refine i1.at (wpAny_holding (wpAny_bind (b1.at (wpAny_bind (wpAny_call (codeAny_mono go fun r s' z => ?_))))))
  rcases r with e | (v | _ | _ | _) <;> first | exact z | exact False.elim z | (obtain ⟨rfl, z⟩ := z; first | exact wpAny_pure (wpAny_pure z) | (wp_walk; exact z))
theorem call_made (F : ExcBaseFacts B nid iid bmB) (cB : bm.contains (.type B) = true) (nA : bm.contains (.type "AttributeError") = false) (nN : bm.contains (.type "NameError") = false) {args : List Value} {fI : Addr}
    (c : h.get? C = some (excClassObj nm q C N bs bm hdct sn sub ab col dd k0 k1 k2 k3 k5 nid)) (hi : W.Looks (model prog w) h (typeLookup (.ref C) "__init__") (some (.ref fI)))
    (hb : ∀ self, W.Looks (model prog w) h (bindSpecial (.ref fI) self) (.ref fI, [self])) (len : args.length ≤ sizeLine)
    (go : codeAny (model prog w) (A.under (.builtin "type.__call__" ⟨.ref C :: args, []⟩)) (.call (.ref fI) ⟨.ref (h.objs.size + 1) :: args, []⟩) (W.InitBack (h.objs.size + 1) R) ⟨(h.push (W.kdv_tup args)).push (excO C h.objs.size), g, d, t, os⟩) :
    codeAny (model prog w) A (.call (.ref C) ⟨args, []⟩) R ⟨h, g, d, t, os⟩ := by
  have a1 := tc_lookup; have a2 := tc_bind (.ref C); have a3 : (⟨h, g, d, t, os⟩ : Shared).TypeIs (.ref C) "type" := ⟨_, c, rfl⟩
  refine codeAny_of_tree ?_; show wpAny _ _ (callAny (.ref C) _) _ _ _
  repeat (any_goals (first | assumption | with_reducible refine wpAny_loadPart_at c ?_ | wp_step))
  refine ⟨rfl, codeAny_call_builtin_at (Code.quiet_builtin _ (by decide +kernel)) entry_typeCall (wpAny_check_type_call_sub c (made_then F cB nA nN c hi hb len (codeAny_mono go fun r s' z => ?_)))⟩
  rcases r with e | (v | _ | _ | _)
  all_goals exact z
/-- self.name = v, the first store into an error: its dict is made -/
theorem first_store {K : W.Frag} {name : Str} {tk : Tok} {v : Value} {x : Addr} {fv : Array Value} {cd : ClassData} (Y : K.In h) (hx : h.get? x = some { cls := .ref C, data := .fields fv }) (hcd : W.clsIn K C = some cd)
    (ne : cd.mro.isEmpty = false) (ob : cd.mro.contains (.type "object") = true) (pass : refuseLoop (.ref x) "__setattr__" cd.mro = pure ()) (hd : cd.hasDict = true) (no : W.findIn K (.ref C) name = some none)
    (go : ∀ h' tk' dx, (∀ b o, b ≠ x → h.get? b = some o → h'.get? b = some o) → h.objs.size ≤ dx → dx ≠ x → h'.get? x = some { cls := .ref C, dict := some dx, data := .fields fv } →
      h'.Ns1 dx (fun y => if y = name then some v else none) → R (.ok (.ret .none)) ⟨h', g, d, tk', os⟩) : codeAny (model prog w) A (.call (.builtin "object.__setattr__") ⟨[.ref x, .str name tk, v], []⟩) R ⟨h, g, d, t, os⟩ := by
  have S := F.store_object; have J : W.InstAt h x { cls := .ref C, data := .fields fv } C none := ⟨hx, rfl, rfl, trivial⟩
  have new : x ≠ h.objs.size := Nat.ne_of_lt (Heap.lt_size hx)
  have top : W.Looks (model prog w) h (isInstance (.ref x) (.type "object")) true := J.type.andThen (W.looks_mroIn Y (by unfold W.mroIn; rw [hcd, Option.bind_some, if_neg (by rw [ne]; decide), ob]))
  have lm : W.Looks (model prog w) h (mroOf (.ref C)) cd.mro := (W.looks_clsIn Y hcd).andThen .now
  have l0 : W.Looks (model prog w) h (storeTaker? none) none := .now; have lc : W.Looks (model prog w) h (classData C) cd := W.looks_clsIn Y hcd
  refine codeAny_call_builtin S.slot.plain S.entry (@W.check_slot (model prog w) _ _ ⟨h, g, d, t, os⟩ "object.__setattr__" "object" "__setattr__" (.ref x) [.str name tk, v] [] _ S.kind S.split top (S.args (.ref x) (.str name tk) v) ?_)
  rw [W.osa_eq, refuse_eq]; refine wpAny_bind (wpAny_bind (J.type.at (wpAny_bind (lm.at ?_)))); rw [pass]
  refine wpAny_pure (wpAny_bind (J.type.at (wpAny_bind ((W.looks_findIn Y no).at (wpAny_bind (l0.at ?_)))))); show wpAny _ _ (storeInOwnDict (.ref x) (.ref C) (.str name tk) name v false) _ _ _
  obtain ⟨n1, n2, n3, n4, n5, n6, n7, n8, n9, n10, n11⟩ := cd; dsimp only at hd; subst hd; unfold storeInOwnDict ownDictForStores
  repeat (first | with_reducible refine store_in_new ?_ ?_ | with_reducible refine wpAny_loadPart_at hx ?_ | with_reducible refine lc.at ?_ | wp_step)
  · exact ⟨_, #[], _, (Heap.get?_update_ne _ _ _ _ new.symm).trans (Heap.get?_push_at rfl rfl), rfl, fun e he => absurd he (by simp), fun _ => rfl⟩
  intro h' tk' ns sb
  have hx1 : (h.push { cls := .type "dict", data := .dict #[] }).get? x = some { cls := .ref C, data := .fields fv } := Heap.get?_push_of_some _ hx
  refine go h' tk' h.objs.size (fun b o nb ho => (sb.2 b (Nat.ne_of_lt (Heap.lt_size ho))).trans ((Heap.get?_update_ne _ _ _ _ nb).trans (Heap.get?_push_of_some _ ho))) (Nat.le_refl _) new.symm ?_ ns
  exact (sb.2 x new).trans (Heap.get?_update_self _ hx1 rfl)
end
/-- what is wanted of the built-in error that own ones derive from: nid makes them, tail is its mro -/
structure BaseOf (nid : String) (tail : List Value) : Prop where
  ex : ∃ B iid bmB, ExcBaseFacts B nid iid bmB ∧ tail.contains (.type B) = true
  noA : tail.contains (.type "AttributeError") = false
  noN : tail.contains (.type "NameError") = false
  obj : tail.contains (.type "object") = true
  pass : ∀ self, refuseLoop self "__setattr__" tail = pure ()
abbrev tailVal : List Value := [.type "ValueError", .type "Exception", .type "BaseException", .type "object"]
abbrev tailIdx : List Value := [.type "IndexError", .type "LookupError", .type "Exception", .type "BaseException", .type "object"]
abbrev tailKey : List Value := [.type "KeyError", .type "LookupError", .type "Exception", .type "BaseException", .type "object"]
theorem tail_val1 {c : Addr} : PySem.W.excTail tailVal (.ref c :: tailVal) = true := by
  show PySem.W.excTail tailVal tailVal = true
  decide +kernel
theorem tail_idx0 : PySem.W.excTail tailIdx tailIdx = true := by decide +kernel
theorem tail_key0 : PySem.W.excTail tailKey tailKey = true := by decide +kernel
theorem base_val : BaseOf "ValueError.__new__" tailVal := ⟨⟨_, _, _, F.excBase_ValueError, by decide +kernel⟩, by decide +kernel, by decide +kernel, by decide +kernel, fun self => by kernel_rfl⟩
theorem base_idx : BaseOf "IndexError.__new__" tailIdx := ⟨⟨_, _, _, F.excBase_IndexError, by decide +kernel⟩, by decide +kernel, by decide +kernel, by decide +kernel, fun self => by kernel_rfl⟩
theorem base_key : BaseOf "LookupError.__new__" tailKey := ⟨⟨_, _, _, F.excBase_LookupError, by decide +kernel⟩, by decide +kernel, by decide +kernel, by decide +kernel, fun self => by kernel_rfl⟩
end PySem.MyX
namespace My
open PySem PySem.Spec PyProof.Rows L2 PySem.MyX
/-- what the written part says of an own error with an __init__ over a built-in one -/
structure OexB (K : PySem.W.Frag) (C : Addr) (nid : String) (tail : List Value) : Prop where
  base : BaseOf nid tail
  cls : ∃ nm q N bs bm sn sub ab col dd k0 k1 k2 k3 k5, K.lookup C = some (excClassObj nm q C N bs bm true sn sub ab col dd k0 k1 k2 k3 k5 nid) ∧ PySem.W.excTail tail bm = true
  sa : PySem.W.findIn K (.ref C) "__setattr__" = some (some (.builtin "object.__setattr__"))
  exC : PySem.W.subIn K (.ref C) (.type "BaseException") = some true
  tyC : PySem.W.typeIn K (.ref C) = some (.type "type")
  kC : PySem.W.keepIn K (.ref C) = true
section
variable {X : Cx} {pins : List (Addr × Obj)} {σ : L2.St} {H : Hp} {s : Shared} {a C dx : Addr} {f : Str} {y : V} {u : Value} {Q : Unit → Shared → Prop} {E : Value → Shared → Prop} {A : Around} {nid : String} {tail : List Value}
/-- self.f = y, the first store -/
theorem stored_new (T : OexB X.K C nid tail) (I : Inv X pins σ H s) (e : H a = some (exo a C none)) (no : PySem.W.findIn X.K (.ref C) f = some none) (ry : RelV y u)
    (go : ∀ dx s', H dx = none → dx ≠ a → Inv X pins σ (upd (upd H dx (exd dx [(f, y)])) a (exo a C (some dx))) s' → Q () s') : wpAny (model X.prog X.w) A (setAttr (.ref a) f u) Q E s := by
  obtain ⟨nm, q, N, bs, bm, sn, sub, ab, col, dd, k0, k1, k2, k3, k5, hC, hbm⟩ := T.cls
  have cl : PySem.W.clsIn X.K C = some { name := nm, bases := bs, mro := .ref C :: bm, ns := N, qualname := q, hasDict := true, slotNames := sn, subclasses := sub, abstract := ab, collection := col, hasDel := false } := by unfold PySem.W.clsIn; rw [hC] <;> rfl
  obtain ⟨t1, ho⟩ := exo_at I.hok e
  obtain ⟨hp, g, d, t, os⟩ := s
  have ps : refuseLoop (.ref a) "__setattr__" (Value.ref C :: bm) = pure () := by rw [refuseLoop_ref]; exact PySem.W.excTail_pass _ (T.base.pass _) bm hbm
  have ob : (Value.ref C :: bm).contains (.type "object") = true := by rw [List.contains_cons, PySem.W.excTail_contains "object" bm hbm, T.base.obj, Bool.or_true]
  refine PySem.W.set_plain I.kIn (ox := { cls := .ref C, dict := none, data := .fields #[.ref t1, .none, .none, .none, .bool false, .none] }) (od := none) ⟨ho, rfl, rfl, trivial⟩ T.sa (first_store I.kIn ho cl rfl ob ps rfl no fun h' tk' dx k dn dne hx hn => ?_)
  have free : H dx = none := I.hok.fresh dn
  have nd : ∀ {b : Addr} {o : Obj}, hp.get? b = some o → b ≠ dx := fun {b o} z => Nat.ne_of_lt (Nat.lt_of_lt_of_le (Heap.lt_size z) dn)
  have na : ∀ {b : Addr}, H b = none → b ≠ a := fun {b} n z => by rw [z, e] at n; cases n
  have U : Un X.fs [] H (upd (upd H dx (exd dx [(f, y)])) a (exo a C (some dx))) hp h' := {
    keep := fun b o z n _ _ => k b o (na n) z
    slot := fun b o z n _ _ => ⟨o.slots, k b o (na n) z⟩
    free := fun b o z n _ => by rw [upd_ne (na n), upd_ne (nd z)]; exact n
    there := fun b o z _ => (Classical.em (b = a)).elim (fun hb => ⟨_, (congrArg h'.get? hb).trans hx⟩) fun hb => ⟨o, k b o hb z⟩
    tups := fun b xs z => by rw [upd_ne (at_ne e z exo_tup), upd_ne (ne_of_none z free)]; exact z
    frzs := fun b o v z => by rw [upd_ne (at_ne e z exo_frz), upd_ne (ne_of_none z free)]; exact z
    tbls := fun b ps z => ⟨#[], by rw [upd_ne (at_ne e z exo_tbl), upd_ne (ne_of_none z free), z]; simp⟩ }
  refine go dx _ free dne (I.un (t' := tk') U fun b o z => ?_)
  by_cases hb : b = a
  · subst hb; rw [upd_same] at z; cases z; exact exo_ok hx
  rw [upd_ne hb] at z
  by_cases hd : b = dx
  · subst hd; rw [upd_same] at z; cases z; exact exd_ok hn (relO_put (fs := []) ry fun g => True.intro)
  rw [upd_ne hd] at z
  refine (I.hok b o z).stay (fun c v hc y => k c v (hc.elim (fun w => by rw [w]; exact hb) fun w => at_ne e w exo_own) y) (fun c hc => by rw [upd_ne (at_ne e hc exo_own), upd_ne (ne_of_none hc free)]; exact hc) (fun c xs hc => ?_)
  rw [upd_ne (at_ne e hc exo_tup), upd_ne (ne_of_none hc free)]; exact hc
/-- self.f = e, the first store into an error that is being made -/
def tOsB (K : PySem.W.Frag) (f : Str) (to te : TE) : TS := fun D σ H => te σ H fun y H1 => to σ H1 fun x H2 => ∃ (a C : Addr) (nid : String) (tail : List Value), x = .ref a ∧ OexB K C nid tail ∧ PySem.W.findIn K (.ref C) f = some none ∧ H2 a = some (exo a C none) ∧
  ∀ dx, H2 dx = none → dx ≠ a → D.nx σ (upd (upd H2 dx (exd dx [(f, y)])) a (exo a C (some dx)))
theorem ps_osB {o e : Expr} {to te : TE} {p' pos : Pos} (ho : PE X o to) (he : PE X e te) (hs : swapsWith e (some (.Attribute o f p')) pos.line X.env = pure false := by rfl) : PS X (.Assign [.Attribute o f p'] e pos) (tOsB X.K f to te) := by
  refine ⟨fun pins s σ H D I h => plainObj_wpAny_Assign_Attribute (thn (he.run pins s σ H _ I h) fun v s1 ⟨y, H1, I1, r1, q1⟩ => thn (ho.run pins s1 σ H1 _ I1 q1) fun u s2 ⟨x, H2, I2, r2, a, C, nid, tail, ex, T, no, ea, q⟩ => ?_) hs⟩
  subst ex
  obtain rfl : u = Value.ref a := r2
  exact stored_new T I2 ea no r1 fun dx s' n ne J => ⟨σ, _, J, q dx n ne⟩
end
end My

/-! ## An own error made: to be raised, or kept as a value; what it is and keeps -/
namespace My
open PySem PySem.Spec PyProof.Rows L2 PySem.MyX
section
variable {X : Cx} {e o : Expr} {es : List Expr} {ta : TA} {to te : TE} {p pos : Pos} {pins : List (Addr × Obj)} {σ : L2.St} {H1 : Hp}
theorem run_exB {CX : CXT} {C fI : Addr} {k : Nat} {fd : FuncData} {ps : List Str} {sp : Sp} {ds us : List Value} {dvs vs : List V} {nid : String} {tail : List Value} {J : Hp → Prop} {G : Value → Shared → Prop} {hp : Heap} {g : Array GenState} {dr : Drawn} {tk : Nat} {os : OsState}
    (T : OexB X.K C nid tail) (iC : PySem.W.findIn X.K (.ref C) "__init__" = some (some (.ref fI))) (tI : PySem.W.typeIn X.K (.ref fI) = some (.type "function")) (F1 : FnOk X.prog X.w X.K X.mg X.base CX k fI fd ps sp) (hr : Room (k + 1) X.A) (hb : Binds X.K fd ps ds) (hd : Vals dvs ds)
    (hx : Passes CX X (fun _ _ _ => False)) (I1 : Inv X pins σ H1 ⟨hp, g, dr, tk, os⟩) (r1 : Vals vs us) (len : vs.length ≤ 1000)
    (q1 : sp (.ref (hp.objs.size + 1) :: (vs ++ dvs)) (upd H1 (hp.objs.size + 1) (exo (hp.objs.size + 1) C none)) (fun v H2 => v = .non ∧ J H2) (fun _ _ _ => False))
    (fin : ∀ H2 h2 g2 d2 t2, Inv X pins σ (upd H1 (hp.objs.size + 1) (exo (hp.objs.size + 1) C none)) ⟨(hp.push (PySem.W.kdv_tup us)).push (PySem.HandSPX.excO C hp.objs.size), g, dr, tk, os⟩ →
      Un (frs X.stack) [] (upd H1 (hp.objs.size + 1) (exo (hp.objs.size + 1) C none)) H2 ((hp.push (PySem.W.kdv_tup us)).push (PySem.HandSPX.excO C hp.objs.size)) h2 → HOk X.prog X.w H2 h2 → AllBare g2 → J H2 → G (.ref (hp.objs.size + 1)) ⟨h2, g2, d2, t2, os⟩) :
    wpAny (model X.prog X.w) X.A (call (.ref C) us) G X.xe ⟨hp, g, dr, tk, os⟩ := by
  obtain ⟨nm, q, N, bs, bm, sn, sub, ab, col, dd, k0, k1, k2, k3, k5, hC, hbm⟩ := T.cls
  obtain ⟨B, iid, bmB, FB, cB⟩ := T.base.ex
  have has : ∀ Y : String, bm.contains (.type Y) = tail.contains (.type Y) := fun Y => PySem.W.excTail_contains Y bm hbm
  have sz : hp.objs.size ≤ hp.objs.size + 1 := Nat.le_succ _
  have kk : ∀ b o, hp.get? b = some o → ((hp.push (PySem.W.kdv_tup us)).push (PySem.HandSPX.excO C hp.objs.size)).get? b = some o := fun b o z => Heap.get?_push_of_some _ (Heap.get?_push_of_some _ z)
  have new : ((hp.push (PySem.W.kdv_tup us)).push (PySem.HandSPX.excO C hp.objs.size)).get? (hp.objs.size + 1) = some (PySem.HandSPX.excO C hp.objs.size) := by heap_get
  have I2 : Inv X pins σ (upd H1 (hp.objs.size + 1) (exo (hp.objs.size + 1) C none)) ⟨(hp.push (PySem.W.kdv_tup us)).push (PySem.HandSPX.excO C hp.objs.size), g, dr, tk, os⟩ := I1.laid (t' := tk) (a := hp.objs.size + 1) (o := exo (hp.objs.size + 1) C none) kk sz (exo_ok new)
  have r2 : Vals (V.ref (hp.objs.size + 1) :: (vs ++ dvs)) (Value.ref (hp.objs.size + 1) :: (us ++ ds)) := .cons rfl (r1.append hd)
  have hl : (Value.ref (hp.objs.size + 1) :: us ++ ds).length = ps.length := r2.length.symm.trans (F1.len _ _ _ _ q1)
  have hus : us.length ≤ sizeLine := by rw [← Paired.length r1, sizeLine_eq]; omega
  refine wpAny_call (call_made FB ((has B).trans cB) ((has _).trans T.base.noA) ((has _).trans T.base.noN) (I1.kIn _ _ hC) (PySem.W.looks_findIn I1.kIn iC) (fun self => PySem.W.bind_fn I1.kIn self tI) hus
    (codeAny_mono (F1.run _ X.stack _ _ ⟨Value.ref (hp.objs.size + 1) :: us, []⟩ (Value.ref (hp.objs.size + 1) :: (us ++ ds)) _ _ (fun _ _ _ => False) (hr.make C us []) (I2.env0.make C us []) (hb _ (Value.ref (hp.objs.size + 1) :: us) I2.kIn hl) r2 q1) fun r s' z => ?_))
  cases r with
  | error er => exact hx pins σ _ _ er s' I2 z
  | ok fl =>
    cases fl with
    | ret u =>
      obtain ⟨v, H2, os2, bare2, un2, hok2, rv, ev, j⟩ := z
      subst ev
      obtain ⟨h2, g2, d2, t2, os'⟩ := s'
      cases os2
      exact ⟨rv, fin H2 h2 g2 d2 t2 I2 un2 hok2 bare2 j⟩
    | next => exact False.elim z
    | brk => exact False.elim z
    | cont => exact False.elim z
/-- C(e, ..) to be raised -/
theorem pmk_oexB {CX : CXT} {x : Str} {C fI : Addr} {k : Nat} {fd : FuncData} {ps : List Str} {sp : Sp} {ds : List Value} {dvs : List V} {nid : String} {tail : List Value} (T : OexB X.K C nid tail) (iC : PySem.W.findIn X.K (.ref C) "__init__" = some (some (.ref fI))) (tI : PySem.W.typeIn X.K (.ref fI) = some (.type "function"))
    (F1 : FnOk X.prog X.w X.K X.mg X.base CX k fI fd ps sp) (hr : Room (k + 1) X.A) (hb : Binds X.K fd ps ds) (hd : Vals dvs ds) (hx : Passes CX X (fun _ _ _ => False)) (hg : Gl X x) (hm : X.mg x = some (.ref C)) (ha : PA X (e :: es) ta)
    (hdb : (x == ("__debug__" : Str)) = false := by decide) (he : starEach (e :: es) X.env = (false, eval e X.env) :: starEach es X.env := by rfl) (hpl : (backTo pos (starEach es X.env)).any (·.1) = false := by rfl) : PMk X (.Call (.Name x p) (e :: es) [] pos) (tMkO C sp dvs ta) := by
  intro pins s σ H Q I h
  refine wpAny_Call_Name_kw (ld_glob I hg hm (PySem.W.callWith_K (h₀ := X.base) I.ok.mod.kin T.kC (thn (ha.run pos pins s σ H _ I h) fun us s1 ⟨vs, H1, I1, r1, len, q1⟩ => ⟨I1.kIn, ?_⟩) he hpl) hdb)
  obtain ⟨hp, g, dr, tk, os⟩ := s1
  have kk : ∀ b o, hp.get? b = some o → ((hp.push (PySem.W.kdv_tup us)).push (PySem.HandSPX.excO C hp.objs.size)).get? b = some o := fun b o z => Heap.get?_push_of_some _ (Heap.get?_push_of_some _ z)
  refine run_exB T iC tI F1 hr hb hd hx I1 r1 len (J := fun H2 => ∃ (d : Addr) (fs : List (Str × V)), H2 (hp.objs.size + 1) = some (exo (hp.objs.size + 1) C (some d)) ∧ H2 d = some (exd d fs) ∧ H1 d = none ∧ Q (.ref C) (some d) (upd (del H2 (hp.objs.size + 1)) d (.xd fs)))
    (q1 _ (I1.hok.fresh (Nat.le_succ _))) fun H2 h2 g2 d2 t2 I2 un hok bare ⟨d, fs, ea, ed, hd1, q⟩ => ?_
  exact mk_end (raises_own T.exC T.tyC) I1 (Nat.le_succ _) kk un hok rfl bare ea ed hd1 q
/-- C(e, ..) as a value: the error stands with the dict that its __init__ made -/
def tMkV (C : Addr) (sp : Sp) (dvs : List V) (ta : TA) : TE := fun σ H Q => ta σ H fun vs H1 => vs.length ≤ 1000 ∧ ∀ a, H1 a = none → sp (.ref a :: (vs ++ dvs)) (upd H1 a (exo a C none)) (fun v H2 => v = .non ∧ Q (.ref a) H2) (fun _ _ _ => False)
theorem pe_oexB {CX : CXT} {x : Str} {C fI : Addr} {k : Nat} {fd : FuncData} {ps : List Str} {sp : Sp} {ds : List Value} {dvs : List V} {nid : String} {tail : List Value} (T : OexB X.K C nid tail) (iC : PySem.W.findIn X.K (.ref C) "__init__" = some (some (.ref fI))) (tI : PySem.W.typeIn X.K (.ref fI) = some (.type "function"))
    (F1 : FnOk X.prog X.w X.K X.mg X.base CX k fI fd ps sp) (hr : Room (k + 1) X.A) (hb : Binds X.K fd ps ds) (hd : Vals dvs ds) (hx : Passes CX X (fun _ _ _ => False)) (hg : Gl X x) (hm : X.mg x = some (.ref C)) (ha : PA X (e :: es) ta)
    (hdb : (x == ("__debug__" : Str)) = false := by decide) (he : starEach (e :: es) X.env = (false, eval e X.env) :: starEach es X.env := by rfl) (hpl : (backTo pos (starEach es X.env)).any (·.1) = false := by rfl) : PE X (.Call (.Name x p) (e :: es) [] pos) (tMkV C sp dvs ta) := by
  refine ⟨fun pins s σ H Q I h => ?_⟩
  refine wpAny_Call_Name_kw (ld_glob I hg hm (PySem.W.callWith_K (h₀ := X.base) I.ok.mod.kin T.kC (thn (ha.run pos pins s σ H _ I h) fun us s1 ⟨vs, H1, I1, r1, len, q1⟩ => ⟨I1.kIn, ?_⟩) he hpl) hdb)
  obtain ⟨hp, g, dr, tk, os⟩ := s1
  refine run_exB T iC tI F1 hr hb hd hx I1 r1 len (J := fun H2 => Q (.ref (hp.objs.size + 1)) H2) (q1 _ (I1.hok.fresh (Nat.le_succ _))) fun H2 h2 g2 d2 t2 I2 un hok bare q => ?_
  exact ⟨.ref (hp.objs.size + 1), H2, I2.call' (ch := []) rfl un hok bare (fun b z => absurd z (by simp)), rfl, q⟩
/-- an error that stands as a value, with its dict: what isinstance tells of it -/
def rIsV (K : PySem.W.Frag) : List V → Hp → VK → Prop := fun xs H Q => ∃ (a D : Addr) (dd : Option Addr) (c : V) (cv : Value) (b : Bool), xs = [.ref a, c] ∧ H a = some (exo a D dd) ∧ (∀ d, dd = some d → ∃ fs, H d = some (exd d fs)) ∧ ExcC K D ∧ (∀ u, RelV c u → u = cv) ∧ PySem.W.kitOne K (.ref D) cv = some b ∧ Q (.bl b) H
theorem call_isX : CallR X (.builtin "isinstance") (rIsV X.K) := by
  intro pins s σ H xs us Q I r h
  obtain ⟨a, D, dd, c, cv, b, rfl, ha, hdd, C, hcv, e, q⟩ := h
  obtain ⟨u1, u2, rfl, r1, r2⟩ := vals2 r
  obtain rfl : u1 = Value.ref a := r1
  have ec := hcv _ r2
  subst ec
  obtain ⟨t1, ho⟩ := exo_at I.hok ha
  have fin : ∀ tk, EP X pins σ Q (.bool b) { s with toks := tk } := fun tk => ⟨.bl b, H, I.tok tk, rfl, q⟩
  cases dd with
  | none => exact PySem.W.kia_one (PySem.W.handS_kitx_exc C.hg C.hk C.hs C.hd C.ha C.hn C.ht C.hm) I.kIn (⟨ho, rfl, rfl, trivial⟩ : PySem.W.InstAt s.heap a _ D none) e (fun z => nomatch z) fin
  | some d =>
    obtain ⟨fs, hd⟩ := hdd d rfl
    obtain ⟨mA, hns, hr⟩ := exd_at I.hok hd
    obtain ⟨od, hod, hl⟩ := lookIn_ns hns
    exact PySem.W.kia_one (PySem.W.my_kitD C.hg C.hk C.hs C.hd C.ha C.hn C.ht C.hm) I.kIn (⟨ho, rfl, rfl, hod⟩ : PySem.W.InstAt s.heap a _ D (some od)) e (fun z => nomatch z) fin
/-- o.f, o an error that stands as a value -/
def tXv (K : PySem.W.Frag) (f : Str) (te : TE) : TE := fun σ H Q => te σ H fun x H1 => ∃ (a D d : Addr) (fs : List (Str × V)) (v : V), x = .ref a ∧ H1 a = some (exo a D (some d)) ∧ H1 d = some (exd d fs) ∧ XfC K D ∧ PySem.W.findIn K (.ref D) f = some none ∧ fs.lookup f = some v ∧ Q v H1
theorem pe_xv {n : Str} (he : PE X e te) (hb : attributeBase e n X.env (eval e X.env) = eval e X.env := by rfl) : PE X (.Attribute e n pos) (tXv X.K n te) := by
  refine ⟨fun pins s σ H Q I h => ?_⟩
  refine attr_of hb (thn (he.run pins s σ H _ I h) fun u s1 ⟨x, H1, I1, rx, a, D, d, fs, v, ex, ha, hd, T, no, l, q⟩ => ?_)
  subst ex
  obtain rfl : u = Value.ref a := rx
  obtain ⟨t1, ho⟩ := exo_at I1.hok ha
  obtain ⟨mA, hns, hr⟩ := exd_at I1.hok hd
  obtain ⟨od, hod, hl⟩ := lookIn_ns hns
  obtain ⟨u, hu, ru⟩ := RelO.some_of (v := v) (o := mA n) (by rw [← l]; exact hr n)
  exact HandSPX.exc_get I1.kIn (⟨ho, rfl, rfl, hod⟩ : PySem.W.InstAt s1.heap a _ D (some od)) T.ga T.gg T.exC (PySem.W.findObj_own T.hdC no rfl (by rw [hl, hu])) (handed_of ru) ⟨v, H1, I1.tok _, ru, q⟩
/-- C(), an own error without an __init__ of its own -/
def tExc0 (C : Addr) : TE := fun _ H Q => ∀ a, H a = none → Q (.ref a) (upd H a (exo a C none))
theorem pe_exc0 {C : Addr} {bmB : List Value} {B nid iid : String} {x : Str} (F : ExcBaseFacts B nid iid bmB) (q : PySem.W.excIn X.K C bmB nid = true) (gC : X.mg x = some (.ref C)) (kC : PySem.W.keepIn X.K (.ref C) = true) (hg : Gl X x) (hdb : (x == ("__debug__" : Str)) = false := by decide) : PE X (.Call (.Name x p) [] [] pos) (tExc0 C) := by
  refine ⟨fun pins s σ H Q I h => wpAny_Call_Name_kw (ld_glob I hg gC (PySem.W.callWith_K0 I.kIn kC ?_) hdb)⟩
  obtain ⟨bm, N, nm, qn, bs, hdct, sn, sub, ab, col, dd, k0, k1, k2, k3, k5, mN, hC, hN, hni, T⟩ := exc_obj I.kIn q
  refine wpAny_call_exc_subT F T hC hN hni (fun h' e hm => ?_) (Nat.zero_le _)
  obtain ⟨t, he, _⟩ := hm.there
  have free := I.hok.gone hm.new
  exact ⟨.ref e, _, I.laidN hm.keeps hm.new free (exo_ok he), rfl, h e free⟩
end
end My

/-! ## An error's __init__ that keeps its argument; its raising -/
namespace My
open PySem PySem.Spec PyProof.Rows L2 PySem.MyX
/-- an error's __init__ that keeps its argument by this name -/
def spXAt (C : Addr) (f : Str) : Sp := fun vs H Q _ => ∃ (a : Addr) (y : V), vs = [.ref a, y] ∧ H a = some (exo a C none) ∧ ∀ dx, H dx = none → dx ≠ a → Q .non (upd (upd H dx (exd dx [(f, y)])) a (exo a C (some dx)))
/-- raise X(y), X's own __init__ keeping y -/
theorem mk_at {C : Addr} {f : Str} {σ : L2.St} {H H1 : Hp} {y : V} {ta : TA} {Q : XK} (h : ∀ R : List V → Hp → Prop, R [y] H1 → ta σ H R) (q : ∀ (d : Addr) (H' : Hp), Same H1 H' → H1 d = none → H' d = some (.xd [(f, y)]) → Q (.ref C) (some d) H') : tMkO C (spXAt C f) [] ta σ H Q := by
  refine h _ ⟨by show 1 ≤ 1000; decide, fun a na => ⟨a, y, rfl, upd_same, fun dx h1 h2 => ⟨rfl, dx, [(f, y)], upd_same, ?_, ?_, ?_⟩⟩⟩
  · rw [upd_ne h2, upd_same]
  · rw [upd_ne h2] at h1
    exact h1
  · rw [upd_ne h2] at h1
    refine q dx _ (fun b u e => ?_) h1 upd_same
    have hb : b ≠ a := ne_of_none e na
    have hd : b ≠ dx := ne_of_none e h1
    rw [upd_ne hd, del_ne hb, upd_ne hb, upd_ne hd, upd_ne hb]
    exact e
end My

/-! ## What stands stays while an instance is made -/
namespace My
open PySem L2
theorem same_made {H H' : Hp} {p dx : Addr} {o o2 : HO} (np : H p = none) (nd : H dx = none) (k : ∀ b u, (upd (upd H dx o) p o2) b = some u → b ≠ p → H' b = some u) : Same H H' := fun b u e => by
  have n1 := ne_of_none e np
  exact k b u (by rw [upd_ne n1, upd_ne (ne_of_none e nd)]; exact e) n1
theorem made_same {H : Hp} {p dx : Addr} {o o2 : HO} (np : H p = none) (nd : H dx = none) : Same H (upd (upd H dx o) p o2) := fun b u e => by
  rw [upd_ne (ne_of_none e np), upd_ne (ne_of_none e nd)]
  exact e
end My

/-! ## Waits, leaves and hears made: any values -/
namespace My
open PySem PySem.Spec PyProof.Rows L2 PySem.MyX
abbrev s_is_integer : Stmt := top 2
abbrev N_is_integer : List Str := ["value"]
abbrev P_is_integer : List Str := ["value"]
theorem sc_is_integer : FnScope N_is_integer P_is_integer (defScope s_is_integer) := ⟨rfl, rfl, rfl, by decide +kernel, rfl, by decide +kernel, by decide +kernel⟩
abbrev s_InvalidTree_init : Stmt := inClass (top 7) 0
abbrev N_InvalidTree_init : List Str := ["self", "word"]
abbrev P_InvalidTree_init : List Str := ["self", "word"]
theorem sc_InvalidTree_init : FnScope N_InvalidTree_init P_InvalidTree_init (defScope s_InvalidTree_init) := ⟨rfl, rfl, rfl, by decide +kernel, rfl, by decide +kernel, by decide +kernel⟩
abbrev s_Wait_init : Stmt := inClass (top 12) 0
abbrev N_Wait_init : List Str := ["self", "call"]
abbrev P_Wait_init : List Str := ["self", "call"]
theorem sc_Wait_init : FnScope N_Wait_init P_Wait_init (defScope s_Wait_init) := ⟨rfl, rfl, rfl, by decide +kernel, rfl, by decide +kernel, by decide +kernel⟩
abbrev s_Leave_init : Stmt := inClass (top 13) 0
abbrev N_Leave_init : List Str := ["self", "call"]
abbrev P_Leave_init : List Str := ["self", "call"]
theorem sc_Leave_init : FnScope N_Leave_init P_Leave_init (defScope s_Leave_init) := ⟨rfl, rfl, rfl, by decide +kernel, rfl, by decide +kernel, by decide +kernel⟩
abbrev s_Hear_init : Stmt := inClass (top 14) 0
abbrev N_Hear_init : List Str := ["self", "number"]
abbrev P_Hear_init : List Str := ["self", "number"]
theorem sc_Hear_init : FnScope N_Hear_init P_Hear_init (defScope s_Hear_init) := ⟨rfl, rfl, rfl, by decide +kernel, rfl, by decide +kernel, by decide +kernel⟩
structure TxTrees0 (w : World) (K : PySem.W.Frag) (mg : Str → Option Value) where
  z_isinstance : mg "isinstance" = none
  z_int : mg "int" = none
  z_bool : mg "bool" = none
  f_is_integer : Addr
  d_is_integer : FuncData
  F_is_integer : Fun K "is_integer" "is_integer" s_is_integer f_is_integer d_is_integer
  m_is_integer : mg "is_integer" = some (.ref f_is_integer)
  b_is_integer : Binds K d_is_integer P_is_integer []
  C_InvalidTree : Addr
  m_InvalidTree : mg "InvalidTree" = some (.ref C_InvalidTree)
  oxTr : OexB K C_InvalidTree "ValueError.__new__" tailVal
  nwTr : PySem.W.findIn K (.ref C_InvalidTree) "word" = some none
  f_InvalidTree_init : Addr
  d_InvalidTree_init : FuncData
  iTr : PySem.W.findIn K (.ref C_InvalidTree) "__init__" = some (some (.ref f_InvalidTree_init))
  tTr : PySem.W.typeIn K (.ref f_InvalidTree_init) = some (.type "function")
  F_InvalidTree_init : Fun K "__init__" "InvalidTree.__init__" s_InvalidTree_init f_InvalidTree_init d_InvalidTree_init
  b_InvalidTree_init : Binds K d_InvalidTree_init P_InvalidTree_init []
  C_Call : Addr
  m_Call : mg "Call" = some (.ref C_Call)
  c_Call : Cls K C_Call
  C_Wait : Addr
  m_Wait : mg "Wait" = some (.ref C_Wait)
  c_Wait : Cls K C_Wait
  n_Wait_call : NoAttr K C_Wait "call"
  f_Wait_init : Addr
  d_Wait_init : FuncData
  mk_Wait : Mk K C_Wait f_Wait_init
  F_Wait_init : Fun K "__init__" "Wait.__init__" s_Wait_init f_Wait_init d_Wait_init
  b_Wait_init : Binds K d_Wait_init P_Wait_init []
  C_Leave : Addr
  m_Leave : mg "Leave" = some (.ref C_Leave)
  c_Leave : Cls K C_Leave
  n_Leave_call : NoAttr K C_Leave "call"
  f_Leave_init : Addr
  d_Leave_init : FuncData
  mk_Leave : Mk K C_Leave f_Leave_init
  F_Leave_init : Fun K "__init__" "Leave.__init__" s_Leave_init f_Leave_init d_Leave_init
  b_Leave_init : Binds K d_Leave_init P_Leave_init []
  C_Hear : Addr
  m_Hear : mg "Hear" = some (.ref C_Hear)
  c_Hear : Cls K C_Hear
  n_Hear_number : NoAttr K C_Hear "number"
  f_Hear_init : Addr
  d_Hear_init : FuncData
  mk_Hear : Mk K C_Hear f_Hear_init
  F_Hear_init : Fun K "__init__" "Hear.__init__" s_Hear_init f_Hear_init d_Hear_init
  b_Hear_init : Binds K d_Hear_init P_Hear_init []
/-- what isinstance(v, C) answers -/
def OfC (K : PySem.W.Frag) (H : Hp) (v : V) (C : Value) (b : Bool) : Prop := ∃ t, TyX K H v t ∧ PySem.W.kitOne K t C = some b
theorem OfC.same {K : PySem.W.Frag} {H H' : Hp} {v : V} {C : Value} {b : Bool} (h : OfC K H v C b) (e : Same H H') : OfC K H' v C b := by
  obtain ⟨t, ty, k⟩ := h
  exact ⟨t, tyx_keep e ty, k⟩
def spIsIntG (K : PySem.W.Frag) : Sp := fun us H Q _ => ∃ (v : V) (b1 b2 : Bool), us = [v] ∧ OfC K H v (.type "int") b1 ∧ OfC K H v (.type "bool") b2 ∧ Q (.bl (b1 && !b2)) H
/-- Wait(v), Leave(v): v is a call or not -/
def spHolder {w : World} {K : PySem.W.Frag} {mg : Str → Option Value} (T : TxTrees0 w K mg) (C : Addr) : Sp := fun us H Q E => ∃ (p dx : Addr) (v : V) (b : Bool), us = [.ref p, v] ∧ H p = some (.ins C dx []) ∧ OfC K H v (.ref T.C_Call) b ∧
  (b = true → ∀ H', H' p = some (.ins C dx [("call", v)]) → (∀ c u, H c = some u → c ≠ p → H' c = some u) → Q .non H') ∧
  (b = false → ∀ d H', Same H H' → H d = none → H' d = some (.xd [("word", .str "call")]) → E (.ref T.C_InvalidTree) (some d) H')
def spHear {w : World} {K : PySem.W.Frag} {mg : Str → Option Value} (T : TxTrees0 w K mg) : Sp := fun us H Q E => ∃ (p dx : Addr) (v : V) (b1 b2 : Bool), us = [.ref p, v] ∧ H p = some (.ins T.C_Hear dx []) ∧ OfC K H v (.type "int") b1 ∧ OfC K H v (.type "bool") b2 ∧
  (∀ i : Int, (b1 && !b2) = true → v = .int i → 0 ≤ i → ∀ H', H' p = some (.ins T.C_Hear dx [("number", v)]) → (∀ c u, H c = some u → c ≠ p → H' c = some u) → Q .non H') ∧
  ((b1 && !b2) = true → ∃ i : Int, v = .int i) ∧
  ((b1 && !b2) = false ∨ (∃ i : Int, v = .int i ∧ i < 0) → ∀ d H', Same H H' → H d = none → H' d = some (.xd [("word", .str "number")]) → E (.ref T.C_InvalidTree) (some d) H')
section
variable {P : Program} {w : World} {K : PySem.W.Frag} {mg : Str → Option Value} {base : Heap}
theorem ok_xtr (T : TxTrees0 w K mg) : FnOk P w K mg base CX0 1 T.f_InvalidTree_init T.d_InvalidTree_init P_InvalidTree_init (spXAt T.C_InvalidTree "word") := by
  refine T.F_InvalidTree_init.ok sc_InvalidTree_init (fun vs H Q E h => ?_) (fun cdv A outer s H vs Q E hr h => ?_)
  · obtain ⟨a, y, rfl, _⟩ := h
    rfl
  obtain ⟨a, y, rfl, ha, q⟩ := h
  refine ⟨_, (pss_one (ps_osB (pv 0) (pv 1))), ?_⟩
  exact ⟨_, rfl, _, rfl, a, T.C_InvalidTree, _, _, rfl, T.oxTr, T.nwTr, ha, fun dx h1 h2 => q dx h1 h2⟩
theorem ok_is_integerG (T : TxTrees0 w K mg) : FnOk P w K mg base CX0 1 T.f_is_integer T.d_is_integer P_is_integer (spIsIntG K) := by
  refine T.F_is_integer.ok sc_is_integer (fun vs H Q E h => ?_) (fun cdv A outer s H vs Q E hr h => ?_)
  · obtain ⟨v, b1, b2, rfl, _⟩ := h
    rfl
  obtain ⟨v, b1, b2, rfl, ⟨t1, y1, k1⟩, ⟨t2, y2, k2⟩, q⟩ := h
  refine ⟨_, (pss_one (ps_ret (pe_and (pe_callB (call_isiV K) (by rfl) T.z_isinstance (by decide +kernel) (pa_cons (pv 0) (pa_cons (pe_bltn (v := .ty "int") (by rfl) T.z_int (by decide +kernel) rfl) pa_nil))) (pe_one (pe_not (pe_callB (call_isiV K) (by rfl) T.z_isinstance (by decide +kernel) (pa_cons (pv 0) (pa_cons (pe_bltn (v := .ty "bool") (by rfl) T.z_bool (by decide +kernel) rfl) pa_nil)))))))), ?_⟩
  refine ⟨_, rfl, v, .ty "int", t1, _, b1, rfl, .ty _, y1, k1, _, rfl, ?_⟩
  cases b1 with
  | false => exact iteF q
  | true =>
    refine iteT ?_
    exact ⟨_, rfl, v, .ty "bool", t2, _, b2, rfl, .ty _, y2, k2, _, rfl, by cases b2 <;> exact q⟩
theorem ok_Wait_init (T : TxTrees0 w K mg) : FnOk P w K mg base (L2.CX P w) 3 T.f_Wait_init T.d_Wait_init P_Wait_init (spHolder T T.C_Wait) := by
  have G_InvalidTree_init := ok_xtr (P := P) (w := w) (base := base) T
  refine T.F_Wait_init.okX sc_Wait_init (fun vs H Q E h => ?_) (fun cdv A outer s H vs Q E hr h => ?_)
  · obtain ⟨p, dx, v, b, rfl, _⟩ := h
    rfl
  obtain ⟨p, dx, v, b, rfl, hp, ⟨t, ty, k⟩, q, qe⟩ := h
  refine ⟨_, (pss_cons (ps_if (pt_not (pt_val (pe_callB (call_isiV K) (by rfl) T.z_isinstance (by decide +kernel) (pa_cons (pv 1) (pa_cons (pe_glob (v := .ref T.C_Call) (by rfl) T.m_Call rfl) pa_nil))))) (pss_one (ps_raise rfl (takes_of rfl rfl rfl rfl) (pmk_oexB T.oxTr T.iTr T.tTr G_InvalidTree_init (hr.mono (by decide)) T.b_InvalidTree_init .nil pass0 (by rfl) T.m_InvalidTree (pa_cons pe_str pa_nil)))) pss_nil)
      (pss_one (ps_fld (pv 0) (pv 1) rfl))), ?_⟩
  refine ⟨_, rfl, v, .ref T.C_Call, t, _, b, rfl, .own _, ty, k, _, rfl, ?_⟩
  cases b with
  | false =>
    refine iteT ?_
    exact mk_at (fun R r => by exact r) (qe rfl)
  | true =>
    refine iteF ?_
    refine ⟨_, rfl, _, rfl, p, T.C_Wait, dx, _, rfl, hp, T.c_Wait, T.n_Wait_call, (by show 0 < 1000; decide), ?_⟩
    exact q rfl _ upd_same fun c u e nc => by rw [upd_ne nc]; exact e
theorem ok_Leave_init (T : TxTrees0 w K mg) : FnOk P w K mg base (L2.CX P w) 3 T.f_Leave_init T.d_Leave_init P_Leave_init (spHolder T T.C_Leave) := by
  have G_InvalidTree_init := ok_xtr (P := P) (w := w) (base := base) T
  refine T.F_Leave_init.okX sc_Leave_init (fun vs H Q E h => ?_) (fun cdv A outer s H vs Q E hr h => ?_)
  · obtain ⟨p, dx, v, b, rfl, _⟩ := h
    rfl
  obtain ⟨p, dx, v, b, rfl, hp, ⟨t, ty, k⟩, q, qe⟩ := h
  refine ⟨_, (pss_cons (ps_if (pt_not (pt_val (pe_callB (call_isiV K) (by rfl) T.z_isinstance (by decide +kernel) (pa_cons (pv 1) (pa_cons (pe_glob (v := .ref T.C_Call) (by rfl) T.m_Call rfl) pa_nil))))) (pss_one (ps_raise rfl (takes_of rfl rfl rfl rfl) (pmk_oexB T.oxTr T.iTr T.tTr G_InvalidTree_init (hr.mono (by decide)) T.b_InvalidTree_init .nil pass0 (by rfl) T.m_InvalidTree (pa_cons pe_str pa_nil)))) pss_nil)
      (pss_one (ps_fld (pv 0) (pv 1) rfl))), ?_⟩
  refine ⟨_, rfl, v, .ref T.C_Call, t, _, b, rfl, .own _, ty, k, _, rfl, ?_⟩
  cases b with
  | false =>
    refine iteT ?_
    exact mk_at (fun R r => by exact r) (qe rfl)
  | true =>
    refine iteF ?_
    refine ⟨_, rfl, _, rfl, p, T.C_Leave, dx, _, rfl, hp, T.c_Leave, T.n_Leave_call, (by show 0 < 1000; decide), ?_⟩
    exact q rfl _ upd_same fun c u e nc => by rw [upd_ne nc]; exact e
theorem ok_Hear_init (T : TxTrees0 w K mg) : FnOk P w K mg base (L2.CX P w) 3 T.f_Hear_init T.d_Hear_init P_Hear_init (spHear T) := by
  have G_InvalidTree_init := ok_xtr (P := P) (w := w) (base := base) T
  have G_is_integer := ok_is_integerG (P := P) (w := w) (base := base) T
  refine T.F_Hear_init.okX sc_Hear_init (fun vs H Q E h => ?_) (fun cdv A outer s H vs Q E hr h => ?_)
  · obtain ⟨p, dx, v, b1, b2, rfl, _⟩ := h
    rfl
  obtain ⟨p, dx, v, b1, b2, rfl, hp, o1, o2, q, qi, qe⟩ := h
  refine ⟨_, (pss_cons (ps_if (PW.pt (pw_or (pt_not (pt_val (pe_call G_is_integer (hr.mono (by decide)) (by rfl) T.m_is_integer T.F_is_integer.kp T.b_is_integer .nil pass0 (pa_cons (pv 1) pa_nil)))) (pw_or1 (pt_cmpR op_lt (pv 1) pe_int (nomark _))))) (pss_one (ps_raise rfl (takes_of rfl rfl rfl rfl) (pmk_oexB T.oxTr T.iTr T.tTr G_InvalidTree_init (hr.mono (by decide)) T.b_InvalidTree_init .nil pass0 (by rfl) T.m_InvalidTree (pa_cons pe_str pa_nil)))) pss_nil)
      (pss_one (ps_fld (pv 0) (pv 1) rfl))), ?_⟩
  refine ⟨_, rfl, v, b1, b2, rfl, o1, o2, _, rfl, ?_⟩
  cases e : (b1 && !b2) with
  | false =>
    refine iteT ?_
    refine iteT ?_
    exact mk_at (fun R r => by exact r) (qe (.inl e))
  | true =>
    refine iteF ?_
    obtain ⟨i, rfl⟩ := qi e
    refine ⟨_, rfl, _, _, rfl, rfl, _, rfl, ?_⟩
    refine ite2 (fun c => ?_) (fun c => ?_)
    · exact mk_at (fun R r => by exact r) (qe (.inr ⟨i, rfl, of_decide_eq_true c⟩))
    · refine ⟨_, rfl, _, rfl, p, T.C_Hear, dx, _, rfl, hp, T.c_Hear, T.n_Hear_number, (by show 0 < 1000; decide), ?_⟩
      exact q i e rfl (by have : ¬ i < 0 := fun z => c (decide_eq_true z); omega) _ upd_same fun c u e nc => by rw [upd_ne nc]; exact e
end
end My

/-! ## Are these events -/
namespace My
open PySem PySem.Spec PyProof.Rows L2
abbrev s_are_events : Stmt := top 9
abbrev N_are_events : List Str := ["value", "left", "heard", "event"]
abbrev P_are_events : List Str := ["value"]
theorem sc_are_events : FnScope N_are_events P_are_events (defScope s_are_events) := ⟨rfl, rfl, rfl, by decide +kernel, rfl, by decide +kernel, by decide +kernel⟩
def iTwo (K : PySem.W.Frag) (te : TE) : TI := fun σ H R => iList K te σ H R ∨ iTup K te σ H R
theorem pi_two {X : Cx} {te : TE} {e : Expr} (K : PySem.W.Frag) {tg : Expr} (hl : PE X e te) (hK : X.K = K := by rfl) : PI X tg e (iTwo K te) :=
  ⟨fun pins s σ H R I h => h.elim ((pi_listK K (tg := tg) hl hK).run pins s σ H R I) ((pi_tupK K (tg := tg) hl hK).run pins s σ H R I)⟩
structure TxEvents (w : World) (K : PySem.W.Frag) (mg : Str → Option Value) extends TxTrees0 w K mg, TxSeq0 w K mg where
  ty_Wait : ∀ (H : Hp) (a dx : Addr) (fs : List (Str × V)), H a = some (.ins C_Wait dx fs) → TyX K H (.ref a) (.ref C_Wait)
  ty_Leave : ∀ (H : Hp) (a dx : Addr) (fs : List (Str × V)), H a = some (.ins C_Leave dx fs) → TyX K H (.ref a) (.ref C_Leave)
  ty_Hear : ∀ (H : Hp) (a dx : Addr) (fs : List (Str × V)), H a = some (.ins C_Hear dx fs) → TyX K H (.ref a) (.ref C_Hear)
  kk_Hear_Hear : PySem.W.kitOne K (.ref C_Hear) (.ref C_Hear) = some true
  kk_Leave_Hear : PySem.W.kitOne K (.ref C_Leave) (.ref C_Hear) = some false
  kk_Leave_Leave : PySem.W.kitOne K (.ref C_Leave) (.ref C_Leave) = some true
  kk_Leave_Wait : PySem.W.kitOne K (.ref C_Leave) (.ref C_Wait) = some false
  kk_Wait_Hear : PySem.W.kitOne K (.ref C_Wait) (.ref C_Hear) = some false
  kk_Wait_Leave : PySem.W.kitOne K (.ref C_Wait) (.ref C_Leave) = some false
  kk_Wait_Wait : PySem.W.kitOne K (.ref C_Wait) (.ref C_Wait) = some true
  f_are_events : Addr
  d_are_events : FuncData
  F_are_events : Fun K "are_events" "are_events" s_are_events f_are_events d_are_events
  m_are_events : mg "are_events" = some (.ref f_are_events)
  b_are_events : Binds K d_are_events P_are_events []
/-- what an item may be -/
inductive Ek where
  | wait (c : Addr)
  | leave (c : Addr)
  | hear (n : Int)
  | odd
inductive EkAt {w : World} {K : PySem.W.Frag} {mg : Str → Option Value} (T : TxTrees0 w K mg) (H : Hp) : V → Ek → Prop
  | wait {a dx c : Addr} (h : H a = some (.ins T.C_Wait dx [("call", .ref c)])) : EkAt T H (.ref a) (.wait c)
  | leave {a dx c : Addr} (h : H a = some (.ins T.C_Leave dx [("call", .ref c)])) : EkAt T H (.ref a) (.leave c)
  | hear {a dx : Addr} {n : Int} (h : H a = some (.ins T.C_Hear dx [("number", .int n)])) : EkAt T H (.ref a) (.hear n)
  | odd {v : V} (h1 : OfC K H v (.ref T.C_Hear) false) (h2 : OfC K H v (.ref T.C_Leave) false) (h3 : OfC K H v (.ref T.C_Wait) false) : EkAt T H v .odd
theorem EkAt.same {w : World} {K : PySem.W.Frag} {mg : Str → Option Value} {T : TxTrees0 w K mg} {H H' : Hp} {v : V} {k : Ek} (h : EkAt T H v k) (e : Same H H') : EkAt T H' v k := by
  cases h with
  | wait h => exact .wait (e _ _ h)
  | leave h => exact .leave (e _ _ h)
  | hear h => exact .hear (e _ _ h)
  | odd h1 h2 h3 => exact .odd (h1.same e) (h2.same e) (h3.same e)
/-- one item more: how many are left, which were heard; none where it may not stand -/
def evStep : Ek → Int × List Int → Option (Int × List Int)
  | .wait _, s => some s
  | .leave _, (l, hs) => some (l + 1, hs)
  | .hear n, (l, hs) => if l ≤ n ∨ n ∈ hs then none else some (l, hs ++ [n])
  | .odd, _ => none
def evRun : List Ek → Int × List Int → Option (Int × List Int)
  | [], s => some s
  | e :: es, s => (evStep e s).bind (evRun es)
def evOk (es : List Ek) : Bool := (evRun es (0, [])).isSome
theorem evRun_snoc (e : Ek) : ∀ (es : List Ek) (s : Int × List Int), evRun (es ++ [e]) s = (evRun es s).bind (evStep e)
  | [], s => by
    show (evStep e s).bind (fun t => some t) = evStep e s
    cases evStep e s <;> rfl
  | f :: es, s => by
    show (evStep f s).bind (evRun (es ++ [e])) = ((evStep f s).bind (evRun es)).bind (evStep e)
    cases evStep f s with
    | none => rfl
    | some t => exact evRun_snoc e es t
theorem evRun_app : ∀ (es fs : List Ek) (s : Int × List Int), evRun (es ++ fs) s = (evRun es s).bind (evRun fs)
  | [], fs, s => rfl
  | f :: es, fs, s => by
    show (evStep f s).bind (evRun (es ++ fs)) = ((evStep f s).bind (evRun es)).bind (evRun fs)
    cases evStep f s with
    | none => rfl
    | some t => exact evRun_app es fs t
theorem evRun_at {es : List Ek} {i : Nat} {e : Ek} (h : es[i]? = some e) (s : Int × List Int) : evRun (es.take (i + 1)) s = (evRun (es.take i) s).bind (evStep e) := by
  rw [List.take_add_one, h]
  exact evRun_snoc e _ s
theorem evOk_bad {es : List Ek} {i : Nat} {e : Ek} {s : Int × List Int} (h : es[i]? = some e) (r : evRun (es.take i) (0, []) = some s) (b : evStep e s = none) : evOk es = false := by
  unfold evOk
  have z := evRun_app (es.take (i + 1)) (es.drop (i + 1)) (0, [])
  rw [List.take_append_drop, evRun_at h, r] at z
  rw [z]
  show ((evStep e s).bind _).isSome = false
  rw [b]
  rfl
def hdK (hs : List Int) : List (Key × V) := hs.map fun n => (Sum.inl n, V.bl true)
theorem hd_none {n : Int} : ∀ {hs : List Int}, n ∉ hs → valV (hdK hs) (Sum.inl n : Key) = none
  | [], _ => rfl
  | m :: hs, h => by
    have a : ¬ (Sum.inl m : Key) = Sum.inl n := fun e => h (by injection e with e; rw [e]; exact List.mem_cons_self)
    exact (valV_neg (p := ((Sum.inl m : Key), V.bl true)) a).trans (hd_none fun z => h (List.mem_cons_of_mem _ z))
theorem hd_some {n : Int} : ∀ {hs : List Int}, n ∈ hs → valV (hdK hs) (Sum.inl n : Key) = some (.bl true)
  | m :: hs, h => by
    by_cases e : m = n
    · exact valV_pos (p := ((Sum.inl m : Key), V.bl true)) (by rw [e])
    · have a : ¬ (Sum.inl m : Key) = Sum.inl n := fun z => e (by injection z)
      exact (valV_neg (p := ((Sum.inl m : Key), V.bl true)) a).trans (hd_some (by rcases List.mem_cons.mp h with z | z; exact absurd z.symm e; exact z))
theorem pair_at {α β : Type} {R : α → β → Prop} : ∀ {xs : List α} {ys : List β} {i : Nat} {x : α}, Paired R xs ys → xs[i]? = some x → ∃ y, ys[i]? = some y ∧ R x y
  | _, _, _, _, .nil, e => by simp at e
  | _, _, 0, _, .cons r _, e => by simp at e; subst e; exact ⟨_, rfl, r⟩
  | _, _, i + 1, x, .cons _ t, e => by
    simp at e
    obtain ⟨y, h1, h2⟩ := pair_at t e
    exact ⟨y, by simpa using h1, h2⟩
theorem pair_len2 {α β : Type} {R : α → β → Prop} : ∀ {xs : List α} {ys : List β}, Paired R xs ys → xs.length = ys.length
  | _, _, .nil => rfl
  | _, _, .cons _ t => congrArg Nat.succ (pair_len2 t)
inductive EventsV {w : World} {K : PySem.W.Frag} {mg : Str → Option Value} (T : TxTrees0 w K mg) (H : Hp) : V → Bool → Prop
  | no {v : V} (h : SeqV K H v false) : EventsV T H v false
  | seq {a : Addr} {xs : List V} {es : List Ek} (h : SqA K H a xs) (p : Paired (EkAt T H) xs es) (n : xs.length ≤ 500) : EventsV T H (.ref a) (evOk es)
def evBody {w : World} {K : PySem.W.Frag} {mg : Str → Option Value} (T : TxEvents w K mg) : TS := (tIfS (tB (tCB (rIsi K) (tCons (tVar 3) (tCons (tC (V.ref T.C_Hear)) tNil)))) (tSeq (tIfS (tOr (tTest (tOp (rI0 fun i j => V.bl (decide (j ≤ i))) (tFld K (tVar 3) (Str.ofString "number")) (tVar 1))) (tB (tDIn (tFld K (tVar 3) (Str.ofString "number")) (tVar 2)))) (tRet (tC (V.bl false))) tNext) (sDPut (tVar 2) (tFld K (tVar 3) (Str.ofString "number")) (tC (V.bl true)))) (tIfS (tB (tCB (rIsi K) (tCons (tVar 3) (tCons (tC (V.ref T.C_Leave)) tNil)))) (tAug 1 (tC (V.int 1)) (rI0 fun i j => V.int (i + j))) (tIfS (tNot (tB (tCB (rIsi K) (tCons (tVar 3) (tCons (tC (V.ref T.C_Wait)) tNil))))) (tRet (tC (V.bl false))) tNext)))
section
variable {w : World} {K : PySem.W.Frag} {mg : Str → Option Value}
theorem ok_evBody (T : TxEvents w K mg) {D : Ends} {d : Addr} {v0 : Option V} {l : Int} {hs : List Int} {H H4 : Hp} {xs : List V} {es : List Ek} {i : Nat} {x : V} (e : Paired (EkAt T.toTxTrees0 H) xs es) (n : xs.length ≤ 500) (hx : xs[i]? = some x) (dn : H d = none)
    (er : evRun (es.take i) (0, []) = some (l, hs)) (hl : hs.length ≤ i) (h3 : H4 d = some (.dK (hdK hs))) (s3 : Same H H4) (q : ∀ H', Same H H' → evOk es = false → D.rt (.bl false) H')
    (hn : ∀ l' hs' H', evRun (es.take (i + 1)) (0, []) = some (l', hs') → hs'.length ≤ i + 1 → H' d = some (.dK (hdK hs')) → Same H H' → D.nx [v0, some (.int l'), some (.ref d), some x] H') :
    evBody T D [v0, some (.int l), some (.ref d), some x] H4 := by
  obtain ⟨k, hk, ea⟩ := pair_at e hx
  have ea := ea.same s3
  have il := (List.getElem?_eq_some_iff.mp hx).1
  cases ea with
  | odd o1 o2 o3 =>
    obtain ⟨t1, y1, k1⟩ := o1
    obtain ⟨t2, y2, k2⟩ := o2
    obtain ⟨t3, y3, k3⟩ := o3
    refine ⟨_, rfl, x, .ref T.C_Hear, t1, _, false, rfl, .own _, y1, k1, _, rfl, iteF ?_⟩
    refine ⟨_, rfl, x, .ref T.C_Leave, t2, _, false, rfl, .own _, y2, k2, _, rfl, iteF ?_⟩
    refine ⟨_, rfl, x, .ref T.C_Wait, t3, _, false, rfl, .own _, y3, k3, _, rfl, iteT ?_⟩
    exact q _ s3 (evOk_bad hk er rfl)
  | @leave b dx c hb =>
    refine ⟨_, rfl, .ref b, .ref T.C_Hear, .ref T.C_Leave, _, false, rfl, .own _, T.ty_Leave _ _ _ _ hb, T.kk_Leave_Hear, _, rfl, iteF ?_⟩
    refine ⟨_, rfl, .ref b, .ref T.C_Leave, .ref T.C_Leave, _, true, rfl, .own _, T.ty_Leave _ _ _ _ hb, T.kk_Leave_Leave, _, rfl, iteT ?_⟩
    refine ⟨_, rfl, _, _, rfl, rfl, ?_⟩
    exact hn (l + 1) hs _ (by rw [evRun_at hk, er]; rfl) (Nat.le_succ_of_le hl) h3 s3
  | @wait b dx c hb =>
    refine ⟨_, rfl, .ref b, .ref T.C_Hear, .ref T.C_Wait, _, false, rfl, .own _, T.ty_Wait _ _ _ _ hb, T.kk_Wait_Hear, _, rfl, iteF ?_⟩
    refine ⟨_, rfl, .ref b, .ref T.C_Leave, .ref T.C_Wait, _, false, rfl, .own _, T.ty_Wait _ _ _ _ hb, T.kk_Wait_Leave, _, rfl, iteF ?_⟩
    refine ⟨_, rfl, .ref b, .ref T.C_Wait, .ref T.C_Wait, _, true, rfl, .own _, T.ty_Wait _ _ _ _ hb, T.kk_Wait_Wait, _, rfl, iteF ?_⟩
    exact hn l hs _ (by rw [evRun_at hk, er]; rfl) (Nat.le_succ_of_le hl) h3 s3
  | @hear b dx n hb =>
    refine ⟨_, rfl, .ref b, .ref T.C_Hear, .ref T.C_Hear, _, true, rfl, .own _, T.ty_Hear _ _ _ _ hb, T.kk_Hear_Hear, _, rfl, iteT ?_⟩
    refine ⟨_, rfl, b, T.C_Hear, dx, _, _, rfl, hb, T.c_Hear, T.n_Hear_number, rfl, _, rfl, _, _, rfl, rfl, _, rfl, ?_⟩
    have bad : (l ≤ n ∨ n ∈ hs) → D.rt (.bl false) H4 := fun z => by
      exact q _ s3 (evOk_bad hk er (if_pos z))
    refine ite2 (fun c => ?_) (fun c => ?_)
    · exact iteT (bad (.inl (of_decide_eq_true c)))
    · by_cases mem : n ∈ hs
      · refine ⟨_, rfl, b, T.C_Hear, dx, _, _, rfl, hb, T.c_Hear, T.n_Hear_number, rfl, _, rfl, d, some (.bl true), rfl, .inl ⟨_, Sum.inl n, Rd.of h3, rfl, (hd_some mem).symm⟩, _, rfl, ?_⟩
        exact iteT (bad (.inr mem))
      · refine ⟨_, rfl, b, T.C_Hear, dx, _, _, rfl, hb, T.c_Hear, T.n_Hear_number, rfl, _, rfl, d, none, rfl, .inl ⟨_, Sum.inl n, Rd.of h3, rfl, (hd_none mem).symm⟩, _, rfl, ?_⟩
        refine iteF ?_
        have hlen : (hdK hs).length = hs.length := List.length_map _
        refine ⟨_, rfl, _, rfl, b, T.C_Hear, dx, _, _, rfl, hb, T.c_Hear, T.n_Hear_number, rfl, d, _, rfl, .inl ⟨_, Sum.inl n, h3, rfl, by rw [hlen]; exact small1000 (by omega), rfl⟩, ?_⟩
        refine hn l (hs ++ [n]) _ (by rw [evRun_at hk, er]; exact if_neg fun z => z.elim (fun y => c (decide_eq_true y)) mem) (by rw [List.length_append]; exact Nat.succ_le_succ hl) ?_ (fun b o z => by rw [upd_ne (ne_of_none z dn)]; exact s3 _ _ z)
        rw [upd_same, putK_new _ (hd_none mem)]
        exact congrArg (fun z => some (HO.dK z)) (by unfold hdK; rw [List.map_append]; rfl)
end
def spEvents {w : World} {K : PySem.W.Frag} {mg : Str → Option Value} (T : TxTrees0 w K mg) : Sp := fun us H Q _ => ∃ (v : V) (b : Bool), us = [v] ∧ EventsV T H v b ∧ ∀ H', Same H H' → Q (.bl b) H'
section
variable {P : Program} {w : World} {K : PySem.W.Frag} {mg : Str → Option Value} {base : Heap}
theorem ok_are_events (T : TxEvents w K mg) : FnOk P w K mg base CX0 2 T.f_are_events T.d_are_events P_are_events (spEvents T.toTxTrees0) := by
  have G_is_sequence := ok_is_sequence (P := P) (w := w) (base := base) T.toTxSeq0
  refine T.F_are_events.ok sc_are_events (fun vs H Q E h => ?_) (fun cdv A outer s H vs Q E hr h => ?_)
  · obtain ⟨v, b, rfl, _⟩ := h
    rfl
  obtain ⟨v, b, rfl, hv, q⟩ := h
  refine ⟨_, (pss_cons (ps_if (pt_not (pt_val (pe_call G_is_sequence (hr.mono (by decide)) (by rfl) T.m_is_sequence T.F_is_sequence.kp T.b_is_sequence .nil pass0 (pa_cons (pv 0) pa_nil)))) (pss_one (ps_ret pe_bl)) pss_nil)
      (pss_cons (ps_set (i := 1) sc_are_events.nd rfl (Or.inl rfl) pe_int)
      (pss_cons (ps_set (i := 2) sc_are_events.nd rfl (Or.inl rfl) pe_dnewK)
      (pss_cons (ps_for PassesOwn.never rfl (pi_two K (pv 0)) (pg_name (i := 3) sc_are_events.nd rfl (Or.inl rfl)) (pss_one (ps_if (pt_val (pe_callB (call_isiV K) (by rfl) T.z_isinstance (by decide +kernel) (pa_cons (pv 3) (pa_cons (pe_glob (v := .ref T.C_Hear) (by rfl) T.m_Hear rfl) pa_nil)))) (pss_cons (ps_if (PW.pt (pw_or (pt_cmpR op_ge (pe_fldK K (pv 3)) (pv 1) (nomark _)) (pw_or1 (pt_cmp (pc_din (hu_of hr) (pe_fldK K (pv 3)) (pv 2)))))) (pss_one (ps_ret pe_bl)) pss_nil)
      (pss_one (ps_dput (hu_of hr) (pv 2) (pe_fldK K (pv 3)) pe_bl rfl))) (pss_one (ps_if (pt_val (pe_callB (call_isiV K) (by rfl) T.z_isinstance (by decide +kernel) (pa_cons (pv 3) (pa_cons (pe_glob (v := .ref T.C_Leave) (by rfl) T.m_Leave rfl) pa_nil)))) (pss_one (ps_aug (i := 1) sc_are_events.nd rfl (Or.inl rfl) pe_int iop_add)) (pss_one (ps_if (pt_not (pt_val (pe_callB (call_isiV K) (by rfl) T.z_isinstance (by decide +kernel) (pa_cons (pv 3) (pa_cons (pe_glob (v := .ref T.C_Wait) (by rfl) T.m_Wait rfl) pa_nil))))) (pss_one (ps_ret pe_bl)) pss_nil)))))))
      (pss_one (ps_ret pe_bl)))))), ?_⟩
  cases hv with
  | no h =>
    refine ⟨_, rfl, v, false, rfl, h, fun H1 s1 => ⟨_, rfl, ?_⟩⟩
    exact iteT (q H1 s1)
  | @seq a xs es h e n =>
    refine ⟨_, rfl, .ref a, true, rfl, h.seqV, fun H1 s1 => ⟨_, rfl, ?_⟩⟩
    refine iteF ?_
    refine fun d hd => ?_
    have u2 := same_upd hd (.dK [])
    have hd2 := upd_same (H := H1) (a := d) (o := .dK [])
    have s2 := s1.trans u2
    have dn : H d = none := s1.free hd
    generalize upd H1 d (.dK []) = H2 at u2 hd2 s2
    have fin : ∀ σ H3, (∃ (v3 : Option V) (l : Int) (hs : List Int), σ = [some (.ref a), some (.int l), some (.ref d), v3] ∧ evRun (es.take xs.length) (0, []) = some (l, hs) ∧ hs.length ≤ xs.length ∧ H3 d = some (.dK (hdK hs)) ∧ Same H H3) → Q (.bl true) H3 := fun σ H3 ⟨v3, l, hs, _, er, hl, h3, s3⟩ => by
      have ok : evOk es = true := by
        unfold evOk
        rw [pair_len2 e, List.take_length] at er
        rw [er]
        rfl
      rw [ok] at q
      exact q _ s3
    have bad : ∀ H', Same H H' → evOk es = false → Q (.bl false) H' := fun H' s ok => by
      rw [ok] at q
      exact q _ s
    rcases id h with hL | hT
    · refine .inl ⟨_, rfl, a, rfl, ⟨_, s2.seq hL⟩, for_list (K := K) (a := a) (xs := xs) (fun i σ H' => ∃ (v3 : Option V) (l : Int) (hs : List Int), σ = [some (.ref a), some (.int l), some (.ref d), v3] ∧ evRun (es.take i) (0, []) = some (l, hs) ∧ hs.length ≤ i ∧ H' d = some (.dK (hdK hs)) ∧ Same H H') ⟨_, 0, [], rfl, rfl, Nat.le_refl _, hd2, s2⟩ (fun i σ H' _ h => by obtain ⟨_, _, _, _, _, _, _, s⟩ := h; exact s.seq hL) ?_ fin⟩
      rintro i x σ H4 hx ⟨v3, l, hs, rfl, er, hl, h3, s3⟩
      exact ok_evBody T e n hx dn er hl h3 s3 bad fun l' hs' H' e1 e2 e3 e4 => ⟨_, l', hs', rfl, e1, e2, e3, e4⟩
    · refine .inr ⟨_, rfl, a, rfl, ⟨_, seqT_same s2 hT⟩, for_tup (K := K) (a := a) (xs := xs) (fun i σ H' => ∃ (v3 : Option V) (l : Int) (hs : List Int), σ = [some (.ref a), some (.int l), some (.ref d), v3] ∧ evRun (es.take i) (0, []) = some (l, hs) ∧ hs.length ≤ i ∧ H' d = some (.dK (hdK hs)) ∧ Same H H') ⟨_, 0, [], rfl, rfl, Nat.le_refl _, hd2, s2⟩ (fun i σ H' _ h => by obtain ⟨_, _, _, _, _, _, _, s⟩ := h; exact seqT_same s hT) ?_ fin⟩
      rintro i x σ H4 hx ⟨v3, l, hs, rfl, er, hl, h3, s3⟩
      exact ok_evBody T e n hx dn er hl h3 s3 bad fun l' hs' H' e1 e2 e3 e4 => ⟨_, l', hs', rfl, e1, e2, e3, e4⟩
end
end My

/-! ## len(range(e)) -/
namespace My
open PySem PySem.Spec PyProof.Rows L2
def tLenRng (ta : TA) : TE := fun σ H Q => ta σ H fun vs H1 => ∃ n : Nat, vs = [.int (n : Int)] ∧ n ≤ 16777216 ∧ Q (.int (n : Int)) H1
section
variable {X : Cx} {a : Expr} {ta : TA} {p p2 pos pos2 : Pos}
theorem pe_lenRng (hg : Gl X "len") (hm : X.mg "len" = none) (hg2 : Gl X "range") (hm2 : X.mg "range" = none) (ha : PA X [a] ta) (hs : starEach [a] X.env = [(false, eval a X.env)] := by rfl)
    (hs2 : starEach [.Call (.Name "range" p2) [a] [] pos2] X.env = [(false, eval (.Call (.Name "range" p2) [a] [] pos2) X.env)] := by rfl) : PE X (.Call (.Name "len" p) [.Call (.Name "range" p2) [a] [] pos2] [] pos) (tLenRng ta) := by
  refine ⟨fun pins s σ H Q I h => ?_⟩
  refine Call_ (ld_blt I hg hm boot_len ?_)
  rw [hs2]
  refine PySem.callWith_builtin1 ?_
  refine Call_ (ld_blt I hg2 hm2 boot_range (PyProof.Rows.callWith_type1 (thn (ha.run pos2 pins s σ H _ I h) fun us s1 ⟨vs, H1, I1, r1, n, ev, hn, q⟩ => ?_) hs rfl))
  subst ev
  cases r1 with
  | cons r rr =>
  cases rr
  obtain ⟨t, rfl⟩ := r
  refine call_range_1 ?_
  refine call_len_range (n := n) (IsRange.new ..) ?_ (by omega) ?_
  · rw [rangeSize_one]
    split <;> omega
  exact ⟨.int (n : Int), H1, (I1.kept (t' := _) fun b o e => Heap.get?_push_of_some _ e), ⟨_, rfl⟩, q⟩
end
end My

/-! ## len by an own __len__ -/
namespace My
open PySem L2 PyProof.Rows
structure OwnLen (P : Program) (w : World) (K : PySem.W.Frag) (mg : Str → Option Value) (base : Heap) {ι : Type} (cl : ι → Addr) (ok : ι → Prop) (k : Nat) (sp : ι → Sp) : Prop where
  fn : ∀ i, ok i → ∃ (f : Addr) (fd : FuncData) (ps : List Str), FnOk P w K mg base CX0 k f fd ps (sp i) ∧ Binds K fd ps [] ∧ PySem.W.findIn K (.ref (cl i)) "__len__" = some (some (.ref f)) ∧ PySem.W.isFn K (.ref f) = true
section
variable {X : Cx}
def rLenO {ι : Type} (cl : ι → Addr) (ok : ι → Prop) (sp : ι → Sp) : List V → Hp → VK → Prop := fun xs H Q => ∃ (a : Addr) (i : ι) (dx : Addr) (fs : List (Str × V)), xs = [.ref a] ∧ ok i ∧ H a = some (.ins (cl i) dx fs) ∧ sp i [.ref a] H (fun v H' => ∃ n : Nat, v = .int (n : Int) ∧ n ≤ 1000 ∧ Q (.int (n : Int)) H') E0
/-- len(x) by its own __len__ -/
theorem call_lenO (K : PySem.W.Frag) {ι : Type} {cl : ι → Addr} {ok : ι → Prop} {k : Nat} {sp : ι → Sp} (G : OwnLen X.prog X.w K X.mg X.base cl ok k sp) (hr : Room (k + 1) X.A) (hK : X.K = K := by rfl) : CallR X (.builtin "len") (rLenO cl ok sp) := by
  subst hK
  intro pins s σ H xs us Q I r h
  obtain ⟨a, i, dx, fs, rfl, hC, ha, hs⟩ := h
  rw [Vals.ref1 r]
  obtain ⟨f, fd, ps, F, hb, e, g⟩ := G.fn i hC
  obtain ⟨mA, O, _, _, _, _⟩ := ins_get I.hok ha
  obtain ⟨od, J, _⟩ := O.look
  obtain ⟨m, fr⟩ := I.fr
  have r2 : Vals [.ref a] [Value.ref a] := .cons rfl .nil
  have q := run_within I I.env0.in1 F hr.in1 hb r2 hs
  refine PySem.W.len_K fr I.ok.mod.kin J e g (wpAny_mono q (fun z s' hz => ?_) fun _ _ z => z)
  obtain ⟨v, H', I', r, n, rfl, hn, q⟩ := hz
  obtain ⟨t, rfl⟩ : ∃ t, z = Value.int n t := r
  refine ⟨⟨Int.natCast_nonneg n, by omega⟩, .int n, H', I'.tok _, ⟨_, rfl⟩, q⟩
end
end My

/-! ## Calls made: any values -/
namespace My
open PySem PySem.Spec PyProof.Rows L2 PySem.MyX
abbrev s_Call_len : Stmt := inClass (top 11) 1
abbrev N_Call_len : List Str := ["self"]
abbrev P_Call_len : List Str := ["self"]
theorem sc_Call_len : FnScope N_Call_len P_Call_len (defScope s_Call_len) := ⟨rfl, rfl, rfl, by decide +kernel, rfl, by decide +kernel, by decide +kernel⟩
abbrev s_Call_init : Stmt := inClass (top 11) 0
abbrev N_Call_init : List Str := ["self", "service", "kind", "bad", "events", "side", "event", "call"]
abbrev P_Call_init : List Str := ["self", "service", "kind", "bad", "events", "side"]
theorem sc_Call_init : FnScope N_Call_init P_Call_init (defScope s_Call_init) := ⟨rfl, rfl, rfl, by decide +kernel, rfl, by decide +kernel, by decide +kernel⟩
structure TxCalls (w : World) (K : PySem.W.Frag) (mg : Str → Option Value) extends TxEvents w K mg where
  z_range : mg "range" = none
  z_sum : mg "sum" = none
  n_Call_service : NoAttr K C_Call "service"
  n_Call_kind : NoAttr K C_Call "kind"
  n_Call_bad : NoAttr K C_Call "bad"
  n_Call_events : NoAttr K C_Call "events"
  n_Call_side : NoAttr K C_Call "side"
  n_Call_inner : NoAttr K C_Call "inner"
  n_Call__size : NoAttr K C_Call "_size"
  f_Call_len : Addr
  d_Call_len : FuncData
  F_Call_len : Fun K "__len__" "Call.__len__" s_Call_len f_Call_len d_Call_len
  b_Call_len : Binds K d_Call_len P_Call_len []
  li_Call : PySem.W.findIn K (.ref C_Call) "__len__" = some (some (.ref f_Call_len))
  lf_Call : PySem.W.isFn K (.ref f_Call_len) = true
  e_events : Addr
  t_events : ∀ H : Hp, SqT K H e_events []
  f_Call_init : Addr
  d_Call_init : FuncData
  mk_Call : Mk K C_Call f_Call_init
  F_Call_init : FunD K "__init__" "Call.__init__" (defArgs s_Call_init) (defBody s_Call_init) (defScope s_Call_init) [.bl false, .ref e_events, .str "old"] [] f_Call_init d_Call_init
/-- a call of this size -/
structure CallS {w : World} {K : PySem.W.Frag} {mg : Str → Option Value} (T : TxTrees0 w K mg) (H : Hp) (c : Addr) (n : Nat) : Prop where
  ex : ∃ dx fs, H c = some (.ins T.C_Call dx fs) ∧ fs.lookup ("_size" : Str) = some (.int (n : Int))
  few : n ≤ 1000
def spCallLen {w : World} {K : PySem.W.Frag} {mg : Str → Option Value} (T : TxTrees0 w K mg) : Unit → Sp := fun _ us H Q _ => ∃ (c : Addr) (n : Nat), us = [.ref c] ∧ CallS T H c n ∧ Q (.int (n : Int)) H
section
variable {P : Program} {w : World} {K : PySem.W.Frag} {mg : Str → Option Value} {base : Heap}
theorem ok_Call_len (T : TxCalls w K mg) : FnOk P w K mg base CX0 1 T.f_Call_len T.d_Call_len P_Call_len (spCallLen T.toTxTrees0 ()) := by
  refine T.F_Call_len.ok sc_Call_len (fun vs H Q E h => ?_) (fun cdv A outer s H vs Q E hr h => ?_)
  · obtain ⟨c, n, rfl, _⟩ := h
    rfl
  obtain ⟨c, n, rfl, ⟨⟨dx, fs, hc, hl⟩, few⟩, q⟩ := h
  refine ⟨_, (pss_one (ps_ret (pe_lenRng (by rfl) T.z_len (by rfl) T.z_range (pa_cons (pe_fldK K (pv 0)) pa_nil)))), ?_⟩
  exact ⟨_, rfl, c, T.C_Call, dx, fs, _, rfl, hc, T.c_Call, T.n_Call__size, hl, n, rfl, by omega, q⟩
theorem len_call (T : TxCalls w K mg) : OwnLen P w K mg base (fun _ : Unit => T.C_Call) (fun _ => True) 1 (spCallLen T.toTxTrees0) := ⟨fun _ _ => ⟨_, _, _, ok_Call_len T, T.b_Call_len, T.li_Call, T.lf_Call⟩⟩
end
end My

/-! ## A call is made, or refused: any values -/
namespace My
open PySem PySem.Spec PyProof.Rows L2 PySem.MyX
/-- what tuple(xs) asks -/
structure TupS (K : PySem.W.Frag) (vs : List V) (H : Hp) (Q : VK) : Prop where
  ex : ∃ (a : Addr) (xs : List V), vs = [.ref a] ∧ SqA K H a xs ∧ ∀ t H', Same H H' → SqT K H' t xs → Q (.ref t) H'
theorem call_tupS {X : Cx} (K : PySem.W.Frag) (hK : X.K = K := by rfl) : CallR X (.type "tuple") (TupS K) := by
  subst hK
  intro pins s σ H xs us Q I r h
  obtain ⟨a, ys, rfl, hq, q⟩ := h.ex
  exact call_tuple_of pins s σ H _ us Q I r (tuple_of hq q)
theorem bnot1 {b : Bool} (h : (!b) = true) : b = false := by simpa using h
theorem bnot2 {b : Bool} (h : ¬ (!b) = true) : b = true := by simpa using h
theorem ek_same {w : World} {K : PySem.W.Frag} {mg : Str → Option Value} {T : TxTrees0 w K mg} {H H' : Hp} (e : Same H H') : ∀ {xs : List V} {es : List Ek}, Paired (EkAt T H) xs es → Paired (EkAt T H') xs es
  | _, _, .nil => .nil
  | _, _, .cons h t => .cons (h.same e) (ek_same e t)
theorem EventsV.same {w : World} {K : PySem.W.Frag} {mg : Str → Option Value} {T : TxTrees0 w K mg} {H H' : Hp} {v : V} {b : Bool} (h : EventsV T H v b) (e : Same H H') : EventsV T H' v b := by
  cases h with
  | no h => exact .no (h.same e)
  | seq h p n => exact .seq (h.same e) (ek_same e p) n
def inSides (d : PyData) : Bool := (([("old" : Str), "new"]).map PyData.str).any fun z => PyData.eqv z d
/-- the word of the first wrong argument -/
def wrCall (b1 b2 b3 b4 b5 : Bool) : Option Str := if b1 = false then some "service" else if b2 = false then some "kind" else if b3 = false then some "bad" else if b4 = false then some "events" else if b5 = false then some "side" else none
def innerE : Ek → Option Addr
  | .wait c => some c
  | .leave c => some c
  | _ => none
def innerOf (es : List Ek) : List Addr := es.filterMap innerE
def spCallInit {w : World} {K : PySem.W.Frag} {mg : Str → Option Value} (T : TxTrees0 w K mg) : Sp := fun us H Q E => ∃ (p dx : Addr) (sv kd bd ev sd : V) (b3 b4 : Bool) (d : PyData), us = [.ref p, sv, kd, bd, ev, sd] ∧ H p = some (.ins T.C_Call dx []) ∧ AnyV K H sv ∧ AnyV K H kd ∧ OfC K H bd (.type "bool") b3 ∧ EventsV T H ev b4 ∧
  Dp K H sd d ∧ SeqAt.shaped d = true ∧
  (∀ wd a H', wrCall (nmV sv) (nmV kd) b3 b4 (inSides d) = some wd → Same H H' → H a = none → H' a = some (.xd [("word", .str wd)]) → E (.ref T.C_InvalidTree) (some a) H') ∧
  (wrCall (nmV sv) (nmV kd) b3 b4 (inSides d) = none → ∃ (a : Addr) (xs : List V) (es : List Ek) (ns : List Nat), ev = .ref a ∧ SqA K H a xs ∧ Paired (EkAt T H) xs es ∧ xs.length ≤ 500 ∧ (∀ e ∈ es, e ≠ .odd) ∧ Paired (CallS T H) (innerOf es) ns ∧ ns.sum ≤ 900 ∧
    ∀ (H' : Hp) (te ti : Addr), (∀ b u, H b = some u → b ≠ p → H' b = some u) → H' p = some (.ins T.C_Call dx [("service", sv), ("kind", kd), ("bad", bd), ("events", .ref te), ("side", sd), ("inner", .ref ti), ("_size", .int (1 + (ns.sum : Int)))]) → SqT K H' te xs → SqT K H' ti ((innerOf es).map V.ref) → Q .non H')
theorem EkAt.kp {w : World} {K : PySem.W.Frag} {mg : Str → Option Value} {T : TxTrees0 w K mg} {H H' : Hp} {p C dx : Addr} {v : V} {k : Ek} (h : EkAt T H v k) (n : k ≠ .odd) (hp : H p = some (.ins C dx [])) (kp : Kp p H H') : EkAt T H' v k := by
  cases h with
  | wait h => exact .wait (kp _ _ (fun z => by rw [z, hp] at h; cases h) h)
  | leave h => exact .leave (kp _ _ (fun z => by rw [z, hp] at h; cases h) h)
  | hear h => exact .hear (kp _ _ (fun z => by rw [z, hp] at h; cases h) h)
  | odd => exact absurd rfl n
theorem ek_kp {w : World} {K : PySem.W.Frag} {mg : Str → Option Value} {T : TxTrees0 w K mg} {H H' : Hp} {p C dx : Addr} (hp : H p = some (.ins C dx [])) (kp : Kp p H H') : ∀ {xs : List V} {es : List Ek}, Paired (EkAt T H) xs es → (∀ e ∈ es, e ≠ .odd) → Paired (EkAt T H') xs es
  | _, _, .nil, _ => .nil
  | _, _, .cons h t, no => .cons (h.kp (no _ List.mem_cons_self) hp kp) (ek_kp hp kp t fun e he => no e (List.mem_cons_of_mem _ he))
theorem CallS.kp {w : World} {K : PySem.W.Frag} {mg : Str → Option Value} {T : TxTrees0 w K mg} {H H' : Hp} {p C dx c : Addr} {n : Nat} (h : CallS T H c n) (hp : H p = some (.ins C dx [])) (kp : Kp p H H') : CallS T H' c n := by
  obtain ⟨dx2, fs, h1, h2⟩ := h.ex
  exact ⟨⟨dx2, fs, kp _ _ (fun z => by rw [z, hp] at h1; cases h1; cases h2) h1, h2⟩, h.few⟩
theorem CallS.same {w : World} {K : PySem.W.Frag} {mg : Str → Option Value} {T : TxTrees0 w K mg} {H H' : Hp} {c : Addr} {n : Nat} (h : CallS T H c n) (s : Same H H') : CallS T H' c n := by
  obtain ⟨dx2, fs, h1, h2⟩ := h.ex
  exact ⟨⟨dx2, fs, s _ _ h1, h2⟩, h.few⟩
theorem paired_kp {α β : Type} {R S : α → β → Prop} (f : ∀ a b, R a b → S a b) : ∀ {xs : List α} {ys : List β}, Paired R xs ys → Paired S xs ys
  | _, _, .nil => .nil
  | _, _, .cons h t => .cons (f _ _ h) (paired_kp f t)
theorem innerOf_at {es : List Ek} {i : Nat} {e : Ek} (h : es[i]? = some e) : innerOf (es.take (i + 1)) = innerOf (es.take i) ++ (innerE e).toList := by
  unfold innerOf
  rw [List.take_add_one, h, List.filterMap_append]
  congr 1
theorem innerOf_len (es : List Ek) : (innerOf es).length ≤ es.length := List.length_filterMap_le _ _
theorem sum_int : ∀ ns : List Nat, (ns.map fun n : Nat => (n : Int)).sum = ((ns.sum : Nat) : Int)
  | [] => rfl
  | n :: t => by
    rw [List.map_cons, List.sum_cons, List.sum_cons, sum_int t]
    omega
def tInner {w : World} {K : PySem.W.Frag} {mg : Str → Option Value} (T : TxCalls w K mg) : TE := tLc (iTwo K (tVar 4)) (gName 6) (tNot (tB (tCB (rIsi K) (tCons (tVar 6) (tCons (tC (V.ref T.C_Hear)) tNil))))) (tFld K (tVar 6) (Str.ofString "call")) (List.map (fun x => x.snd) [(Str.ofString "event", 6)])
def tSizes {w : World} {K : PySem.W.Frag} {mg : Str → Option Value} (T : TxCalls w K mg) : TE := tLc (iTup K (tFld K (tVar 0) (Str.ofString "inner"))) (gName 7) tYes (tCB (rLenO (fun x => T.C_Call) (fun x => True) (spCallLen T.toTxTrees0)) (tCons (tVar 7) tNil)) (List.map (fun x => x.snd) [(Str.ofString "call", 7)])
section
variable {w : World} {K : PySem.W.Frag} {mg : Str → Option Value}
theorem ok_tInner (T : TxCalls w K mg) {v0 v1 v2 v3 v5 v6 v7 : Option V} {a : Addr} {H : Hp} {xs : List V} {es : List Ek} {Q : VK} (hA : SqA K H a xs) (pe : Paired (EkAt T.toTxTrees0 H) xs es) (no : ∀ e ∈ es, e ≠ .odd) (n500 : xs.length ≤ 500)
    (q : ∀ D H', Same H H' → H' D = some (.lst ((innerOf es).map V.ref)) → Q (.ref D) H') : tInner T [v0, v1, v2, v3, some (.ref a), v5, v6, v7] H Q := by
  have step : ∀ (D : Addr), H D = none → ∀ (i : Nat) (x : V) (H1 : Hp), xs[i]? = some x → (Same H H1 ∧ H1 D = some (.lst ((innerOf (es.take i)).map V.ref))) → gName 6 x (wipe [v0, v1, v2, v3, some (.ref a), v5, v6, v7] [6]) H1 fun σ2 H2 => wipe σ2 [6] = wipe [v0, v1, v2, v3, some (.ref a), v5, v6, v7] [6] ∧ (tNot (tB (tCB (rIsi K) (tCons (tVar 6) (tCons (tC (V.ref T.C_Hear)) tNil))))) σ2 H2 fun b H3 =>
      if b = true then (tFld K (tVar 6) (Str.ofString "call")) σ2 H3 fun y H4 => ∃ acc, H4 D = some (.lst acc) ∧ acc.length < sizeLine ∧ (Same H (upd H4 D (.lst (acc ++ [y]))) ∧ upd H4 D (.lst (acc ++ [y])) D = some (.lst ((innerOf (es.take (i + 1))).map V.ref))) else (Same H H3 ∧ H3 D = some (.lst ((innerOf (es.take (i + 1))).map V.ref))) := by
    rintro D hD i x H1 hx ⟨s1, d1⟩
    obtain ⟨k, hk, ea⟩ := pair_at pe hx
    have nk := no k (List.mem_of_getElem? hk)
    have ea := ea.same s1
    have il := (List.getElem?_eq_some_iff.mp hx).1
    have few : ((innerOf (es.take i)).map V.ref).length < sizeLine := small1000 (by
      rw [List.length_map]
      exact Nat.le_trans (innerOf_len _) (by rw [List.length_take]; omega))
    have tk := innerOf_at hk
    refine ⟨rfl, ?_⟩
    cases ea with
    | odd => exact absurd rfl nk
    | @hear b dx n hb =>
      refine ⟨_, rfl, .ref b, .ref T.C_Hear, .ref T.C_Hear, _, true, rfl, .own _, T.ty_Hear _ _ _ _ hb, T.kk_Hear_Hear, _, rfl, iteF ⟨s1, ?_⟩⟩
      rw [tk, d1]
      exact congrArg (fun z => some (HO.lst (z.map V.ref))) (List.append_nil _).symm
    | @wait b dx c hb =>
      refine ⟨_, rfl, .ref b, .ref T.C_Hear, .ref T.C_Wait, _, false, rfl, .own _, T.ty_Wait _ _ _ _ hb, T.kk_Wait_Hear, _, rfl, iteT ?_⟩
      refine ⟨_, rfl, b, T.C_Wait, dx, _, _, rfl, hb, T.c_Wait, T.n_Wait_call, rfl, _, d1, few, fun e u z => ?_, ?_⟩
      · rw [upd_ne (ne_of_none z hD)]; exact s1 _ _ z
      · rw [upd_same, tk, List.map_append]; rfl
    | @leave b dx c hb =>
      refine ⟨_, rfl, .ref b, .ref T.C_Hear, .ref T.C_Leave, _, false, rfl, .own _, T.ty_Leave _ _ _ _ hb, T.kk_Leave_Hear, _, rfl, iteT ?_⟩
      refine ⟨_, rfl, b, T.C_Leave, dx, _, _, rfl, hb, T.c_Leave, T.n_Leave_call, rfl, _, d1, few, fun e u z => ?_, ?_⟩
      · rw [upd_ne (ne_of_none z hD)]; exact s1 _ _ z
      · rw [upd_same, tk, List.map_append]; rfl
  have fin : ∀ (D : Addr) (H1 : Hp), (Same H H1 ∧ H1 D = some (.lst ((innerOf (es.take xs.length)).map V.ref))) → Q (.ref D) H1 := fun D H1 ⟨s1, d1⟩ => q D H1 s1 (by rw [pair_len2 pe, List.take_length] at d1; exact d1)
  rcases hA with hL | hT
  · exact .inl ⟨_, rfl, a, rfl, ⟨_, hL⟩, fun D hD => lc_list (K := K) (a := a) (xs := xs) (fun i H' => Same H H' ∧ H' D = some (.lst ((innerOf (es.take i)).map V.ref))) ⟨same_upd hD _, upd_same⟩ (fun i H' _ h => h.1.seq hL) (step D hD) (fin D)⟩
  · exact .inr ⟨_, rfl, a, rfl, ⟨_, hT⟩, fun D hD => lc_tup (K := K) (a := a) (xs := xs) (fun i H' => Same H H' ∧ H' D = some (.lst ((innerOf (es.take i)).map V.ref))) ⟨same_upd hD _, upd_same⟩ (fun i H' _ h => seqT_same h.1 hT) (step D hD) (fin D)⟩
theorem ok_tSizes (T : TxCalls w K mg) {v1 v2 v3 v4 v5 v6 v7 : Option V} {p dx ti : Addr} {fs : List (Str × V)} {H : Hp} {cs : List Addr} {ns : List Nat} {Q : VK} (hp : H p = some (.ins T.C_Call dx fs)) (hl : fs.lookup ("inner" : Str) = some (.ref ti)) (ht : SqT K H ti (cs.map V.ref)) (pc : Paired (CallS T.toTxTrees0 H) cs ns) (few : cs.length ≤ 500)
    (q : ∀ D H', Same H H' → H' D = some (.lst ((ns.map fun n : Nat => (n : Int)).map V.int)) → Q (.ref D) H') : tSizes T [some (.ref p), v1, v2, v3, v4, v5, v6, v7] H Q := by
  refine ⟨_, rfl, p, T.C_Call, dx, _, _, rfl, hp, T.c_Call, T.n_Call_inner, hl, ti, rfl, ⟨_, ht⟩, fun D hD => ?_⟩
  have ln := pair_len2 pc
  refine lc_tup (K := K) (a := ti) (xs := cs.map V.ref) (fun i H' => Same H H' ∧ H' D = some (.lst (((ns.take i).map fun n : Nat => (n : Int)).map V.int))) ⟨same_upd hD _, upd_same⟩ (fun i H' _ h => seqT_same h.1 ht) ?_ ?_
  · rintro i x H1 hx ⟨s1, d1⟩
    rw [List.getElem?_map] at hx
    obtain ⟨c, hc, rfl⟩ : ∃ c, cs[i]? = some c ∧ V.ref c = x := by
      cases e : cs[i]? with
      | none => rw [e] at hx; cases hx
      | some z => rw [e] at hx; cases hx; exact ⟨z, rfl, rfl⟩
    obtain ⟨n, hn, cS⟩ := pair_at pc hc
    have cS := cS.same s1
    obtain ⟨dx2, fs2, g1, g2⟩ := cS.ex
    refine ⟨rfl, ?_⟩
    refine ⟨_, rfl, c, (), dx2, fs2, rfl, trivial, g1, c, n, rfl, cS, n, rfl, cS.few, _, d1, small1000 (by rw [List.length_map, List.length_map, List.length_take]; omega), fun e u z => ?_, ?_⟩
    · rw [upd_ne (ne_of_none z hD)]; exact s1 _ _ z
    · rw [upd_same, List.take_add_one, hn, List.map_append, List.map_append]; rfl
  · rintro H1 ⟨s1, d1⟩
    rw [List.length_map, ln, List.take_length] at d1
    exact q D H1 s1 d1
end
def callEnd {w : World} {K : PySem.W.Frag} {mg : Str → Option Value} (T : TxCalls w K mg) : TS := tSeq (sFld K (tVar 0) (tCB (TupS K) (tCons (tInner T) tNil)) (Str.ofString "inner")) (sFld K (tVar 0) (tOp (rI0 fun i j => V.int (i + j)) (tC (V.int 1)) (tCB (rSum K) (tCons (tSizes T) tNil))) (Str.ofString "_size"))
theorem CallS.kpF {w : World} {K : PySem.W.Frag} {mg : Str → Option Value} {T : TxTrees0 w K mg} {H H' : Hp} {p C dx c : Addr} {fs : List (Str × V)} {n : Nat} (h : CallS T H c n) (hp : H p = some (.ins C dx fs)) (hs : fs.lookup ("_size" : Str) = none) (kp : Kp p H H') : CallS T H' c n := by
  obtain ⟨dx2, fs2, h1, h2⟩ := h.ex
  exact ⟨⟨dx2, fs2, kp _ _ (fun z => by rw [z, hp] at h1; cases h1; rw [hs] at h2; cases h2) h1, h2⟩, h.few⟩
@[irreducible] def qInner {w : World} {K : PySem.W.Frag} {mg : Str → Option Value} (T : TxCalls w K mg) : TE := tInner T
@[irreducible] def qSizes {w : World} {K : PySem.W.Frag} {mg : Str → Option Value} (T : TxCalls w K mg) : TE := tSizes T
theorem qInner_eq {w : World} {K : PySem.W.Frag} {mg : Str → Option Value} {T : TxCalls w K mg} : tInner T = qInner T := by unfold qInner; rfl
theorem qSizes_eq {w : World} {K : PySem.W.Frag} {mg : Str → Option Value} {T : TxCalls w K mg} : tSizes T = qSizes T := by unfold qSizes; rfl
theorem ok_qInner {w : World} {K : PySem.W.Frag} {mg : Str → Option Value} (T : TxCalls w K mg) {v0 v1 v2 v3 v5 v6 v7 : Option V} {a : Addr} {H : Hp} {xs : List V} {es : List Ek} {Q : VK} (hA : SqA K H a xs) (pe : Paired (EkAt T.toTxTrees0 H) xs es) (no : ∀ e ∈ es, e ≠ .odd) (n500 : xs.length ≤ 500)
    (q : ∀ D H', Same H H' → H' D = some (.lst ((innerOf es).map V.ref)) → Q (.ref D) H') : qInner T [v0, v1, v2, v3, some (.ref a), v5, v6, v7] H Q := by
  unfold qInner
  exact ok_tInner T hA pe no n500 q
theorem ok_qSizes {w : World} {K : PySem.W.Frag} {mg : Str → Option Value} (T : TxCalls w K mg) {v1 v2 v3 v4 v5 v6 v7 : Option V} {p dx ti : Addr} {fs : List (Str × V)} {H : Hp} {cs : List Addr} {ns : List Nat} {Q : VK} (hp : H p = some (.ins T.C_Call dx fs)) (hl : fs.lookup ("inner" : Str) = some (.ref ti)) (ht : SqT K H ti (cs.map V.ref)) (pc : Paired (CallS T.toTxTrees0 H) cs ns) (few : cs.length ≤ 500)
    (q : ∀ D H', Same H H' → H' D = some (.lst ((ns.map fun n : Nat => (n : Int)).map V.int)) → Q (.ref D) H') : qSizes T [some (.ref p), v1, v2, v3, v4, v5, v6, v7] H Q := by
  unfold qSizes
  exact ok_tSizes T hp hl ht pc few q
theorem ok_callEnd {w : World} {K : PySem.W.Frag} {mg : Str → Option Value} (T : TxCalls w K mg) {D : Ends} {v1 v2 v3 v5 v6 v7 : Option V} {a p dx te : Addr} {sv kd bd sd : V} {H : Hp} {xs : List V} {es : List Ek} {ns : List Nat} (hA : SqA K H a xs) (pe : Paired (EkAt T.toTxTrees0 H) xs es) (no : ∀ e ∈ es, e ≠ .odd) (n500 : xs.length ≤ 500)
    (hI : Paired (CallS T.toTxTrees0 H) (innerOf es) ns) (hp : H p = some (.ins T.C_Call dx [("service", sv), ("kind", kd), ("bad", bd), ("events", .ref te), ("side", sd)]))
    (q : ∀ ti HB, Kp p H HB → HB p = some (.ins T.C_Call dx [("service", sv), ("kind", kd), ("bad", bd), ("events", .ref te), ("side", sd), ("inner", .ref ti), ("_size", .int (1 + (ns.sum : Int)))]) → SqT K HB ti ((innerOf es).map V.ref) → D.nx [some (.ref p), v1, v2, v3, some (.ref a), v5, v6, v7] HB) :
    callEnd T D [some (.ref p), v1, v2, v3, some (.ref a), v5, v6, v7] H := by
  unfold callEnd
  rw [qInner_eq, qSizes_eq]
  have lim : (innerOf es).length ≤ 500 := Nat.le_trans (innerOf_len es) (by rw [← pair_len2 pe]; exact n500)
  refine ok_qInner T hA pe no n500 fun D H8 s8 hD8 => ?_
  refine ⟨D, _, rfl, .inl (SqL.of hD8), fun ti H10 s10 hti => ?_⟩
  have s9 := s8.trans s10
  refine ⟨_, rfl, p, T.C_Call, dx, _, rfl, s9 _ _ hp, T.c_Call, T.n_Call_inner, (by show 5 < 1000; decide), ?_⟩
  have kA : Kp p H (upd H10 p (.ins T.C_Call dx [("service", sv), ("kind", kd), ("bad", bd), ("events", .ref te), ("side", sd), ("inner", .ref ti)])) := fun b u nb e => by rw [upd_ne nb]; exact s9 _ _ e
  have zA := upd_same (H := H10) (a := p) (o := .ins T.C_Call dx [("service", sv), ("kind", kd), ("bad", bd), ("events", .ref te), ("side", sd), ("inner", .ref ti)])
  have keep : Kp p H10 (upd H10 p (.ins T.C_Call dx [("service", sv), ("kind", kd), ("bad", bd), ("events", .ref te), ("side", sd), ("inner", .ref ti)])) := fun b u nb e => by rw [upd_ne nb]; exact e
  have tiA := sqT_kp hti (s9 _ _ hp) keep
  have ez2 : putF (Str.ofString "inner") (V.ref ti) ([("service", sv), ("kind", kd), ("bad", bd), ("events", .ref te), ("side", sd)] : List (Str × V)) = ([("service", sv), ("kind", kd), ("bad", bd), ("events", .ref te), ("side", sd), ("inner", .ref ti)] : List (Str × V)) := rfl
  rw [ez2]
  generalize upd H10 p (.ins T.C_Call dx [("service", sv), ("kind", kd), ("bad", bd), ("events", .ref te), ("side", sd), ("inner", .ref ti)]) = HA at kA zA tiA ⊢
  refine ok_qSizes T zA rfl tiA (paired_kp (fun _ _ z => CallS.kpF z hp rfl kA) hI) lim fun D2 HB sB hD2 => ?_
  refine ⟨D2, _, rfl, SqL.of hD2, _, _, rfl, rfl, ?_⟩
  refine ⟨_, rfl, p, T.C_Call, dx, _, rfl, sB _ _ zA, T.c_Call, T.n_Call__size, (by show 6 < 1000; decide), ?_⟩
  rw [sum_int]
  have keepB : Kp p HB (upd HB p (.ins T.C_Call dx [("service", sv), ("kind", kd), ("bad", bd), ("events", .ref te), ("side", sd), ("inner", .ref ti), ("_size", .int (1 + (ns.sum : Int)))])) := fun b u nb e => by rw [upd_ne nb]; exact e
  exact q ti _ (fun b u nb e => keepB b u nb (sB _ _ (kA b u nb e))) upd_same (sqT_kp (seqT_same sB tiA) (sB _ _ zA) keepB)
section
variable {P : Program} {w : World} {K : PySem.W.Frag} {mg : Str → Option Value} {base : Heap}
theorem ok_Call_init (T : TxCalls w K mg) : FnOk P w K mg base (L2.CX P w) 5 T.f_Call_init T.d_Call_init P_Call_init (spCallInit T.toTxTrees0) := by
  have G_InvalidTree_init := ok_xtr (P := P) (w := w) (base := base) T.toTxTrees0
  have G_is_name := ok_is_name (P := P) (w := w) (base := base) T.toTxEvents.toTxSeq0.toTxCheck
  have G_are_events := ok_are_events (P := P) (w := w) (base := base) T.toTxEvents
  have G_clen := len_call (P := P) (w := w) (base := base) T
  refine T.F_Call_init.ok sc_Call_init (fun vs H Q E h => ?_) (fun cdv A outer s H vs Q E hr h => ?_)
  · obtain ⟨p, dx, sv, kd, bd, ev, sd, b3, b4, d, rfl, _⟩ := h
    rfl
  obtain ⟨p, dx, sv, kd, bd, ev, sd, b3, b4, d, rfl, hp, h1, h2, h3, h4, h5, sh, qe, q⟩ := h
  refine ⟨_, (pss_cons (ps_if (pt_not (pt_val (pe_call G_is_name (hr.mono (by decide)) (by rfl) T.m_is_name T.F_is_name.kp T.b_is_name .nil pass0 (pa_cons (pv 1) pa_nil)))) (pss_one (ps_raise rfl (takes_of rfl rfl rfl rfl) (pmk_oexB T.oxTr T.iTr T.tTr G_InvalidTree_init (hr.mono (by decide)) T.b_InvalidTree_init .nil pass0 (by rfl) T.m_InvalidTree (pa_cons pe_str pa_nil)))) pss_nil)
      (pss_cons (ps_if (pt_not (pt_val (pe_call G_is_name (hr.mono (by decide)) (by rfl) T.m_is_name T.F_is_name.kp T.b_is_name .nil pass0 (pa_cons (pv 2) pa_nil)))) (pss_one (ps_raise rfl (takes_of rfl rfl rfl rfl) (pmk_oexB T.oxTr T.iTr T.tTr G_InvalidTree_init (hr.mono (by decide)) T.b_InvalidTree_init .nil pass0 (by rfl) T.m_InvalidTree (pa_cons pe_str pa_nil)))) pss_nil)
      (pss_cons (ps_if (pt_not (pt_val (pe_callB (call_isiV K) (by rfl) T.z_isinstance (by decide +kernel) (pa_cons (pv 3) (pa_cons (pe_bltn (v := .ty "bool") (by rfl) T.z_bool (by decide +kernel) rfl) pa_nil))))) (pss_one (ps_raise rfl (takes_of rfl rfl rfl rfl) (pmk_oexB T.oxTr T.iTr T.tTr G_InvalidTree_init (hr.mono (by decide)) T.b_InvalidTree_init .nil pass0 (by rfl) T.m_InvalidTree (pa_cons pe_str pa_nil)))) pss_nil)
      (pss_cons (ps_if (pt_not (pt_val (pe_call G_are_events (hr.mono (by decide)) (by rfl) T.m_are_events T.F_are_events.kp T.b_are_events .nil pass0 (pa_cons (pv 4) pa_nil)))) (pss_one (ps_raise rfl (takes_of rfl rfl rfl rfl) (pmk_oexB T.oxTr T.iTr T.tTr G_InvalidTree_init (hr.mono (by decide)) T.b_InvalidTree_init .nil pass0 (by rfl) T.m_InvalidTree (pa_cons pe_str pa_nil)))) pss_nil)
      (pss_cons (ps_if (pt_cmpR (op_notInT K (room65 hr)) (pv 5) (pe_tup (pa_cons pe_str (pa_cons pe_str pa_nil))) (by rfl)) (pss_one (ps_raise rfl (takes_of rfl rfl rfl rfl) (pmk_oexB T.oxTr T.iTr T.tTr G_InvalidTree_init (hr.mono (by decide)) T.b_InvalidTree_init .nil pass0 (by rfl) T.m_InvalidTree (pa_cons pe_str pa_nil)))) pss_nil)
      (pss_cons (ps_fld (pv 0) (pv 1) rfl)
      (pss_cons (ps_fld (pv 0) (pv 2) rfl)
      (pss_cons (ps_fld (pv 0) (pv 3) rfl)
      (pss_cons (ps_fld (pv 0) (pe_callTy (call_tupS K) (by rfl) T.z_tuple (by decide +kernel) (pa_cons (pv 4) pa_nil)) rfl)
      (pss_cons (ps_fld (pv 0) (pv 5) rfl)
      (pss_cons (ps_fld (pv 0) (pe_callTy (call_tupS K) (by rfl) T.z_tuple (by decide +kernel) (pa_cons (pe_lc (own := [("event", 6)]) (g := gName 6) (by rfl) sc_Call_init.nd (pi_two K (pv 4)) (blkOk_by (own := [("event", 6)]) (N := N_Call_init) (sc := defScope s_Call_init) (by decide +kernel)) (fun _ _ _ _ _ => (pg_name (i := 6) sc_Call_init.nd rfl (Or.inl rfl))) (fun _ _ _ _ _ => pts_one (by exact (pt_not (pt_val (pe_callB (call_isiV K) (by rfl) T.z_isinstance (by decide +kernel) (pa_cons (pv 6) (pa_cons (pe_glob (v := .ref T.C_Hear) (by rfl) T.m_Hear rfl) pa_nil))))))) (fun _ _ _ _ _ => (pe_fldK K (pv 6)))) pa_nil)) rfl)
      (pss_one (ps_fld (pv 0) (pe_op op_add pe_int (pe_callB (cr_sum (by rfl)) (by rfl) T.z_sum (by decide +kernel) (pa_cons (pe_lc (own := [("call", 7)]) (g := gName 7) (by rfl) sc_Call_init.nd (pi_tupK K (pe_fldK K (pv 0))) (blkOk_by (own := [("call", 7)]) (N := N_Call_init) (sc := defScope s_Call_init) (by decide +kernel)) (fun _ _ _ _ _ => (pg_name (i := 7) sc_Call_init.nd rfl (Or.inl rfl))) (fun _ _ _ _ _ => pts_nil) (fun _ _ _ _ _ => (pe_callB (call_lenO K G_clen (hr.mono (by decide))) (by rfl) T.z_len (by decide +kernel) (pa_cons (pv 7) pa_nil)))) pa_nil))) rfl))))))))))))), ?_⟩
  refine ⟨_, rfl, sv, rfl, h1, fun H1 s1 => ⟨_, rfl, ?_⟩⟩
  refine ite2 (fun c1 => ?_) (fun c1 => ?_)
  · exact mk_at (fun R r => by exact r) fun a H' s' n' e' => qe _ a H' (if_pos (bnot1 c1)) (s1.trans s') (s1.free n') e'
  have c1 := bnot2 c1
  refine ⟨_, rfl, kd, rfl, h2.same s1, fun H2 s2 => ⟨_, rfl, ?_⟩⟩
  have s2 := s1.trans s2
  refine ite2 (fun c2 => ?_) (fun c2 => ?_)
  · exact mk_at (fun R r => by exact r) fun a H' s' n' e' => qe _ a H' ((if_neg (by rw [c1]; decide)).trans (if_pos (bnot1 c2))) (s2.trans s') (s2.free n') e'
  have c2 := bnot2 c2
  obtain ⟨t3, y3, k3⟩ := h3.same s2
  refine ⟨_, rfl, bd, .ty "bool", t3, _, b3, rfl, .ty _, y3, k3, _, rfl, ?_⟩
  refine ite2 (fun c3 => ?_) (fun c3 => ?_)
  · exact mk_at (fun R r => by exact r) fun a H' s' n' e' => qe _ a H' ((if_neg (by rw [c1]; decide)).trans ((if_neg (by rw [c2]; decide)).trans (if_pos (bnot1 c3)))) (s2.trans s') (s2.free n') e'
  have c3 := bnot2 c3
  refine ⟨_, rfl, ev, b4, rfl, h4.same s2, fun H4 s4 => ⟨_, rfl, ?_⟩⟩
  have s4 := s2.trans s4
  refine ite2 (fun c4 => ?_) (fun c4 => ?_)
  · exact mk_at (fun R r => by exact r) fun a H' s' n' e' => qe _ a H' ((if_neg (by rw [c1]; decide)).trans ((if_neg (by rw [c2]; decide)).trans ((if_neg (by rw [c3]; decide)).trans (if_pos (bnot1 c4))))) (s4.trans s') (s4.free n') e'
  have c4 := bnot2 c4
  refine ⟨_, rfl, by show 2 ≤ sizeLine; decide, fun t5 ht5 => ⟨d, ([("old" : Str), "new"]).map PyData.str, Dp.same (s4.trans (same_upd ht5 _)) d sd h5, .tup (SqT.of upd_same) (Dp.all_strs [("old" : Str), "new"]), sh, shaped_strs (by decide +kernel), _, rfl, ?_⟩⟩
  have s5 := s4.trans (same_upd ht5 (.tup (([("old" : Str), "new"]).map V.str)))
  refine ite2 (fun c5 => ?_) (fun c5 => ?_)
  · exact mk_at (fun R r => by exact r) fun a H' s' n' e' => qe _ a H' ((if_neg (by rw [c1]; decide)).trans ((if_neg (by rw [c2]; decide)).trans ((if_neg (by rw [c3]; decide)).trans ((if_neg (by rw [c4]; decide)).trans (if_pos (bnot1 c5)))))) (s5.trans s') (s5.free n') e'
  have c5 : inSides d = true := bnot2 c5
  obtain ⟨a, xs, es, ns, rfl, hS, hE, n500, no, hI, n900, q⟩ := q (by unfold wrCall; rw [c1, c2, c3, c4, c5]; decide)
  have s5 : Same H (upd H4 t5 (.tup [.str (Str.ofString "old"), .str (Str.ofString "new")])) := s5
  have hp5 := s5 _ _ hp
  generalize upd H4 t5 (.tup [.str (Str.ofString "old"), .str (Str.ofString "new")]) = H5 at s5 hp5
  refine ⟨_, rfl, _, rfl, p, T.C_Call, dx, _, rfl, hp5, T.c_Call, T.n_Call_service, (by show 0 < 1000; decide), ?_⟩
  refine ⟨_, rfl, _, rfl, p, T.C_Call, dx, _, rfl, upd_same, T.c_Call, T.n_Call_kind, (by show 1 < 1000; decide), ?_⟩
  refine ⟨_, rfl, _, rfl, p, T.C_Call, dx, _, rfl, upd_same, T.c_Call, T.n_Call_bad, (by show 2 < 1000; decide), ?_⟩
  rw [upd_upd, upd_upd]
  have k6 : Kp p H (upd H5 p (.ins T.C_Call dx [("service", sv), ("kind", kd), ("bad", bd)])) := fun b u nb e => by rw [upd_ne nb]; exact s5 _ _ e
  have hp6 : upd H5 p (.ins T.C_Call dx [("service", sv), ("kind", kd), ("bad", bd)]) p = some (.ins T.C_Call dx [("service", sv), ("kind", kd), ("bad", bd)]) := upd_same
  refine ⟨_, rfl, ⟨a, xs, rfl, hS.kp hp k6, fun te H7 s7 ht7 => ?_⟩⟩
  have k7 := k6.same s7
  refine ⟨_, rfl, p, T.C_Call, dx, _, rfl, s7 _ _ hp6, T.c_Call, T.n_Call_events, (by show 3 < 1000; decide), ?_⟩
  refine ⟨_, rfl, _, rfl, p, T.C_Call, dx, _, rfl, upd_same, T.c_Call, T.n_Call_side, (by show 4 < 1000; decide), ?_⟩
  rw [upd_upd]
  have ha9 := hS.kp hp k7
  have z9 := upd_same (H := H7) (a := p) (o := .ins T.C_Call dx [("service", sv), ("kind", kd), ("bad", bd), ("events", .ref te), ("side", sd)])
  have k9 : Kp p H (upd H7 p (.ins T.C_Call dx [("service", sv), ("kind", kd), ("bad", bd), ("events", .ref te), ("side", sd)])) := fun b u nb e => by rw [upd_ne nb]; exact k7 b u nb e
  have te9 : SqT K (upd H7 p (.ins T.C_Call dx [("service", sv), ("kind", kd), ("bad", bd), ("events", .ref te), ("side", sd)])) te xs := sqT_kp ht7 (s7 _ _ hp6) fun b u nb e => by rw [upd_ne nb]; exact e
  have ez : putF (Str.ofString "side") sd (putF (Str.ofString "events") (V.ref te) [(Str.ofString "service", sv), (Str.ofString "kind", kd), (Str.ofString "bad", bd)]) = ([("service", sv), ("kind", kd), ("bad", bd), ("events", .ref te), ("side", sd)] : List (Str × V)) := rfl
  rw [ez]
  generalize upd H7 p (.ins T.C_Call dx [("service", sv), ("kind", kd), ("bad", bd), ("events", .ref te), ("side", sd)]) = H9 at z9 k9 te9 ⊢
  have lim : (innerOf es).length ≤ 500 := Nat.le_trans (innerOf_len es) (by rw [← pair_len2 hE]; exact n500)
  refine ok_callEnd T (v1 := some sv) (v2 := some kd) (v3 := some bd) (v5 := some sd) (v6 := none) (v7 := none) (hS.kp hp k9) (ek_kp hp k9 hE no) no n500 (paired_kp (fun _ _ z => CallS.kp z hp k9) hI) z9 fun ti HB sB zB tiB => ?_
  exact q _ te ti (fun b u e nb => sB b u nb (k9 b u nb e)) zB (sqT_kp te9 z9 sB) tiB
end
end My

/-! ## Things that a law makes: texts, numbers, calls, waits, leaves, hears, lists and tuples of them -/
namespace My
open PySem PySem.Spec PyProof.Rows L2 PySem.MyX
/-- what a thing is -/
inductive TD where
  | non
  | bl (b : Bool)
  | int (i : Int)
  | str (s : Str)
  | call
  | wait
  | leave
  | hear (n : Int)
  | lst (ts : List TD)
  | tup (ts : List TD)
/-- what stands at addresses of this kind stays, dicts aside -/
def KV (g : Addr → Prop) (H H' : Hp) : Prop := ∀ a o, g a → (∀ k, o ≠ .dK k) → H a = some o → H' a = some o
theorem KV.refl (g : Addr → Prop) (H : Hp) : KV g H H := fun _ _ _ _ h => h
theorem KV.trans {g : Addr → Prop} {H1 H2 H3 : Hp} (x : KV g H1 H2) (y : KV g H2 H3) : KV g H1 H3 := fun a o n m h => y a o n m (x a o n m h)
theorem KV.of_same {g : Addr → Prop} {H H' : Hp} (s : Same H H') : KV g H H' := fun a o _ _ h => s a o h
theorem KV.of_keepD {g : Addr → Prop} {d e : Addr} {H H' : Hp} {kvs : List (Key × V)} (hg : ∀ a, g a → a ≠ e) (hd : H d = some (.dK kvs)) (k : KeepD d e H H') : KV g H H' := fun a o n m h => k a o (fun z => by rw [z, hd] at h; exact m _ (Option.some.inj h).symm) (hg a n) h
theorem KV.put {g : Addr → Prop} {R : Addr} {H : Hp} {kvs : List (Key × V)} (hR : H R = some (.dK kvs)) (o' : HO) : KV g H (upd H R o') := fun a o _ m h => by
  rw [upd_ne (fun z => by rw [z, hR] at h; exact m _ (Option.some.inj h).symm)]
  exact h
section
variable {w : World} {K : PySem.W.Frag} {mg : Str → Option Value}
/-- a call of one alone -/
structure One (T : TxTrees0 w K mg) (g : Addr → Prop) (H : Hp) (c : Addr) : Prop where
  ex : ∃ dx fs, H c = some (.ins T.C_Call dx fs) ∧ fs.lookup ("_size" : Str) = some (.int 1)
  ne : g c
mutual
inductive Th (T : TxTrees0 w K mg) (g : Addr → Prop) (H : Hp) : V → TD → Prop
  | non : Th T g H .non .non
  | bl (b : Bool) : Th T g H (.bl b) (.bl b)
  | int (i : Int) : Th T g H (.int i) (.int i)
  | str (s : Str) : Th T g H (.str s) (.str s)
  | call {c : Addr} (h : One T g H c) : Th T g H (.ref c) .call
  | wait {a dx c : Addr} (n : g a) (h : H a = some (.ins T.C_Wait dx [("call", .ref c)])) (hc : One T g H c) : Th T g H (.ref a) .wait
  | leave {a dx c : Addr} (n : g a) (h : H a = some (.ins T.C_Leave dx [("call", .ref c)])) (hc : One T g H c) : Th T g H (.ref a) .leave
  | hear {a dx : Addr} {i : Int} (n : g a) (h : H a = some (.ins T.C_Hear dx [("number", .int i)])) : Th T g H (.ref a) (.hear i)
  | lst {a : Addr} {xs : List V} {ts : List TD} (n : g a) (h : H a = some (.lst xs)) (t : ThAll T g H xs ts) : Th T g H (.ref a) (.lst ts)
  | tup {a : Addr} {xs : List V} {ts : List TD} (n : g a) (h : H a = some (.tup xs)) (t : ThAll T g H xs ts) : Th T g H (.ref a) (.tup ts)
inductive ThAll (T : TxTrees0 w K mg) (g : Addr → Prop) (H : Hp) : List V → List TD → Prop
  | nil : ThAll T g H [] []
  | cons {v : V} {t : TD} {vs : List V} {ts : List TD} (h : Th T g H v t) (r : ThAll T g H vs ts) : ThAll T g H (v :: vs) (t :: ts)
end
theorem One.kv {T : TxTrees0 w K mg} {g : Addr → Prop} {H H' : Hp} {c : Addr} (h : One T g H c) (k : KV g H H') : One T g H' c := by
  obtain ⟨⟨dx, fs, h1, h2⟩, n⟩ := h
  exact ⟨⟨dx, fs, k _ _ n (fun _ z => nomatch z) h1, h2⟩, n⟩
mutual
theorem Th.kv {T : TxTrees0 w K mg} {g : Addr → Prop} {H H' : Hp} (k : KV g H H') : ∀ (t : TD) (v : V), Th T g H v t → Th T g H' v t
  | .non, _, h => by cases h; exact .non
  | .bl _, _, h => by cases h; exact .bl _
  | .int _, _, h => by cases h; exact .int _
  | .str _, _, h => by cases h; exact .str _
  | .call, _, h => by cases h with | call h => exact .call (h.kv k)
  | .wait, _, h => by cases h with | wait n h hc => exact .wait n (k _ _ n (fun _ z => nomatch z) h) (hc.kv k)
  | .leave, _, h => by cases h with | leave n h hc => exact .leave n (k _ _ n (fun _ z => nomatch z) h) (hc.kv k)
  | .hear _, _, h => by cases h with | hear n h => exact .hear n (k _ _ n (fun _ z => nomatch z) h)
  | .lst ts, _, h => by cases h with | lst n h t => exact .lst n (k _ _ n (fun _ z => nomatch z) h) (ThAll.kv k ts _ t)
  | .tup ts, _, h => by cases h with | tup n h t => exact .tup n (k _ _ n (fun _ z => nomatch z) h) (ThAll.kv k ts _ t)
theorem ThAll.kv {T : TxTrees0 w K mg} {g : Addr → Prop} {H H' : Hp} (k : KV g H H') : ∀ (ts : List TD) (vs : List V), ThAll T g H vs ts → ThAll T g H' vs ts
  | [], _, h => by cases h; exact .nil
  | t :: ts, _, h => by cases h with | cons h r => exact .cons (Th.kv k t _ h) (ThAll.kv k ts _ r)
end
theorem One.imp {T : TxTrees0 w K mg} {g g2 : Addr → Prop} {H : Hp} {c : Addr} (i : ∀ a o, H a = some o → g a → g2 a) (h : One T g H c) : One T g2 H c := by
  obtain ⟨⟨dx, fs, h1, h2⟩, n⟩ := h
  exact ⟨⟨dx, fs, h1, h2⟩, i _ _ h1 n⟩
mutual
theorem Th.imp {T : TxTrees0 w K mg} {g g2 : Addr → Prop} {H : Hp} (i : ∀ a o, H a = some o → g a → g2 a) : ∀ (t : TD) (v : V), Th T g H v t → Th T g2 H v t
  | .non, _, h => by cases h; exact .non
  | .bl _, _, h => by cases h; exact .bl _
  | .int _, _, h => by cases h; exact .int _
  | .str _, _, h => by cases h; exact .str _
  | .call, _, h => by cases h with | call h => exact .call (One.imp i h)
  | .wait, _, h => by cases h with | wait n h hc => exact .wait (i _ _ h n) h (One.imp i hc)
  | .leave, _, h => by cases h with | leave n h hc => exact .leave (i _ _ h n) h (One.imp i hc)
  | .hear _, _, h => by cases h with | hear n h => exact .hear (i _ _ h n) h
  | .lst ts, _, h => by cases h with | lst n h t => exact .lst (i _ _ h n) h (ThAll.imp i ts _ t)
  | .tup ts, _, h => by cases h with | tup n h t => exact .tup (i _ _ h n) h (ThAll.imp i ts _ t)
theorem ThAll.imp {T : TxTrees0 w K mg} {g g2 : Addr → Prop} {H : Hp} (i : ∀ a o, H a = some o → g a → g2 a) : ∀ (ts : List TD) (vs : List V), ThAll T g H vs ts → ThAll T g2 H vs ts
  | [], _, h => by cases h; exact .nil
  | t :: ts, _, h => by cases h with | cons h r => exact .cons (Th.imp i t _ h) (ThAll.imp i ts _ r)
end
theorem Th.same {T : TxTrees0 w K mg} {g : Addr → Prop} {H H' : Hp} {t : TD} {v : V} (h : Th T g H v t) (s : Same H H') : Th T g H' v t := Th.kv (KV.of_same s) t v h
theorem ThAll.same {T : TxTrees0 w K mg} {g : Addr → Prop} {H H' : Hp} {ts : List TD} {vs : List V} (h : ThAll T g H vs ts) (s : Same H H') : ThAll T g H' vs ts := ThAll.kv (KV.of_same s) ts vs h
theorem ThAll.len {T : TxTrees0 w K mg} {g : Addr → Prop} {H : Hp} : ∀ {ts : List TD} {vs : List V}, ThAll T g H vs ts → vs.length = ts.length
  | _, _, .nil => rfl
  | _, _, .cons _ r => congrArg Nat.succ r.len
theorem ThAll.app {T : TxTrees0 w K mg} {g : Addr → Prop} {H : Hp} : ∀ {ts us : List TD} {vs ws : List V}, ThAll T g H vs ts → ThAll T g H ws us → ThAll T g H (vs ++ ws) (ts ++ us)
  | _, _, _, _, .nil, r => r
  | _, _, _, _, .cons h t, r => .cons h (t.app r)
theorem ThAll.mem {T : TxTrees0 w K mg} {g : Addr → Prop} {H : Hp} : ∀ {ts : List TD} {vs : List V} {v : V}, ThAll T g H vs ts → v ∈ vs → ∃ t, t ∈ ts ∧ Th T g H v t
  | _, _, _, .cons h r, m => by
    rcases List.mem_cons.mp m with rfl | m
    · exact ⟨_, List.mem_cons_self, h⟩
    · obtain ⟨t, h1, h2⟩ := r.mem m
      exact ⟨t, List.mem_cons_of_mem _ h1, h2⟩
/-! ### making them -/
/-- where calls stand at slots 2 and 3 -/
structure B22 (T : TxTrees0 w K mg) (g : Addr → Prop) (σ : L2.St) (H : Hp) : Prop where
  one : ∃ c : Addr, σ[2]? = some (some (.ref c)) ∧ One T g H c
  two : ∃ c : Addr, σ[3]? = some (some (.ref c)) ∧ One T g H c
  gr : ∀ p, H p = none → g p
theorem B22.same {T : TxTrees0 w K mg} {g : Addr → Prop} {σ : L2.St} {H H' : Hp} (h : B22 T g σ H) (s : Same H H') : B22 T g σ H' := by
  obtain ⟨c, h1, h2⟩ := h.one
  obtain ⟨e, h3, h4⟩ := h.two
  exact ⟨⟨c, h1, h2.kv (KV.of_same s)⟩, ⟨e, h3, h4.kv (KV.of_same s)⟩, fun p hp => h.gr p (s.free hp)⟩
structure MkT (T : TxTrees0 w K mg) (g : Addr → Prop) (te : TE) (t : TD) : Prop where
  run : ∀ {σ : L2.St} {H : Hp} {Q : VK}, B22 T g σ H → (∀ v H', Same H H' → Th T g H' v t → Q v H') → te σ H Q
structure MkA (T : TxTrees0 w K mg) (g : Addr → Prop) (ta : TA) (ts : List TD) : Prop where
  run : ∀ {σ : L2.St} {H : Hp} {Q : List V → Hp → Prop}, B22 T g σ H → (∀ vs H', Same H H' → ThAll T g H' vs ts → Q vs H') → ta σ H Q
variable {T : TxTrees0 w K mg} {g : Addr → Prop}
theorem mkNon : MkT T g (tC .non) .non := ⟨fun _ q => q _ _ (Same.refl _) .non⟩
theorem mkBl (b : Bool) : MkT T g (tC (.bl b)) (.bl b) := ⟨fun _ q => q _ _ (Same.refl _) (.bl b)⟩
theorem mkInt (i : Int) : MkT T g (tC (.int i)) (.int i) := ⟨fun _ q => q _ _ (Same.refl _) (.int i)⟩
theorem mkStr (s : Str) : MkT T g (tC (.str s)) (.str s) := ⟨fun _ q => q _ _ (Same.refl _) (.str s)⟩
theorem mkOne : MkT T g (tVar 2) .call := ⟨fun b q => by
  obtain ⟨c, h1, h2⟩ := b.one
  exact ⟨_, h1, q _ _ (Same.refl _) (.call h2)⟩⟩
theorem mkNil : MkA T g tNil [] := ⟨fun _ q => q _ _ (Same.refl _) .nil⟩
theorem MkT.cons {te : TE} {ta : TA} {t : TD} {ts : List TD} (h : MkT T g te t) (r : MkA T g ta ts) : MkA T g (tCons te ta) (t :: ts) := ⟨fun b q => h.run b fun v H1 s1 t1 => r.run (b.same s1) fun vs H2 s2 t2 => q _ _ (s1.trans s2) (.cons (t1.same s2) t2)⟩
theorem MkA.lst {ta : TA} {ts : List TD} (h : MkA T g ta ts) (n : ts.length ≤ 1000) : MkT T g (qLst ta) (.lst ts) := qLst_eq ▸ ⟨fun b q => h.run b fun vs H1 s1 t1 => ⟨by rw [t1.len, sizeLine_eq]; omega, fun p hp => by
  exact q _ _ (s1.trans (same_upd hp _)) (.lst ((b.same s1).gr p hp) upd_same (t1.same (same_upd hp _)))⟩⟩
theorem MkA.tup {ta : TA} {ts : List TD} (h : MkA T g ta ts) (n : ts.length ≤ 1000) : MkT T g (tTup ta) (.tup ts) := ⟨fun b q => h.run b fun vs H1 s1 t1 => ⟨by rw [t1.len, sizeLine_eq]; omega, fun p hp => by
  exact q _ _ (s1.trans (same_upd hp _)) (.tup ((b.same s1).gr p hp) upd_same (t1.same (same_upd hp _)))⟩⟩
end
end My

/-! ## What things are asked: isinstance, names, events -/
namespace My
open PySem PySem.Spec PyProof.Rows L2 PySem.MyX
structure TxThings (w : World) (K : PySem.W.Frag) (mg : Str → Option Value) extends TxCalls w K mg where
  ty_Call : ∀ (H : Hp) (a dx : Addr) (fs : List (Str × V)), H a = some (.ins C_Call dx fs) → TyX K H (.ref a) (.ref C_Call)
  kk_Call_Call : PySem.W.kitOne K (.ref C_Call) (.ref C_Call) = some true
  kk_Call_Wait : PySem.W.kitOne K (.ref C_Call) (.ref C_Wait) = some false
  kk_Call_Leave : PySem.W.kitOne K (.ref C_Call) (.ref C_Leave) = some false
  kk_Call_Hear : PySem.W.kitOne K (.ref C_Call) (.ref C_Hear) = some false
  kk_Wait_Call : PySem.W.kitOne K (.ref C_Wait) (.ref C_Call) = some false
  kk_Leave_Call : PySem.W.kitOne K (.ref C_Leave) (.ref C_Call) = some false
  kk_Hear_Call : PySem.W.kitOne K (.ref C_Hear) (.ref C_Call) = some false
  kk_Hear_Wait : PySem.W.kitOne K (.ref C_Hear) (.ref C_Wait) = some false
  kk_Hear_Leave : PySem.W.kitOne K (.ref C_Hear) (.ref C_Leave) = some false
  kt_NoneType_Call : PySem.W.kitOne K (.type "NoneType") (.ref C_Call) = some false
  kt_NoneType_Wait : PySem.W.kitOne K (.type "NoneType") (.ref C_Wait) = some false
  kt_NoneType_Leave : PySem.W.kitOne K (.type "NoneType") (.ref C_Leave) = some false
  kt_NoneType_Hear : PySem.W.kitOne K (.type "NoneType") (.ref C_Hear) = some false
  kt_bool_Call : PySem.W.kitOne K (.type "bool") (.ref C_Call) = some false
  kt_bool_Wait : PySem.W.kitOne K (.type "bool") (.ref C_Wait) = some false
  kt_bool_Leave : PySem.W.kitOne K (.type "bool") (.ref C_Leave) = some false
  kt_bool_Hear : PySem.W.kitOne K (.type "bool") (.ref C_Hear) = some false
  kt_int_Call : PySem.W.kitOne K (.type "int") (.ref C_Call) = some false
  kt_int_Wait : PySem.W.kitOne K (.type "int") (.ref C_Wait) = some false
  kt_int_Leave : PySem.W.kitOne K (.type "int") (.ref C_Leave) = some false
  kt_int_Hear : PySem.W.kitOne K (.type "int") (.ref C_Hear) = some false
  kt_str_Call : PySem.W.kitOne K (.type "str") (.ref C_Call) = some false
  kt_str_Wait : PySem.W.kitOne K (.type "str") (.ref C_Wait) = some false
  kt_str_Leave : PySem.W.kitOne K (.type "str") (.ref C_Leave) = some false
  kt_str_Hear : PySem.W.kitOne K (.type "str") (.ref C_Hear) = some false
  kt_list_Call : PySem.W.kitOne K (.type "list") (.ref C_Call) = some false
  kt_list_Wait : PySem.W.kitOne K (.type "list") (.ref C_Wait) = some false
  kt_list_Leave : PySem.W.kitOne K (.type "list") (.ref C_Leave) = some false
  kt_list_Hear : PySem.W.kitOne K (.type "list") (.ref C_Hear) = some false
  kt_tuple_Call : PySem.W.kitOne K (.type "tuple") (.ref C_Call) = some false
  kt_tuple_Wait : PySem.W.kitOne K (.type "tuple") (.ref C_Wait) = some false
  kt_tuple_Leave : PySem.W.kitOne K (.type "tuple") (.ref C_Leave) = some false
  kt_tuple_Hear : PySem.W.kitOne K (.type "tuple") (.ref C_Hear) = some false
  kb_Call_str : PySem.W.kitOne K (.ref C_Call) (.type "str") = some false
  kb_Call_bool : PySem.W.kitOne K (.ref C_Call) (.type "bool") = some false
  kb_Call_int : PySem.W.kitOne K (.ref C_Call) (.type "int") = some false
  kb_Call_list : PySem.W.kitOne K (.ref C_Call) (.type "list") = some false
  kb_Call_tuple : PySem.W.kitOne K (.ref C_Call) (.type "tuple") = some false
  kb_Wait_str : PySem.W.kitOne K (.ref C_Wait) (.type "str") = some false
  kb_Wait_bool : PySem.W.kitOne K (.ref C_Wait) (.type "bool") = some false
  kb_Wait_int : PySem.W.kitOne K (.ref C_Wait) (.type "int") = some false
  kb_Wait_list : PySem.W.kitOne K (.ref C_Wait) (.type "list") = some false
  kb_Wait_tuple : PySem.W.kitOne K (.ref C_Wait) (.type "tuple") = some false
  kb_Leave_str : PySem.W.kitOne K (.ref C_Leave) (.type "str") = some false
  kb_Leave_bool : PySem.W.kitOne K (.ref C_Leave) (.type "bool") = some false
  kb_Leave_int : PySem.W.kitOne K (.ref C_Leave) (.type "int") = some false
  kb_Leave_list : PySem.W.kitOne K (.ref C_Leave) (.type "list") = some false
  kb_Leave_tuple : PySem.W.kitOne K (.ref C_Leave) (.type "tuple") = some false
  kb_Hear_str : PySem.W.kitOne K (.ref C_Hear) (.type "str") = some false
  kb_Hear_bool : PySem.W.kitOne K (.ref C_Hear) (.type "bool") = some false
  kb_Hear_int : PySem.W.kitOne K (.ref C_Hear) (.type "int") = some false
  kb_Hear_list : PySem.W.kitOne K (.ref C_Hear) (.type "list") = some false
  kb_Hear_tuple : PySem.W.kitOne K (.ref C_Hear) (.type "tuple") = some false
section
variable {w : World} {K : PySem.W.Frag} {mg : Str → Option Value} {g : Addr → Prop} {H : Hp}
def tyTD (T : TxTrees0 w K mg) : TD → Value
  | .non => .type "NoneType"
  | .bl _ => .type "bool"
  | .int _ => .type "int"
  | .str _ => .type "str"
  | .call => .ref T.C_Call
  | .wait => .ref T.C_Wait
  | .leave => .ref T.C_Leave
  | .hear _ => .ref T.C_Hear
  | .lst _ => .type "list"
  | .tup _ => .type "tuple"
theorem Th.ty (T : TxThings w K mg) {v : V} {t : TD} (h : Th T.toTxTrees0 g H v t) : TyX K H v (tyTD T.toTxTrees0 t) := by
  cases h with
  | non => exact .base .non
  | bl b => exact .base (.bl b)
  | int i => exact .base (.int i)
  | str s => exact .base (.str s)
  | call h =>
    obtain ⟨dx, fs, h1, _⟩ := h.ex
    exact T.ty_Call _ _ _ _ h1
  | wait n h hc => exact T.ty_Wait _ _ _ _ h
  | leave n h hc => exact T.ty_Leave _ _ _ _ h
  | hear n h => exact T.ty_Hear _ _ _ _ h
  | lst n h t => exact tyL (SqL.of h)
  | tup n h t => exact tyT (SqT.of h)
def isCallT : TD → Bool
  | .call => true
  | _ => false
theorem Th.isCall (T : TxThings w K mg) {v : V} {t : TD} (h : Th T.toTxTrees0 g H v t) : OfC K H v (.ref T.C_Call) (isCallT t) := ⟨_, Th.ty T h, by
  cases t with
  | non => exact T.kt_NoneType_Call
  | bl _ => exact T.kt_bool_Call
  | int _ => exact T.kt_int_Call
  | str _ => exact T.kt_str_Call
  | lst _ => exact T.kt_list_Call
  | tup _ => exact T.kt_tuple_Call
  | call => exact T.kk_Call_Call
  | wait => exact T.kk_Wait_Call
  | leave => exact T.kk_Leave_Call
  | hear _ => exact T.kk_Hear_Call⟩
def isWaitT : TD → Bool
  | .wait => true
  | _ => false
theorem Th.isWait (T : TxThings w K mg) {v : V} {t : TD} (h : Th T.toTxTrees0 g H v t) : OfC K H v (.ref T.C_Wait) (isWaitT t) := ⟨_, Th.ty T h, by
  cases t with
  | non => exact T.kt_NoneType_Wait
  | bl _ => exact T.kt_bool_Wait
  | int _ => exact T.kt_int_Wait
  | str _ => exact T.kt_str_Wait
  | lst _ => exact T.kt_list_Wait
  | tup _ => exact T.kt_tuple_Wait
  | call => exact T.kk_Call_Wait
  | wait => exact T.kk_Wait_Wait
  | leave => exact T.kk_Leave_Wait
  | hear _ => exact T.kk_Hear_Wait⟩
def isLeaveT : TD → Bool
  | .leave => true
  | _ => false
theorem Th.isLeave (T : TxThings w K mg) {v : V} {t : TD} (h : Th T.toTxTrees0 g H v t) : OfC K H v (.ref T.C_Leave) (isLeaveT t) := ⟨_, Th.ty T h, by
  cases t with
  | non => exact T.kt_NoneType_Leave
  | bl _ => exact T.kt_bool_Leave
  | int _ => exact T.kt_int_Leave
  | str _ => exact T.kt_str_Leave
  | lst _ => exact T.kt_list_Leave
  | tup _ => exact T.kt_tuple_Leave
  | call => exact T.kk_Call_Leave
  | wait => exact T.kk_Wait_Leave
  | leave => exact T.kk_Leave_Leave
  | hear _ => exact T.kk_Hear_Leave⟩
def isHearT : TD → Bool
  | .hear _ => true
  | _ => false
theorem Th.isHear (T : TxThings w K mg) {v : V} {t : TD} (h : Th T.toTxTrees0 g H v t) : OfC K H v (.ref T.C_Hear) (isHearT t) := ⟨_, Th.ty T h, by
  cases t with
  | non => exact T.kt_NoneType_Hear
  | bl _ => exact T.kt_bool_Hear
  | int _ => exact T.kt_int_Hear
  | str _ => exact T.kt_str_Hear
  | lst _ => exact T.kt_list_Hear
  | tup _ => exact T.kt_tuple_Hear
  | call => exact T.kk_Call_Hear
  | wait => exact T.kk_Wait_Hear
  | leave => exact T.kk_Leave_Hear
  | hear _ => exact T.kk_Hear_Hear⟩
def isStrT : TD → Bool
  | .str _ => true
  | _ => false
theorem Th.isStr (T : TxThings w K mg) {v : V} {t : TD} (h : Th T.toTxTrees0 g H v t) : OfC K H v (.type "str") (isStrT t) := ⟨_, Th.ty T h, by
  cases t with
  | non => exact kit_ty (show kitB "NoneType" "str" = some false by decide +kernel)
  | bl _ => exact kit_ty (show kitB "bool" "str" = some false by decide +kernel)
  | int _ => exact kit_ty (show kitB "int" "str" = some false by decide +kernel)
  | str _ => exact kit_ty (show kitB "str" "str" = some true by decide +kernel)
  | lst _ => exact kit_ty (show kitB "list" "str" = some false by decide +kernel)
  | tup _ => exact kit_ty (show kitB "tuple" "str" = some false by decide +kernel)
  | call => exact T.kb_Call_str
  | wait => exact T.kb_Wait_str
  | leave => exact T.kb_Leave_str
  | hear _ => exact T.kb_Hear_str⟩
def isBoolT : TD → Bool
  | .bl _ => true
  | _ => false
theorem Th.isBool (T : TxThings w K mg) {v : V} {t : TD} (h : Th T.toTxTrees0 g H v t) : OfC K H v (.type "bool") (isBoolT t) := ⟨_, Th.ty T h, by
  cases t with
  | non => exact kit_ty (show kitB "NoneType" "bool" = some false by decide +kernel)
  | bl _ => exact kit_ty (show kitB "bool" "bool" = some true by decide +kernel)
  | int _ => exact kit_ty (show kitB "int" "bool" = some false by decide +kernel)
  | str _ => exact kit_ty (show kitB "str" "bool" = some false by decide +kernel)
  | lst _ => exact kit_ty (show kitB "list" "bool" = some false by decide +kernel)
  | tup _ => exact kit_ty (show kitB "tuple" "bool" = some false by decide +kernel)
  | call => exact T.kb_Call_bool
  | wait => exact T.kb_Wait_bool
  | leave => exact T.kb_Leave_bool
  | hear _ => exact T.kb_Hear_bool⟩
def isIntT : TD → Bool
  | .int _ => true
  | .bl _ => true
  | _ => false
theorem Th.isInt (T : TxThings w K mg) {v : V} {t : TD} (h : Th T.toTxTrees0 g H v t) : OfC K H v (.type "int") (isIntT t) := ⟨_, Th.ty T h, by
  cases t with
  | non => exact kit_ty (show kitB "NoneType" "int" = some false by decide +kernel)
  | bl _ => exact kit_ty (show kitB "bool" "int" = some true by decide +kernel)
  | int _ => exact kit_ty (show kitB "int" "int" = some true by decide +kernel)
  | str _ => exact kit_ty (show kitB "str" "int" = some false by decide +kernel)
  | lst _ => exact kit_ty (show kitB "list" "int" = some false by decide +kernel)
  | tup _ => exact kit_ty (show kitB "tuple" "int" = some false by decide +kernel)
  | call => exact T.kb_Call_int
  | wait => exact T.kb_Wait_int
  | leave => exact T.kb_Leave_int
  | hear _ => exact T.kb_Hear_int⟩
def isSeqT : TD → Bool
  | .lst _ => true
  | .tup _ => true
  | _ => false
theorem Th.isSeq (T : TxThings w K mg) {v : V} {t : TD} (h : Th T.toTxTrees0 g H v t) : SeqV K H v (isSeqT t) := ⟨_, Th.ty T h, by
  have two : ∀ {t : Value} {a b r : Bool}, PySem.W.kitOne K t (.type "list") = some a → PySem.W.kitOne K t (.type "tuple") = some b → r = (a || b) → PySem.W.kitAny K t [.type "list", .type "tuple"] = some r := fun {t a b r} h1 h2 e => by
    subst e
    exact kitAny_cons h1 (fun z => kitAny_cons h2 (fun y => by rw [z, y]; rfl) (fun y => by rw [y]; cases a <;> rfl)) (fun z => by rw [z]; rfl)
  cases t with
  | non => exact two (kit_ty (show kitB "NoneType" "list" = some false by decide +kernel)) (kit_ty (show kitB "NoneType" "tuple" = some false by decide +kernel)) rfl
  | bl _ => exact two (kit_ty (show kitB "bool" "list" = some false by decide +kernel)) (kit_ty (show kitB "bool" "tuple" = some false by decide +kernel)) rfl
  | int _ => exact two (kit_ty (show kitB "int" "list" = some false by decide +kernel)) (kit_ty (show kitB "int" "tuple" = some false by decide +kernel)) rfl
  | str _ => exact two (kit_ty (show kitB "str" "list" = some false by decide +kernel)) (kit_ty (show kitB "str" "tuple" = some false by decide +kernel)) rfl
  | lst _ => exact two (kit_ty (show kitB "list" "list" = some true by decide +kernel)) (kit_ty (show kitB "list" "tuple" = some false by decide +kernel)) rfl
  | tup _ => exact two (kit_ty (show kitB "tuple" "list" = some false by decide +kernel)) (kit_ty (show kitB "tuple" "tuple" = some true by decide +kernel)) rfl
  | call => exact two T.kb_Call_list T.kb_Call_tuple rfl
  | wait => exact two T.kb_Wait_list T.kb_Wait_tuple rfl
  | leave => exact two T.kb_Leave_list T.kb_Leave_tuple rfl
  | hear _ => exact two T.kb_Hear_list T.kb_Hear_tuple rfl⟩
/-- a text that is short, or none -/
def shortT : TD → Bool
  | .str s => decide (s.length ≤ 2000)
  | _ => true
def nmT : TD → Bool
  | .str s => isNm s
  | _ => false
theorem Th.any (T : TxThings w K mg) {v : V} {t : TD} (h : Th T.toTxTrees0 g H v t) (s : shortT t = true) : AnyV K H v ∧ nmV v = nmT t := by
  obtain ⟨ty, h1, h2⟩ := Th.isStr T h
  cases h with
  | str x => exact ⟨.str x (of_decide_eq_true s), rfl⟩
  | non => exact ⟨.oth (fun _ e => nomatch e) h1 h2, rfl⟩
  | bl b => exact ⟨.oth (fun _ e => nomatch e) h1 h2, rfl⟩
  | int i => exact ⟨.oth (fun _ e => nomatch e) h1 h2, rfl⟩
  | call _ => exact ⟨.oth (fun _ e => nomatch e) h1 h2, rfl⟩
  | wait _ _ _ => exact ⟨.oth (fun _ e => nomatch e) h1 h2, rfl⟩
  | leave _ _ _ => exact ⟨.oth (fun _ e => nomatch e) h1 h2, rfl⟩
  | hear _ _ => exact ⟨.oth (fun _ e => nomatch e) h1 h2, rfl⟩
  | lst _ _ _ => exact ⟨.oth (fun _ e => nomatch e) h1 h2, rfl⟩
  | tup _ _ _ => exact ⟨.oth (fun _ e => nomatch e) h1 h2, rfl⟩
/-! ### events -/
def ekT : TD → Ek
  | .wait => .wait 0
  | .leave => .leave 0
  | .hear n => .hear n
  | _ => .odd
def evT : TD → Bool
  | .lst ts => evOk (ts.map ekT)
  | .tup ts => evOk (ts.map ekT)
  | _ => false
/-- an item, its calls of one alone -/
theorem Th.ek (T : TxThings w K mg) {v : V} {t : TD} (h : Th T.toTxTrees0 g H v t) : ∃ e, EkAt T.toTxTrees0 H v e ∧ (∀ s, evStep e s = evStep (ekT t) s) ∧ ∀ c, innerE e = some c → CallS T.toTxTrees0 H c 1 := by
  have odd : isHearT t = false → isLeaveT t = false → isWaitT t = false → EkAt T.toTxTrees0 H v .odd := fun a b c => .odd (by rw [← a]; exact Th.isHear T h) (by rw [← b]; exact Th.isLeave T h) (by rw [← c]; exact Th.isWait T h)
  have one : ∀ {c : Addr}, One T.toTxTrees0 g H c → CallS T.toTxTrees0 H c 1 := fun h => by
    obtain ⟨dx, fs, h1, h2⟩ := h.ex
    exact ⟨⟨dx, fs, h1, h2⟩, by decide⟩
  cases h with
  | wait n h hc => exact ⟨_, .wait h, fun _ => rfl, fun c e => by cases e; exact one hc⟩
  | leave n h hc => exact ⟨_, .leave h, fun _ => rfl, fun c e => by cases e; exact one hc⟩
  | hear n h => exact ⟨_, .hear h, fun _ => rfl, fun c e => by cases e⟩
  | non => exact ⟨_, odd rfl rfl rfl, fun _ => rfl, fun c e => by cases e⟩
  | bl b => exact ⟨_, odd rfl rfl rfl, fun _ => rfl, fun c e => by cases e⟩
  | int i => exact ⟨_, odd rfl rfl rfl, fun _ => rfl, fun c e => by cases e⟩
  | str s => exact ⟨_, odd rfl rfl rfl, fun _ => rfl, fun c e => by cases e⟩
  | call _ => exact ⟨_, odd rfl rfl rfl, fun _ => rfl, fun c e => by cases e⟩
  | lst _ _ _ => exact ⟨_, odd rfl rfl rfl, fun _ => rfl, fun c e => by cases e⟩
  | tup _ _ _ => exact ⟨_, odd rfl rfl rfl, fun _ => rfl, fun c e => by cases e⟩
theorem ThAll.eks (T : TxThings w K mg) : ∀ {ts : List TD} {vs : List V}, ThAll T.toTxTrees0 g H vs ts → ∃ (es : List Ek) (ns : List Nat), Paired (EkAt T.toTxTrees0 H) vs es ∧ (∀ s, evRun es s = evRun (ts.map ekT) s) ∧ Paired (CallS T.toTxTrees0 H) (innerOf es) ns ∧ ns.sum ≤ ts.length
  | _, _, .nil => ⟨[], [], .nil, fun _ => rfl, .nil, Nat.zero_le _⟩
  | t :: ts, _, .cons h r => by
    obtain ⟨e, h1, h2, h3⟩ := Th.ek T h
    obtain ⟨es, ns, p1, p2, p3, p4⟩ := r.eks T
    have run : ∀ s, evRun (e :: es) s = evRun ((t :: ts).map ekT) s := fun s => by
      show (evStep e s).bind (evRun es) = (evStep (ekT t) s).bind (evRun (ts.map ekT))
      rw [h2, funext p2]
    cases ei : innerE e with
    | none =>
      have ee : innerOf (e :: es) = innerOf es := List.filterMap_cons_none ei
      exact ⟨e :: es, ns, .cons h1 p1, run, by rw [ee]; exact p3, Nat.le_succ_of_le p4⟩
    | some c =>
      have ee : innerOf (e :: es) = c :: innerOf es := List.filterMap_cons_some ei
      refine ⟨e :: es, 1 :: ns, .cons h1 p1, run, by rw [ee]; exact .cons (h3 c ei) p3, ?_⟩
      rw [List.sum_cons, List.length_cons]
      omega
theorem evRun_no : ∀ {es : List Ek} {s : Int × List Int}, (evRun es s).isSome = true → ∀ e ∈ es, e ≠ .odd
  | e :: es, s, h, f, m => by
    rcases List.mem_cons.mp m with rfl | m
    · intro z
      rw [z] at h
      cases h
    · have h : ((evStep e s).bind (evRun es)).isSome = true := h
      cases q : evStep e s with
      | none => rw [q] at h; cases h
      | some r => rw [q] at h; exact evRun_no (es := es) h f m
/-- what Call(..) asks of its events -/
def EvGood (T : TxTrees0 w K mg) (H : Hp) (v : V) : Prop := ∃ (a : Addr) (xs : List V) (es : List Ek) (ns : List Nat), v = .ref a ∧ SqA K H a xs ∧ Paired (EkAt T H) xs es ∧ xs.length ≤ 500 ∧ (∀ e ∈ es, e ≠ .odd) ∧ Paired (CallS T H) (innerOf es) ns ∧ ns.sum ≤ 900
def fewT : TD → Bool
  | .lst ts => decide (ts.length ≤ 500)
  | .tup ts => decide (ts.length ≤ 500)
  | _ => true
theorem Th.events (T : TxThings w K mg) {v : V} {t : TD} (h : Th T.toTxTrees0 g H v t) (few : fewT t = true) : EventsV T.toTxTrees0 H v (evT t) ∧ (evT t = true → EvGood T.toTxTrees0 H v) := by
  have no : isSeqT t = false → evT t = false → EventsV T.toTxTrees0 H v (evT t) ∧ (evT t = true → EvGood T.toTxTrees0 H v) := fun a b => by
    have z := Th.isSeq T h
    rw [a] at z
    rw [b]
    exact ⟨.no z, fun e => nomatch e⟩
  have seq : ∀ {a : Addr} {xs : List V} {ts : List TD}, SqA K H a xs → ThAll T.toTxTrees0 g H xs ts → ts.length ≤ 500 → EventsV T.toTxTrees0 H (.ref a) (evOk (ts.map ekT)) ∧ (evOk (ts.map ekT) = true → EvGood T.toTxTrees0 H (.ref a)) := fun {a xs ts} hs t n => by
    obtain ⟨es, ns, p1, p2, p3, p4⟩ := t.eks T
    have e : evOk es = evOk (ts.map ekT) := by unfold evOk; rw [p2]
    have l : xs.length ≤ 500 := by rw [t.len]; exact n
    rw [← e]
    exact ⟨.seq hs p1 l, fun ok => ⟨a, xs, es, ns, rfl, hs, p1, l, evRun_no ok, p3, by omega⟩⟩
  cases h with
  | lst n h t => exact seq (.inl (SqL.of h)) t (of_decide_eq_true few)
  | tup n h t => exact seq (.inr (SqT.of h)) t (of_decide_eq_true few)
  | non => exact no rfl rfl
  | bl b => exact no rfl rfl
  | int i => exact no rfl rfl
  | str s => exact no rfl rfl
  | call _ => exact no rfl rfl
  | wait _ _ _ => exact no rfl rfl
  | leave _ _ _ => exact no rfl rfl
  | hear _ _ => exact no rfl rfl
/-! ### data -/
def dataT : TD → Option PyData
  | .non => some .none
  | .bl b => some (.bool b)
  | .int i => some (.int i)
  | .str s => some (.str s)
  | .tup [.str s] => some (.tuple [.str s])
  | _ => none
theorem Th.data {T : TxTrees0 w K mg} {v : V} {t : TD} {d : PyData} (h : Th T g H v t) (e : dataT t = some d) : Dp K H v d := by
  cases h with
  | non => cases e; exact .non
  | bl b => cases e; exact .bl b
  | int i => cases e; exact .int i
  | str s => cases e; exact .str s
  | @tup a xs ts n h t =>
    match ts, t, e with
    | [.str s], .cons (.str _) .nil, e => cases e; exact .tup (SqT.of h) (.cons (.str s) .nil)
  | call _ => cases e
  | wait _ _ _ => cases e
  | leave _ _ _ => cases e
  | hear _ _ => cases e
  | lst _ _ _ => cases e
end
end My

/-! ## Calls of trees: what stands there -/
namespace My
open PySem PySem.Spec PyProof.Rows L2 PySem.MyX
/-- all but lists and dicts stays -/
def KN (H H' : Hp) : Prop := ∀ a o, (∀ xs, o ≠ .lst xs) → (∀ m, o ≠ .dK m) → H a = some o → H' a = some o
theorem KN.refl (H : Hp) : KN H H := fun _ _ _ _ e => e
theorem KN.trans {H1 H2 H3 : Hp} (x : KN H1 H2) (y : KN H2 H3) : KN H1 H3 := fun a o n m e => y a o n m (x a o n m e)
theorem KN.of_same {H H' : Hp} (s : Same H H') : KN H H' := fun a o _ _ e => s a o e
theorem KN.of_keepD {d g : Addr} {H H' : Hp} {ns : List Int} {s : Int} (D : DealAt H d g ns s) (k : KeepD d g H H') : KN H H' := fun a o n m h => k a o (fun z => m _ (by rw [z, D.dict] at h; exact (Option.some.inj h).symm)) (fun z => n _ (by rw [z, D.great] at h; exact (Option.some.inj h).symm)) h
theorem KN.put {H : Hp} {D : Addr} {xs : List V} (h : H D = some (.lst xs)) (o : HO) : KN H (upd H D o) := fun a u n _ e => by
  rw [upd_ne (fun z => n xs (by rw [z, h] at e; exact (Option.some.inj e).symm))]
  exact e
theorem KN.new {H : Hp} {D : Addr} (h : H D = none) (o : HO) : KN H (upd H D o) := KN.of_same (same_upd h o)
theorem KN.kt {H H' : Hp} (k : KN H H') : KT H H' := fun a _ h => k a _ (fun _ z => nomatch z) (fun _ z => nomatch z) h
theorem sqT_kn {K : PySem.W.Frag} {H H' : Hp} (k : KN H H') {a : Addr} {xs : List V} (hs : SqT K H a xs) : SqT K H' a xs := by
  rcases hs with (hs | ⟨o, hs⟩) | hs
  · exact .inl (.inl (k _ _ (fun _ z => nomatch z) (fun _ z => nomatch z) hs))
  · exact .inl (.inr ⟨o, k _ _ (fun _ z => nomatch z) (fun _ z => nomatch z) hs⟩)
  · exact .inr hs
theorem Evs.list_len : ∀ es : Evs, es.list.length = es.len
  | .nil => rfl
  | .wait _ r => congrArg Nat.succ r.list_len
  | .leave _ r => congrArg Nat.succ r.list_len
  | .hear _ r => congrArg Nat.succ r.list_len
def stepL : EvI → Int × List Int → Option (Int × List Int)
  | .call true _, s => some s
  | .call false _, (l, hs) => some (l + 1, hs)
  | .hear n, (l, hs) => if l ≤ n ∨ n ∈ hs then none else some (l, hs ++ [n])
def runL : List EvI → Int × List Int → Option (Int × List Int)
  | [], s => some s
  | e :: es, s => (stepL e s).bind (runL es)
theorem runL_snoc (e : EvI) : ∀ (es : List EvI) (s : Int × List Int), runL (es ++ [e]) s = (runL es s).bind (stepL e)
  | [], s => by
    show (stepL e s).bind (fun t => some t) = stepL e s
    cases stepL e s <;> rfl
  | f :: es, s => by
    show (stepL f s).bind (runL (es ++ [e])) = ((stepL f s).bind (runL es)).bind (stepL e)
    cases stepL f s with
    | none => rfl
    | some t => exact runL_snoc e es t
mutual
/-- names are names, signs heard come up -/
def Tr.fit : Tr → Prop
  | .node nm kd _ es => isNm nm = true ∧ isNm kd = true ∧ (runL es.list (0, [])).isSome = true ∧ es.list.length ≤ 500 ∧ es.fit
def Evs.fit : Evs → Prop
  | .nil => True
  | .wait t r => t.fit ∧ r.fit
  | .leave t r => t.fit ∧ r.fit
  | .hear n r => (0 ≤ n ∧ n ≤ 500) ∧ r.fit
end
def EvI.fit : EvI → Prop
  | .call _ t => t.fit
  | .hear n => 0 ≤ n ∧ n ≤ 500
theorem Evs.fitL : ∀ (es : Evs), es.fit → ∀ e ∈ es.list, e.fit
  | .nil, _, _, h => nomatch h
  | .wait t r, f, e, h => by
    unfold Evs.fit at f
    rcases List.mem_cons.mp h with rfl | h
    · exact f.1
    · exact r.fitL f.2 e h
  | .leave t r, f, e, h => by
    unfold Evs.fit at f
    rcases List.mem_cons.mp h with rfl | h
    · exact f.1
    · exact r.fitL f.2 e h
  | .hear n r, f, e, h => by
    unfold Evs.fit at f
    rcases List.mem_cons.mp h with rfl | h
    · exact f.1
    · exact r.fitL f.2 e h
section
variable {w : World} {K : PySem.W.Frag} {mg : Str → Option Value}
mutual
/-- the call of this tree -/
inductive CallAt (T : TxTrees0 w K mg) (H : Hp) : Addr → Tr → Prop
  | node {c dx te ti : Addr} {nm kd : Str} {bad : Bool} {es : Evs} {ps : List V} {cs : List Addr} (h : H c = some (.ins T.C_Call dx [("service", .str nm), ("kind", .str kd), ("bad", .bl bad), ("events", .ref te), ("side", .str "old"), ("inner", .ref ti), ("_size", .int (((Tr.node nm kd bad es).size : Nat) : Int))])) (he : SqT K H te ps) (hi : SqT K H ti (cs.map V.ref)) (r : ItemsAt T H ps cs es) : CallAt T H c (.node nm kd bad es)
inductive ItemsAt (T : TxTrees0 w K mg) (H : Hp) : List V → List Addr → Evs → Prop
  | nil : ItemsAt T H [] [] .nil
  | wait {a dx c : Addr} {t : Tr} {es : Evs} {ps : List V} {cs : List Addr} (h : H a = some (.ins T.C_Wait dx [("call", .ref c)])) (hc : CallAt T H c t) (r : ItemsAt T H ps cs es) : ItemsAt T H (.ref a :: ps) (c :: cs) (.wait t es)
  | leave {a dx c : Addr} {t : Tr} {es : Evs} {ps : List V} {cs : List Addr} (h : H a = some (.ins T.C_Leave dx [("call", .ref c)])) (hc : CallAt T H c t) (r : ItemsAt T H ps cs es) : ItemsAt T H (.ref a :: ps) (c :: cs) (.leave t es)
  | hear {a dx : Addr} {n : Int} {es : Evs} {ps : List V} {cs : List Addr} (h : H a = some (.ins T.C_Hear dx [("number", .int n)])) (r : ItemsAt T H ps cs es) : ItemsAt T H (.ref a :: ps) cs (.hear n es)
end
variable {T : TxTrees0 w K mg}
mutual
theorem CallAt.kn {H H' : Hp} (s : KN H H') : ∀ (t : Tr) (c : Addr), CallAt T H c t → CallAt T H' c t
  | .node _ _ _ es, _, h => by
    cases h with
    | node h he hi r => exact .node (s _ _ (fun _ z => nomatch z) (fun _ z => nomatch z) h) (sqT_kn s he) (sqT_kn s hi) (ItemsAt.kn s es _ _ r)
theorem ItemsAt.kn {H H' : Hp} (s : KN H H') : ∀ (es : Evs) (ps : List V) (cs : List Addr), ItemsAt T H ps cs es → ItemsAt T H' ps cs es
  | .nil, _, _, h => by cases h; exact .nil
  | .wait t es, _, _, h => by
    cases h with
    | wait h hc r => exact .wait (s _ _ (fun _ z => nomatch z) (fun _ z => nomatch z) h) (CallAt.kn s t _ hc) (ItemsAt.kn s es _ _ r)
  | .leave t es, _, _, h => by
    cases h with
    | leave h hc r => exact .leave (s _ _ (fun _ z => nomatch z) (fun _ z => nomatch z) h) (CallAt.kn s t _ hc) (ItemsAt.kn s es _ _ r)
  | .hear n es, _, _, h => by
    cases h with
    | hear h r => exact .hear (s _ _ (fun _ z => nomatch z) (fun _ z => nomatch z) h) (ItemsAt.kn s es _ _ r)
end
/-- an event made -/
inductive ItemAt (T : TxTrees0 w K mg) (H : Hp) : V → Option Addr → EvI → Prop
  | wait {a dx c : Addr} {t : Tr} (h : H a = some (.ins T.C_Wait dx [("call", .ref c)])) (hc : CallAt T H c t) : ItemAt T H (.ref a) (some c) (.call true t)
  | leave {a dx c : Addr} {t : Tr} (h : H a = some (.ins T.C_Leave dx [("call", .ref c)])) (hc : CallAt T H c t) : ItemAt T H (.ref a) (some c) (.call false t)
  | hear {a dx : Addr} {n : Int} (h : H a = some (.ins T.C_Hear dx [("number", .int n)])) : ItemAt T H (.ref a) none (.hear n)
inductive ItemL (T : TxTrees0 w K mg) (H : Hp) : List V → List Addr → List EvI → Prop
  | nil : ItemL T H [] [] []
  | cons {p : V} {c : Option Addr} {e : EvI} {ps : List V} {cs : List Addr} {es : List EvI} (h : ItemAt T H p c e) (r : ItemL T H ps cs es) : ItemL T H (p :: ps) (c.toList ++ cs) (e :: es)
theorem ItemAt.kn {H H' : Hp} (s : KN H H') {p : V} {c : Option Addr} {e : EvI} (h : ItemAt T H p c e) : ItemAt T H' p c e := by
  cases h with
  | wait h hc => exact .wait (s _ _ (fun _ z => nomatch z) (fun _ z => nomatch z) h) (CallAt.kn s _ _ hc)
  | leave h hc => exact .leave (s _ _ (fun _ z => nomatch z) (fun _ z => nomatch z) h) (CallAt.kn s _ _ hc)
  | hear h => exact .hear (s _ _ (fun _ z => nomatch z) (fun _ z => nomatch z) h)
theorem ItemL.kn {H H' : Hp} (s : KN H H') : ∀ {ps : List V} {cs : List Addr} {es : List EvI}, ItemL T H ps cs es → ItemL T H' ps cs es
  | _, _, _, .nil => .nil
  | _, _, _, .cons h r => .cons (h.kn s) (r.kn s)
theorem ItemL.snoc {H : Hp} {p : V} {c : Option Addr} {e : EvI} (x : ItemAt T H p c e) : ∀ {ps : List V} {cs : List Addr} {es : List EvI}, ItemL T H ps cs es → ItemL T H (ps ++ [p]) (cs ++ c.toList) (es ++ [e])
  | _, _, _, .nil => by
    have z : ItemL T H [p] (c.toList ++ []) [e] := .cons x .nil
    rw [List.append_nil] at z
    exact z
  | _, _, _, .cons h r => by
    rw [List.append_assoc]
    exact .cons h (r.snoc x)
theorem ItemL.len {H : Hp} : ∀ {ps : List V} {cs : List Addr} {es : List EvI}, ItemL T H ps cs es → ps.length = es.length
  | _, _, _, .nil => rfl
  | _, _, _, .cons _ r => congrArg Nat.succ r.len
theorem ItemsAt.toL {H : Hp} : ∀ (es : Evs) (ps : List V) (cs : List Addr), ItemsAt T H ps cs es → ItemL T H ps cs es.list
  | .nil, _, _, h => by cases h; exact .nil
  | .wait t es, _, _, h => by
    cases h with
    | wait h hc r => exact .cons (.wait h hc) (ItemsAt.toL es _ _ r)
  | .leave t es, _, _, h => by
    cases h with
    | leave h hc r => exact .cons (.leave h hc) (ItemsAt.toL es _ _ r)
  | .hear n es, _, _, h => by
    cases h with
    | hear h r => exact .cons (.hear h) (ItemsAt.toL es _ _ r)
theorem ItemL.toI {H : Hp} : ∀ (es : Evs) (ps : List V) (cs : List Addr), ItemL T H ps cs es.list → ItemsAt T H ps cs es
  | .nil, _, _, h => by cases h; exact .nil
  | .wait t es, ps, cs, h => by
    generalize e : (Evs.wait t es).list = l at h
    cases h with
    | nil => cases e
    | cons h r => cases e; cases h with | wait h hc => exact .wait h hc (ItemL.toI es _ _ r)
  | .leave t es, ps, cs, h => by
    generalize e : (Evs.leave t es).list = l at h
    cases h with
    | nil => cases e
    | cons h r => cases e; cases h with | leave h hc => exact .leave h hc (ItemL.toI es _ _ r)
  | .hear n es, ps, cs, h => by
    generalize e : (Evs.hear n es).list = l at h
    cases h with
    | nil => cases e
    | cons h r => cases e; cases h with | hear h => exact .hear h (ItemL.toI es _ _ r)
theorem CallAt.size {H : Hp} {c : Addr} {t : Tr} (h : CallAt T H c t) (few : t.size ≤ 1000) : CallS T H c t.size := by
  cases h with
  | node h he hi r => exact ⟨⟨_, _, h, rfl⟩, few⟩
theorem ItemL.eks {H : Hp} : ∀ {ps : List V} {cs : List Addr} {es : List EvI}, ItemL T H ps cs es → (∀ w t, EvI.call w t ∈ es → t.size ≤ 1000) → ∃ ks, Paired (EkAt T H) ps ks ∧ innerOf ks = cs ∧ (∀ k ∈ ks, k ≠ .odd) ∧ (∀ s, evRun ks s = runL es s) ∧ Paired (CallS T H) cs (es.filterMap sizeI)
  | _, _, _, .nil, _ => ⟨[], .nil, rfl, (fun _ h => nomatch h), fun _ => rfl, .nil⟩
  | _, _, _, .cons h r, few => by
    obtain ⟨ks, p, i, no, ru, sz⟩ := r.eks fun w t m => few w t (List.mem_cons_of_mem _ m)
    cases h with
    | wait h hc =>
      refine ⟨.wait _ :: ks, .cons (.wait h) p, congrArg (_ :: ·) i, fun k m => ?_, fun s => ru s, .cons (hc.size (few _ _ List.mem_cons_self)) sz⟩
      rcases List.mem_cons.mp m with rfl | m
      · exact fun z => nomatch z
      · exact no k m
    | leave h hc =>
      refine ⟨.leave _ :: ks, .cons (.leave h) p, congrArg (_ :: ·) i, fun k m => ?_, fun s => ru _, .cons (hc.size (few _ _ List.mem_cons_self)) sz⟩
      rcases List.mem_cons.mp m with rfl | m
      · exact fun z => nomatch z
      · exact no k m
    | @hear a dx n h =>
      refine ⟨.hear n :: ks, .cons (.hear h) p, i, fun k m => ?_, fun s => ?_, sz⟩
      · rcases List.mem_cons.mp m with rfl | m
        · exact fun z => nomatch z
        · exact no k m
      · show (evStep (.hear n) s).bind (evRun ks) = (stepL (.hear n) s).bind (runL _)
        have e : evStep (.hear n) s = stepL (.hear n) s := rfl
        rw [e]
        cases stepL (.hear n) s with
        | none => rfl
        | some u => exact ru u
end
end My

/-! ## Calls made of trees -/
namespace My
open PySem PySem.Spec PyProof.Rows L2 PySem.MyX
abbrev s_call : Stmt := top 25
abbrev N_call : List Str := ["_law_tree_here", "_law_events", "_law_word", "_law_thing"]
abbrev P_call : List Str := ["_law_tree_here"]
theorem sc_call : FnScope N_call P_call (defScope s_call) := ⟨rfl, rfl, rfl, by decide +kernel, rfl, by decide +kernel, by decide +kernel⟩
structure TxDCall (w : World) (K : PySem.W.Frag) (mg : Str → Option Value) extends TxThings w K mg where
  f_call : Addr
  d_call : FuncData
  F_call : Fun K "_law_call" "_law_call" s_call f_call d_call
  m_call : mg "_law_call" = some (.ref f_call)
  b_call : Binds K d_call P_call []
def spDCall {w : World} {K : PySem.W.Frag} {mg : Str → Option Value} (T : TxTrees0 w K mg) (n : Nat) : Sp := fun us H Q _ => ∃ (v : V) (t : Tr), us = [v] ∧ TrAt H v t ∧ t.deep ≤ n ∧ t.size ≤ 800 ∧ t.fit ∧ ∀ c H', Same H H' → H c = none → CallAt T H' c t → Q (.ref c) H'
section
variable {w : World} {K : PySem.W.Frag} {mg : Str → Option Value}
theorem made_callT (T : TxThings w K mg) {x dx a : Addr} {H1 : Hp} {nm kd : Str} {bad : Bool} {es : Evs} {ps : List V} {cs : List Addr} {Q : Hp → Prop} (nx : H1 x = none) (nd : H1 dx = none) (hs : isNm nm = true) (hk : isNm kd = true) (hA : SqA K H1 a ps) (L : ItemL T.toTxTrees0 H1 ps cs es.list) (ru : (runL es.list (0, [])).isSome = true) (n500 : es.list.length ≤ 500) (few : es.size + 1 ≤ 800)
    (q : ∀ H', Same H1 H' → CallAt T.toTxTrees0 H' x (.node nm kd bad es) → Q H') :
    spCallInit T.toTxTrees0 [.ref x, .str nm, .str kd, .bl bad, .ref a, .str "old"] (upd (upd H1 dx (.own x)) x (.ins T.C_Call dx [])) (fun v H2 => v = .non ∧ Q H2) E0 := by
  have lt : ∀ {y : Str}, isNm y = true → y.length ≤ 2000 := fun h => by have := isNm_len h; omega
  have m0 := made_same (o := .own x) (o2 := .ins T.C_Call dx []) nx nd
  obtain ⟨ks, pk, ik, no, rk, sz⟩ := (L.kn (KN.of_same m0)).eks fun w t m => by
    have := es.sizeL w t m
    omega
  have ok : evOk ks = true := by
    unfold evOk
    rw [rk]
    exact ru
  have wn : wrCall (nmV (.str nm)) (nmV (.str kd)) true (evOk ks) (inSides (.str "old")) = none := by
    show wrCall (isNm nm) (isNm kd) true (evOk ks) (inSides (.str "old")) = none
    rw [hs, hk, ok]
    decide +kernel
  have hA2 : SqA K (upd (upd H1 dx (.own x)) x (.ins T.C_Call dx [])) a ps := hA.same m0
  have lp : ps.length ≤ 500 := by rw [L.len]; exact n500
  have sm := es.sizes
  have e1 : ((1 : Int) + (((es.list.filterMap sizeI).sum : Nat) : Int)) = (((Tr.node nm kd bad es).size : Nat) : Int) := by
    rw [sm]
    show (1 : Int) + ((es.size : Nat) : Int) = ((es.size + 1 : Nat) : Int)
    omega
  refine ⟨x, dx, .str nm, .str kd, .bl bad, .ref a, .str "old", true, evOk ks, .str "old", rfl, upd_same, .str nm (lt hs), .str kd (lt hk), ⟨_, .base (.bl bad), kit_ty (show kitB "bool" "bool" = some true by decide +kernel)⟩, .seq hA2 pk lp, .str _, by decide +kernel, (fun wd a H' e => by rw [wn] at e; cases e), fun _ => ⟨a, ps, ks, es.list.filterMap sizeI, rfl, hA2, pk, lp, no, by rw [ik]; exact sz, by rw [sm]; omega, fun H' te ti kp hx hte hti => ⟨rfl, ?_⟩⟩⟩
  have sa : Same H1 H' := same_made nx nd fun b u e n => kp b u e n
  rw [ik] at hti
  rw [e1] at hx
  exact q H' sa (.node hx hte hti (ItemL.toI es _ _ (L.kn (KN.of_same sa))))
theorem made_holdT (T : TxThings w K mg) {C x dx c : Addr} {t : Tr} {H1 : Hp} {Q : Hp → Prop} (nx : H1 x = none) (nd : H1 dx = none) (hc : CallAt T.toTxTrees0 H1 c t) (q : ∀ H', Same H1 H' → H' x = some (.ins C dx [("call", .ref c)]) → CallAt T.toTxTrees0 H' c t → Q H') :
    spHolder T.toTxTrees0 C [.ref x, .ref c] (upd (upd H1 dx (.own x)) x (.ins C dx [])) (fun v H2 => v = .non ∧ Q H2) E0 := by
  have m0 := made_same (o := .own x) (o2 := .ins C dx []) nx nd
  refine ⟨x, dx, .ref c, true, rfl, upd_same, ?_, fun _ H' hx kp => ⟨rfl, ?_⟩, fun e => nomatch e⟩
  · cases hc with
    | node h he hi r => exact ⟨_, T.ty_Call _ _ _ _ (m0 _ _ h), T.kk_Call_Call⟩
  · have sm : Same H1 H' := same_made nx nd fun b u e n => kp b u e n
    exact q H' sm hx (hc.kn (KN.of_same sm))
theorem made_hearT (T : TxThings w K mg) {x dx : Addr} {i : Int} {H1 : Hp} {Q : Hp → Prop} (i0 : 0 ≤ i) (nx : H1 x = none) (nd : H1 dx = none) (q : ∀ H', Same H1 H' → H' x = some (.ins T.C_Hear dx [("number", .int i)]) → Q H') :
    spHear T.toTxTrees0 [.ref x, .int i] (upd (upd H1 dx (.own x)) x (.ins T.C_Hear dx [])) (fun v H2 => v = .non ∧ Q H2) E0 := by
  refine ⟨x, dx, .int i, true, false, rfl, upd_same, ⟨_, .base (.int i), kit_ty (show kitB "int" "int" = some true by decide +kernel)⟩, ⟨_, .base (.int i), kit_ty (show kitB "int" "bool" = some false by decide +kernel)⟩, (fun j _ e j0 H' hx kp => ?_), (fun _ => ⟨i, rfl⟩), fun z => ?_⟩
  · cases e
    exact ⟨rfl, q H' (same_made nx nd fun b u e n => kp b u e n) hx⟩
  · rcases z with z | ⟨j, e, l⟩
    · cases z
    · cases e
      omega
end
section
variable {P : Program} {w : World} {K : PySem.W.Frag} {mg : Str → Option Value} {base : Heap}
theorem ok_dcall (T : TxDCall w K mg) : ∀ n, FnOk P w K mg base CX0 (7 + n) T.f_call T.d_call P_call (spDCall T.toTxTrees0 n)
  | 0 => by
    refine T.F_call.ok sc_call (fun vs H Q E h => ?_) (fun cdv A outer s H vs Q E hr h => ?_)
    · obtain ⟨v, t, rfl, _⟩ := h
      rfl
    obtain ⟨v, t, rfl, ht, dp, _⟩ := h
    cases ht with
    | node => exact absurd dp (by unfold Tr.deep; omega)
  | n + 1 => by
    have G_call := ok_dcall T n
    have G_Call_init := ok_Call_init (P := P) (w := w) (base := base) T.toTxThings.toTxCalls
    have G_Wait_init := ok_Wait_init (P := P) (w := w) (base := base) T.toTxTrees0
    have G_Leave_init := ok_Leave_init (P := P) (w := w) (base := base) T.toTxTrees0
    have G_Hear_init := ok_Hear_init (P := P) (w := w) (base := base) T.toTxTrees0
    obtain ⟨ds5, hv5, hb5⟩ := T.F_Call_init.binds1 (ps := P_Call_init) 5 2 (by simp) rfl (fun TT kV doc pm an cdv ct us its h1 h2 => by
      match us, h1, its, h2 with
      | [_, _, _, _, _], _, [_, _, _], _ => exact ⟨_, rfl, rfl⟩)
    refine T.F_call.ok sc_call (fun vs H Q E h => ?_) (fun cdv A outer s H vs Q E hr h => ?_)
    · obtain ⟨v, t, rfl, _⟩ := h
      rfl
    obtain ⟨v, t, rfl, ht, dp, few, ft, q⟩ := h
    refine ⟨_, (pss_cons (ps_set (i := 1) sc_call.nd rfl (Or.inl rfl) (pe_lst pa_nil))
      (pss_cons (ps_for PassesOwn.never rfl (pi_tupK K (pe_ix (ix_tupK K) (pv 0) pe_int (fun _ _ => rfl))) (pg_tup rfl (pgs_cons (pg_name (i := 2) sc_call.nd rfl (Or.inl rfl)) (pgs_cons (pg_name (i := 3) sc_call.nd rfl (Or.inl rfl)) pgs_nil))) (pss_one (ps_if (pt_cmpR op_eq (pv 2) pe_str (nomark _)) (pss_one (ps_expr (pe_bm PySem.F.plainAttrs_list PySem.F.slot_list_append PySem.F.type_list_append mt_append (pv 1) (pa_cons (pe_make T.mk_Hear G_Hear_init (hr.mono (Nat.le_trans (by decide) (Nat.le_add_right 7 n))) (by rfl) T.m_Hear T.b_Hear_init .nil passL (pa_cons (pv 3) pa_nil)) pa_nil)))) (pss_one (ps_expr (pe_bm PySem.F.plainAttrs_list PySem.F.slot_list_append PySem.F.type_list_append mt_append (pv 1) (pa_cons (pe_ifExp (pt_cmpR op_eq (pv 2) pe_str (nomark _)) (pe_make T.mk_Wait G_Wait_init (hr.mono (Nat.le_trans (by decide) (Nat.le_add_right 7 n))) (by rfl) T.m_Wait T.b_Wait_init .nil passL (pa_cons (pe_call G_call (hr.mono (Nat.le_refl _)) (by rfl) T.m_call T.F_call.kp T.b_call .nil pass0 (pa_cons (pv 3) pa_nil)) pa_nil)) (pe_make T.mk_Leave G_Leave_init (hr.mono (Nat.le_trans (by decide) (Nat.le_add_right 7 n))) (by rfl) T.m_Leave T.b_Leave_init .nil passL (pa_cons (pe_call G_call (hr.mono (Nat.le_refl _)) (by rfl) T.m_call T.F_call.kp T.b_call .nil pass0 (pa_cons (pv 3) pa_nil)) pa_nil))) pa_nil)))))))
      (pss_one (ps_ret (pe_make T.mk_Call G_Call_init (hr.mono (Nat.le_trans (by decide) (Nat.le_add_right 7 n))) (by rfl) T.m_Call hb5 hv5 passL (pa_cons (pe_ix (ix_tupK K) (pv 0) pe_int (fun _ _ => rfl)) (pa_cons (pe_ix (ix_tupK K) (pv 0) pe_int (fun _ _ => rfl)) (pa_cons (pe_ix (ix_tupK K) (pv 0) pe_int (fun _ _ => rfl)) (pa_cons (pv 1) pa_nil))))))))), ?_⟩
    cases ht with
    | @node a e nm kd bad ps es h he r =>
      have pr := r.pairs
      have de : es.deep ≤ n := by unfold Tr.deep at dp; omega
      have se : es.size + 1 ≤ 800 := few
      unfold Tr.fit at ft
      obtain ⟨f1, f2, f3, f4, f5⟩ := ft
      have lp := pair_len3 pr
      refine ⟨Nat.zero_le _, fun D hD => ?_⟩
      have y1 := same_upd hD (.lst [])
      refine ⟨_, rfl, ixT_tc (j := 3) (SqT.of (y1 _ _ h)) rfl ⟨e, rfl, ⟨_, SqT.of (y1 _ _ he)⟩, ?_⟩⟩
      refine for_tup (K := K) (a := e) (xs := ps) (fun i σ H' => (∃ v2 v3, σ = [some (.ref a), some (.ref D), v2, v3]) ∧ Same H H' ∧ ∃ qs cs, H' D = some (.lst qs) ∧ ItemL T.toTxTrees0 H' qs cs (es.list.take i)) ⟨⟨_, _, rfl⟩, y1, [], [], upd_same, .nil⟩ (fun i σ H' _ hh => SqT.of (hh.2.1 _ _ he)) ?_ ?_
      · rintro i x σ H1 hx ⟨⟨v2, v3, rfl⟩, s1, qs, cs, d1, L1⟩
        obtain ⟨ev, hev, ea⟩ := pair_at2 pr hx
        have ea := ea.kt (KT.of_same s1)
        have il := (List.getElem?_eq_some_iff.mp hev).1
        have mev := List.mem_of_getElem? hev
        have tk : es.list.take (i + 1) = es.list.take i ++ [ev] := by rw [List.take_add_one, hev]; rfl
        have fw : qs.length < sizeLine := small1000 (by rw [L1.len, List.length_take]; omega)
        have fin : ∀ {H2 : Hp} {p : V} {c : Option Addr} {v2 v3 : Option V}, Same H1 H2 → ItemAt T.toTxTrees0 H2 p c ev → H2 D = some (.lst qs) ∧ ((∃ u2 u3, [some (.ref a), some (.ref D), v2, v3] = ([some (.ref a), some (.ref D), u2, u3] : L2.St)) ∧ Same H (upd H2 D (.lst (qs ++ [p]))) ∧ ∃ qs2 cs2, upd H2 D (.lst (qs ++ [p])) D = some (.lst qs2) ∧ ItemL T.toTxTrees0 (upd H2 D (.lst (qs ++ [p]))) qs2 cs2 (es.list.take (i + 1))) := fun {H2 p c v2 v3} s2 it => by
          have d2 := s2 _ _ d1
          have kp := KN.put d2 (.lst (qs ++ [p]))
          refine ⟨d2, ⟨_, _, rfl⟩, fun b u z => ?_, qs ++ [p], cs ++ c.toList, upd_same, ?_⟩
          · rw [upd_ne (ne_of_none z hD)]
            exact s2 _ _ (s1 _ _ z)
          · rw [tk]
            exact ((L1.kn (KN.of_same s2)).kn kp).snoc (it.kn kp)
        cases ea with
        | @call p v w t hp ht =>
          have dt : t.deep ≤ n := Nat.le_trans (es.deepL _ mev) de
          have st : t.size ≤ 800 := by
            have a1 := es.sizeL w t mev
            omega
          have tf : t.fit := es.fitL f5 _ mev
          refine ⟨p, _, rfl, SqT.of hp, rfl, _, _, rfl, _, _, rfl, rfl, ?_⟩
          have nh : decide (V.str (evW w) = V.str (Str.ofString "hear")) = false := by cases w <;> decide +kernel
          refine ⟨_, rfl, rfl, _, rfl, ?_⟩
          rw [nh]
          refine iteF ⟨_, rfl, .inl ⟨rfl, _, SqL.of d1⟩, ?_⟩
          refine ⟨_, rfl, rfl, _, rfl, ?_⟩
          cases w with
          | true =>
            have nw : decide (V.str (evW true) = V.str (Str.ofString "wait")) = true := by decide +kernel
            rw [nw]
            refine iteT ⟨_, rfl, v, t, rfl, ht, dt, st, tf, fun c H2 s2 _ ct => fun x dx nx nd ne => ?_⟩
            exact made_holdT T.toTxThings nx nd ct fun H3 s3 hx hc => ⟨D, qs, .ref x, rfl, rfl, (s2.trans s3) _ _ d1, fw, (fin (s2.trans s3) (.wait hx hc)).2⟩
          | false =>
            have nw : decide (V.str (evW false) = V.str (Str.ofString "wait")) = false := by decide +kernel
            rw [nw]
            refine iteF ⟨_, rfl, v, t, rfl, ht, dt, st, tf, fun c H2 s2 _ ct => fun x dx nx nd ne => ?_⟩
            exact made_holdT T.toTxThings nx nd ct fun H3 s3 hx hc => ⟨D, qs, .ref x, rfl, rfl, (s2.trans s3) _ _ d1, fw, (fin (s2.trans s3) (.leave hx hc)).2⟩
        | @hear p m hp =>
          have m0 : 0 ≤ m := (es.fitL f5 _ mev).1
          refine ⟨p, _, rfl, SqT.of hp, rfl, _, _, rfl, _, _, rfl, rfl, ?_⟩
          refine ⟨_, rfl, rfl, _, rfl, ?_⟩
          refine ite2 (fun _ => ?_) (fun c => (c (by simp)).elim)
          refine ⟨_, rfl, .inl ⟨rfl, _, SqL.of d1⟩, _, rfl, fun x dx nx nd ne => ?_⟩
          exact made_hearT T.toTxThings m0 nx nd fun H3 s3 hx => ⟨D, qs, .ref x, rfl, rfl, s3 _ _ d1, fw, (fin s3 (.hear hx)).2⟩
      · rintro σ H1 ⟨⟨v2, v3, rfl⟩, s1, qs, cs, d1, L1⟩
        rw [lp, List.take_length] at L1
        refine ⟨_, rfl, ixT_tc (j := 0) (SqT.of (s1 _ _ h)) rfl ?_⟩
        refine ⟨_, rfl, ixT_tc (j := 1) (SqT.of (s1 _ _ h)) rfl ?_⟩
        refine ⟨_, rfl, ixT_tc (j := 2) (SqT.of (s1 _ _ h)) rfl ?_⟩
        refine ⟨_, rfl, fun x dx nx nd ne => ?_⟩
        exact made_callT T.toTxThings nx nd f1 f2 (.inl (SqL.of d1)) L1 f3 f4 se fun H2 s2 ct => q x H2 (s1.trans s2) (s1.free nx) ct
end
end My

/-! ## The texts of trees -/
namespace My
open PySem PySem.Spec PyProof.Rows L2 PySem.MyX
/-- the words of a call -/
def headW (nm kd : Str) (bad new : Bool) (ts : List Str) : List Str := [nm, kd, if bad = true then ("bad" : Str) else "good"] ++ (if new = true then [("new" : Str)] else []) ++ (if ts.isEmpty = true then [] else [("(" : Str) ++ Txt.join ", " ts ++ ")"])
mutual
def Tr.words : Tr → List Str
  | .node nm kd bad es => headW nm kd bad false es.texts
def Evs.texts : Evs → List Str
  | .nil => []
  | .wait t r => (("wait" : Str) ++ " " ++ Txt.join " " t.words) :: r.texts
  | .leave t r => (("leave" : Str) ++ " " ++ Txt.join " " t.words) :: r.texts
  | .hear n r => (("hear" : Str) ++ " " ++ Str.ofString (toString n)) :: r.texts
end
def Tr.text (t : Tr) : Str := Txt.join " " t.words
def textI : EvI → Str
  | .call w t => evW w ++ " " ++ t.text
  | .hear n => ("hear" : Str) ++ " " ++ Str.ofString (toString n)
theorem Evs.textsL : ∀ es : Evs, es.texts = es.list.map textI
  | .nil => by unfold Evs.texts; rfl
  | .wait t r => by
    unfold Evs.texts
    rw [r.textsL]
    rfl
  | .leave t r => by
    unfold Evs.texts
    rw [r.textsL]
    rfl
  | .hear n r => by
    unfold Evs.texts
    rw [r.textsL]
    rfl
theorem Tr.words_ne : ∀ t : Tr, ∃ x l, t.words = x :: l
  | .node nm kd bad es => by unfold Tr.words headW; exact ⟨nm, _, rfl⟩
theorem joinT_cons2 (sep x y : Str) (l : List Str) : Txt.join sep (x :: y :: l) = x ++ sep ++ Txt.join sep (y :: l) := by
  rw [TL.join_eq, TL.join_eq]
  rfl
mutual
def Tr.cost : Tr → Nat
  | .node nm kd _ es => nm.length + kd.length + 16 + es.cost
def Evs.cost : Evs → Nat
  | .nil => 0
  | .wait t r => t.cost + 10 + r.cost
  | .leave t r => t.cost + 10 + r.cost
  | .hear _ r => 13 + r.cost
end
theorem tostr500 {n : Int} (h0 : 0 ≤ n) (h1 : n ≤ 500) : (Str.ofString (toString n)).length ≤ 3 := by
  have all : ∀ k : Fin 501, (Str.ofString (toString ((k.val : Nat) : Int))).length ≤ 3 := by decide +kernel
  have z := all ⟨n.toNat, by omega⟩
  have e : ((n.toNat : Nat) : Int) = n := by omega
  simp only [e] at z
  exact z
theorem app_len (x y : Str) : (x ++ y).length = x.length + y.length := by
  show (Str.mk (x.cps ++ y.cps)).cps.size = _
  rw [Array.size_append]
  rfl
theorem join_len3 (sep : Str) : ∀ l : List Str, (Str.join sep l).length ≤ (l.map (·.length)).sum + l.length * sep.length
  | [] => by show 0 ≤ _; exact Nat.zero_le _
  | [x] => by
    show x.length ≤ (x.length + 0) + 1 * sep.length
    omega
  | x :: y :: l => by
    have ih := join_len3 sep (y :: l)
    have e : (Str.join sep (x :: y :: l)).length = x.length + sep.length + (Str.join sep (y :: l)).length := by
      show (x ++ sep ++ Str.join sep (y :: l)).length = _
      rw [app_len, app_len]
    rw [e, List.map_cons, List.sum_cons, List.length_cons, Nat.succ_mul]
    omega
theorem joinT_len (sep : Str) (l : List Str) : (Txt.join sep l).length ≤ (l.map (·.length)).sum + l.length * sep.length := by
  rw [TL.join_eq]
  exact join_len3 sep l
theorem headW_len {nm kd : Str} {bad new : Bool} {ts : List Str} : ((headW nm kd bad new ts).map (·.length)).sum + (headW nm kd bad new ts).length * 1 ≤ nm.length + kd.length + 16 + ((ts.map (·.length)).sum + ts.length * 2) := by
  have j := joinT_len ", " ts
  have e2 : (", " : Str).length = 2 := by decide +kernel
  rw [e2] at j
  have b1 : (if bad = true then ("bad" : Str) else "good").length ≤ 4 := by cases bad <;> decide +kernel
  have b2 : ("new" : Str).length = 3 := by decide +kernel
  have b3 : ("(" ++ Txt.join ", " ts ++ ")" : Str).length = (Txt.join ", " ts).length + 2 := by
    rw [app_len, app_len]
    have : ("(" : Str).length = 1 := by decide +kernel
    have : (")" : Str).length = 1 := by decide +kernel
    omega
  unfold headW
  cases new <;> cases ts.isEmpty <;> simp only [List.cons_append, List.nil_append, List.append_nil, if_true, List.map_cons, List.map_nil, List.sum_cons, List.sum_nil, List.length_cons, List.length_nil, Bool.false_eq_true, if_false, b3, b2] <;> omega
theorem headW_join {nm kd : Str} {bad new : Bool} {ts : List Str} : (Txt.join " " (headW nm kd bad new ts)).length ≤ nm.length + kd.length + 16 + ((ts.map (·.length)).sum + ts.length * 2) := by
  have j := joinT_len " " (headW nm kd bad new ts)
  have e2 : (" " : Str).length = 1 := by decide +kernel
  rw [e2] at j
  exact Nat.le_trans j headW_len
mutual
theorem Tr.text_len : ∀ t : Tr, t.fit → t.text.length ≤ t.cost
  | .node nm kd bad es, f => by
    unfold Tr.fit at f
    have e := es.texts_len f.2.2.2.2
    unfold Tr.text Tr.words Tr.cost
    have := headW_join (nm := nm) (kd := kd) (bad := bad) (new := false) (ts := es.texts)
    omega
theorem Evs.texts_len : ∀ es : Evs, es.fit → (es.texts.map (·.length)).sum + es.texts.length * 2 ≤ es.cost
  | .nil, _ => by unfold Evs.texts Evs.cost; exact Nat.le_refl _
  | .wait t r, f => by
    unfold Evs.fit at f
    have a := t.text_len f.1
    have b := r.texts_len f.2
    unfold Evs.texts Evs.cost
    have e : (("wait" : Str) ++ " " ++ Txt.join " " t.words).length = 5 + t.text.length := by
      rw [app_len, app_len]
      have : ("wait" : Str).length + (" " : Str).length = 5 := by decide +kernel
      rw [this]
      rfl
    rw [List.map_cons, List.sum_cons, List.length_cons, e]
    omega
  | .leave t r, f => by
    unfold Evs.fit at f
    have a := t.text_len f.1
    have b := r.texts_len f.2
    unfold Evs.texts Evs.cost
    have e : (("leave" : Str) ++ " " ++ Txt.join " " t.words).length = 6 + t.text.length := by
      rw [app_len, app_len]
      have : ("leave" : Str).length + (" " : Str).length = 6 := by decide +kernel
      rw [this]
      rfl
    rw [List.map_cons, List.sum_cons, List.length_cons, e]
    omega
  | .hear n r, f => by
    unfold Evs.fit at f
    have a := tostr500 f.1.1 f.1.2
    have b := r.texts_len f.2
    unfold Evs.texts Evs.cost
    have e : (("hear" : Str) ++ " " ++ Str.ofString (toString n)).length = 5 + (Str.ofString (toString n)).length := by
      rw [app_len, app_len]
      have : ("hear" : Str).length + (" " : Str).length = 5 := by decide +kernel
      rw [this]
    rw [List.map_cons, List.sum_cons, List.length_cons, e]
    omega
end
def costI : EvI → Nat
  | .call _ t => t.cost + 10
  | .hear _ => 13
theorem Evs.costL : ∀ (es : Evs) (e : EvI), e ∈ es.list → costI e ≤ es.cost
  | .nil, _, h => nomatch h
  | .wait t r, e, h => by
    unfold Evs.cost
    rcases List.mem_cons.mp h with rfl | h
    · show t.cost + 10 ≤ _; omega
    · have := r.costL e h; omega
  | .leave t r, e, h => by
    unfold Evs.cost
    rcases List.mem_cons.mp h with rfl | h
    · show t.cost + 10 ≤ _; omega
    · have := r.costL e h; omega
  | .hear n r, e, h => by
    unfold Evs.cost
    rcases List.mem_cons.mp h with rfl | h
    · show 13 ≤ _; omega
    · have := r.costL e h; omega
theorem sum_map_le {f : Str → Nat} {a b : List Str} (h : a.Sublist b) : (a.map f).sum ≤ (b.map f).sum := by
  induction h with
  | slnil => exact Nat.le_refl _
  | cons x _ ih => rw [List.map_cons, List.sum_cons]; omega
  | cons_cons x _ ih => rw [List.map_cons, List.map_cons, List.sum_cons, List.sum_cons]; omega
end My

/-! ## *xs in a list display or a call -/
namespace My
open PySem PySem.Spec PyProof.Rows L2
section
variable {X : Cx}
theorem pa_starK (K : PySem.W.Frag) {e : Expr} {es : List Expr} {te : TE} {t : TA} {p : Pos} (he : PE X e te) (hr : PA X es t) (hK : X.K = K := by rfl) (hs : starEach (.Starred e p :: es) X.env = (true, eval e X.env) :: starEach es X.env := by rfl) : PA X (.Starred e p :: es) (StX.tStar K te t) := hK ▸ StX.pa_star he hr hs
end
end My

/-! ## The words of a call, its text -/
namespace My
open PySem PySem.Spec PyProof.Rows L2 PySem.MyX
abbrev s_call_words : Stmt := top 10
abbrev N_call_words : List Str := ["call", "words", "texts", "event", "inner_words"]
abbrev P_call_words : List Str := ["call"]
theorem sc_call_words : FnScope N_call_words P_call_words (defScope s_call_words) := ⟨rfl, rfl, rfl, by decide +kernel, rfl, by decide +kernel, by decide +kernel⟩
structure TxWords (w : World) (K : PySem.W.Frag) (mg : Str → Option Value) extends TxThings w K mg where
  f_call_words : Addr
  d_call_words : FuncData
  F_call_words : Fun K "call_words" "call_words" s_call_words f_call_words d_call_words
  m_call_words : mg "call_words" = some (.ref f_call_words)
  b_call_words : Binds K d_call_words P_call_words []
section
variable {w : World} {K : PySem.W.Frag} {mg : Str → Option Value}
/-- the call of this tree, itself of this side -/
inductive TopAt (T : TxTrees0 w K mg) (H : Hp) (new : Bool) : Addr → Tr → Prop
  | node {c dx te ti : Addr} {nm kd : Str} {bad : Bool} {es : Evs} {ps : List V} {cs : List Addr} (h : H c = some (.ins T.C_Call dx [("service", .str nm), ("kind", .str kd), ("bad", .bl bad), ("events", .ref te), ("side", .str (if new = true then "new" else "old")), ("inner", .ref ti), ("_size", .int (((Tr.node nm kd bad es).size : Nat) : Int))])) (he : SqT K H te ps) (hi : SqT K H ti (cs.map V.ref)) (r : ItemsAt T H ps cs es) : TopAt T H new c (.node nm kd bad es)
theorem CallAt.top {T : TxTrees0 w K mg} {H : Hp} {c : Addr} {t : Tr} (h : CallAt T H c t) : TopAt T H false c t := by
  cases h with
  | node h he hi r => exact .node h he hi r
theorem TopAt.call {T : TxTrees0 w K mg} {H : Hp} {c : Addr} {t : Tr} (h : TopAt T H false c t) : CallAt T H c t := by
  cases h with
  | node h he hi r => exact .node h he hi r
theorem TopAt.kn {T : TxTrees0 w K mg} {H H' : Hp} {new : Bool} {c : Addr} {t : Tr} (s : KN H H') (h : TopAt T H new c t) : TopAt T H' new c t := by
  cases h with
  | node h he hi r => exact .node (s _ _ (fun _ z => nomatch z) (fun _ z => nomatch z) h) (sqT_kn s he) (sqT_kn s hi) (r.kn s)
end
section
variable {w : World} {K : PySem.W.Frag} {mg : Str → Option Value}
theorem ItemL.at_ {T : TxTrees0 w K mg} {H : Hp} : ∀ {ps : List V} {cs : List Addr} {es : List EvI} {i : Nat} {x : V}, ItemL T H ps cs es → ps[i]? = some x → ∃ e c, es[i]? = some e ∧ ItemAt T H x c e
  | _, _, _, _, _, .nil, h => by simp at h
  | _, _, _, 0, _, .cons h _, e => by simp at e; subst e; exact ⟨_, _, rfl, h⟩
  | _, _, _, i + 1, x, .cons _ r, e => by
    simp at e
    obtain ⟨a, b, h1, h2⟩ := r.at_ e
    exact ⟨a, b, by simpa using h1, h2⟩
end
theorem ifc {b : Bool} {x y : Str} {σ : L2.St} {H : Hp} {Q : VK} (h : Q (.str (if b = true then x else y)) H) : if b = true then tC (.str x) σ H Q else tC (.str y) σ H Q := by
  cases b <;> exact h
def Tr.wordsS (new : Bool) : Tr → List Str
  | .node nm kd bad es => headW nm kd bad new es.texts
def spWordsOf {w : World} {K : PySem.W.Frag} {mg : Str → Option Value} (T : TxTrees0 w K mg) (n : Nat) : Sp := fun us H Q _ => ∃ (c : Addr) (new : Bool) (t : Tr), us = [.ref c] ∧ TopAt T H new c t ∧ t.deep ≤ n ∧ t.cost ≤ 100000 ∧ t.fit ∧ ∀ p H', Same H H' → H p = none → H' p = some (.lst ((t.wordsS new).map V.str)) → Q (.ref p) H'
section
variable {P : Program} {w : World} {K : PySem.W.Frag} {mg : Str → Option Value} {base : Heap}
theorem Tr.wordsS_false : ∀ t : Tr, t.wordsS false = t.words
  | .node nm kd bad es => by unfold Tr.wordsS Tr.words; rfl
theorem Tr.words_sum : ∀ (new : Bool) (t : Tr), t.fit → ((t.wordsS new).map (·.length)).sum + (t.wordsS new).length * 1 ≤ t.cost
  | new, .node nm kd bad es, f => by
    unfold Tr.fit at f
    have e := es.texts_len f.2.2.2.2
    show ((headW nm kd bad new es.texts).map (·.length)).sum + (headW nm kd bad new es.texts).length * 1 ≤ _
    unfold Tr.cost
    have := headW_len (nm := nm) (kd := kd) (bad := bad) (new := new) (ts := es.texts)
    omega
theorem headW_few {nm kd : Str} {bad new : Bool} {ts : List Str} : (headW nm kd bad new ts).length ≤ 5 := by
  unfold headW
  cases new <;> cases ts.isEmpty <;> exact Nat.le_of_ble_eq_true rfl
theorem Tr.words_few : ∀ (new : Bool) (t : Tr), (t.wordsS new).length ≤ 5
  | new, .node nm kd bad es => by
    unfold Tr.wordsS
    exact headW_few
theorem join_call {x : Str} {t : Tr} : Txt.join " " (x :: t.wordsS false) = x ++ " " ++ t.text := by
  obtain ⟨y, l, e⟩ := t.words_ne
  rw [t.wordsS_false]
  unfold Tr.text
  rw [e, joinT_cons2]
/-- the list of a word and a call's words, joined -/
theorem join_star {K : PySem.W.Frag} {σ : L2.St} {H : Hp} {p : Addr} {x : Str} {t : Tr} {Q : VK} (h4 : σ[4]? = some (some (.ref p))) (hp : H p = some (.lst ((t.wordsS false).map V.str))) (ft : t.fit) (few : t.cost ≤ 100000) (x10 : x.length ≤ 10)
    (q : ∀ H', Same H H' → Q (.str (x ++ " " ++ t.text)) H') :
    StX.tStar K (tVar 4) tNil σ H fun xs H2 => (V.str x :: xs).length ≤ sizeLine ∧ ∀ l, H2 l = none → rJoin K (.str " ") [.ref l] (upd H2 l (.lst (V.str x :: xs))) Q := by
  have ws := t.words_sum false ft
  have wf := t.words_few false
  refine ⟨_, h4, p, _, rfl, .inr (SqL.of hp), ?_, fun l hl => ⟨" ", l, x :: t.wordsS false, rfl, rfl, .inl (SqL.of ?_), ?_, ?_⟩⟩
  · simp only [List.length_cons, List.length_append, List.length_map, List.length_nil]
    rw [sizeLine_eq]
    omega
  · rw [upd_same, List.append_nil]
    rfl
  · have one : (" " : Str).length = 1 := by decide +kernel
    rw [one]
    simp only [List.map_cons, List.sum_cons, List.length_cons]
    omega
  · rw [join_call]
    exact q _ (same_upd hl _)
theorem ok_call_words (T : TxWords w K mg) : ∀ n, FnOk P w K mg base CX0 (1 + n) T.f_call_words T.d_call_words P_call_words (spWordsOf T.toTxTrees0 n)
  | 0 => by
    refine T.F_call_words.ok sc_call_words (fun vs H Q E h => ?_) (fun cdv A outer s H vs Q E hr h => ?_)
    · obtain ⟨c, new, t, rfl, _⟩ := h
      rfl
    obtain ⟨c, new, t, rfl, ht, dp, _⟩ := h
    cases ht with
    | node => exact absurd dp (by unfold Tr.deep; omega)
  | n + 1 => by
    have G_call_words := ok_call_words T n
    refine T.F_call_words.ok sc_call_words (fun vs H Q E h => ?_) (fun cdv A outer s H vs Q E hr h => ?_)
    · obtain ⟨c, new, t, rfl, _⟩ := h
      rfl
    obtain ⟨c, new, t, rfl, ht, dp, few, ft, q⟩ := h
    refine ⟨_, (pss_cons (ps_set (i := 1) sc_call_words.nd rfl (Or.inl rfl) (pe_lst (pa_cons (pe_fldK K (pv 0)) (pa_cons (pe_fldK K (pv 0)) (pa_cons (pe_ifExp (pt_val (pe_fldK K (pv 0))) pe_str pe_str) pa_nil)))))
      (Evl.pss_cut (ps_if (pt_cmpR op_eq (pe_fldK K (pv 0)) pe_str (nomark _)) (pss_one (ps_expr (pe_bm PySem.F.plainAttrs_list PySem.F.slot_list_append PySem.F.type_list_append mt_append (pv 1) (pa_cons pe_str pa_nil)))) pss_nil)
      (pss_cons (ps_set (i := 2) sc_call_words.nd rfl (Or.inl rfl) (pe_lst pa_nil))
      (pss_cons (ps_for PassesOwn.never rfl (pi_tupK K (pe_fldK K (pv 0))) (pg_name (i := 3) sc_call_words.nd rfl (Or.inl rfl)) (pss_one (ps_if (pt_val (pe_callB (call_isiV K) (by rfl) T.z_isinstance (by decide +kernel) (pa_cons (pv 3) (pa_cons (pe_glob (v := .ref T.C_Hear) (by rfl) T.m_Hear rfl) pa_nil)))) (pss_one (ps_expr (pe_bm PySem.F.plainAttrs_list PySem.F.slot_list_append PySem.F.type_list_append mt_append (pv 2) (pa_cons (pe_joined (.cons pe_str (.cons (pe_fmt (pe_fldK K (pv 3))) .nil))) pa_nil)))) (pss_cons (ps_set (i := 4) sc_call_words.nd rfl (Or.inl rfl) (pe_call G_call_words (hr.mono (Nat.le_refl _)) (by rfl) T.m_call_words T.F_call_words.kp T.b_call_words .nil pass0 (pa_cons (pe_fldK K (pv 3)) pa_nil)))
      (pss_one (ps_expr (pe_bm PySem.F.plainAttrs_list PySem.F.slot_list_append PySem.F.type_list_append mt_append (pv 2) (pa_cons (pe_m1 PySem.F.slot_str_join PySem.F.type_str_join (mt_joinK K) pe_str (pe_lst (pa_cons (pe_ifExp (pt_val (pe_callB (call_isiV K) (by rfl) T.z_isinstance (by decide +kernel) (pa_cons (pv 3) (pa_cons (pe_glob (v := .ref T.C_Wait) (by rfl) T.m_Wait rfl) pa_nil)))) pe_str pe_str) (pa_starK K (pv 4) pa_nil)))) pa_nil))))))))
      (Evl.pss_cut (ps_if (pt_truth (pv 2) (by intro _; rfl)) (pss_one (ps_expr (pe_bm PySem.F.plainAttrs_list PySem.F.slot_list_append PySem.F.type_list_append mt_append (pv 1) (pa_cons (pe_op op_add_str (pe_op op_add_str pe_str (pe_m1 PySem.F.slot_str_join PySem.F.type_str_join (mt_joinK K) pe_str (pv 2))) pe_str) pa_nil)))) pss_nil)
      (pss_one (ps_ret (pv 1)))))))), ?_⟩
    cases ht with
    | @node dx te ti nm kd bad es ps cs h he hi r =>
      have L := ItemsAt.toL _ _ _ r
      have de : es.deep ≤ n := by unfold Tr.deep at dp; omega
      unfold Tr.cost at few
      unfold Tr.fit at ft
      obtain ⟨f1, f2, f3, f4, f5⟩ := ft
      have lp := L.len
      refine ⟨_, rfl, c, T.C_Call, dx, _, _, rfl, h, T.c_Call, T.n_Call_service, rfl, ?_⟩
      refine ⟨_, rfl, c, T.C_Call, dx, _, _, rfl, h, T.c_Call, T.n_Call_kind, rfl, ?_⟩
      refine ⟨_, rfl, c, T.C_Call, dx, _, _, rfl, h, T.c_Call, T.n_Call_bad, rfl, bad, rfl, ?_⟩
      refine ifc ?_
      refine ⟨by show 3 ≤ sizeLine; decide, fun W hW => ?_⟩
      have y1 := same_upd hW (.lst [.str nm, .str kd, .str (if bad = true then (Str.ofString "bad") else Str.ofString "good")])
      have w1 := upd_same (H := H) (a := W) (o := .lst [.str nm, .str kd, .str (if bad = true then (Str.ofString "bad") else Str.ofString "good")])
      generalize upd H W (.lst [.str nm, .str kd, .str (if bad = true then (Str.ofString "bad") else Str.ofString "good")]) = H1 at y1 w1 ⊢
      refine ⟨fun σ H' => σ = [some (.ref c), some (.ref W), none, none, none] ∧ Same H H' ∧ H' W = some (.lst (([nm, kd, if bad = true then ("bad" : Str) else "good"] ++ (if new = true then [("new" : Str)] else [])).map V.str)), ?_, ?_⟩
      · refine ⟨_, rfl, c, T.C_Call, dx, _, _, rfl, y1 _ _ h, T.c_Call, T.n_Call_side, rfl, rfl, _, rfl, ?_⟩
        cases new with
        | true =>
          refine ite2 (fun _ => ?_) (fun c => (c (by decide +kernel)).elim)
          refine ⟨_, rfl, .inl ⟨rfl, _, SqL.of w1⟩, W, _, _, rfl, rfl, w1, by show 3 < sizeLine; decide, rfl, fun b o e => ?_, upd_same⟩
          rw [upd_ne (ne_of_none e hW)]
          exact y1 _ _ e
        | false =>
          refine ite2 (fun c => absurd c (by decide +kernel)) (fun _ => ⟨rfl, y1, w1⟩)
      generalize hw0 : ([nm, kd, if bad = true then ("bad" : Str) else "good"] ++ (if new = true then [("new" : Str)] else [])) = ws0
      rintro σ H2 ⟨rfl, y2, w2⟩
      refine ⟨Nat.zero_le _, fun X hX => ?_⟩
      have s3 := y2.trans (same_upd hX (.lst []))
      have nX : H X = none := y2.free hX
      have wX : W ≠ X := ne_of_none w2 hX
      have w3 : upd H2 X (.lst []) W = some (.lst (ws0.map V.str)) := by rw [upd_ne wX]; exact w2
      refine ⟨_, rfl, c, T.C_Call, dx, _, _, rfl, s3 _ _ h, T.c_Call, T.n_Call_events, rfl, te, rfl, ⟨_, seqT_same s3 he⟩, ?_⟩
      refine for_tup (K := K) (a := te) (xs := ps) (fun i σ H' => (∃ v3 v4, σ = [some (.ref c), some (.ref W), some (.ref X), v3, v4]) ∧ Same H H' ∧ H' W = some (.lst (ws0.map V.str)) ∧ H' X = some (.lst (((es.list.take i).map textI).map V.str))) ⟨⟨_, _, rfl⟩, s3, w3, upd_same⟩ (fun i σ H' _ hh => seqT_same hh.2.1 he) ?_ ?_
      · rintro i x σ H4 hx ⟨⟨v3, v4, rfl⟩, s4, w4, x4⟩
        obtain ⟨ev, co, hev, ea⟩ := L.at_ hx
        have ea := ea.kn (KN.of_same s4)
        have il := (List.getElem?_eq_some_iff.mp hev).1
        have mev := List.mem_of_getElem? hev
        have tk : es.list.take (i + 1) = es.list.take i ++ [ev] := by rw [List.take_add_one, hev]; rfl
        have fw : (((es.list.take i).map textI).map V.str).length < sizeLine := small1000 (by rw [List.length_map, List.length_map, List.length_take]; omega)
        have fin : ∀ {H5 : Hp} {u3 u4 : Option V}, Same H4 H5 → rAppend (.ref X) [.str (textI ev)] H5 fun _ H6 => ((∃ v3 v4, [some (.ref c), some (.ref W), some (.ref X), u3, u4] = ([some (.ref c), some (.ref W), some (.ref X), v3, v4] : L2.St)) ∧ Same H H6 ∧ H6 W = some (.lst (ws0.map V.str)) ∧ H6 X = some (.lst (((es.list.take (i + 1)).map textI).map V.str))) := fun {H5 u3 u4} s5 => by
          refine ⟨X, _, _, rfl, rfl, s5 _ _ x4, fw, ⟨_, _, rfl⟩, fun b o e => ?_, ?_, ?_⟩
          · rw [upd_ne (ne_of_none e nX)]
            exact s5 _ _ (s4 _ _ e)
          · rw [upd_ne wX]
            exact s5 _ _ w4
          · rw [upd_same, tk, List.map_append, List.map_append]
            rfl
        have dn : ∀ {w t}, ev = .call w t → t.deep ≤ n ∧ t.cost ≤ 100000 ∧ t.fit := fun {w t} e => by
          subst e
          have a1 := es.deepL _ mev
          have a2 := es.costL _ mev
          have a3 := es.fitL f5 _ mev
          refine ⟨Nat.le_trans a1 de, ?_, a3⟩
          have : t.cost + 10 ≤ es.cost := a2
          omega
        cases ea with
        | @hear b dx2 m hb =>
          have mm := es.fitL f5 _ mev
          refine ⟨_, rfl, .ref b, .ref T.C_Hear, .ref T.C_Hear, _, true, rfl, .own _, T.ty_Hear _ _ _ _ hb, T.kk_Hear_Hear, _, rfl, iteT ?_⟩
          have e1 : (Str.empty ++ Str.ofString "hear ") = ("hear" : Str) ++ " " := by decide +kernel
          have lg : m.natAbs.log2 < 1920 := by
            have := Nat.log2_le_self m.natAbs
            have : 0 ≤ m ∧ m ≤ 500 := mm
            omega
          have tl := tostr500 mm.1 mm.2
          refine ⟨_, rfl, .inl ⟨rfl, _, SqL.of x4⟩, _, rfl, by decide +kernel, ?_⟩
          refine ⟨_, rfl, b, T.C_Hear, dx2, _, _, rfl, hb, T.c_Hear, T.n_Hear_number, rfl, .inr ⟨m, rfl, lg, _, rfl, ?_, ?_⟩⟩
          · rw [app_len, e1, app_len]
            have : ("hear" : Str).length + (" " : Str).length = 5 := by decide +kernel
            rw [sizeLine_eq]
            omega
          · rw [e1]
            exact fin (Same.refl _)
        | @wait b dx2 cc t hb hc =>
          obtain ⟨dt, ct, tf⟩ := dn rfl
          refine ⟨_, rfl, .ref b, .ref T.C_Hear, .ref T.C_Wait, _, false, rfl, .own _, T.ty_Wait _ _ _ _ hb, T.kk_Wait_Hear, _, rfl, iteF ?_⟩
          refine ⟨_, rfl, b, T.C_Wait, dx2, _, _, rfl, hb, T.c_Wait, T.n_Wait_call, rfl, cc, false, t, rfl, hc.top, dt, ct, tf, fun p H5 s5 np hp => ?_⟩
          refine ⟨_, rfl, .inl ⟨rfl, _, SqL.of (s5 _ _ x4)⟩, ?_⟩
          refine ⟨⟨_, rfl⟩, _, rfl, .ref b, .ref T.C_Wait, .ref T.C_Wait, _, true, rfl, .own _, T.ty_Wait _ _ _ _ (s5 _ _ hb), T.kk_Wait_Wait, true, rfl, iteT ?_⟩
          exact join_star rfl hp tf ct (by decide +kernel) fun H6 s6 => fin (s5.trans s6)
        | @leave b dx2 cc t hb hc =>
          obtain ⟨dt, ct, tf⟩ := dn rfl
          refine ⟨_, rfl, .ref b, .ref T.C_Hear, .ref T.C_Leave, _, false, rfl, .own _, T.ty_Leave _ _ _ _ hb, T.kk_Leave_Hear, _, rfl, iteF ?_⟩
          refine ⟨_, rfl, b, T.C_Leave, dx2, _, _, rfl, hb, T.c_Leave, T.n_Leave_call, rfl, cc, false, t, rfl, hc.top, dt, ct, tf, fun p H5 s5 np hp => ?_⟩
          refine ⟨_, rfl, .inl ⟨rfl, _, SqL.of (s5 _ _ x4)⟩, ?_⟩
          refine ⟨⟨_, rfl⟩, _, rfl, .ref b, .ref T.C_Wait, .ref T.C_Leave, _, false, rfl, .own _, T.ty_Leave _ _ _ _ (s5 _ _ hb), T.kk_Leave_Wait, false, rfl, iteF ?_⟩
          exact join_star rfl hp tf ct (by decide +kernel) fun H6 s6 => fin (s5.trans s6)
      · rintro σ H4 ⟨⟨v3, v4, rfl⟩, s4, w4, x4⟩
        rw [lp, List.take_length, ← es.textsL] at x4
        have sum := es.texts_len f5
        have jl := joinT_len ", " es.texts
        have two : (", " : Str).length = 2 := by decide +kernel
        rw [two] at jl
        refine ⟨fun σ H' => (∃ u3 u4, σ = [some (.ref c), some (.ref W), some (.ref X), u3, u4]) ∧ Same H H' ∧ H' W = some (.lst ((ws0 ++ (if es.texts.isEmpty = true then [] else [("(" : Str) ++ Txt.join ", " es.texts ++ ")"])).map V.str)), ?_, ?_⟩
        · refine ⟨_, rfl, !(es.texts.map V.str).isEmpty, .inl ⟨_, SqL.of x4, rfl⟩, ?_⟩
          rw [List.isEmpty_map]
          cases e : es.texts.isEmpty with
          | true => exact iteF ⟨⟨_, _, rfl⟩, s4, by rw [if_pos rfl, List.append_nil]; exact w4⟩
          | false =>
            have wl : ws0.length ≤ 10 := by
              rw [← hw0]
              cases new <;> exact Nat.le_of_ble_eq_true rfl
            refine iteT ?_
            refine ⟨_, rfl, .inl ⟨rfl, _, SqL.of w4⟩, ⟨_, rfl⟩, _, rfl, ", ", X, es.texts, rfl, rfl, .inl (SqL.of x4), ?_, _, _, rfl, rfl, ?_, _, _, rfl, rfl, ?_, W, _, _, rfl, rfl, w4, small1000 (by rw [List.length_map]; omega), ⟨_, _, rfl⟩, fun b o z => ?_, ?_⟩
            · rw [two]
              omega
            · have : ("(" : Str).length = 1 := by decide +kernel
              rw [this, sizeLine_eq]
              omega
            · have : ("(" : Str).length = 1 := by decide +kernel
              have : (")" : Str).length = 1 := by decide +kernel
              rw [app_len, sizeLine_eq]
              omega
            · rw [upd_ne (ne_of_none z hW)]
              exact s4 _ _ z
            · rw [upd_same, if_neg (fun z => nomatch z), List.map_append]
              rfl
        · rintro σ H5 ⟨⟨u3, u4, rfl⟩, s5, w5⟩
          refine ⟨_, rfl, q W H5 s5 hW ?_⟩
          rw [w5, ← hw0]
          rfl
end
end My

/-! ## The text of a call -/
namespace My
open PySem PySem.Spec PyProof.Rows L2 PySem.MyX
abbrev s_Call_str : Stmt := inClass (top 11) 3
abbrev N_Call_str : List Str := ["self"]
abbrev P_Call_str : List Str := ["self"]
theorem sc_Call_str : FnScope N_Call_str P_Call_str (defScope s_Call_str) := ⟨rfl, rfl, rfl, by decide +kernel, rfl, by decide +kernel, by decide +kernel⟩
structure TxCStr (w : World) (K : PySem.W.Frag) (mg : Str → Option Value) extends TxWords w K mg where
  f_Call_str : Addr
  d_Call_str : FuncData
  F_Call_str : Fun K "__str__" "Call.__str__" s_Call_str f_Call_str d_Call_str
  b_Call_str : Binds K d_Call_str P_Call_str []
  si_Call : PySem.W.findIn K (.ref C_Call) "__str__" = some (some (.ref f_Call_str))
  sf_Call : PySem.W.isFn K (.ref f_Call_str) = true
def Tr.textS (new : Bool) (t : Tr) : Str := Txt.join " " (t.wordsS new)
theorem Tr.textS_false (t : Tr) : t.textS false = t.text := by unfold Tr.textS Tr.text; rw [t.wordsS_false]
theorem Tr.textS_len (new : Bool) (t : Tr) (f : t.fit) : (t.textS new).length ≤ t.cost := by
  have j := joinT_len " " (t.wordsS new)
  have one : (" " : Str).length = 1 := by decide +kernel
  rw [one] at j
  exact Nat.le_trans j (t.words_sum new f)
/-- a call that can be told -/
structure Told {w : World} {K : PySem.W.Frag} {mg : Str → Option Value} (T : TxTrees0 w K mg) (n : Nat) (H : Hp) (c : Addr) (new : Bool) (t : Tr) : Prop where
  at_ : TopAt T H new c t
  dp : t.deep ≤ n
  few : t.cost ≤ 100000
  ft : t.fit
theorem Told.same {w : World} {K : PySem.W.Frag} {mg : Str → Option Value} {T : TxTrees0 w K mg} {n : Nat} {H H' : Hp} {c : Addr} {new : Bool} {t : Tr} (h : Told T n H c new t) (s : Same H H') : Told T n H' c new t := ⟨h.at_.kn (KN.of_same s), h.dp, h.few, h.ft⟩
def spCStr {w : World} {K : PySem.W.Frag} {mg : Str → Option Value} (T : TxTrees0 w K mg) (n : Nat) : Unit → Sp := fun _ us H Q _ => ∃ (c : Addr) (new : Bool) (t : Tr), us = [.ref c] ∧ Told T n H c new t ∧ ∀ H', Same H H' → Q (.str (t.textS new)) H'
section
variable {P : Program} {w : World} {K : PySem.W.Frag} {mg : Str → Option Value} {base : Heap}
theorem ok_Call_str (T : TxCStr w K mg) (n : Nat) : FnOk P w K mg base CX0 (2 + n) T.f_Call_str T.d_Call_str P_Call_str (spCStr T.toTxTrees0 n ()) := by
  have G_call_words : FnOk P w K mg base CX0 (1 + n) T.f_call_words T.d_call_words P_call_words (spWordsOf T.toTxTrees0 n) := ok_call_words T.toTxWords n
  have e12 : 2 + n = (1 + n) + 1 := by omega
  rw [e12]
  refine T.F_Call_str.ok sc_Call_str (fun vs H Q E h => ?_) (fun cdv A outer s H vs Q E hr h => ?_)
  · obtain ⟨c, new, t, rfl, _⟩ := h
    rfl
  obtain ⟨c, new, t, rfl, ⟨ht, dp, few, ft⟩, q⟩ := h
  refine ⟨_, (pss_one (ps_ret (pe_m1 PySem.F.slot_str_join PySem.F.type_str_join (mt_joinK K) pe_str (pe_call G_call_words (hr.mono (Nat.le_refl _)) (by rfl) T.m_call_words T.F_call_words.kp T.b_call_words .nil pass0 (pa_cons (pv 0) pa_nil))))), ?_⟩
  refine ⟨⟨_, rfl⟩, _, rfl, c, new, t, rfl, ht, dp, few, ft, fun p H1 s1 np hp => ⟨" ", p, t.wordsS new, rfl, rfl, .inl (SqL.of hp), ?_, q H1 s1⟩⟩
  have one : (" " : Str).length = 1 := by decide +kernel
  rw [one]
  have := t.words_sum new ft
  omega
theorem str_call (T : TxCStr w K mg) (n : Nat) : OwnStr P w K mg base (fun _ : Unit => T.C_Call) (fun _ => True) (2 + n) (spCStr T.toTxTrees0 n) := ⟨fun _ _ => ⟨_, _, _, ok_Call_str T n, T.b_Call_str, T.si_Call, T.sf_Call⟩⟩
end
end My

/-! ## == of calls -/
namespace My
open PySem PySem.Spec PyProof.Rows L2 PySem.MyX
abbrev s_Call_eq : Stmt := inClass (top 11) 2
abbrev N_Call_eq : List Str := ["self", "other"]
abbrev P_Call_eq : List Str := ["self", "other"]
theorem sc_Call_eq : FnScope N_Call_eq P_Call_eq (defScope s_Call_eq) := ⟨rfl, rfl, rfl, by decide +kernel, rfl, by decide +kernel, by decide +kernel⟩
structure TxCEq (w : World) (K : PySem.W.Frag) (mg : Str → Option Value) extends TxCStr w K mg where
  f_Call_eq : Addr
  d_Call_eq : FuncData
  F_Call_eq : Fun K "__eq__" "Call.__eq__" s_Call_eq f_Call_eq d_Call_eq
  b_Call_eq : Binds K d_Call_eq P_Call_eq []
  ei_Call : PySem.W.findIn K (.ref C_Call) "__eq__" = some (some (.ref f_Call_eq))
  ef_Call : PySem.W.isFn K (.ref f_Call_eq) = true
  en_Call : PySem.W.findIn K (.ref C_Call) "__ne__" = some (some (.builtin "object.__ne__"))
  eo_Call : PySem.W.subIn K (.ref C_Call) (.type "object") = some true
  nf_Call_Call : PySem.W.notFirst K C_Call (.ref C_Call) = true
/-- what a call is compared with: a call that can be told, or what is none -/
inductive Oth {w : World} {K : PySem.W.Frag} {mg : Str → Option Value} (T : TxTrees0 w K mg) (n : Nat) (H : Hp) : V → Option Str → Prop
  | call {c : Addr} {new : Bool} {t : Tr} (h : Told T n H c new t) : Oth T n H (.ref c) (some (t.textS new))
  | odd {v : V} (h : OfC K H v (.ref T.C_Call) false) : Oth T n H v none
def spCEq {w : World} {K : PySem.W.Frag} {mg : Str → Option Value} (T : TxTrees0 w K mg) (n : Nat) : Unit → Sp := fun _ us H Q _ => ∃ (c : Addr) (new : Bool) (t : Tr) (v : V) (o : Option Str), us = [.ref c, v] ∧ Told T n H c new t ∧ Oth T n H v o ∧ ∀ H', Same H H' → Q (.bl (decide (o = some (t.textS new)))) H'
section
variable {P : Program} {w : World} {K : PySem.W.Frag} {mg : Str → Option Value} {base : Heap}
theorem ok_Call_eq (T : TxCEq w K mg) (n : Nat) : FnOk P w K mg base CX0 (5 + n) T.f_Call_eq T.d_Call_eq P_Call_eq (spCEq T.toTxTrees0 n ()) := by
  have G_cstr := str_call (P := P) (w := w) (base := base) T.toTxCStr n
  have e12 : 5 + n = (2 + n + 2) + 1 := by omega
  rw [e12]
  refine T.F_Call_eq.ok sc_Call_eq (fun vs H Q E h => ?_) (fun cdv A outer s H vs Q E hr h => ?_)
  · obtain ⟨c, new, t, v, o, rfl, _⟩ := h
    rfl
  obtain ⟨c, new, t, v, o, rfl, ht, ho, q⟩ := h
  refine ⟨_, (pss_one (ps_ret (pe_and (pe_callB (call_isiV K) (by rfl) T.z_isinstance (by decide +kernel) (pa_cons (pv 1) (pa_cons (pe_glob (v := .ref T.C_Call) (by rfl) T.m_Call rfl) pa_nil))) (pe_one (pe_cmpR op_eq (pe_callTy (call_strO K G_cstr (hr.mono (Nat.le_refl _))) (by rfl) T.z_str (by decide +kernel) (pa_cons (pv 0) pa_nil)) (pe_callTy (call_strO K G_cstr (hr.mono (Nat.le_refl _))) (by rfl) T.z_str (by decide +kernel) (pa_cons (pv 1) pa_nil)) (nomark _)))))), ?_⟩
  have hc : ∃ dx fs, H c = some (.ins T.C_Call dx fs) := by
    cases ht.at_ with
    | node h _ _ _ => exact ⟨_, _, h⟩
  obtain ⟨dx, fs, hc⟩ := hc
  cases ho with
  | @call c2 new2 t2 h2 =>
    have hc2 : ∃ dx fs, H c2 = some (.ins T.C_Call dx fs) := by
      cases h2.at_ with
      | node h _ _ _ => exact ⟨_, _, h⟩
    obtain ⟨dx2, fs2, hc2⟩ := hc2
    refine ⟨_, rfl, .ref c2, .ref T.C_Call, .ref T.C_Call, _, true, rfl, .own _, T.ty_Call _ _ _ _ hc2, T.kk_Call_Call, _, rfl, ?_⟩
    refine iteT ?_
    refine ⟨_, rfl, c, (), dx, _, rfl, trivial, hc, c, new, t, rfl, ht, fun H1 s1 => ⟨_, rfl, _, rfl, c2, (), dx2, _, rfl, trivial, s1 _ _ hc2, c2, new2, t2, rfl, h2.same s1, fun H2 s2 => ⟨_, rfl, rfl, ?_⟩⟩⟩
    have e : decide (V.str (t.textS new) = V.str (t2.textS new2)) = decide (some (t2.textS new2) = some (t.textS new)) := by
      rw [Bool.eq_iff_iff, decide_eq_true_eq, decide_eq_true_eq]
      exact ⟨fun z => by injection z with z; rw [z], fun z => by injection z with z; rw [z]⟩
    rw [e]
    exact q H2 (s1.trans s2)
  | odd h2 =>
    obtain ⟨ty, h1, h3⟩ := h2
    refine ⟨_, rfl, v, .ref T.C_Call, ty, _, false, rfl, .own _, h1, h3, _, rfl, ?_⟩
    exact iteF (q H (Same.refl _))
theorem eq_call (T : TxCEq w K mg) (n : Nat) : OwnEqs P w K mg base (fun _ : Unit => T.C_Call) (fun _ => True) (5 + n) (spCEq T.toTxTrees0 n) := ⟨fun _ _ => ⟨_, _, _, ok_Call_eq T n, T.b_Call_eq, T.ei_Call, T.ef_Call, T.en_Call, T.eo_Call⟩⟩
end
end My

/-! ## The texts of events -/
namespace My
open PySem PySem.Spec PyProof.Rows L2 PySem.MyX
abbrev s_Wait_str : Stmt := inClass (top 12) 2
abbrev N_Wait_str : List Str := ["self"]
abbrev P_Wait_str : List Str := ["self"]
theorem sc_Wait_str : FnScope N_Wait_str P_Wait_str (defScope s_Wait_str) := ⟨rfl, rfl, rfl, by decide +kernel, rfl, by decide +kernel, by decide +kernel⟩
abbrev s_Leave_str : Stmt := inClass (top 13) 2
abbrev N_Leave_str : List Str := ["self"]
abbrev P_Leave_str : List Str := ["self"]
theorem sc_Leave_str : FnScope N_Leave_str P_Leave_str (defScope s_Leave_str) := ⟨rfl, rfl, rfl, by decide +kernel, rfl, by decide +kernel, by decide +kernel⟩
abbrev s_Hear_str : Stmt := inClass (top 14) 2
abbrev N_Hear_str : List Str := ["self"]
abbrev P_Hear_str : List Str := ["self"]
theorem sc_Hear_str : FnScope N_Hear_str P_Hear_str (defScope s_Hear_str) := ⟨rfl, rfl, rfl, by decide +kernel, rfl, by decide +kernel, by decide +kernel⟩
structure TxEStr (w : World) (K : PySem.W.Frag) (mg : Str → Option Value) extends TxCStr w K mg where
  fm_Call : PySem.W.findIn K (.ref C_Call) "__format__" = some (some (.builtin "object.__format__"))
  fo_Call : PySem.W.subIn K (.ref C_Call) (.type "object") = some true
  f_Wait_str : Addr
  d_Wait_str : FuncData
  F_Wait_str : Fun K "__str__" "Wait.__str__" s_Wait_str f_Wait_str d_Wait_str
  b_Wait_str : Binds K d_Wait_str P_Wait_str []
  si_Wait : PySem.W.findIn K (.ref C_Wait) "__str__" = some (some (.ref f_Wait_str))
  sf_Wait : PySem.W.isFn K (.ref f_Wait_str) = true
  f_Leave_str : Addr
  d_Leave_str : FuncData
  F_Leave_str : Fun K "__str__" "Leave.__str__" s_Leave_str f_Leave_str d_Leave_str
  b_Leave_str : Binds K d_Leave_str P_Leave_str []
  si_Leave : PySem.W.findIn K (.ref C_Leave) "__str__" = some (some (.ref f_Leave_str))
  sf_Leave : PySem.W.isFn K (.ref f_Leave_str) = true
  f_Hear_str : Addr
  d_Hear_str : FuncData
  F_Hear_str : Fun K "__str__" "Hear.__str__" s_Hear_str f_Hear_str d_Hear_str
  b_Hear_str : Binds K d_Hear_str P_Hear_str []
  si_Hear : PySem.W.findIn K (.ref C_Hear) "__str__" = some (some (.ref f_Hear_str))
  sf_Hear : PySem.W.isFn K (.ref f_Hear_str) = true
inductive ThK where
  | wait
  | leave
  | hear
section
variable {w : World} {K : PySem.W.Frag} {mg : Str → Option Value}
def clK (T : TxTrees0 w K mg) : ThK → Addr
  | .wait => T.C_Wait
  | .leave => T.C_Leave
  | .hear => T.C_Hear
/-- an event that can be told -/
inductive TellE (T : TxTrees0 w K mg) (n : Nat) (H : Hp) : ThK → Addr → Str → Prop
  | wait {a dx c : Addr} {new : Bool} {t : Tr} (h : H a = some (.ins T.C_Wait dx [("call", .ref c)])) (ht : Told T n H c new t) : TellE T n H .wait a (("wait" : Str) ++ " " ++ t.textS new)
  | leave {a dx c : Addr} {new : Bool} {t : Tr} (h : H a = some (.ins T.C_Leave dx [("call", .ref c)])) (ht : Told T n H c new t) : TellE T n H .leave a (("leave" : Str) ++ " " ++ t.textS new)
  | hear {a dx : Addr} {m : Int} (h : H a = some (.ins T.C_Hear dx [("number", .int m)])) (m0 : 0 ≤ m) (m1 : m ≤ 500) : TellE T n H .hear a (("hear" : Str) ++ " " ++ Str.ofString (toString m))
theorem TellE.same {T : TxTrees0 w K mg} {n : Nat} {H H' : Hp} {k : ThK} {a : Addr} {y : Str} (h : TellE T n H k a y) (s : Same H H') : TellE T n H' k a y := by
  cases h with
  | wait h ht => exact .wait (s _ _ h) (ht.same s)
  | leave h ht => exact .leave (s _ _ h) (ht.same s)
  | hear h m0 m1 => exact .hear (s _ _ h) m0 m1
theorem TellE.ins {T : TxTrees0 w K mg} {n : Nat} {H : Hp} {k : ThK} {a : Addr} {y : Str} (h : TellE T n H k a y) : ∃ dx fs, H a = some (.ins (clK T k) dx fs) := by
  cases h with
  | wait h ht => exact ⟨_, _, h⟩
  | leave h ht => exact ⟨_, _, h⟩
  | hear h m0 m1 => exact ⟨_, _, h⟩
theorem Told.ins {T : TxTrees0 w K mg} {n : Nat} {H : Hp} {c : Addr} {new : Bool} {t : Tr} (h : Told T n H c new t) : ∃ dx fs, H c = some (.ins T.C_Call dx fs) := by
  cases h.at_ with
  | node h2 _ _ _ => exact ⟨_, _, h2⟩
end
def spEStr {w : World} {K : PySem.W.Frag} {mg : Str → Option Value} (T : TxTrees0 w K mg) (n : Nat) : ThK → Sp := fun k us H Q _ => ∃ (a : Addr) (y : Str), us = [.ref a] ∧ TellE T n H k a y ∧ ∀ H', Same H H' → Q (.str y) H'
section
variable {P : Program} {w : World} {K : PySem.W.Frag} {mg : Str → Option Value} {base : Heap}
theorem ok_Wait_str (T : TxEStr w K mg) (n : Nat) : FnOk P w K mg base CX0 (4 + n) T.f_Wait_str T.d_Wait_str P_Wait_str (spEStr T.toTxTrees0 n .wait) := by
  have G_cstr := str_call (P := P) (w := w) (base := base) T.toTxCStr n
  have e12 : 4 + n = (2 + n + 1) + 1 := by omega
  rw [e12]
  refine T.F_Wait_str.ok sc_Wait_str (fun vs H Q E h => ?_) (fun cdv A outer s H vs Q E hr h => ?_)
  · obtain ⟨a, y, rfl, _⟩ := h
    rfl
  obtain ⟨a, y, rfl, te, q⟩ := h
  refine ⟨_, (pss_one (ps_ret (pe_joined (.cons pe_str (.cons (pe_fmtO K G_cstr (fun _ _ => ⟨T.fm_Call, T.fo_Call⟩) (hr.mono (Nat.le_refl _)) (pe_fldK K (pv 0))) .nil))))), ?_⟩
  cases te with
  | @wait _ dx c new t h ht =>
    obtain ⟨dx2, fs, hc⟩ := ht.ins
    have e1 : (Str.empty ++ Str.ofString "wait ") = ("wait" : Str) ++ " " := by decide +kernel
    refine ⟨_, rfl, by decide +kernel, _, rfl, a, T.C_Wait, dx, _, _, rfl, h, T.c_Wait, T.n_Wait_call, rfl, c, (), dx2, fs, rfl, trivial, hc, c, new, t, rfl, ht, fun H1 s1 => ⟨_, rfl, _, rfl, ?_, ?_⟩⟩
    · rw [app_len, e1, app_len]
      have l1 : ("wait" : Str).length + (" " : Str).length ≤ 10 := by decide +kernel
      have l2 := t.textS_len new ht.ft
      have l3 := ht.few
      rw [sizeLine_eq]
      omega
    · rw [e1]
      exact q H1 s1
theorem ok_Leave_str (T : TxEStr w K mg) (n : Nat) : FnOk P w K mg base CX0 (4 + n) T.f_Leave_str T.d_Leave_str P_Leave_str (spEStr T.toTxTrees0 n .leave) := by
  have G_cstr := str_call (P := P) (w := w) (base := base) T.toTxCStr n
  have e12 : 4 + n = (2 + n + 1) + 1 := by omega
  rw [e12]
  refine T.F_Leave_str.ok sc_Leave_str (fun vs H Q E h => ?_) (fun cdv A outer s H vs Q E hr h => ?_)
  · obtain ⟨a, y, rfl, _⟩ := h
    rfl
  obtain ⟨a, y, rfl, te, q⟩ := h
  refine ⟨_, (pss_one (ps_ret (pe_joined (.cons pe_str (.cons (pe_fmtO K G_cstr (fun _ _ => ⟨T.fm_Call, T.fo_Call⟩) (hr.mono (Nat.le_refl _)) (pe_fldK K (pv 0))) .nil))))), ?_⟩
  cases te with
  | @leave _ dx c new t h ht =>
    obtain ⟨dx2, fs, hc⟩ := ht.ins
    have e1 : (Str.empty ++ Str.ofString "leave ") = ("leave" : Str) ++ " " := by decide +kernel
    refine ⟨_, rfl, by decide +kernel, _, rfl, a, T.C_Leave, dx, _, _, rfl, h, T.c_Leave, T.n_Leave_call, rfl, c, (), dx2, fs, rfl, trivial, hc, c, new, t, rfl, ht, fun H1 s1 => ⟨_, rfl, _, rfl, ?_, ?_⟩⟩
    · rw [app_len, e1, app_len]
      have l1 : ("leave" : Str).length + (" " : Str).length ≤ 10 := by decide +kernel
      have l2 := t.textS_len new ht.ft
      have l3 := ht.few
      rw [sizeLine_eq]
      omega
    · rw [e1]
      exact q H1 s1
theorem ok_Hear_str (T : TxEStr w K mg) (n : Nat) : FnOk P w K mg base CX0 1 T.f_Hear_str T.d_Hear_str P_Hear_str (spEStr T.toTxTrees0 n .hear) := by
  refine T.F_Hear_str.ok sc_Hear_str (fun vs H Q E h => ?_) (fun cdv A outer s H vs Q E hr h => ?_)
  · obtain ⟨a, y, rfl, _⟩ := h
    rfl
  obtain ⟨a, y, rfl, te, q⟩ := h
  refine ⟨_, (pss_one (ps_ret (pe_joined (.cons pe_str (.cons (pe_fmt (pe_fldK K (pv 0))) .nil))))), ?_⟩
  cases te with
  | @hear _ dx m h m0 m1 =>
    have e1 : (Str.empty ++ Str.ofString "hear ") = ("hear" : Str) ++ " " := by decide +kernel
    have lg : m.natAbs.log2 < 1920 := by
      have := Nat.log2_le_self m.natAbs
      omega
    have tl := tostr500 m0 m1
    refine ⟨_, rfl, by decide +kernel, _, rfl, a, T.C_Hear, dx, _, _, rfl, h, T.c_Hear, T.n_Hear_number, rfl, .inr ⟨m, rfl, lg, _, rfl, ?_, ?_⟩⟩
    · rw [app_len, e1, app_len]
      have l1 : ("hear" : Str).length + (" " : Str).length ≤ 10 := by decide +kernel
      rw [sizeLine_eq]
      omega
    · rw [e1]
      exact q H (Same.refl _)
theorem str_ev (T : TxEStr w K mg) (n : Nat) : OwnStr P w K mg base (clK T.toTxTrees0) (fun _ => True) (4 + n) (spEStr T.toTxTrees0 n) := ⟨fun k _ => by
  cases k with
  | wait => exact ⟨_, _, _, ok_Wait_str T n, T.b_Wait_str, T.si_Wait, T.sf_Wait⟩
  | leave => exact ⟨_, _, _, ok_Leave_str T n, T.b_Leave_str, T.si_Leave, T.sf_Leave⟩
  | hear => exact ⟨_, _, _, (ok_Hear_str T n).mono (by omega), T.b_Hear_str, T.si_Hear, T.sf_Hear⟩⟩
end
end My

/-! ## == of events -/
namespace My
open PySem PySem.Spec PyProof.Rows L2 PySem.MyX
abbrev s_Wait_eq : Stmt := inClass (top 12) 1
abbrev N_Wait_eq : List Str := ["self", "other"]
abbrev P_Wait_eq : List Str := ["self", "other"]
theorem sc_Wait_eq : FnScope N_Wait_eq P_Wait_eq (defScope s_Wait_eq) := ⟨rfl, rfl, rfl, by decide +kernel, rfl, by decide +kernel, by decide +kernel⟩
abbrev s_Leave_eq : Stmt := inClass (top 13) 1
abbrev N_Leave_eq : List Str := ["self", "other"]
abbrev P_Leave_eq : List Str := ["self", "other"]
theorem sc_Leave_eq : FnScope N_Leave_eq P_Leave_eq (defScope s_Leave_eq) := ⟨rfl, rfl, rfl, by decide +kernel, rfl, by decide +kernel, by decide +kernel⟩
abbrev s_Hear_eq : Stmt := inClass (top 14) 1
abbrev N_Hear_eq : List Str := ["self", "other"]
abbrev P_Hear_eq : List Str := ["self", "other"]
theorem sc_Hear_eq : FnScope N_Hear_eq P_Hear_eq (defScope s_Hear_eq) := ⟨rfl, rfl, rfl, by decide +kernel, rfl, by decide +kernel, by decide +kernel⟩
structure TxEEq (w : World) (K : PySem.W.Frag) (mg : Str → Option Value) extends TxEStr w K mg where
  f_Wait_eq : Addr
  d_Wait_eq : FuncData
  F_Wait_eq : Fun K "__eq__" "Wait.__eq__" s_Wait_eq f_Wait_eq d_Wait_eq
  b_Wait_eq : Binds K d_Wait_eq P_Wait_eq []
  ei_Wait : PySem.W.findIn K (.ref C_Wait) "__eq__" = some (some (.ref f_Wait_eq))
  ef_Wait : PySem.W.isFn K (.ref f_Wait_eq) = true
  en_Wait : PySem.W.findIn K (.ref C_Wait) "__ne__" = some (some (.builtin "object.__ne__"))
  eo_Wait : PySem.W.subIn K (.ref C_Wait) (.type "object") = some true
  f_Leave_eq : Addr
  d_Leave_eq : FuncData
  F_Leave_eq : Fun K "__eq__" "Leave.__eq__" s_Leave_eq f_Leave_eq d_Leave_eq
  b_Leave_eq : Binds K d_Leave_eq P_Leave_eq []
  ei_Leave : PySem.W.findIn K (.ref C_Leave) "__eq__" = some (some (.ref f_Leave_eq))
  ef_Leave : PySem.W.isFn K (.ref f_Leave_eq) = true
  en_Leave : PySem.W.findIn K (.ref C_Leave) "__ne__" = some (some (.builtin "object.__ne__"))
  eo_Leave : PySem.W.subIn K (.ref C_Leave) (.type "object") = some true
  f_Hear_eq : Addr
  d_Hear_eq : FuncData
  F_Hear_eq : Fun K "__eq__" "Hear.__eq__" s_Hear_eq f_Hear_eq d_Hear_eq
  b_Hear_eq : Binds K d_Hear_eq P_Hear_eq []
  ei_Hear : PySem.W.findIn K (.ref C_Hear) "__eq__" = some (some (.ref f_Hear_eq))
  ef_Hear : PySem.W.isFn K (.ref f_Hear_eq) = true
  en_Hear : PySem.W.findIn K (.ref C_Hear) "__ne__" = some (some (.builtin "object.__ne__"))
  eo_Hear : PySem.W.subIn K (.ref C_Hear) (.type "object") = some true
/-- what an event is compared with -/
inductive OthE {w : World} {K : PySem.W.Frag} {mg : Str → Option Value} (T : TxTrees0 w K mg) (n : Nat) (H : Hp) (k : ThK) : V → Option Str → Prop
  | ev {a : Addr} {y : Str} (h : TellE T n H k a y) : OthE T n H k (.ref a) (some y)
  | odd {v : V} (h : OfC K H v (.ref (clK T k)) false) : OthE T n H k v none
def spEEq {w : World} {K : PySem.W.Frag} {mg : Str → Option Value} (T : TxTrees0 w K mg) (n : Nat) : ThK → Sp := fun k us H Q _ => ∃ (a : Addr) (y : Str) (v : V) (o : Option Str), us = [.ref a, v] ∧ TellE T n H k a y ∧ OthE T n H k v o ∧ ∀ H', Same H H' → Q (.bl (decide (o = some y))) H'
theorem dec_some (x y : Str) : decide (V.str x = V.str y) = decide (some y = some x) := by
  rw [Bool.eq_iff_iff, decide_eq_true_eq, decide_eq_true_eq]
  exact ⟨fun z => by injection z with z; rw [z], fun z => by injection z with z; rw [z]⟩
section
variable {P : Program} {w : World} {K : PySem.W.Frag} {mg : Str → Option Value} {base : Heap}
theorem ok_Wait_eq (T : TxEEq w K mg) (n : Nat) : FnOk P w K mg base CX0 (7 + n) T.f_Wait_eq T.d_Wait_eq P_Wait_eq (spEEq T.toTxTrees0 n .wait) := by
  have G_estr := str_ev (P := P) (w := w) (base := base) T.toTxEStr n
  have e12 : 7 + n = (4 + n + 2) + 1 := by omega
  rw [e12]
  refine T.F_Wait_eq.ok sc_Wait_eq (fun vs H Q E h => ?_) (fun cdv A outer s H vs Q E hr h => ?_)
  · obtain ⟨a, y, v, o, rfl, _⟩ := h
    rfl
  obtain ⟨a, y, v, o, rfl, ht, ho, q⟩ := h
  refine ⟨_, (pss_one (ps_ret (pe_and (pe_callB (call_isiV K) (by rfl) T.z_isinstance (by decide +kernel) (pa_cons (pv 1) (pa_cons (pe_glob (v := .ref T.C_Wait) (by rfl) T.m_Wait rfl) pa_nil))) (pe_one (pe_cmpR op_eq (pe_callTy (call_strO K G_estr (hr.mono (Nat.le_refl _))) (by rfl) T.z_str (by decide +kernel) (pa_cons (pv 0) pa_nil)) (pe_callTy (call_strO K G_estr (hr.mono (Nat.le_refl _))) (by rfl) T.z_str (by decide +kernel) (pa_cons (pv 1) pa_nil)) (nomark _)))))), ?_⟩
  obtain ⟨dx, fs, hc⟩ := ht.ins
  cases ho with
  | @ev b z h2 =>
    obtain ⟨dx2, fs2, hc2⟩ := h2.ins
    refine ⟨_, rfl, .ref b, .ref T.C_Wait, .ref T.C_Wait, _, true, rfl, .own _, T.ty_Wait _ _ _ _ hc2, T.kk_Wait_Wait, _, rfl, ?_⟩
    refine iteT ?_
    refine ⟨_, rfl, a, ThK.wait, dx, _, rfl, trivial, hc, a, y, rfl, ht, fun H1 s1 => ⟨_, rfl, _, rfl, b, ThK.wait, dx2, _, rfl, trivial, s1 _ _ hc2, b, z, rfl, h2.same s1, fun H2 s2 => ⟨_, rfl, rfl, ?_⟩⟩⟩
    rw [dec_some]
    exact q H2 (s1.trans s2)
  | odd h2 =>
    obtain ⟨ty, h1, h3⟩ := h2
    refine ⟨_, rfl, v, .ref T.C_Wait, ty, _, false, rfl, .own _, h1, h3, _, rfl, ?_⟩
    exact iteF (q H (Same.refl _))
theorem ok_Leave_eq (T : TxEEq w K mg) (n : Nat) : FnOk P w K mg base CX0 (7 + n) T.f_Leave_eq T.d_Leave_eq P_Leave_eq (spEEq T.toTxTrees0 n .leave) := by
  have G_estr := str_ev (P := P) (w := w) (base := base) T.toTxEStr n
  have e12 : 7 + n = (4 + n + 2) + 1 := by omega
  rw [e12]
  refine T.F_Leave_eq.ok sc_Leave_eq (fun vs H Q E h => ?_) (fun cdv A outer s H vs Q E hr h => ?_)
  · obtain ⟨a, y, v, o, rfl, _⟩ := h
    rfl
  obtain ⟨a, y, v, o, rfl, ht, ho, q⟩ := h
  refine ⟨_, (pss_one (ps_ret (pe_and (pe_callB (call_isiV K) (by rfl) T.z_isinstance (by decide +kernel) (pa_cons (pv 1) (pa_cons (pe_glob (v := .ref T.C_Leave) (by rfl) T.m_Leave rfl) pa_nil))) (pe_one (pe_cmpR op_eq (pe_callTy (call_strO K G_estr (hr.mono (Nat.le_refl _))) (by rfl) T.z_str (by decide +kernel) (pa_cons (pv 0) pa_nil)) (pe_callTy (call_strO K G_estr (hr.mono (Nat.le_refl _))) (by rfl) T.z_str (by decide +kernel) (pa_cons (pv 1) pa_nil)) (nomark _)))))), ?_⟩
  obtain ⟨dx, fs, hc⟩ := ht.ins
  cases ho with
  | @ev b z h2 =>
    obtain ⟨dx2, fs2, hc2⟩ := h2.ins
    refine ⟨_, rfl, .ref b, .ref T.C_Leave, .ref T.C_Leave, _, true, rfl, .own _, T.ty_Leave _ _ _ _ hc2, T.kk_Leave_Leave, _, rfl, ?_⟩
    refine iteT ?_
    refine ⟨_, rfl, a, ThK.leave, dx, _, rfl, trivial, hc, a, y, rfl, ht, fun H1 s1 => ⟨_, rfl, _, rfl, b, ThK.leave, dx2, _, rfl, trivial, s1 _ _ hc2, b, z, rfl, h2.same s1, fun H2 s2 => ⟨_, rfl, rfl, ?_⟩⟩⟩
    rw [dec_some]
    exact q H2 (s1.trans s2)
  | odd h2 =>
    obtain ⟨ty, h1, h3⟩ := h2
    refine ⟨_, rfl, v, .ref T.C_Leave, ty, _, false, rfl, .own _, h1, h3, _, rfl, ?_⟩
    exact iteF (q H (Same.refl _))
theorem ok_Hear_eq (T : TxEEq w K mg) (n : Nat) : FnOk P w K mg base CX0 (7 + n) T.f_Hear_eq T.d_Hear_eq P_Hear_eq (spEEq T.toTxTrees0 n .hear) := by
  have G_estr := str_ev (P := P) (w := w) (base := base) T.toTxEStr n
  have e12 : 7 + n = (4 + n + 2) + 1 := by omega
  rw [e12]
  refine T.F_Hear_eq.ok sc_Hear_eq (fun vs H Q E h => ?_) (fun cdv A outer s H vs Q E hr h => ?_)
  · obtain ⟨a, y, v, o, rfl, _⟩ := h
    rfl
  obtain ⟨a, y, v, o, rfl, ht, ho, q⟩ := h
  refine ⟨_, (pss_one (ps_ret (pe_and (pe_callB (call_isiV K) (by rfl) T.z_isinstance (by decide +kernel) (pa_cons (pv 1) (pa_cons (pe_glob (v := .ref T.C_Hear) (by rfl) T.m_Hear rfl) pa_nil))) (pe_one (pe_cmpR op_eq (pe_callTy (call_strO K G_estr (hr.mono (Nat.le_refl _))) (by rfl) T.z_str (by decide +kernel) (pa_cons (pv 0) pa_nil)) (pe_callTy (call_strO K G_estr (hr.mono (Nat.le_refl _))) (by rfl) T.z_str (by decide +kernel) (pa_cons (pv 1) pa_nil)) (nomark _)))))), ?_⟩
  obtain ⟨dx, fs, hc⟩ := ht.ins
  cases ho with
  | @ev b z h2 =>
    obtain ⟨dx2, fs2, hc2⟩ := h2.ins
    refine ⟨_, rfl, .ref b, .ref T.C_Hear, .ref T.C_Hear, _, true, rfl, .own _, T.ty_Hear _ _ _ _ hc2, T.kk_Hear_Hear, _, rfl, ?_⟩
    refine iteT ?_
    refine ⟨_, rfl, a, ThK.hear, dx, _, rfl, trivial, hc, a, y, rfl, ht, fun H1 s1 => ⟨_, rfl, _, rfl, b, ThK.hear, dx2, _, rfl, trivial, s1 _ _ hc2, b, z, rfl, h2.same s1, fun H2 s2 => ⟨_, rfl, rfl, ?_⟩⟩⟩
    rw [dec_some]
    exact q H2 (s1.trans s2)
  | odd h2 =>
    obtain ⟨ty, h1, h3⟩ := h2
    refine ⟨_, rfl, v, .ref T.C_Hear, ty, _, false, rfl, .own _, h1, h3, _, rfl, ?_⟩
    exact iteF (q H (Same.refl _))
theorem eq_ev (T : TxEEq w K mg) (n : Nat) : OwnEqs P w K mg base (clK T.toTxTrees0) (fun _ => True) (7 + n) (spEEq T.toTxTrees0 n) := ⟨fun k _ => by
  cases k with
  | wait => exact ⟨_, _, _, ok_Wait_eq T n, T.b_Wait_eq, T.ei_Wait, T.ef_Wait, T.en_Wait, T.eo_Wait⟩
  | leave => exact ⟨_, _, _, ok_Leave_eq T n, T.b_Leave_eq, T.ei_Leave, T.ef_Leave, T.en_Leave, T.eo_Leave⟩
  | hear => exact ⟨_, _, _, ok_Hear_eq T n, T.b_Hear_eq, T.ei_Hear, T.ef_Hear, T.en_Hear, T.eo_Hear⟩⟩
end
end My

/-! ## The law's own text of a tree -/
namespace My
open PySem PySem.Spec PyProof.Rows L2 PySem.MyX
abbrev s_text : Stmt := top 26
abbrev N_text : List Str := ["_law_tree_here", "_law_words_here", "_law_told", "_law_word", "_law_thing"]
abbrev P_text : List Str := ["_law_tree_here"]
theorem sc_text : FnScope N_text P_text (defScope s_text) := ⟨rfl, rfl, rfl, by decide +kernel, rfl, by decide +kernel, by decide +kernel⟩
structure TxLText (w : World) (K : PySem.W.Frag) (mg : Str → Option Value) where
  z_str : mg "str" = none
  z_int : mg "int" = none
  f_text : Addr
  d_text : FuncData
  F_text : Fun K "_law_text" "_law_text" s_text f_text d_text
  m_text : mg "_law_text" = some (.ref f_text)
  b_text : Binds K d_text P_text []
def spLText (n : Nat) : Sp := fun us H Q _ => ∃ (v : V) (t : Tr), us = [v] ∧ TrAt H v t ∧ t.deep ≤ n ∧ t.cost ≤ 100000 ∧ t.fit ∧ ∀ H', Same H H' → Q (.str t.text) H'
section
variable {P : Program} {w : World} {K : PySem.W.Frag} {mg : Str → Option Value} {base : Heap}
theorem ok_ltext (T : TxLText w K mg) : ∀ n, FnOk P w K mg base CX0 (1 + n) T.f_text T.d_text P_text (spLText n)
  | 0 => by
    refine T.F_text.ok sc_text (fun vs H Q E h => ?_) (fun cdv A outer s H vs Q E hr h => ?_)
    · obtain ⟨v, t, rfl, _⟩ := h
      rfl
    obtain ⟨v, t, rfl, ht, dp, _⟩ := h
    cases ht with
    | node => exact absurd dp (by unfold Tr.deep; omega)
  | n + 1 => by
    have G_text := ok_ltext T n
    refine T.F_text.ok sc_text (fun vs H Q E h => ?_) (fun cdv A outer s H vs Q E hr h => ?_)
    · obtain ⟨v, t, rfl, _⟩ := h
      rfl
    obtain ⟨v, t, rfl, ht, dp, few, ft, q⟩ := h
    refine ⟨_, (pss_cons (ps_set (i := 1) sc_text.nd rfl (Or.inl rfl) (pe_lst (pa_cons (pe_ix (ix_tupK K) (pv 0) pe_int (fun _ _ => rfl)) (pa_cons (pe_ix (ix_tupK K) (pv 0) pe_int (fun _ _ => rfl)) (pa_cons (pe_ifExp (pt_val (pe_ix (ix_tupK K) (pv 0) pe_int (fun _ _ => rfl))) pe_str pe_str) pa_nil)))))
      (pss_cons (ps_setLc (i := 2) (own := [("_law_word", 3), ("_law_thing", 4)]) (g := gTup K 2 (gCons (gName 3) (gCons (gName 4) gNil))) (by rfl) sc_text.nd rfl rfl (sw_true rfl rfl rfl (by decide +kernel)) (pi_tupK K (pe_ix (ix_tupK K) (pv 0) pe_int (fun _ _ => rfl))) (blkOk_by (own := [("_law_word", 3), ("_law_thing", 4)]) (N := N_text) (sc := defScope s_text) (by decide +kernel)) (fun _ _ _ _ _ => (by exact (pg_tup rfl (pgs_cons (pg_name (i := 3) sc_text.nd rfl (Or.inl rfl)) (pgs_cons (pg_name (i := 4) sc_text.nd rfl (Or.inl rfl)) pgs_nil))))) (fun _ _ _ _ _ => pts_nil) (fun _ _ _ _ _ => (pe_op op_add_str (pe_op op_add_str (pv 3) pe_str) (pe_ifExp (pt_cmpR op_eq (pv 3) pe_str (nomark _)) (pe_callTy call_str_int (by rfl) T.z_str (by decide +kernel) (pa_cons (pv 4) pa_nil)) (pe_call G_text (hr.mono (Nat.le_refl _)) (by rfl) T.m_text T.F_text.kp T.b_text .nil pass0 (pa_cons (pv 4) pa_nil))))))
      (pss_one (ps_ret (pe_m1 PySem.F.slot_str_join PySem.F.type_str_join (mt_joinK K) pe_str (pe_op op_cat (pv 1) (pe_op op_rep (pe_lst (pa_cons (pe_op op_add_str (pe_op op_add_str pe_str (pe_m1 PySem.F.slot_str_join PySem.F.type_str_join (mt_joinK K) pe_str (pv 2))) pe_str) pa_nil)) (pe_callTy call_int1 (by rfl) T.z_int (by decide +kernel) (pa_cons (pe_cmpR (op_neEK K hr.units0) (pv 2) (pe_lst pa_nil) (nomark _)) pa_nil))))))))), ?_⟩
    cases ht with
    | @node a e nm kd bad ps es h he r =>
      have pr := r.pairs
      have de : es.deep ≤ n := by unfold Tr.deep at dp; omega
      unfold Tr.cost at few
      unfold Tr.fit at ft
      obtain ⟨f1, f2, f3, f4, f5⟩ := ft
      have lp := pair_len3 pr
      refine ⟨_, rfl, ixT_tc (j := 0) (SqT.of h) rfl ?_⟩
      refine ⟨_, rfl, ixT_tc (j := 1) (SqT.of h) rfl ?_⟩
      refine ⟨_, rfl, ixT_tc (j := 2) (SqT.of h) rfl ⟨bad, rfl, ?_⟩⟩
      refine ifc ?_
      refine ⟨by show 3 ≤ sizeLine; decide, fun W hW => ?_⟩
      have y1 := same_upd hW (.lst [.str nm, .str kd, .str (if bad = true then (Str.ofString "bad") else Str.ofString "good")])
      have w1 := upd_same (H := H) (a := W) (o := .lst [.str nm, .str kd, .str (if bad = true then (Str.ofString "bad") else Str.ofString "good")])
      generalize upd H W (.lst [.str nm, .str kd, .str (if bad = true then (Str.ofString "bad") else Str.ofString "good")]) = H1 at y1 w1 ⊢
      refine ⟨_, rfl, ixT_tc (j := 3) (SqT.of (y1 _ _ h)) rfl ⟨e, rfl, ⟨_, SqT.of (y1 _ _ he)⟩, fun D hD => ?_⟩⟩
      refine lc_tup (K := K) (a := e) (xs := ps) (fun i H' => Same H1 H' ∧ H' D = some (.lst (((es.list.take i).map textI).map V.str))) ⟨same_upd hD _, upd_same⟩ (fun i H' _ hh => SqT.of (hh.1 _ _ (y1 _ _ he))) ?_ ?_
      · rintro i x H3 hx ⟨s3, d3⟩
        obtain ⟨ev, hev, ea⟩ := pair_at2 pr hx
        have ea := ea.kt (KT.of_same (y1.trans s3))
        have mev := List.mem_of_getElem? hev
        have il := (List.getElem?_eq_some_iff.mp hev).1
        have tk : es.list.take (i + 1) = es.list.take i ++ [ev] := by rw [List.take_add_one, hev]; rfl
        have fw : (((es.list.take i).map textI).map V.str).length < sizeLine := small1000 (by rw [List.length_map, List.length_map, List.length_take]; omega)
        have fin : ∀ {H4 : Hp}, Same H3 H4 → ∃ acc, H4 D = some (.lst acc) ∧ acc.length < sizeLine ∧ (Same H1 (upd H4 D (.lst (acc ++ [.str (textI ev)]))) ∧ upd H4 D (.lst (acc ++ [.str (textI ev)])) D = some (.lst (((es.list.take (i + 1)).map textI).map V.str))) := fun {H4} s4 => by
          refine ⟨_, s4 _ _ d3, fw, fun b o z => ?_, ?_⟩
          · rw [upd_ne (ne_of_none z hD)]
            exact s4 _ _ (s3 _ _ z)
          · rw [upd_same, tk, List.map_append, List.map_append]
            rfl
        cases ea with
        | @call p v w t hp ht =>
          have dt : t.deep ≤ n := Nat.le_trans (es.deepL _ mev) de
          have ct : t.cost + 10 ≤ es.cost := es.costL _ mev
          have tf : t.fit := es.fitL f5 _ mev
          refine ⟨p, _, rfl, SqT.of hp, rfl, _, _, rfl, _, _, rfl, rfl, rfl, ?_⟩
          have nh : decide (V.str (evW w) = V.str (Str.ofString "hear")) = false := by cases w <;> decide +kernel
          have wl : (evW w).length + (" " : Str).length ≤ 10 := by cases w <;> decide +kernel
          have tl := t.text_len tf
          refine ⟨_, rfl, _, _, rfl, rfl, Nat.le_trans wl (by decide), _, rfl, rfl, _, rfl, ?_⟩
          rw [nh]
          refine iteF ⟨_, rfl, v, t, rfl, ht, dt, by omega, tf, fun H4 s4 => ⟨_, _, rfl, rfl, ?_, fin s4⟩⟩
          rw [app_len, sizeLine_eq]
          omega
        | @hear p m hp =>
          refine ⟨p, _, rfl, SqT.of hp, rfl, _, _, rfl, _, _, rfl, rfl, rfl, ?_⟩
          have mm := es.fitL f5 _ mev
          have tl := tostr500 mm.1 mm.2
          have wl : ("hear" : Str).length + (" " : Str).length ≤ 10 := by decide +kernel
          have lg : m.natAbs.log2 < 1920 := by
            have := Nat.log2_le_self m.natAbs
            have : 0 ≤ m ∧ m ≤ 500 := mm
            omega
          refine ⟨_, rfl, _, _, rfl, rfl, Nat.le_trans wl (by decide), _, rfl, rfl, _, rfl, ?_⟩
          refine ite2 (fun _ => ?_) (fun c => (c (by simp)).elim)
          refine ⟨_, rfl, m, rfl, lg, _, _, rfl, rfl, ?_, fin (Same.refl _)⟩
          rw [app_len, sizeLine_eq]
          omega
      · rintro H3 ⟨s3, d3⟩
        rw [lp, List.take_length, ← es.textsL] at d3
        have sum := es.texts_len f5
        have jl := joinT_len ", " es.texts
        have two : (", " : Str).length = 2 := by decide +kernel
        have one : ("(" : Str).length = 1 := by decide +kernel
        have one' : (")" : Str).length = 1 := by decide +kernel
        rw [two] at jl
        refine ⟨⟨_, rfl⟩, _, rfl, ⟨_, rfl⟩, _, rfl, ", ", D, es.texts, rfl, rfl, .inl (SqL.of d3), ?_, _, _, rfl, rfl, ?_, _, _, rfl, rfl, ?_, ?_⟩
        · rw [two]
          omega
        · rw [one, sizeLine_eq]
          omega
        · rw [app_len, sizeLine_eq]
          omega
        refine ⟨by show 1 ≤ sizeLine; decide, fun B hB => ?_⟩
        have s4 := s3.trans (same_upd hB (.lst [.str (("(" : Str) ++ Txt.join ", " es.texts ++ ")")]))
        have d4 := same_upd hB (.lst [.str (("(" : Str) ++ Txt.join ", " es.texts ++ ")")]) _ _ d3
        have b4 := upd_same (H := H3) (a := B) (o := .lst [.str (("(" : Str) ++ Txt.join ", " es.texts ++ ")")])
        generalize upd H3 B (.lst [.str (("(" : Str) ++ Txt.join ", " es.texts ++ ")")]) = H4 at s4 d4 b4 ⊢
        refine ⟨_, rfl, Nat.zero_le _, fun z hz => ⟨D, z, es.texts.map V.str, rfl, rfl, ?_, SqL.of upd_same, .inr ⟨_, rfl, ?_⟩⟩⟩
        · exact SqL.of (same_upd hz _ _ _ d4)
        have s5 := s4.trans (same_upd hz (.lst []))
        have b5 := same_upd hz (.lst []) _ _ b4
        have w5 := s5 _ _ w1
        generalize upd H4 z (.lst []) = H5 at s5 b5 w5 ⊢
        have hw := headW_len (nm := nm) (kd := kd) (bad := bad) (new := false) (ts := es.texts)
        have sp1 : (" " : Str).length = 1 := by decide +kernel
        have fin : ∀ {H6 : Hp} {p : Addr} {rest : List Str}, Same H5 H6 → headW nm kd bad false es.texts = [nm, kd, if bad = true then ("bad" : Str) else "good"] ++ rest → H6 p = some (.lst (rest.map V.str)) → rest.length ≤ 1 → rCat (.ref W) (.ref p) H6 fun y H2 => rJoin K (.str " ") [y] H2 Q := fun {H6 p rest} s6 e1 hp rl => by
          refine ⟨W, p, _, _, rfl, rfl, s6 _ _ w5, hp, ?_, fun u hu => ⟨" ", u, headW nm kd bad false es.texts, rfl, rfl, .inl (SqL.of ?_), ?_, ?_⟩⟩
          · rw [List.length_map, sizeLine_eq]
            show 3 + rest.length ≤ _
            omega
          · rw [upd_same, e1, List.map_append]
            rfl
          · rw [sp1]
            omega
          · have qq := q _ ((y1.trans (s5.trans s6)).trans (same_upd hu (.lst ([.str nm, .str kd, .str (if bad = true then (Str.ofString "bad") else Str.ofString "good")] ++ rest.map V.str))))
            unfold Tr.text Tr.words at qq
            exact qq
        cases e : es.texts.isEmpty with
        | true =>
          refine ⟨B, 0, _, rfl, congrArg V.int (by rw [List.isEmpty_map, e]; rfl), b5, by decide, by decide, by show 1 * 0 ≤ sizeLine; decide, fun p hp => fin (rest := []) (same_upd hp _) ?_ upd_same (by decide)⟩
          unfold headW
          rw [e]
          rfl
        | false =>
          refine ⟨B, 1, _, rfl, congrArg V.int (by rw [List.isEmpty_map, e]; rfl), b5, by decide, by decide, by show 1 * 1 ≤ sizeLine; decide, fun p hp => fin (rest := [("(" : Str) ++ Txt.join ", " es.texts ++ ")"]) (same_upd hp _) ?_ upd_same (Nat.le_refl 1)⟩
          unfold headW
          rw [e]
          rfl
end
end My

/-! ## A tree drawn -/
namespace My
open PySem PySem.Spec PyProof.Rows L2 PySem.MyX
abbrev s_tree : Stmt := top 24
abbrev N_tree : List Str := ["_law_deal", "_law_book_here", "_law_name", "_law_left", "_law_service", "_law_events", "_law_unheard", "_law_many", "_law_turn", "_law_form"]
abbrev P_tree : List Str := ["_law_deal", "_law_book_here", "_law_name", "_law_left"]
theorem sc_tree : FnScope N_tree P_tree (defScope s_tree) := ⟨rfl, rfl, rfl, by decide +kernel, rfl, by decide +kernel, by decide +kernel⟩
structure TxDGrow (w : World) (K : PySem.W.Frag) (mg : Str → Option Value) extends TxDNamed w K mg, TxDeal w K mg where
  z_range : mg "range" = none
  z_tuple : mg "tuple" = none
  f_tree : Addr
  d_tree : FuncData
  F_tree : Fun K "_law_tree" "_law_tree" s_tree f_tree d_tree
  m_tree : mg "_law_tree" = some (.ref f_tree)
  b_tree : Binds K d_tree P_tree []
/-- all stays but the deal and one list -/
def KeepL (d g l : Addr) (H H' : Hp) : Prop := ∀ a o, a ≠ d → a ≠ g → a ≠ l → H a = some o → H' a = some o
theorem KeepL.trans {d g l : Addr} {H1 H2 H3 : Hp} (x : KeepL d g l H1 H2) (y : KeepL d g l H2 H3) : KeepL d g l H1 H3 := fun a o n m k e => y a o n m k (x a o n m k e)
theorem KeepL.of_keepD {d g l : Addr} {H H' : Hp} (x : KeepD d g H H') : KeepL d g l H H' := fun a o n m _ e => x a o n m e
theorem KeepL.of_same {d g l : Addr} {H H' : Hp} (x : Same H H') : KeepL d g l H H' := fun a o _ _ _ e => x a o e
theorem KeepL.keepD {d g l : Addr} {H0 H H' : Hp} (k : KeepD d g H0 H) (n : H0 l = none) (x : KeepL d g l H H') : KeepD d g H0 H' := fun a o n1 n2 e => x a o n1 n2 (fun z => by rw [z, n] at e; cases e) (k a o n1 n2 e)
theorem KeepL.kt {d g l : Addr} {H H' : Hp} {ns : List Int} {s : Int} {xs : List V} (D : DealAt H d g ns s) (hl : H l = some (.lst xs)) (x : KeepL d g l H H') : KT H H' := fun a ys h => x a _ (fun z => by rw [z, D.dict] at h; cases h) (fun z => by rw [z, D.great] at h; cases h) (fun z => by rw [z, hl] at h; cases h) h
def Tr.nm : Tr → Str
  | .node nm _ _ _ => nm
mutual
/-- the tree fits the book -/
def Tr.inB (vs : List Sv2) : Tr → Prop
  | .node nm kd _ es => ∃ v ∈ vs, v.nm = nm ∧ kd ∈ v.kinds ∧ es.inB vs v
def Evs.inB (vs : List Sv2) (v : Sv2) : Evs → Prop
  | .nil => True
  | .wait t r => t.nm ∈ v.waits ∧ t.inB vs ∧ r.inB vs v
  | .leave t r => t.nm ∈ v.leaves ∧ t.inB vs ∧ r.inB vs v
  | .hear _ r => r.inB vs v
end
def EvI.inB (vs : List Sv2) (v : Sv2) : EvI → Prop
  | .call true t => t.nm ∈ v.waits ∧ t.inB vs
  | .call false t => t.nm ∈ v.leaves ∧ t.inB vs
  | .hear _ => True
def Evs.of : List EvI → Evs
  | [] => .nil
  | .call true t :: r => .wait t (Evs.of r)
  | .call false t :: r => .leave t (Evs.of r)
  | .hear n :: r => .hear n (Evs.of r)
theorem Evs.of_list : ∀ l : List EvI, (Evs.of l).list = l
  | [] => rfl
  | .call true t :: r => congrArg (EvI.call true t :: ·) (Evs.of_list r)
  | .call false t :: r => congrArg (EvI.call false t :: ·) (Evs.of_list r)
  | .hear n :: r => congrArg (EvI.hear n :: ·) (Evs.of_list r)
theorem Evs.of_fit : ∀ l : List EvI, (∀ e ∈ l, e.fit) → (Evs.of l).fit
  | [], _ => by unfold Evs.of Evs.fit; trivial
  | .call true t :: r, h => by unfold Evs.of Evs.fit; exact ⟨h _ List.mem_cons_self, Evs.of_fit r fun e m => h e (List.mem_cons_of_mem _ m)⟩
  | .call false t :: r, h => by unfold Evs.of Evs.fit; exact ⟨h _ List.mem_cons_self, Evs.of_fit r fun e m => h e (List.mem_cons_of_mem _ m)⟩
  | .hear n :: r, h => by unfold Evs.of Evs.fit; exact ⟨h _ List.mem_cons_self, Evs.of_fit r fun e m => h e (List.mem_cons_of_mem _ m)⟩
theorem Evs.of_inB {vs : List Sv2} {v : Sv2} : ∀ l : List EvI, (∀ e ∈ l, e.inB vs v) → (Evs.of l).inB vs v
  | [], _ => by unfold Evs.of Evs.inB; trivial
  | .call true t :: r, h => by unfold Evs.of Evs.inB; exact ⟨(h _ List.mem_cons_self).1, (h _ List.mem_cons_self).2, Evs.of_inB r fun e m => h e (List.mem_cons_of_mem _ m)⟩
  | .call false t :: r, h => by unfold Evs.of Evs.inB; exact ⟨(h _ List.mem_cons_self).1, (h _ List.mem_cons_self).2, Evs.of_inB r fun e m => h e (List.mem_cons_of_mem _ m)⟩
  | .hear n :: r, h => by unfold Evs.of Evs.inB; exact Evs.of_inB r fun e m => h e (List.mem_cons_of_mem _ m)
theorem Evs.of_cost : ∀ l : List EvI, (Evs.of l).cost = (l.map costI).sum
  | [] => by unfold Evs.of Evs.cost; rfl
  | .call true t :: r => by unfold Evs.of Evs.cost; rw [Evs.of_cost r, List.map_cons, List.sum_cons]; rfl
  | .call false t :: r => by unfold Evs.of Evs.cost; rw [Evs.of_cost r, List.map_cons, List.sum_cons]; rfl
  | .hear n :: r => by unfold Evs.of Evs.cost; rw [Evs.of_cost r, List.map_cons, List.sum_cons]; rfl
theorem Evs.of_at {H : Hp} : ∀ {ps : List V} {l : List EvI}, Paired (EvAt H) ps l → EvsAt H ps (Evs.of l)
  | _, _, .nil => .nil
  | _, _, .cons (b := b) h r => by
    cases h with
    | @call p v w t hp ht =>
      cases w with
      | true => exact .wait hp ht (Evs.of_at r)
      | false => exact .leave hp ht (Evs.of_at r)
    | hear hp => exact .hear hp (Evs.of_at r)
mutual
theorem Tr.deep_size : ∀ t : Tr, t.deep ≤ t.size
  | .node _ _ _ es => by
    unfold Tr.deep Tr.size
    have := es.deep_size
    omega
theorem Evs.deep_size : ∀ es : Evs, es.deep ≤ es.size
  | .nil => Nat.le_refl _
  | .wait t r => by
    unfold Evs.deep Evs.size
    have a := t.deep_size
    have b := r.deep_size
    omega
  | .leave t r => by
    unfold Evs.deep Evs.size
    have a := t.deep_size
    have b := r.deep_size
    omega
  | .hear _ r => by
    unfold Evs.deep Evs.size
    exact r.deep_size
end
/-- a service whose words are right among these names -/
structure SvN (names : List Str) (v : Sv2) : Prop where
  nm : isNm v.nm = true
  kinds : v.kinds ≠ [] ∧ v.kinds.length ≤ 100 ∧ ∀ k ∈ v.kinds, isNm k = true
  waits : v.waits.length ≤ 100 ∧ ∀ y ∈ v.waits, y ∈ names
  leaves : v.leaves.length ≤ 100 ∧ ∀ y ∈ v.leaves, y ∈ names
def spDGrow (n : Nat) : Sp := fun us H Q _ => ∃ (d g p l : Addr) (nm : Str) (vs : List Sv2) (roots : List Str) (H0 : Hp) (left : Nat) (ns : List Int) (s : Int), us = [.ref d, .ref p, .str nm, .ref l] ∧ DealAt H d g ns s ∧ BkA d g H0 p vs roots ∧ KeepD d g H0 H ∧ H0 l = none ∧ l ≠ d ∧ l ≠ g ∧ H l = some (.lst [.int (left : Int)]) ∧ left < n ∧ left ≤ 500 ∧
  nm ∈ vs.map (·.nm) ∧ vs.length ≤ 10 ∧ (∀ v ∈ vs, SvN (vs.map (·.nm)) v) ∧
  ∀ (v : V) (t : Tr) (left' : Nat) (ns' : List Int) (s' : Int) (H' : Hp), KeepL d g l H H' → DealAt H' d g ns' s' → H' l = some (.lst [.int (left' : Int)]) → TrAt H' v t → t.fit → t.inB vs → t.nm = nm → t.size + left' = left + 1 → t.cost ≤ 100 * t.size → Q v H'
/-! ### the state of the loop -/
structure GHeap (d g l : Addr) (H : Hp) (E U : Addr) (ps : List V) (evs : List EvI) (us : List Int) (left : Nat) (H1 : Hp) : Prop where
  keep : KeepL d g l H H1
  deal : ∃ ns s, DealAt H1 d g ns s
  hl : H1 l = some (.lst [.int (left : Int)])
  hE : H1 E = some (.lst ps)
  hU : H1 U = some (.lst (us.map V.int))
  ev : Paired (EvAt H1) ps evs
  nE : H E = none
  nU : H U = none
  ld : l ≠ d ∧ l ≠ g
  ne : E ≠ d ∧ E ≠ g ∧ E ≠ l
  nu : U ≠ d ∧ U ≠ g ∧ U ≠ l
  eu : E ≠ U
theorem evs_kt {H H' : Hp} (k : KT H H') : ∀ {ps : List V} {evs : List EvI}, Paired (EvAt H) ps evs → Paired (EvAt H') ps evs
  | _, _, .nil => .nil
  | _, _, .cons h t => .cons (h.kt k) (evs_kt k t)
theorem KN.kt2 {H H' : Hp} (k : ∀ a xs, H a = some (.tup xs) → H' a = some (.tup xs)) : KT H H' := k
section
variable {d g l : Addr} {H H1 H2 : Hp} {E U : Addr} {ps : List V} {evs : List EvI} {us : List Int} {left : Nat}
theorem GHeap.keepD (G : GHeap d g l H E U ps evs us left H1) (k : KeepD d g H1 H2) {ns : List Int} {s : Int} (D : DealAt H2 d g ns s) : GHeap d g l H E U ps evs us left H2 := by
  obtain ⟨ns1, s1, D1⟩ := G.deal
  exact ⟨G.keep.trans (KeepL.of_keepD k), ⟨ns, s, D⟩, k _ _ G.ld.1 G.ld.2 G.hl, k _ _ G.ne.1 G.ne.2.1 G.hE, k _ _ G.nu.1 G.nu.2.1 G.hU, evs_kt (KT.of_keepD D1 k) G.ev, G.nE, G.nU, G.ld, G.ne, G.nu, G.eu⟩
theorem GHeap.same (G : GHeap d g l H E U ps evs us left H1) (y : Same H1 H2) : GHeap d g l H E U ps evs us left H2 := by
  obtain ⟨ns1, s1, D1⟩ := G.deal
  exact G.keepD (KeepD.same y) (D1.sameD y)
theorem GHeap.rec_ (G : GHeap d g l H E U ps evs us left H1) (k : KeepL d g l H1 H2) {ns : List Int} {s : Int} (D : DealAt H2 d g ns s) {left2 : Nat} (hl : H2 l = some (.lst [.int (left2 : Int)])) : GHeap d g l H E U ps evs us left2 H2 := by
  obtain ⟨ns1, s1, D1⟩ := G.deal
  exact ⟨G.keep.trans k, ⟨ns, s, D⟩, hl, k _ _ G.ne.1 G.ne.2.1 G.ne.2.2 G.hE, k _ _ G.nu.1 G.nu.2.1 G.nu.2.2 G.hU, evs_kt (KeepL.kt D1 G.hl k) G.ev, G.nE, G.nU, G.ld, G.ne, G.nu, G.eu⟩
theorem GHeap.setl (G : GHeap d g l H E U ps evs us left H1) (left2 : Nat) : GHeap d g l H E U ps evs us left2 (upd H1 l (.lst [.int (left2 : Int)])) := by
  obtain ⟨ns1, s1, D1⟩ := G.deal
  refine G.rec_ (fun a o _ _ n e => by rw [upd_ne n]; exact e) (ns := ns1) (s := s1) ⟨D1.ne, D1.s0, D1.s1, ?_, ?_, D1.pos, D1.few⟩ upd_same
  · rw [upd_ne G.ld.1.symm]; exact D1.dict
  · rw [upd_ne G.ld.2.symm]; exact D1.great
/-- a list of the loop's own changes -/
theorem GHeap.own {X : Addr} {xs ys : List V} (G : GHeap d g l H E U ps evs us left H1) (hX : H1 X = some (.lst xs)) (nX : H X = none) (nx : X ≠ d ∧ X ≠ g ∧ X ≠ l) :
    KeepL d g l H (upd H1 X (.lst ys)) ∧ (∃ ns s, DealAt (upd H1 X (.lst ys)) d g ns s) ∧ upd H1 X (.lst ys) l = some (.lst [.int (left : Int)]) ∧ Paired (EvAt (upd H1 X (.lst ys))) ps evs := by
  obtain ⟨ns1, s1, D1⟩ := G.deal
  refine ⟨fun a o n1 n2 n3 e => ?_, ⟨ns1, s1, D1.ne, D1.s0, D1.s1, ?_, ?_, D1.pos, D1.few⟩, ?_, evs_kt (KN.put hX _).kt G.ev⟩
  · rw [upd_ne (ne_of_none e nX)]; exact G.keep a o n1 n2 n3 e
  · rw [upd_ne nx.1.symm]; exact D1.dict
  · rw [upd_ne nx.2.1.symm]; exact D1.great
  · rw [upd_ne nx.2.2.symm]; exact G.hl
theorem GHeap.push {q : V} {e : EvI} (G : GHeap d g l H E U ps evs us left H1) (hq : EvAt H1 q e) : GHeap d g l H E U (ps ++ [q]) (evs ++ [e]) us left (upd H1 E (.lst (ps ++ [q]))) := by
  obtain ⟨a1, a2, a3, a4⟩ := G.own (ys := ps ++ [q]) G.hE G.nE G.ne
  exact ⟨a1, a2, a3, upd_same, by rw [upd_ne G.eu.symm]; exact G.hU, paired_end a4 (hq.kt (KN.put G.hE _).kt), G.nE, G.nU, G.ld, G.ne, G.nu, G.eu⟩
theorem GHeap.setU {us2 : List Int} (G : GHeap d g l H E U ps evs us left H1) : GHeap d g l H E U ps evs us2 left (upd H1 U (.lst (us2.map V.int))) := by
  obtain ⟨a1, a2, a3, a4⟩ := G.own (ys := us2.map V.int) G.hU G.nU G.nu
  exact ⟨a1, a2, a3, by rw [upd_ne G.eu]; exact G.hE, upd_same, a4, G.nE, G.nU, G.ld, G.ne, G.nu, G.eu⟩
theorem GHeap.free (G : GHeap d g l H E U ps evs us left H1) {X : Addr} (h : H1 X = none) : H X = none := by
  obtain ⟨ns1, s1, D1⟩ := G.deal
  cases e : H X with
  | none => rfl
  | some o =>
    rw [G.keep X o (fun z => D1.dn (z ▸ h)) (fun z => D1.gn (z ▸ h)) (fun z => by rw [z, G.hl] at h; cases h) e] at h
    cases h
theorem GHeap.newU {U2 : Addr} {us2 : List Int} (G : GHeap d g l H E U ps evs us left H1) (n : H1 U2 = none) (y : Same H1 H2) (h : H2 U2 = some (.lst (us2.map V.int))) : GHeap d g l H E U2 ps evs us2 left H2 := by
  obtain ⟨ns1, s1, D1⟩ := G.deal
  have G2 := G.same y
  exact ⟨G2.keep, G2.deal, G2.hl, G2.hE, h, G2.ev, G2.nE, G.free n, G2.ld, G2.ne, ⟨fun z => D1.dn (z ▸ n), fun z => D1.gn (z ▸ n), fun z => by rw [z, G.hl] at n; cases n⟩, fun z => by rw [← z, G.hE] at n; cases n⟩
end
theorem erase_perm2 {α : Type} : ∀ {xs : List α} {k : Nat} {y : α}, xs[k]? = some y → (y :: xs.eraseIdx k).Perm xs
  | [], _, _, h => by simp at h
  | x :: xs, 0, y, h => by
    simp at h
    subst h
    exact List.Perm.refl _
  | x :: xs, k + 1, y, h => by
    simp at h
    exact (List.Perm.swap x y _).trans ((erase_perm2 h).cons x)
structure GPure (vs : List Sv2) (v : Sv2) (left i m : Nat) (evs : List EvI) (us : List Int) (left1 : Nat) : Prop where
  run : ∃ hs : List Int, runL evs (0, []) = some ((m : Int), hs) ∧ ∀ u ∈ us, u ∉ hs
  ub : ∀ u ∈ us, 0 ≤ u ∧ u < (m : Int)
  nd : us.Nodup
  ul : us.length ≤ i
  mi : m ≤ i
  el : evs.length ≤ i
  sz : (evs.filterMap sizeI).sum + left1 = left
  ok : ∀ e ∈ evs, e.fit ∧ e.inB vs v
  cost : (evs.map costI).sum ≤ 13 * i + 100 * (evs.filterMap sizeI).sum
section
variable {vs : List Sv2} {v : Sv2} {left i m left1 left2 : Nat} {evs : List EvI} {us : List Int}
theorem GPure.step (G : GPure vs v left i m evs us left1) : GPure vs v left (i + 1) m evs us left1 := ⟨G.run, G.ub, G.nd, Nat.le_succ_of_le G.ul, Nat.le_succ_of_le G.mi, Nat.le_succ_of_le G.el, G.sz, G.ok, by have := G.cost; omega⟩
theorem GPure.wait {t : Tr} (G : GPure vs v left i m evs us left1) (sz : t.size + left2 = left1) (ft : t.fit) (ib : t.nm ∈ v.waits ∧ t.inB vs) (co : t.cost ≤ 100 * t.size) : GPure vs v left (i + 1) m (evs ++ [.call true t]) us left2 := by
  obtain ⟨hs, r1, r2⟩ := G.run
  have e1 : ((evs ++ [EvI.call true t]).filterMap sizeI).sum = (evs.filterMap sizeI).sum + t.size := by
    rw [List.filterMap_append, List.sum_append]
    show _ + (t.size + 0) = _
    omega
  refine ⟨⟨hs, ?_, r2⟩, G.ub, G.nd, Nat.le_succ_of_le G.ul, Nat.le_succ_of_le G.mi, ?_, ?_, fun e m => ?_, ?_⟩
  · rw [runL_snoc, r1]; rfl
  · rw [List.length_append]; exact Nat.succ_le_succ G.el
  · have := G.sz
    rw [e1]
    omega
  · rcases List.mem_append.mp m with h | h
    · exact G.ok e h
    · rw [List.mem_singleton.mp h]
      exact ⟨ft, ib⟩
  · rw [List.map_append, List.sum_append, e1]
    show _ + (t.cost + 10 + 0) ≤ _
    have := G.cost
    omega
theorem GPure.leave {t : Tr} (G : GPure vs v left i m evs us left1) (sz : t.size + left2 = left1) (ft : t.fit) (ib : t.nm ∈ v.leaves ∧ t.inB vs) (co : t.cost ≤ 100 * t.size) : GPure vs v left (i + 1) (m + 1) (evs ++ [.call false t]) (us ++ [(m : Int)]) left2 := by
  obtain ⟨hs, r1, r2⟩ := G.run
  have e1 : ((evs ++ [EvI.call false t]).filterMap sizeI).sum = (evs.filterMap sizeI).sum + t.size := by
    rw [List.filterMap_append, List.sum_append]
    show _ + (t.size + 0) = _
    omega
  have hsb : ∀ u ∈ hs, u < (m : Int) := by
    have gen : ∀ (es : List EvI) (s s2 : Int × List Int), runL es s = some s2 → (∀ u ∈ s.2, u < s.1) → ∀ u ∈ s2.2, u < s2.1 := by
      intro es
      induction es with
      | nil => intro s s2 h b; cases h; exact b
      | cons e es ih =>
        intro s s2 h b
        obtain ⟨k, hh⟩ := s
        cases e with
        | call w t =>
          cases w with
          | true => exact ih _ _ h b
          | false => exact ih (k + 1, hh) _ h fun u m => by have := b u m; show u < k + 1; have : u < k := this; omega
        | hear n =>
          change ((if k ≤ n ∨ n ∈ hh then none else some (k, hh ++ [n])).bind (runL es)) = some s2 at h
          by_cases c : k ≤ n ∨ n ∈ hh
          · rw [if_pos c] at h; cases h
          · rw [if_neg c] at h
            refine ih (k, hh ++ [n]) _ h fun u m => ?_
            rcases List.mem_append.mp m with z | z
            · exact b u z
            · rw [List.mem_singleton.mp z]
              have : ¬ k ≤ n := fun y => c (.inl y)
              show n < k
              omega
    exact gen evs (0, []) _ r1 fun u m => nomatch m
  refine ⟨⟨hs, ?_, fun u mu => ?_⟩, fun u mu => ?_, ?_, ?_, Nat.succ_le_succ G.mi, ?_, ?_, fun e m => ?_, ?_⟩
  · rw [runL_snoc, r1]
    show some ((m : Int) + 1, hs) = some (((m + 1 : Nat) : Int), hs)
    have : (m : Int) + 1 = ((m + 1 : Nat) : Int) := by omega
    rw [this]
  · rcases List.mem_append.mp mu with h | h
    · exact r2 u h
    · rw [List.mem_singleton.mp h]
      intro z
      have := hsb _ z
      omega
  · rcases List.mem_append.mp mu with h | h
    · have := G.ub u h
      omega
    · rw [List.mem_singleton.mp h]
      omega
  · refine List.nodup_append.mpr ⟨G.nd, (by simp), fun x hx y hy => ?_⟩
    rw [List.mem_singleton.mp hy]
    intro z
    have := G.ub x hx
    omega
  · rw [List.length_append]; exact Nat.succ_le_succ G.ul
  · rw [List.length_append]; exact Nat.succ_le_succ G.el
  · have := G.sz
    rw [e1]
    omega
  · rcases List.mem_append.mp m with h | h
    · exact G.ok e h
    · rw [List.mem_singleton.mp h]
      exact ⟨ft, ib⟩
  · rw [List.map_append, List.sum_append, e1]
    show _ + (t.cost + 10 + 0) ≤ _
    have := G.cost
    omega
theorem GPure.hear {k : Nat} {u : Int} (G : GPure vs v left i m evs us left1) (i500 : i ≤ 500) (hu : us[k]? = some u) : GPure vs v left (i + 1) m (evs ++ [.hear u]) (us.eraseIdx k) left1 := by
  obtain ⟨hs, r1, r2⟩ := G.run
  have pm := erase_perm2 hu
  have nd2 : (u :: us.eraseIdx k).Nodup := pm.nodup_iff.mpr G.nd
  have mu := List.mem_of_getElem? hu
  have sub : ∀ x ∈ us.eraseIdx k, x ∈ us := fun x h => pm.mem_iff.mp (List.mem_cons_of_mem _ h)
  have ub := G.ub u mu
  have e1 : ((evs ++ [EvI.hear u]).filterMap sizeI).sum = (evs.filterMap sizeI).sum := by
    rw [List.filterMap_append, List.sum_append]
    rfl
  refine ⟨⟨hs ++ [u], ?_, fun x hx z => ?_⟩, fun x hx => G.ub x (sub x hx), (List.nodup_cons.mp nd2).2, ?_, Nat.le_succ_of_le G.mi, ?_, ?_, fun e m => ?_, ?_⟩
  · rw [runL_snoc, r1]
    show (if (m : Int) ≤ u ∨ u ∈ hs then none else some ((m : Int), hs ++ [u])) = _
    rw [if_neg]
    rintro (z | z)
    · omega
    · exact r2 u mu z
  · rcases List.mem_append.mp z with y | y
    · exact r2 x (sub x hx) y
    · rw [List.mem_singleton.mp y] at hx
      exact (List.nodup_cons.mp nd2).1 hx
  · have := pm.length_eq
    rw [List.length_cons] at this
    have := G.ul
    omega
  · rw [List.length_append]; exact Nat.succ_le_succ G.el
  · rw [e1]; exact G.sz
  · rcases List.mem_append.mp m with h | h
    · exact G.ok e h
    · rw [List.mem_singleton.mp h]
      have := G.mi
      exact ⟨⟨ub.1, by omega⟩, trivial⟩
  · rw [List.map_append, List.sum_append, e1]
    show _ + (13 + 0) ≤ _
    have := G.cost
    omega
end
theorem map_erase {α β : Type} {f : α → β} : ∀ {xs : List α} {k : Nat}, (xs.map f).eraseIdx k = (xs.eraseIdx k).map f
  | [], _ => rfl
  | _ :: _, 0 => rfl
  | x :: xs, k + 1 => congrArg (f x :: ·) (map_erase (xs := xs) (k := k))
theorem grow_and {K : PySem.W.Frag} {σ : L2.St} {H1 : Hp} {Q : Bool → Hp → Prop} {form fm : Int} {l a W : Addr} {left1 : Nat} {xs : List V} {key : Str} (h9 : σ[9]? = some (some (.int form))) (h3 : σ[3]? = some (some (.ref l))) (h4 : σ[4]? = some (some (.ref a))) (hl : H1 l = some (.lst [.int (left1 : Int)])) (dg : DGet H1 a (.str key) (some (.ref W))) (hW : H1 W = some (.lst xs))
    (qt : ∀ H2, Same H1 H2 → 0 < left1 → xs ≠ [] → Q true H2) (qf : ∀ H2, Same H1 H2 → Q false H2) :
    tAnd (tTest (tOp (rI0 fun i j => V.bl (decide (i < j))) (tVar 9) (tC (V.int fm)))) (tAnd (tTest (tOp (rI0 fun i j => V.bl (decide (j < i))) (tOp (rIxL K) (tVar 3) (tC (V.int 0))) (tC (V.int 0)))) (tTest (tOp (rEqE K true) (tDGet (tVar 4) (tC (V.str key))) (tLst tNil)))) σ H1 Q := by
  refine ⟨_, h9, _, _, rfl, rfl, _, rfl, ?_⟩
  refine ite2 (fun _ => ?_) (fun _ => qf _ (Same.refl _))
  refine ⟨_, h3, ixL_tc (j := 0) (SqL.of hl) rfl ⟨_, _, rfl, rfl, _, rfl, ?_⟩⟩
  refine ite2 (fun c => ?_) (fun _ => qf _ (Same.refl _))
  have c2 : (0 : Int) < (left1 : Int) := of_decide_eq_true c
  refine ⟨_, h4, a, _, rfl, dg, Nat.zero_le _, fun z hz => ⟨W, z, xs, rfl, rfl, SqL.of (same_upd hz _ _ _ hW), SqL.of upd_same, _, rfl, ?_⟩⟩
  cases xs with
  | nil => exact qf _ (same_upd hz _)
  | cons x t => exact qt _ (same_upd hz _) (by omega) (fun z => nomatch z)
section
variable {P : Program} {w : World} {K : PySem.W.Frag} {mg : Str → Option Value} {base : Heap}
theorem ok_dgrow (T : TxDGrow w K mg) : ∀ n, FnOk P w K mg base CX0 (2 + n) T.f_tree T.d_tree P_tree (spDGrow n)
  | 0 => by
    refine T.F_tree.ok sc_tree (fun vs H Q E h => ?_) (fun cdv A outer s H vs Q E hr h => ?_)
    · obtain ⟨d, g, p, l, nm, vs, roots, H0, left, ns, s, rfl, _⟩ := h
      rfl
    obtain ⟨d, g, p, l, nm, vs, roots, H0, left, ns, s, rfl, _, _, _, _, _, _, _, z, _⟩ := h
    omega
  | n + 1 => by
    have G_tree := ok_dgrow T n
    have G_named := ok_dnamed (P := P) (w := w) (base := base) T.toTxDNamed
    have G_draw := ok_draw (P := P) (w := w) (base := base) T.toTxDeal
    have G_pick := ok_dpick (P := P) (w := w) (base := base) T.toTxDeal
    refine T.F_tree.ok sc_tree (fun vs H Q E h => ?_) (fun cdv A outer s H vs Q E hr h => ?_)
    · obtain ⟨d, g, p, l, nm, vs, roots, H0, left, ns, s, rfl, _⟩ := h
      rfl
    obtain ⟨d, g, p, l, nm, vs, roots, H0, left, ns, s, rfl, D0, B0, k0, l0, ld, lg, hl, ln, l500, hnm, v10, hv, q⟩ := h
    refine ⟨_, (pss_cons (ps_asg (pe_tup (pa_cons (pe_call G_named (hr.mono (Nat.le_trans (by decide) (Nat.le_add_right 2 n))) (by rfl) T.m_named T.F_named.kp T.b_named .nil pass0 (pa_cons (pv 1) (pa_cons (pv 2) pa_nil))) (pa_cons (pe_lst pa_nil) (pa_cons (pe_lst pa_nil) (pa_cons pe_int pa_nil))))) (pg_tup rfl (pgs_cons (pg_name (i := 4) sc_tree.nd rfl (Or.inl rfl)) (pgs_cons (pg_name (i := 5) sc_tree.nd rfl (Or.inl rfl)) (pgs_cons (pg_name (i := 6) sc_tree.nd rfl (Or.inl rfl)) (pgs_cons (pg_name (i := 7) sc_tree.nd rfl (Or.inl rfl)) pgs_nil))))))
      (pss_cons (ps_for PassesOwn.never rfl (pi_range1 (by rfl) T.z_range (pa_cons (pe_call G_draw (hr.mono (Nat.le_trans (by decide) (Nat.le_add_right 2 n))) (by rfl) T.m_draw T.F_draw.kp T.b_draw .nil pass0 (pa_cons (pv 0) (pa_cons pe_int pa_nil))) pa_nil)) (pg_name (i := 8) sc_tree.nd rfl (Or.inl rfl)) (pss_cons (ps_set (i := 9) sc_tree.nd rfl (Or.inl rfl) (pe_call G_draw (hr.mono (Nat.le_trans (by decide) (Nat.le_add_right 2 n))) (by rfl) T.m_draw T.F_draw.kp T.b_draw .nil pass0 (pa_cons (pv 0) (pa_cons pe_int pa_nil))))
      (pss_one (ps_if (PW.pt (pw_and (pt_cmpR op_lt (pv 9) pe_int (nomark _)) (pw_and (pt_cmpR op_gt (pe_ix (ix_listK K) (pv 3) pe_int (fun _ _ => rfl)) pe_int (nomark _)) (pw_and1 (pt_cmpR (op_neEK K hr.units0) (pe_dget (hu_of hr) (pv 4) pe_str (fun _ _ => rfl)) (pe_lst pa_nil) (nomark _)))))) (pss_cons (ps_asg (pe_op op_sub (pe_ix (ix_listK K) (pv 3) pe_int (fun _ _ => rfl)) pe_int) (pg_sub (pv 3) pe_int set_list))
      (pss_one (ps_expr (pe_bm PySem.F.plainAttrs_list PySem.F.slot_list_append PySem.F.type_list_append mt_append (pv 5) (pa_cons (pe_tup (pa_cons pe_str (pa_cons (pe_call G_tree (hr.mono (Nat.le_refl _)) (by rfl) T.m_tree T.F_tree.kp T.b_tree .nil pass0 (pa_cons (pv 0) (pa_cons (pv 1) (pa_cons (pe_call G_pick (hr.mono (Nat.le_trans (by decide) (Nat.le_add_right 2 n))) (by rfl) T.m_pick T.F_pick.kp T.b_pick .nil pass0 (pa_cons (pv 0) (pa_cons (pe_dget (hu_of hr) (pv 4) pe_str (fun _ _ => rfl)) pa_nil))) (pa_cons (pv 3) pa_nil))))) pa_nil))) pa_nil))))) (pss_one (ps_if (PW.pt (pw_and (pt_cmpR op_lt (pv 9) pe_int (nomark _)) (pw_and (pt_cmpR op_gt (pe_ix (ix_listK K) (pv 3) pe_int (fun _ _ => rfl)) pe_int (nomark _)) (pw_and1 (pt_cmpR (op_neEK K hr.units0) (pe_dget (hu_of hr) (pv 4) pe_str (fun _ _ => rfl)) (pe_lst pa_nil) (nomark _)))))) (pss_cons (ps_asg (pe_op op_sub (pe_ix (ix_listK K) (pv 3) pe_int (fun _ _ => rfl)) pe_int) (pg_sub (pv 3) pe_int set_list))
      (pss_cons (ps_expr (pe_bm PySem.F.plainAttrs_list PySem.F.slot_list_append PySem.F.type_list_append mt_append (pv 5) (pa_cons (pe_tup (pa_cons pe_str (pa_cons (pe_call G_tree (hr.mono (Nat.le_refl _)) (by rfl) T.m_tree T.F_tree.kp T.b_tree .nil pass0 (pa_cons (pv 0) (pa_cons (pv 1) (pa_cons (pe_call G_pick (hr.mono (Nat.le_trans (by decide) (Nat.le_add_right 2 n))) (by rfl) T.m_pick T.F_pick.kp T.b_pick .nil pass0 (pa_cons (pv 0) (pa_cons (pe_dget (hu_of hr) (pv 4) pe_str (fun _ _ => rfl)) pa_nil))) (pa_cons (pv 3) pa_nil))))) pa_nil))) pa_nil)))
      (pss_one (ps_par (i := 6) (j := 7) (by rfl) sc_tree.nd rfl rfl (by decide) rfl rfl (pa_cons (pe_op op_cat (pv 6) (pe_lst (pa_cons (pv 7) pa_nil))) (pa_cons (pe_op op_add (pv 7) pe_int) pa_nil)) (by rfl))))) (pss_one (ps_if (pt_cmpR (op_neEK K hr.units0) (pv 6) (pe_lst pa_nil) (nomark _)) (pss_one (ps_expr (pe_bm PySem.F.plainAttrs_list PySem.F.slot_list_append PySem.F.type_list_append mt_append (pv 5) (pa_cons (pe_tup (pa_cons pe_str (pa_cons (pe_bm PySem.F.plainAttrs_list PySem.F.slot_list_pop PySem.F.type_list_pop mt_popAt (pv 6) (pa_cons (pe_call G_draw (hr.mono (Nat.le_trans (by decide) (Nat.le_add_right 2 n))) (by rfl) T.m_draw T.F_draw.kp T.b_draw .nil pass0 (pa_cons (pv 0) (pa_cons (pe_callB (call_lenK K) (by rfl) T.z_len (by decide +kernel) (pa_cons (pv 6) pa_nil)) pa_nil))) pa_nil)) pa_nil))) pa_nil)))) pss_nil))))))))
      (pss_one (ps_ret (pe_tup (pa_cons (pv 2) (pa_cons (pe_call G_pick (hr.mono (Nat.le_trans (by decide) (Nat.le_add_right 2 n))) (by rfl) T.m_pick T.F_pick.kp T.b_pick .nil pass0 (pa_cons (pv 0) (pa_cons (pe_dget (hu_of hr) (pv 4) pe_str (fun _ _ => rfl)) pa_nil))) (pa_cons (pe_cmpR op_eq (pe_call G_draw (hr.mono (Nat.le_trans (by decide) (Nat.le_add_right 2 n))) (by rfl) T.m_draw T.F_draw.kp T.b_draw .nil pass0 (pa_cons (pv 0) (pa_cons pe_int pa_nil))) pe_int (nomark _)) (pa_cons (pe_callTy (call_tupleK K) (by rfl) T.z_tuple (by decide +kernel) (pa_cons (pv 5) pa_nil)) pa_nil))))))))), ?_⟩
    refine ⟨_, rfl, _, rfl, d, g, p, nm, vs, roots, H0, rfl, B0, k0, hnm, v10, fun a v H1 s1 SA mv env => ?_⟩
    have sv := hv v mv
    obtain ⟨ka, wa, la, ra, rp, na, a1, ⟨nka, a2⟩, ⟨nwa, a3⟩, ⟨nla, a4⟩, _, _⟩ := SA.at_
    refine ⟨Nat.zero_le _, fun E hE => ⟨Nat.zero_le _, fun U hU => ⟨by show 4 ≤ sizeLine; decide, fun tq htq => ?_⟩⟩⟩
    refine ⟨tq, _, rfl, SqT.of upd_same, rfl, _, _, rfl, _, _, rfl, _, _, rfl, _, _, rfl, rfl, ?_⟩
    have yE := same_upd hE (.lst [])
    have yU := same_upd hU (.lst [])
    have yT := same_upd htq (.tup [.ref a, .ref E, .ref U, .int 0])
    have E4 : upd (upd (upd H1 E (.lst [])) U (.lst [])) tq (.tup [.ref a, .ref E, .ref U, .int 0]) E = some (.lst []) := yT _ _ (yU _ _ upd_same)
    have U4 : upd (upd (upd H1 E (.lst [])) U (.lst [])) tq (.tup [.ref a, .ref E, .ref U, .int 0]) U = some (.lst []) := yT _ _ upd_same
    have nE : H E = none := s1.free hE
    have nU1 : H1 U = none := yE.free hU
    have nU : H U = none := s1.free nU1
    have neU : E ≠ U := ne_of_none upd_same hU
    have s4 : Same H (upd (upd (upd H1 E (.lst [])) U (.lst [])) tq (.tup [.ref a, .ref E, .ref U, .int 0])) := ((s1.trans yE).trans yU).trans yT
    generalize upd (upd (upd H1 E (.lst [])) U (.lst [])) tq (.tup [.ref a, .ref E, .ref U, .int 0]) = H4 at E4 U4 s4 ⊢
    have D4 := D0.sameD s4
    have ap : ∀ {X : Addr}, H X = none → X ≠ d ∧ X ≠ g ∧ X ≠ l := fun {X} h => ⟨fun z => D0.dn (z ▸ h), fun z => D0.gn (z ▸ h), fun z => by rw [z, hl] at h; cases h⟩
    have G4 : GHeap d g l H E U [] [] [] left H4 := ⟨KeepL.of_same s4, ⟨_, _, D4⟩, s4 _ _ hl, E4, U4, .nil, nE, nU, ⟨ld, lg⟩, ap nE, ap nU, neU⟩
    have P4 : GPure vs v left 0 0 [] [] left := ⟨⟨[], rfl, fun _ m => nomatch m⟩, (fun _ m => nomatch m), List.nodup_nil, Nat.le_refl _, Nat.le_refl _, Nat.le_refl _, Nat.zero_add _, (fun _ m => nomatch m), Nat.le_refl _⟩
    refine ⟨_, rfl, d, g, ns, s, 6, rfl, D4, by decide, by decide, fun kk s5 ns5 H5 kk0 kk6 kd5 D5 => ⟨kk, rfl, by omega, by omega, ?_⟩⟩
    have G5 := G4.keepD kd5 D5
    -- what stands at the service
    have hk : ∀ {H' : Hp}, KeepL d g l H H' → KeepD d g H0 H' := fun x => KeepL.keepD k0 l0 x
    refine for_range (lo := 0) (n := kk.toNat) (fun i σ H' => ∃ (v8 v9 : Option V) (U : Addr) (m : Nat) (ps : List V) (evs : List EvI) (us : List Int) (left1 : Nat), σ = [some (.ref d), some (.ref p), some (.str nm), some (.ref l), some (.ref a), some (.ref E), some (.ref U), some (.int (m : Int)), v8, v9] ∧ GHeap d g l H E U ps evs us left1 H' ∧ GPure vs v left i m evs us left1) ⟨_, _, U, 0, [], [], [], left, rfl, G5, P4⟩ ?_ ?_
    · rintro i σ H6 hi ⟨v8, v9, U, m, ps, evs, us, left1, rfl, G6, P6⟩
      have i5 : i ≤ 5 := by omega
      obtain ⟨ns6, s6, D6⟩ := G6.deal
      refine ⟨_, rfl, d, g, ns6, s6, 5, rfl, D6, by decide, by decide, fun form s7 ns7 H7 _ _ kd7 D7 => ?_⟩
      have G7 := G6.keepD kd7 D7
      have q7 := hk G7.keep
      have l1 : left1 ≤ left := by have := P6.sz; omega
      have pl : ps.length < sizeLine := small1000 (by rw [pair_len3 G7.ev]; have := P6.el; omega)
      refine grow_and rfl rfl rfl G7.hl (DGet.k (k := .inr "waits") (q7 _ _ na.1 na.2 a1)) (q7 _ _ nwa.1 nwa.2 a3) (fun H8 y8 lp wn => ?_) (fun H8 y8 => ?_)
      · -- a call waited for
        have G8 := G7.same y8
        have e1 : ((left1 : Int) - 1) = ((left1 - 1 : Nat) : Int) := by omega
        refine ⟨_, rfl, ixL_tc (j := 0) (SqL.of G8.hl) rfl ⟨_, _, rfl, rfl, ?_⟩⟩
        show gSub (tVar 3) (tC (V.int 0)) rSetL (V.int ((left1 : Int) - 1)) _ _ _
        rw [e1]
        refine ⟨_, rfl, l, _, 0, 0, rfl, rfl, G8.hl, rfl, ?_⟩
        have e2 : ([V.int (left1 : Int)].set 0 (V.int ((left1 - 1 : Nat) : Int))) = [V.int ((left1 - 1 : Nat) : Int)] := rfl
        rw [e2]
        have GA := G8.setl (left1 - 1)
        generalize upd H8 l (.lst [.int ((left1 - 1 : Nat) : Int)]) = HA at GA ⊢
        obtain ⟨nsA, sA, DA⟩ := GA.deal
        have qA := hk GA.keep
        refine ⟨_, rfl, .inl ⟨rfl, _, SqL.of GA.hE⟩, _, rfl, _, rfl, _, rfl, _, rfl, a, _, rfl, DGet.k (k := .inr "waits") (qA _ _ na.1 na.2 a1), ?_⟩
        refine pickS DA ⟨nwa.1, nwa.2, qA _ _ nwa.1 nwa.2 a3⟩ (fun z => wn (by rw [z]; rfl)) sv.waits.1 fun y nsB sB HB kB DB my => ?_
        have GB := GA.keepD kB DB
        refine ⟨_, rfl, d, g, p, l, y, vs, roots, H0, left1 - 1, nsB, sB, rfl, DB, B0, hk GB.keep, l0, ld, lg, GB.hl, by omega, by omega, sv.waits.2 y my, v10, hv, fun v' t left2 nsC sC HC kC DC hlC tr ft ib tn sz co => ?_⟩
        have GC := GB.rec_ kC DC hlC
        refine ⟨by show 2 ≤ sizeLine; decide, fun q0 hq0 => ?_⟩
        have yq := same_upd hq0 (.tup [.str (Str.ofString "wait"), v'])
        have GD := GC.same yq
        refine ⟨E, ps, _, rfl, rfl, GD.hE, pl, _, _, U, m, _, _, us, left2, rfl, GD.push (e := .call true t) (.call (w := true) upd_same (TrAt.kt (KT.of_same yq) t v' tr)), P6.wait (by omega) ft ⟨by rw [tn]; exact my, ib⟩ co⟩
      · have G8 := G7.same y8
        have q8 := hk G8.keep
        refine grow_and rfl rfl rfl G8.hl (DGet.k (k := .inr "leaves") (q8 _ _ na.1 na.2 a1)) (q8 _ _ nla.1 nla.2 a4) (fun H9 y9 lp wn => ?_) (fun H9 y9 => ?_)
        · have G9 := G8.same y9
          have e1 : ((left1 : Int) - 1) = ((left1 - 1 : Nat) : Int) := by omega
          refine ⟨_, rfl, ixL_tc (j := 0) (SqL.of G9.hl) rfl ⟨_, _, rfl, rfl, ?_⟩⟩
          show gSub (tVar 3) (tC (V.int 0)) rSetL (V.int ((left1 : Int) - 1)) _ _ _
          rw [e1]
          refine ⟨_, rfl, l, _, 0, 0, rfl, rfl, G9.hl, rfl, ?_⟩
          have e2 : ([V.int (left1 : Int)].set 0 (V.int ((left1 - 1 : Nat) : Int))) = [V.int ((left1 - 1 : Nat) : Int)] := rfl
          rw [e2]
          have GA := G9.setl (left1 - 1)
          generalize upd H9 l (.lst [.int ((left1 - 1 : Nat) : Int)]) = HA at GA ⊢
          obtain ⟨nsA, sA, DA⟩ := GA.deal
          have qA := hk GA.keep
          refine ⟨_, rfl, .inl ⟨rfl, _, SqL.of GA.hE⟩, _, rfl, _, rfl, _, rfl, _, rfl, a, _, rfl, DGet.k (k := .inr "leaves") (qA _ _ na.1 na.2 a1), ?_⟩
          refine pickS DA ⟨nla.1, nla.2, qA _ _ nla.1 nla.2 a4⟩ (fun z => wn (by rw [z]; rfl)) sv.leaves.1 fun y nsB sB HB kB DB my => ?_
          have GB := GA.keepD kB DB
          refine ⟨_, rfl, d, g, p, l, y, vs, roots, H0, left1 - 1, nsB, sB, rfl, DB, B0, hk GB.keep, l0, ld, lg, GB.hl, by omega, by omega, sv.leaves.2 y my, v10, hv, fun v' t left2 nsC sC HC kC DC hlC tr ft ib tn sz co => ?_⟩
          have GC := GB.rec_ kC DC hlC
          refine ⟨by show 2 ≤ sizeLine; decide, fun q0 hq0 => ?_⟩
          have yq := same_upd hq0 (.tup [.str (Str.ofString "leave"), v'])
          have GD := GC.same yq
          refine ⟨E, ps, _, rfl, rfl, GD.hE, pl, ?_⟩
          have GE := GD.push (e := .call false t) (.call (w := false) upd_same (TrAt.kt (KT.of_same yq) t v' tr))
          generalize upd (upd HC q0 (.tup [.str (Str.ofString "leave"), v'])) E (.lst (ps ++ [.ref q0])) = HE at GE ⊢
          refine ⟨_, rfl, _, rfl, by show 1 ≤ sizeLine; decide, fun x hx => ⟨U, x, us.map V.int, [.int (m : Int)], rfl, rfl, same_upd hx _ _ _ GE.hU, upd_same, small_ (by rw [List.length_map]; have := P6.ul; show _ + 1 ≤ 1000; omega), fun U2 hU2 => ⟨_, rfl, _, _, rfl, rfl, _, _, rfl, ?_⟩⟩⟩
          have yx := same_upd hx (.lst [.int (m : Int)])
          have y2 := same_upd hU2 (.lst (us.map V.int ++ [.int (m : Int)]))
          have GF := GE.newU (U2 := U2) (us2 := us ++ [(m : Int)]) (yx.free hU2) (yx.trans y2) (by rw [upd_same, List.map_append]; rfl)
          exact ⟨_, _, U2, m + 1, _, _, _, left2, rfl, GF, P6.leave (by omega) ft ⟨by rw [tn]; exact my, ib⟩ co⟩
        · have G9 := G8.same y9
          refine ⟨_, rfl, Nat.zero_le _, fun z hz => ⟨U, z, us.map V.int, rfl, rfl, SqL.of (same_upd hz _ _ _ G9.hU), SqL.of upd_same, _, rfl, ?_⟩⟩
          have GA := G9.same (same_upd hz (.lst []))
          generalize upd H9 z (.lst []) = HA at GA ⊢
          obtain ⟨nsA, sA, DA⟩ := GA.deal
          cases us with
          | nil => exact ⟨_, _, U, m, _, _, [], left1, rfl, GA, P6.step⟩
          | cons u0 ur =>
            have ul := P6.ul
            refine ⟨_, rfl, .inl ⟨rfl, _, SqL.of GA.hE⟩, _, rfl, .inl ⟨rfl, _, SqL.of GA.hU⟩, _, rfl, _, rfl, _, _, rfl, .inl (SqL.of GA.hU), d, g, nsA, sA, _, rfl, DA, by rw [List.length_map, List.length_cons]; omega, by rw [List.length_map]; omega, fun k sB nsB HB k0' k1' kB DB => ?_⟩
            have GB := GA.keepD kB DB
            obtain ⟨x, _, hx⟩ := at_some (xs := (u0 :: ur).map V.int) k0' k1'
            have hx2 := hx
            rw [List.getElem?_map] at hx2
            obtain ⟨u, hu, rfl⟩ : ∃ u, (u0 :: ur)[k.toNat]? = some u ∧ V.int u = x := by
              cases e : (u0 :: ur)[k.toNat]? with
              | none => rw [e] at hx2; cases hx2
              | some u => rw [e] at hx2; cases hx2; exact ⟨u, rfl, rfl⟩
            rw [List.length_map] at k1'
            refine ⟨U, (u0 :: ur).map V.int, k, k.toNat, .int u, rfl, rfl, GB.hU, by omega, by omega, seq_ixD k0' (by rw [List.length_map]; exact k1'), hx, ?_⟩
            have GC := GB.setU (us2 := (u0 :: ur).eraseIdx k.toNat)
            rw [map_erase]
            generalize upd HB U (.lst (((u0 :: ur).eraseIdx k.toNat).map V.int)) = HC at GC ⊢
            refine ⟨by show 2 ≤ sizeLine; decide, fun q0 hq0 => ?_⟩
            have yq := same_upd hq0 (.tup [.str (Str.ofString "hear"), .int u])
            have GD := GC.same yq
            exact ⟨E, ps, _, rfl, rfl, GD.hE, pl, _, _, U, m, _, _, _, left1, rfl, GD.push (e := .hear u) (.hear upd_same), P6.hear (by omega) hu⟩
    · rintro σ H6 ⟨v8, v9, U, m, ps, evs, us, left1, rfl, G6, P6⟩
      obtain ⟨ns6, s6, D6⟩ := G6.deal
      have q6 := hk G6.keep
      have kl := sv.kinds
      have k5 : kk.toNat ≤ 5 := by omega
      refine ⟨_, rfl, _, rfl, _, rfl, a, _, rfl, DGet.k (k := .inr "kinds") (q6 _ _ na.1 na.2 a1), ?_⟩
      refine pickS D6 ⟨nka.1, nka.2, q6 _ _ nka.1 nka.2 a2⟩ kl.1 kl.2.1 fun kd ns7 s7 H7 kd7 D7 mk => ?_
      have G7 := G6.keepD kd7 D7
      refine ⟨_, rfl, d, g, ns7, s7, 3, rfl, D7, by decide, by decide, fun x s8 ns8 H8 _ _ kd8 D8 => ?_⟩
      have G8 := G7.keepD kd8 D8
      refine ⟨rfl, _, rfl, E, ps, rfl, .inl ⟨SqL.of G8.hE, fun te hte => ⟨by show 4 ≤ sizeLine; decide, fun tt htt => ?_⟩⟩⟩
      have yt := same_upd hte (.tup ps)
      have y2 := same_upd htt (.tup [.str nm, .str kd, .bl (decide (V.int x = V.int 0)), .ref te])
      have G9 := (G8.same yt).same y2
      obtain ⟨ns9, s9, D9⟩ := G9.deal
      obtain ⟨hs, r1, _⟩ := P6.run
      have nm1 : isNm nm = true := by rw [← env]; exact sv.nm
      have el := P6.el
      have ol := Evs.of_list evs
      have sz : (Tr.node nm kd (decide (V.int x = V.int 0)) (Evs.of evs)).size = (evs.filterMap sizeI).sum + 1 := by
        show (Evs.of evs).size + 1 = _
        rw [← Evs.sizes, ol]
      have szs := P6.sz
      refine q (.ref tt) (.node nm kd (decide (V.int x = V.int 0)) (Evs.of evs)) left1 ns9 s9 _ G9.keep D9 G9.hl (.node upd_same (y2 _ _ upd_same) (Evs.of_at G9.ev)) ?_ ?_ rfl ?_ ?_
      · unfold Tr.fit
        refine ⟨nm1, kl.2.2 kd mk, ?_, by rw [ol]; omega, Evs.of_fit evs fun e m => (P6.ok e m).1⟩
        rw [ol, r1]
        rfl
      · unfold Tr.inB
        exact ⟨v, mv, env, mk, Evs.of_inB evs fun e m => (P6.ok e m).2⟩
      · rw [sz]
        omega
      · rw [sz]
        unfold Tr.cost
        rw [Evs.of_cost]
        have := P6.cost
        have := (isNm_len nm1).2
        have := (isNm_len (kl.2.2 kd mk)).2
        omega
end
end My

/-! ## The text of a tree tells the tree -/
namespace My
open PySem PySem.Spec PyProof.Rows L2 PySem.MyX
abbrev cp (x : Str) : List Nat := x.cps.toList
theorem cp_app (x y : Str) : cp (x ++ y) = cp x ++ cp y := by
  show (Str.mk (x.cps ++ y.cps)).cps.toList = _
  exact Array.toList_append
theorem cp_inj {x y : Str} (h : cp x = cp y) : x = y := by
  cases x with
  | mk a =>
    cases y with
    | mk b =>
      have : a = b := Array.toList_inj.mp h
      rw [this]
theorem nm_abc {x : Str} (h : isNm x = true) : ∀ c ∈ cp x, 97 ≤ c ∧ c ≤ 122 := by
  unfold isNm at h
  have h2 := (Bool.and_eq_true_iff.mp h).2
  intro c hc
  have z := of_decide_eq_true (List.all_eq_true.mp h2 c hc)
  have all : ∀ c ∈ ABC.cps.toList, 97 ≤ c ∧ c ≤ 122 := by decide +kernel
  exact all c z
theorem split_sp {s : Nat} : ∀ {a b : List Nat} {x y : List Nat}, s ∉ a → s ∉ b → a ++ s :: x = b ++ s :: y → a = b ∧ x = y
  | [], [], _, _, _, _, e => ⟨rfl, (List.cons.inj e).2⟩
  | [], c :: b, _, _, _, nb, e => absurd (List.mem_cons.mpr (.inl (List.cons.inj e).1)) nb
  | c :: a, [], _, _, na, _, e => absurd (List.mem_cons.mpr (.inl (List.cons.inj e).1.symm)) na
  | c :: a, d :: b, x, y, na, nb, e => by
    obtain ⟨e1, e2⟩ := List.cons.inj e
    obtain ⟨e3, e4⟩ := split_sp (fun z => na (List.mem_cons_of_mem _ z)) (fun z => nb (List.mem_cons_of_mem _ z)) e2
    exact ⟨by rw [e1, e3], e4⟩
/-- digits, then something else -/
theorem split_dg {p : Nat → Prop} : ∀ {a b : List Nat} {s t : Nat} {x y : List Nat}, (∀ c ∈ a, p c) → (∀ c ∈ b, p c) → ¬ p s → ¬ p t → a ++ s :: x = b ++ t :: y → a = b ∧ s :: x = t :: y
  | [], [], _, _, _, _, _, _, _, _, e => ⟨rfl, e⟩
  | [], c :: b, s, _, _, _, _, hb, ns, _, e => absurd ((List.cons.inj e).1 ▸ hb c List.mem_cons_self) ns
  | c :: a, [], _, t, _, _, ha, _, _, nt, e => absurd ((List.cons.inj e).1 ▸ ha c List.mem_cons_self) nt
  | c :: a, d :: b, s, t, x, y, ha, hb, ns, nt, e => by
    obtain ⟨e1, e2⟩ := List.cons.inj e
    obtain ⟨e3, e4⟩ := split_dg (fun z m => ha z (List.mem_cons_of_mem _ m)) (fun z m => hb z (List.mem_cons_of_mem _ m)) ns nt e2
    exact ⟨by rw [e1, e3], e4⟩
def dgV (l : List Nat) : Int := l.foldl (fun (a : Int) (c : Nat) => a * 10 + ((c : Int) - 48)) 0
theorem dg_ok {n : Int} (h0 : 0 ≤ n) (h1 : n ≤ 500) : (∀ c ∈ cp (Str.ofString (toString n)), 48 ≤ c ∧ c ≤ 57) ∧ dgV (cp (Str.ofString (toString n))) = n := by
  have all : ∀ k : Fin 501, ((cp (Str.ofString (toString ((k.val : Nat) : Int)))).all fun c => decide (48 ≤ c ∧ c ≤ 57)) = true ∧ dgV (cp (Str.ofString (toString ((k.val : Nat) : Int)))) = ((k.val : Nat) : Int) := by decide +kernel
  have z := all ⟨n.toNat, by omega⟩
  have e : ((n.toNat : Nat) : Int) = n := by omega
  simp only [e] at z
  exact ⟨fun c hc => of_decide_eq_true (List.all_eq_true.mp z.1 c hc), z.2⟩
/-- events, each behind a comma -/
def bodyT : Evs → List Nat
  | .nil => []
  | .wait t r => 44 :: 32 :: ([119, 97, 105, 116, 32] ++ cp t.text ++ bodyT r)
  | .leave t r => 44 :: 32 :: ([108, 101, 97, 118, 101, 32] ++ cp t.text ++ bodyT r)
  | .hear n r => 44 :: 32 :: ([104, 101, 97, 114, 32] ++ cp (Str.ofString (toString n)) ++ bodyT r)
def restT (es : Evs) : List Nat := match bodyT es with
  | [] => []
  | _ :: r => 32 :: 40 :: r.drop 1 ++ [41]
theorem join_body : ∀ es : Evs, bodyT es = (es.texts.map fun x => 44 :: 32 :: cp x).flatten
  | .nil => by unfold Evs.texts bodyT; rfl
  | .wait t r => by
    unfold Evs.texts bodyT
    rw [join_body r, List.map_cons, List.flatten_cons, cp_app, cp_app]
    rfl
  | .leave t r => by
    unfold Evs.texts bodyT
    rw [join_body r, List.map_cons, List.flatten_cons, cp_app, cp_app]
    rfl
  | .hear n r => by
    unfold Evs.texts bodyT
    rw [join_body r, List.map_cons, List.flatten_cons, cp_app, cp_app]
    rfl
theorem join_cp : ∀ (x : Str) (l : List Str), 44 :: 32 :: cp (Txt.join ", " (x :: l)) = ((x :: l).map fun x => 44 :: 32 :: cp x).flatten
  | x, [] => by
    rw [TL.join_eq]
    simp
    rfl
  | x, y :: l => by
    rw [joinT_cons2, cp_app, cp_app, List.map_cons, List.flatten_cons, ← join_cp y l]
    have : cp (", " : Str) = [44, 32] := by decide +kernel
    rw [this]
    simp
theorem headW_cp (nm kd : Str) (bad new : Bool) (es : Evs) : cp (Txt.join " " (headW nm kd bad new es.texts)) = cp nm ++ 32 :: (cp kd ++ 32 :: (cp (if bad = true then ("bad" : Str) else "good") ++ ((if new = true then [32, 110, 101, 119] else []) ++ restT es))) := by
  have sp : cp (" " : Str) = [32] := by decide +kernel
  have c1 : cp ("(" : Str) = [40] := by decide +kernel
  have c2 : cp (")" : Str) = [41] := by decide +kernel
  have c3 : cp ("new" : Str) = [110, 101, 119] := by decide +kernel
  have one : ∀ x : Str, Txt.join " " [x] = x := fun x => by rw [TL.join_eq]; rfl
  unfold headW restT
  rw [join_body es]
  cases e : es.texts with
  | nil =>
    cases new
    · simp only [List.isEmpty_nil, Bool.false_eq_true, if_false, if_true, List.append_nil, List.cons_append, List.nil_append, List.map_nil, List.flatten_nil, joinT_cons2, one, cp_app, sp]
      simp
    · simp only [List.isEmpty_nil, Bool.false_eq_true, if_false, if_true, List.append_nil, List.cons_append, List.nil_append, List.map_nil, List.flatten_nil, joinT_cons2, one, cp_app, sp, c3]
      simp
  | cons x l =>
    have j := join_cp x l
    rw [← j]
    cases new
    · simp only [List.isEmpty_cons, Bool.false_eq_true, if_false, if_true, List.append_nil, List.cons_append, List.nil_append, joinT_cons2, one, cp_app, sp, c1, c2]
      simp
    · simp only [List.isEmpty_cons, Bool.false_eq_true, if_false, if_true, List.append_nil, List.cons_append, List.nil_append, joinT_cons2, one, cp_app, sp, c1, c2, c3]
      simp
theorem text_cp (nm kd : Str) (bad : Bool) (es : Evs) : cp (Tr.node nm kd bad es).text = cp nm ++ 32 :: (cp kd ++ 32 :: (cp (if bad = true then ("bad" : Str) else "good") ++ restT es)) := by
  unfold Tr.text Tr.words
  rw [headW_cp]
  rfl
/-- what may stand behind a call -/
inductive Behind : List Nat → Prop
  | nil : Behind []
  | comma (x : List Nat) : Behind (44 :: x)
  | close (x : List Nat) : Behind (41 :: x)
theorem head_body (r : Evs) {x : List Nat} (hx : ∃ z, x = 41 :: z) : ∃ (s : Nat) (y : List Nat), bodyT r ++ x = s :: y ∧ s < 48 := by
  obtain ⟨z, rfl⟩ := hx
  cases r with
  | nil => exact ⟨41, _, rfl, by decide⟩
  | wait t r => exact ⟨44, _, rfl, by decide⟩
  | leave t r => exact ⟨44, _, rfl, by decide⟩
  | hear n r => exact ⟨44, _, rfl, by decide⟩
theorem behind_body (r : Evs) {x : List Nat} (hx : ∃ z, x = 41 :: z) : Behind (bodyT r ++ x) := by
  obtain ⟨z, rfl⟩ := hx
  cases r with
  | nil => exact .close _
  | wait t r => exact .comma _
  | leave t r => exact .comma _
  | hear n r => exact .comma _
mutual
theorem text_inj : ∀ (t u : Tr) (x y : List Nat), t.fit → u.fit → Behind x → Behind y → cp t.text ++ x = cp u.text ++ y → t = u ∧ x = y
  | .node nm kd bad es, .node nm2 kd2 bad2 es2, x, y, f, f2, bx, by_, e => by
    unfold Tr.fit at f f2
    rw [text_cp, text_cp] at e
    simp only [List.append_assoc, List.cons_append] at e
    have no32 : ∀ {z : Str}, isNm z = true → 32 ∉ cp z := fun h m => by have := nm_abc h 32 m; omega
    obtain ⟨e1, e⟩ := split_sp (no32 f.1) (no32 f2.1) e
    obtain ⟨e2, e⟩ := split_sp (no32 f.2.1) (no32 f2.2.1) e
    have g1 : cp ("good" : Str) = [103, 111, 111, 100] := by decide +kernel
    have g2 : cp ("bad" : Str) = [98, 97, 100] := by decide +kernel
    have eb : bad = bad2 ∧ restT es ++ x = restT es2 ++ y := by
      cases bad <;> cases bad2 <;> simp [g1, g2] at e ⊢ <;> exact e
    obtain ⟨e3, e⟩ := eb
    have fin : es = es2 ∧ x = y := by
      have step := body_inj es es2 (41 :: x) (41 :: y) f.2.2.2.2 f2.2.2.2.2 ⟨_, rfl⟩ ⟨_, rfl⟩
      unfold restT at e
      have hb : ∀ es : Evs, bodyT es = [] ∧ es = .nil ∨ ∃ r, bodyT es = 44 :: 32 :: r := by
        intro es
        cases es with
        | nil => exact .inl ⟨rfl, rfl⟩
        | wait t r => exact .inr ⟨_, rfl⟩
        | leave t r => exact .inr ⟨_, rfl⟩
        | hear n r => exact .inr ⟨_, rfl⟩
      rcases hb es with ⟨h1, z1⟩ | ⟨r1, h1⟩
      · rcases hb es2 with ⟨h2, z2⟩ | ⟨r2, h2⟩
        · rw [h1, h2] at e
          exact ⟨by rw [z1, z2], e⟩
        · rw [h1, h2] at e
          cases bx with
          | nil => simp at e
          | comma x => simp at e
          | close x => simp at e
      · rcases hb es2 with ⟨h2, z2⟩ | ⟨r2, h2⟩
        · rw [h1, h2] at e
          cases by_ with
          | nil => simp at e
          | comma x => simp at e
          | close x => simp at e
        · rw [h1, h2] at e
          simp at e
          rw [h1, h2] at step
          have s := step (by simp; exact e)
          exact ⟨s.1, (List.cons.inj s.2).2⟩
    exact ⟨by rw [cp_inj e1, cp_inj e2, e3, fin.1], fin.2⟩
theorem body_inj : ∀ (es fs : Evs) (x y : List Nat), es.fit → fs.fit → (∃ z, x = 41 :: z) → (∃ z, y = 41 :: z) → bodyT es ++ x = bodyT fs ++ y → es = fs ∧ x = y
  | .nil, .nil, _, _, _, _, _, _, e => ⟨rfl, e⟩
  | .nil, .wait t r, x, y, _, _, ⟨z, hz⟩, _, e => by rw [hz] at e; cases (List.cons.inj e).1
  | .nil, .leave t r, x, y, _, _, ⟨z, hz⟩, _, e => by rw [hz] at e; cases (List.cons.inj e).1
  | .nil, .hear t r, x, y, _, _, ⟨z, hz⟩, _, e => by rw [hz] at e; cases (List.cons.inj e).1
  | .wait t r, .nil, x, y, _, _, _, ⟨z, hz⟩, e => by rw [hz] at e; cases (List.cons.inj e).1
  | .leave t r, .nil, x, y, _, _, _, ⟨z, hz⟩, e => by rw [hz] at e; cases (List.cons.inj e).1
  | .hear t r, .nil, x, y, _, _, _, ⟨z, hz⟩, e => by rw [hz] at e; cases (List.cons.inj e).1
  | .wait t r, .wait u q, x, y, f, f2, hx, hy, e => by
    unfold Evs.fit at f f2
    unfold bodyT at e
    simp only [List.cons_append, List.nil_append, List.append_assoc, List.cons.injEq, true_and] at e
    obtain ⟨e1, e2⟩ := text_inj t u _ _ f.1 f2.1 (behind_body r hx) (behind_body q hy) e
    obtain ⟨e3, e4⟩ := body_inj r q x y f.2 f2.2 hx hy e2
    exact ⟨by rw [e1, e3], e4⟩
  | .leave t r, .leave u q, x, y, f, f2, hx, hy, e => by
    unfold Evs.fit at f f2
    unfold bodyT at e
    simp only [List.cons_append, List.nil_append, List.append_assoc, List.cons.injEq, true_and] at e
    obtain ⟨e1, e2⟩ := text_inj t u _ _ f.1 f2.1 (behind_body r hx) (behind_body q hy) e
    obtain ⟨e3, e4⟩ := body_inj r q x y f.2 f2.2 hx hy e2
    exact ⟨by rw [e1, e3], e4⟩
  | .hear n r, .hear m q, x, y, f, f2, hx, hy, e => by
    unfold Evs.fit at f f2
    unfold bodyT at e
    simp only [List.cons_append, List.nil_append, List.append_assoc, List.cons.injEq, true_and] at e
    obtain ⟨a1, a2⟩ := dg_ok f.1.1 f.1.2
    obtain ⟨b1, b2⟩ := dg_ok f2.1.1 f2.1.2
    obtain ⟨s, x2, hs, ns⟩ := head_body r hx
    obtain ⟨s2, y2, hs2, ns2⟩ := head_body q hy
    rw [hs, hs2] at e
    obtain ⟨e1, e2⟩ := split_dg (p := fun c => 48 ≤ c ∧ c ≤ 57) a1 b1 (by omega) (by omega) e
    rw [← hs, ← hs2] at e2
    obtain ⟨e3, e4⟩ := body_inj r q x y f.2 f2.2 hx hy e2
    have : n = m := by rw [← a2, ← b2, e1]
    exact ⟨by rw [this, e3], e4⟩
  | .wait t r, .leave u q, x, y, _, _, _, _, e => by unfold bodyT at e; simp at e
  | .wait t r, .hear u q, x, y, _, _, _, _, e => by unfold bodyT at e; simp at e
  | .leave t r, .wait u q, x, y, _, _, _, _, e => by unfold bodyT at e; simp at e
  | .leave t r, .hear u q, x, y, _, _, _, _, e => by unfold bodyT at e; simp at e
  | .hear t r, .wait u q, x, y, _, _, _, _, e => by unfold bodyT at e; simp at e
  | .hear t r, .leave u q, x, y, _, _, _, _, e => by unfold bodyT at e; simp at e
end
theorem Tr.text_inj {t u : Tr} (f : t.fit) (g : u.fit) (e : t.text = u.text) : t = u := (My.text_inj t u [] [] f g .nil .nil (by rw [e])).1
/-- a new call is told otherwise than an old one -/
theorem Tr.textS_ne (t : Tr) : t.textS true ≠ t.textS false := by
  cases t with
  | node nm kd bad es =>
    intro e
    have e2 := congrArg (fun x => (cp x).length) e
    change (cp (Txt.join " " (headW nm kd bad true es.texts))).length = (cp (Txt.join " " (headW nm kd bad false es.texts))).length at e2
    rw [headW_cp, headW_cp] at e2
    simp only [if_true, Bool.false_eq_true, if_false, List.length_append, List.length_cons, List.length_nil] at e2
    omega
end My

/-! ## Trees as data: equal just where they are one -/
namespace My
open PySem PySem.Spec PyProof.Rows L2 PySem.MyX
theorem strOk_of2 {x : Str} (h : ∀ c ∈ x.cps.toList, c < 0x110000) : PyData.strOk x = true := by
  unfold PyData.strOk
  rw [← Array.all_toList, List.all_eq_true]
  exact fun c hc => decide_eq_true (h c hc)
theorem tuple_len2 (ts : List Str) : (tupleText ts).length ≤ (ts.map (·.length)).sum + ts.length * 2 + 4 := by
  have j := join_len3 ", " ts
  have two : (", " : Str).length = 2 := by decide +kernel
  rw [two] at j
  unfold tupleText
  have e1 : (Str.ofString "(").length = 1 := by decide +kernel
  have e3 : (Str.ofString (if ts.length == 1 then ",)" else ")")).length ≤ 2 := by split <;> decide +kernel
  rw [app_len, app_len, e1]
  have j2 : (Str.join (Str.ofString ", ") ts).length ≤ (ts.map (·.length)).sum + ts.length * 2 := j
  omega
theorem repr_len2 {x : Str} (h : ∀ c ∈ cp x, c < 128) : (reprText x).length ≤ 10 * x.length + 2 := StrLaws.reprText_len x fun c hc => by
  have := h c hc
  omega
mutual
def Tr.data : Tr → PyData
  | .node nm kd bad es => .tuple [.str nm, .str kd, .bool bad, .tuple es.datas]
def Evs.datas : Evs → List PyData
  | .nil => []
  | .wait t r => .tuple [.str "wait", t.data] :: r.datas
  | .leave t r => .tuple [.str "leave", t.data] :: r.datas
  | .hear n r => .tuple [.str "hear", .int n] :: r.datas
end
mutual
theorem TrAt.dp {K : PySem.W.Frag} {H : Hp} : ∀ (t : Tr) (v : V), TrAt H v t → Dp K H v t.data
  | .node nm kd bad es, _, h => by
    cases h with
    | node h he r =>
      unfold Tr.data
      exact .tup (SqT.of h) (.cons (.str _) (.cons (.str _) (.cons (.bl _) (.cons (.tup (SqT.of he) (EvsAt.dp es _ r)) .nil))))
theorem EvsAt.dp {K : PySem.W.Frag} {H : Hp} : ∀ (es : Evs) (ps : List V), EvsAt H ps es → DpAll K H ps es.datas
  | .nil, _, h => by cases h; unfold Evs.datas; exact .nil
  | .wait t r, _, h => by
    cases h with
    | wait h ht hr =>
      unfold Evs.datas
      exact .cons (.tup (SqT.of h) (.cons (.str _) (.cons (TrAt.dp t _ ht) .nil))) (EvsAt.dp r _ hr)
  | .leave t r, _, h => by
    cases h with
    | leave h ht hr =>
      unfold Evs.datas
      exact .cons (.tup (SqT.of h) (.cons (.str _) (.cons (TrAt.dp t _ ht) .nil))) (EvsAt.dp r _ hr)
  | .hear n r, _, h => by
    cases h with
    | hear h hr =>
      unfold Evs.datas
      exact .cons (.tup (SqT.of h) (.cons (.str _) (.cons (.int _) .nil))) (EvsAt.dp r _ hr)
end
theorem eqv_pair_ne {a b : Str} (d : (a == b) = false) (x y : PyData) (xs ys : List PyData) : PyData.eqvAll (.tuple [.str a, x] :: xs) (.tuple [.str b, y] :: ys) = false := by
  simp only [PyData.eqvAll, PyData.eqv, d, Bool.false_and]
mutual
theorem Tr.eqv : ∀ t u : Tr, PyData.eqv t.data u.data = true ↔ t = u
  | .node nm kd bad es, .node nm2 kd2 bad2 es2 => by
    have ih := Evs.eqv es es2
    unfold Tr.data
    simp only [PyData.eqv, PyData.eqvAll, Bool.and_eq_true, beq_iff_eq, and_true, ih, Tr.node.injEq]
theorem Evs.eqv : ∀ es fs : Evs, PyData.eqvAll es.datas fs.datas = true ↔ es = fs
  | .nil, .nil => by unfold Evs.datas; simp [PyData.eqvAll]
  | .nil, .wait _ _ => by unfold Evs.datas; simp [PyData.eqvAll]
  | .nil, .leave _ _ => by unfold Evs.datas; simp [PyData.eqvAll]
  | .nil, .hear _ _ => by unfold Evs.datas; simp [PyData.eqvAll]
  | .wait _ _, .nil => by unfold Evs.datas; simp [PyData.eqvAll]
  | .leave _ _, .nil => by unfold Evs.datas; simp [PyData.eqvAll]
  | .hear _ _, .nil => by unfold Evs.datas; simp [PyData.eqvAll]
  | .wait t r, .wait u q => by
    have a := Tr.eqv t u
    have b := Evs.eqv r q
    unfold Evs.datas
    simp only [PyData.eqv, PyData.eqvAll, Bool.and_eq_true, beq_iff_eq, and_true, true_and, a, b, Evs.wait.injEq]
  | .leave t r, .leave u q => by
    have a := Tr.eqv t u
    have b := Evs.eqv r q
    unfold Evs.datas
    simp only [PyData.eqv, PyData.eqvAll, Bool.and_eq_true, beq_iff_eq, and_true, true_and, a, b, Evs.leave.injEq]
  | .hear n r, .hear m q => by
    have b := Evs.eqv r q
    unfold Evs.datas
    simp only [PyData.eqv, PyData.eqvAll, Bool.and_eq_true, beq_iff_eq, and_true, true_and, b, Evs.hear.injEq]
  | .wait t r, .leave u q => by
    unfold Evs.datas
    rw [eqv_pair_ne (a := "wait") (b := "leave") (by decide +kernel)]
    simp
  | .wait t r, .hear u q => by
    unfold Evs.datas
    rw [eqv_pair_ne (a := "wait") (b := "hear") (by decide +kernel)]
    simp
  | .leave t r, .wait u q => by
    unfold Evs.datas
    rw [eqv_pair_ne (a := "leave") (b := "wait") (by decide +kernel)]
    simp
  | .leave t r, .hear u q => by
    unfold Evs.datas
    rw [eqv_pair_ne (a := "leave") (b := "hear") (by decide +kernel)]
    simp
  | .hear t r, .wait u q => by
    unfold Evs.datas
    rw [eqv_pair_ne (a := "hear") (b := "wait") (by decide +kernel)]
    simp
  | .hear t r, .leave u q => by
    unfold Evs.datas
    rw [eqv_pair_ne (a := "hear") (b := "leave") (by decide +kernel)]
    simp
end
theorem nm_ok {x : Str} (h : isNm x = true) : PyData.strOk x = true := strOk_of2 fun c hc => by have := nm_abc h c hc; omega
mutual
theorem Tr.lay : ∀ t : Tr, t.fit → PyData.canLay0 t.data = true
  | .node nm kd bad es, f => by
    unfold Tr.fit at f
    unfold Tr.data
    simp only [PyData.canLay0, PyData.canLayAll0, nm_ok f.1, nm_ok f.2.1, Evs.lay es f.2.2.2.2, Bool.and_true]
theorem Evs.lay : ∀ es : Evs, es.fit → PyData.canLayAll0 es.datas = true
  | .nil, _ => by unfold Evs.datas; rfl
  | .wait t r, f => by
    unfold Evs.fit at f
    have d : PyData.strOk "wait" = true := by decide +kernel
    unfold Evs.datas
    simp only [PyData.canLay0, PyData.canLayAll0, d, Tr.lay t f.1, Evs.lay r f.2, Bool.and_true]
  | .leave t r, f => by
    unfold Evs.fit at f
    have d : PyData.strOk "leave" = true := by decide +kernel
    unfold Evs.datas
    simp only [PyData.canLay0, PyData.canLayAll0, d, Tr.lay t f.1, Evs.lay r f.2, Bool.and_true]
  | .hear n r, f => by
    unfold Evs.fit at f
    have d : PyData.strOk "hear" = true := by decide +kernel
    unfold Evs.datas
    simp only [PyData.canLay0, PyData.canLayAll0, d, Evs.lay r f.2, Bool.and_true]
end
mutual
theorem Tr.ddepth : ∀ t : Tr, PyData.depth t.data ≤ 3 * t.deep
  | .node nm kd bad es => by
    have := Evs.ddepth es
    unfold Tr.data Tr.deep
    simp only [PyData.depth, PyData.depthAll]
    omega
theorem Evs.ddepth : ∀ es : Evs, PyData.depthAll es.datas ≤ 3 * es.deep + 1
  | .nil => by unfold Evs.datas; simp [PyData.depthAll]
  | .wait t r => by
    have a := Tr.ddepth t
    have b := Evs.ddepth r
    unfold Evs.datas Evs.deep
    simp only [PyData.depth, PyData.depthAll]
    omega
  | .leave t r => by
    have a := Tr.ddepth t
    have b := Evs.ddepth r
    unfold Evs.datas Evs.deep
    simp only [PyData.depth, PyData.depthAll]
    omega
  | .hear n r => by
    have b := Evs.ddepth r
    unfold Evs.datas Evs.deep
    simp only [PyData.depth, PyData.depthAll]
    omega
end
theorem Tr.shaped {t : Tr} (f : t.fit) (d : t.deep ≤ 20) : SeqAt.shaped t.data = true := by
  unfold SeqAt.shaped
  have := t.ddepth
  rw [t.lay f, decide_eq_true (by omega)]
  rfl
mutual
theorem text_lt : ∀ t : Tr, t.fit → ∀ c ∈ cp t.text, c < 128
  | .node nm kd bad es, f => by
    unfold Tr.fit at f
    have g1 : ∀ c ∈ cp (if bad = true then ("bad" : Str) else "good"), c < 128 := by cases bad <;> decide +kernel
    intro c hc
    rw [text_cp] at hc
    simp only [List.mem_append, List.mem_cons] at hc
    rcases hc with h | h | h | h | h | h
    · have := nm_abc f.1 c h; omega
    · omega
    · have := nm_abc f.2.1 c h; omega
    · omega
    · exact g1 c h
    · unfold restT at h
      have bl := body_lt es f.2.2.2.2
      revert bl h
      cases bodyT es with
      | nil => exact fun h => nomatch h
      | cons a r =>
        intro h bl
        simp only [List.mem_append, List.mem_cons, List.not_mem_nil, or_false] at h
        rcases h with (h | h | h) | h
        · omega
        · omega
        · exact bl c (List.mem_cons_of_mem _ (List.mem_of_mem_drop h))
        · omega
theorem body_lt : ∀ es : Evs, es.fit → ∀ c ∈ bodyT es, c < 128
  | .nil, _ => fun c h => nomatch h
  | .wait t r, f => by
    unfold Evs.fit at f
    intro c hc
    unfold bodyT at hc
    simp only [List.mem_append, List.mem_cons, List.not_mem_nil, or_false] at hc
    have a := text_lt t f.1 c
    have b := body_lt r f.2 c
    rcases hc with h | h | (h | h) | h <;> first | omega | exact a h | exact b h
  | .leave t r, f => by
    unfold Evs.fit at f
    intro c hc
    unfold bodyT at hc
    simp only [List.mem_append, List.mem_cons, List.not_mem_nil, or_false] at hc
    have a := text_lt t f.1 c
    have b := body_lt r f.2 c
    rcases hc with h | h | (h | h) | h <;> first | omega | exact a h | exact b h
  | .hear n r, f => by
    unfold Evs.fit at f
    intro c hc
    unfold bodyT at hc
    simp only [List.mem_append, List.mem_cons, List.not_mem_nil, or_false] at hc
    have a := (dg_ok f.1.1 f.1.2).1 c
    have b := body_lt r f.2 c
    rcases hc with h | h | (h | h) | h <;> first | omega | (have := a h; omega) | exact b h
end
end My

/-! ## zip(t, u) of two tuples -/
namespace My
open PySem PySem.Spec PyProof.Rows L2
/-- what stands at a and at b at each turn, an item of each in a new pair -/
def ItTT (K : PySem.W.Frag) (a b : Addr) : It where
  go := fun i H => ∃ (xs ys : List V) (x y : V), (SqT K H a xs ∧ xs[i]? = some x) ∧ SqT K H b ys ∧ ys[i]? = some y
  yld := fun i H v H' => ∃ T x y, (v = .ref T ∧ H T = none) ∧ H' = upd H T (.tup [x, y]) ∧ ∀ xs ys, SqT K H a xs → SqT K H b ys → xs[i]? = some x ∧ ys[i]? = some y
  stop := fun i H => ∃ xs ys : List V, (SqT K H a xs ∧ SqT K H b ys) ∧ i = min xs.length ys.length
/-- the cells of a zip that begins where the heap has n objects -/
def cellsT (n : Nat) : List Addr := [n + 4, n + 2, n + 3, n, n + 1]
def StTT (n a b : Addr) (i : Nat) (h : Heap) : Prop := (IsZip h (n + 4) (n + 2) (n + 3) .none ∧ IsTupOf2 h (n + 2) (.ref n) (.ref (n + 1))) ∧ (∃ x y, IsTupOf2 h (n + 3) x y) ∧ h.IsTupleIter n a i ∧ h.IsTupleIter (n + 1) b i
theorem ne_natT {x y : Nat} (h : x < y ∨ y < x) : @Ne Addr x y := fun e => by
  have e' : @Eq Nat x y := e
  omega
theorem sepT {n a b : Nat} (ha : a < n) (hb : b < n) : ZipSep2 (n + 4) (n + 2) (n + 3) n (n + 1) [n, a] [n + 1, b] := by
  have o : ∀ {x y z : Nat}, (x < y ∨ y < x) → (x < z ∨ z < x) → x ∉ ([y, z] : List Addr) := fun h1 h2 h => by
    rcases List.mem_cons.mp h with h | h
    · exact ne_natT h1 h
    · exact ne_natT h2 (List.mem_singleton.mp h)
  exact ⟨ne_natT (by omega), ne_natT (by omega), ne_natT (by omega), ne_natT (by omega), List.mem_cons_self, o (by omega) (by omega), o (by omega) (by omega), ne_natT (by omega), List.mem_cons_self, o (by omega) (by omega), o (by omega) (by omega), o (by omega) (by omega), o (by omega) (by omega)⟩
theorem memT {n c : Nat} (h : c ∈ cellsT n) : c = n + 4 ∨ c = n + 2 ∨ c = n + 3 ∨ c = n ∨ c = n + 1 := by simpa [cellsT] using h
theorem StTT.lt {n a b : Addr} {i : Nat} {h : Heap} (st : StTT n a b i h) : n + 4 < h.objs.size := Heap.lt_size st.1.1
theorem turnTT {P : Program} {w : World} {K : PySem.W.Frag} {elts : List Expr} {kk : Nat} {tpos : Pos} {n a b : Nat} (ha : a < n) (hb : b < n) : Turn P w K (.Tuple elts kk tpos) (ItTT K a b) (cellsT n) (n + 4) (StTT n a b) where
  mem := List.mem_cons_self
  obj := fun i h st c hc => by
    obtain ⟨⟨s1, s2⟩, ⟨x, y, s3⟩, ⟨o4, s4, _, e4⟩, ⟨o5, s5, _, e5⟩⟩ := st
    rcases memT hc with r | r | r | r | r <;> subst r
    · exact ⟨_, s1, fun v k => nomatch k⟩
    · exact ⟨_, s2, fun v k => nomatch k⟩
    · exact ⟨_, s3, fun v k => nomatch k⟩
    · exact ⟨o4, s4, fun v k => by rw [e4] at k; cases k⟩
    · exact ⟨o5, s5, fun v k => by rw [e5] at k; cases k⟩
  keep := fun i h h' st k => by
    obtain ⟨⟨s1, s2⟩, ⟨x, y, s3⟩, s4, s5⟩ := st
    have m : ∀ c, c = n + 4 ∨ c = n + 2 ∨ c = n + 3 ∨ c = n ∨ c = n + 1 → c ∈ cellsT n := fun c hc => by simpa [cellsT] using hc
    exact ⟨⟨k _ (m _ (.inl rfl)) _ s1, k _ (m _ (.inr (.inl rfl))) _ s2⟩, ⟨x, y, k _ (m _ (.inr (.inr (.inl rfl)))) _ s3⟩, s4.at fun o e => k _ (m _ (.inr (.inr (.inr (.inl rfl))))) o e, s5.at fun o e => k _ (m _ (.inr (.inr (.inr (.inr rfl))))) o e⟩
  item := by
    intro X hP hw hK hc i pins s σ H E I hf st hg
    subst hP hw hK
    have big := st.lt
    obtain ⟨⟨s1, s2⟩, ⟨x0, y0, s3⟩, s4, s5⟩ := st
    obtain ⟨xs, ys, x, y, ⟨tx, hx⟩, ly, hy⟩ := hg
    obtain ⟨us, ru, pu, _⟩ := I.tuple tx
    obtain ⟨ws, rw_, pw, _⟩ := I.tuple ly
    have pT : s.heap.IsTuple a us.toArray := pu
    have pU : s.heap.IsTuple b ws.toArray := pw
    obtain ⟨u, hu, ru1⟩ := ru.get hx
    obtain ⟨v, hv, rv1⟩ := rw_.get hy
    have lu : i < us.toArray.size := by simpa using (List.getElem?_eq_some_iff.mp hu).1
    have lv : i < ws.toArray.size := by simpa using (List.getElem?_eq_some_iff.mp hv).1
    refine wpAny_pyNext_zipD2_item (sepT ha hb) (Draws.tuple (A := X.A.in1) (I.ok.hd hc) n a (Nat.ne_of_lt ha) us.toArray) (Draws.tuple (A := X.A.in1) (I.ok.hd hc) (n + 1) b (ne_natT (by omega)) ws.toArray) s1 s2 s3 ⟨s4, pT⟩ ⟨s5, pU⟩ lu lv fun u' v' h' tk du dv k1 k2 k3 k4 k5 k6 k7 => ?_
    obtain rfl : u' = u := by
      have z : us.toArray[i]? = some u' := du
      rw [List.getElem?_toArray, hu] at z
      exact (Option.some.inj z).symm
    obtain rfl : v' = v := by
      have z : ws.toArray[i]? = some v' := dv
      rw [List.getElem?_toArray, hv] at z
      exact (Option.some.inj z).symm
    refine ⟨_, rfl, wpAny_letOwnedTupleGo_zip (s := { s with heap := h', toks := tk }) k1 fun h2 m1 sb => ?_⟩
    have other : ∀ c : Nat, c ≠ n + 4 → ∀ o, h'.get? c = some o → h2.get? c = some o := fun c nc o e => (sb.2 c nc).trans e
    have made : ObjOk X.prog X.w (upd H s.heap.objs.size (.tup [x, y])) h2 s.heap.objs.size (.tup [x, y]) :=
      ⟨(by show 2 ≤ sizeLine; decide), [u', v'], .cons ru1 (.cons rv1 .nil), ⟨_, other _ (Nat.ne_of_gt big) _ k5, rfl, _, rfl⟩⟩
    have stay : ∀ c o, c ∉ cellsT n → s.heap.get? c = some o → h2.get? c = some o := fun c o nc e => by
      have nn : c ≠ n + 4 ∧ c ≠ n + 3 ∧ c ≠ n ∧ c ≠ n + 1 := by
        refine ⟨?_, ?_, ?_, ?_⟩ <;> (intro z; exact nc (by simp [cellsT, z]))
      exact other c nn.1 o (k7 c o nn.1 nn.2.1 nn.2.2.1 nn.2.2.2 e)
    have I2 : Inv X pins σ (upd H s.heap.objs.size (.tup [x, y])) { s with heap := h2, toks := tk } := I.turnedNew (ch := cellsT n) stay hf (Nat.le_refl _) made
    have s2' : IsTupOf2 h' (n + 2) (.ref n) (.ref (n + 1)) := k7 _ _ (ne_natT (by omega)) (ne_natT (by omega)) (ne_natT (by omega)) (ne_natT (by omega)) s2
    refine ⟨.ref s.heap.objs.size, _, I2, rfl, ⟨_, x, y, ⟨rfl, I.hok.fresh (Nat.le_refl _)⟩, rfl, fun l m hl hm => ⟨by rw [I.tuple_inj hl tx]; exact hx, by rw [I.tuple_inj hm ly]; exact hy⟩⟩, ⟨⟨m1, other _ (ne_natT (by omega)) _ s2'⟩, ⟨u', v', other _ (ne_natT (by omega)) _ k2⟩, k3.1.at fun o e => other _ (ne_natT (by omega)) o e, k4.1.at fun o e => other _ (ne_natT (by omega)) o e⟩, fun c hcm => ?_⟩
    have small : c < s.heap.objs.size := by
      have z : ∀ k : Nat, k ≤ 4 → n + k < s.heap.objs.size := fun k hk => Nat.lt_of_le_of_lt (Nat.add_le_add_left hk n) big
      rcases memT hcm with r | r | r | r | r <;> rw [r]
      · exact z 4 (by decide)
      · exact z 2 (by decide)
      · exact z 3 (by decide)
      · exact z 0 (by decide)
      · exact z 1 (by decide)
    rw [upd_ne (Nat.ne_of_lt small)]
    exact (hf c hcm).1
  done := by
    intro X hP hw hK hc i pins s σ H E I hf st hg
    subst hP hw hK
    obtain ⟨⟨s1, s2⟩, ⟨x0, y0, s3⟩, s4, s5⟩ := st
    obtain ⟨xs, ys, ⟨tx, ly⟩, hend⟩ := hg
    obtain ⟨us, ru, pu, _⟩ := I.tuple tx
    obtain ⟨ws, rw_, pw, _⟩ := I.tuple ly
    have pT : s.heap.IsTuple a us.toArray := pu
    have pU : s.heap.IsTuple b ws.toArray := pw
    have e1 := ru.length
    have e2 := rw_.length
    have n1 : us.toArray.size = xs.length := by simp [e1]
    have n2 : ws.toArray.size = ys.length := by simp [e2]
    have ends : i = us.toArray.size ∨ i = ws.toArray.size := by
      rw [n1, n2]
      rcases Nat.le_total xs.length ys.length with z | z
      · exact .inl (by rw [hend]; exact Nat.min_eq_left z)
      · exact .inr (by rw [hend]; exact Nat.min_eq_right z)
    refine wpAny_pyNext_zipD2_end (sepT ha hb) (Draws.tuple (A := X.A.in1) (I.ok.hd hc) n a (Nat.ne_of_lt ha) us.toArray) (Draws.tuple (A := X.A.in1) (I.ok.hd hc) (n + 1) b (ne_natT (by omega)) ws.toArray) s1 s2 s3 ⟨s4, pT⟩ ⟨s5, pU⟩ (by omega) (by omega) ends fun h' tk k7 => ⟨rfl, ?_⟩
    refine I.turnedL (ch := cellsT n) (fun c o nc e => ?_) hf
    have nn : c ≠ n + 4 ∧ c ≠ n + 3 ∧ c ≠ n ∧ c ≠ n + 1 := by
      refine ⟨?_, ?_, ?_, ?_⟩ <;> (intro z; exact nc (by simp [cellsT, z]))
    exact k7 c o nn.1 nn.2.1 nn.2.2.1 nn.2.2.2 e
  self := fun A i s Q E st h => wpAny_pyIter_zip st.1.1 h
theorem walkTT {K : PySem.W.Frag} {a b : Addr} {xs ys : List V} : Walk (ItTT K a b) (min xs.length ys.length) (fun H => SqT K H a xs ∧ SqT K H b ys) (YPair (fun i => xs[i]?) (fun i => ys[i]?)) where
  goes := fun i _ hi q => by
    have h1 : i < xs.length := Nat.lt_of_lt_of_le hi (Nat.min_le_left _ _)
    have h2 : i < ys.length := Nat.lt_of_lt_of_le hi (Nat.min_le_right _ _)
    exact ⟨xs, ys, xs[i], ys[i], ⟨q.1, List.getElem?_eq_getElem h1⟩, q.2, List.getElem?_eq_getElem h2⟩
  stops := fun _ q => ⟨xs, ys, q, rfl⟩
  yields := fun i H v H' _ q yl => by
    obtain ⟨T, x, y, ⟨h1, h2⟩, h3, h4⟩ := yl
    obtain ⟨e1, e2⟩ := h4 xs ys q.1 q.2
    exact ⟨T, x, y, h1, h2, h3, e1, e2⟩
theorem two_refsT {a b : Addr} {u v : Value} (h : Vals [.ref a, .ref b] [u, v]) : u = .ref a ∧ v = .ref b := by
  cases h with
  | cons r t =>
    cases t with
    | cons r2 _ => exact ⟨r, r2⟩
def iZipT (K : PySem.W.Frag) (ta : TA) : TI := fun σ H R => ta σ H fun vs H1 => ∃ (a b : Addr) (xs ys : List V), vs = [.ref a, .ref b] ∧ SqT K H1 a xs ∧ SqT K H1 b ys ∧ R (ItTT K a b) H1
theorem pi_zipT {X : Cx} (K : PySem.W.Frag) {e e2 : Expr} {ta : TA} {p pos tpos : Pos} {elts : List Expr} {kk : Nat} (hg : Gl X "zip") (hm : X.mg "zip" = none) (ha : PA X [e, e2] ta) (hK : X.K = K := by rfl)
    (hs : starEach [e, e2] X.env = (false, eval e X.env) :: starEach [e2] X.env := by rfl) (hpl : (backTo pos (starEach [e2] X.env)).any (·.1) = false := by rfl) : PI X (.Tuple elts kk tpos) (.Call (.Name "zip" p) [e, e2] [] pos) (iZipT K ta) := by
  subst hK
  refine ⟨fun pins s σ H R I h => ?_⟩
  refine Call_ (ld_blt I hg hm PyProof.Rows.boot_zip (PyProof.Rows.callWith_type1 (thn (ha.run pos pins s σ H _ I h) fun us s1 ⟨vs, H1, I1, r1, q1⟩ => ?_) hs hpl))
  obtain ⟨a, b, xs, ys, rfl, tx, ly, q⟩ := q1
  · obtain ⟨ua, ua2, rfl⟩ : ∃ u u2, us = [u, u2] := by
      have z := r1.length
      match us, z with
      | [u, u2], _ => exact ⟨u, u2, rfl⟩
    obtain ⟨rfl, rfl⟩ := two_refsT r1
    obtain ⟨its, _, pu, _⟩ := I1.tuple tx
    obtain ⟨jts, _, pw, _⟩ := I1.tuple ly
    have pT : s1.heap.IsTuple a its.toArray := pu
    have pU : s1.heap.IsTuple b jts.toArray := pw
    have la : (a : Nat) < s1.heap.objs.size := by
      obtain ⟨o, e, _⟩ := pT
      exact Heap.lt_size e
    have lb : (b : Nat) < s1.heap.objs.size := by
      obtain ⟨o, e, _⟩ := pU
      exact Heap.lt_size e
    refine zip_begins2 (begins_tuple a its.toArray) (begins_tuple b jts.toArray) pT pU fun h' c1 c2 c3 c4 c5 _ kk => wpAny_pyIter_zip c1 ?_
    have I2 : Inv X pins σ H1 { s1 with heap := h' } := I1.kept kk
    have st : StTT s1.heap.objs.size a b 0 h' := ⟨⟨c1, c2⟩, ⟨_, _, c3⟩, ⟨_, c4, rfl, rfl⟩, ⟨_, c5, rfl, rfl⟩⟩
    refine ⟨s1.heap.objs.size + 4, cellsT s1.heap.objs.size, _, _, H1, rfl, I2, turnTT la lb, st, fun c hc => ?_, q⟩
    have big : s1.heap.objs.size ≤ c := by
      rcases memT hc with r | r | r | r | r <;> rw [r]
      · exact Nat.le_add_right _ _
      · exact Nat.le_add_right _ _
      · exact Nat.le_add_right _ _
      · exact Nat.le_refl _
      · exact Nat.le_add_right _ _
    exact I1.fpOk big (I1.hok.fresh big)
end My

/-! ## The law's def called by the claim's caller: no guard stands -/
namespace My
open PySem PySem.Spec PyProof.Rows L2
/-- what a def does where no guard stands around it -/
structure FnTop (P : Program) (w : World) (K : PySem.W.Frag) (mg : Str → Option Value) (base : Heap) (k : Nat) (f : Addr) (fd : FuncData) (ps : List Str) (sp : Sp) : Prop where
  go : ∀ (A : Around) (out : List Env) (s : Shared) (H : Hp) (us : List Value) (vs : List V) (Q : VK), A.guards = some [] → Room k A → Env0 P w K mg base A out s H → BindsTo s fd ⟨us, []⟩ (ps.zip us) → Vals vs us → sp vs H Q E0 →
    codeAny (model P w) A (.call (.ref f) ⟨us, []⟩) (CR CX0 out P w H s Q E0) s
section
variable {P : Program} {w : World} {K : PySem.W.Frag} {mg : Str → Option Value} {base : Heap} {k : Nat} {f : Addr} {fd : FuncData} {N ps : List Str} {sp : Sp} {x q : Str} {st : Stmt}
set_option maxHeartbeats 400000 in
theorem top_of (F : Fun K x q st f fd) (S : FnScope N ps (defScope st)) (ln : ∀ vs H Q E, sp vs H Q E → vs.length = ps.length)
    (body : ∀ (cdv : Value) (A : Around) (out : List Env) (s : Shared) (H : Hp) (vs : List V) (Q : VK), A.guards = some [] → Room k (A.deeper (envOfC q (defScope st) s.heap.objs.size f cdv)) → sp vs H Q E0 →
      ∃ t, PSs (cxOf CX0 P w K mg base N q (defScope st) f cdv A out s H E0).nox (defBody st) t ∧ t { nx := fun _ H' => Q .non H', rt := Q } (start N vs) H) : FnTop P w K mg base (k + 1) f fd ps sp := by
  obtain ⟨oc, od, kV, dc, pm, an, cdv, ct, sl, rfl, l, c⟩ := F.ex
  constructor
  intro A out s H us vs Q gu room e0 bt rv h
  have n := ln _ _ _ _ h
  have Y : K.In s.heap := e0.mod.kin.keeps fun b o e => (e0.bs b o e).1
  have nl : s.heap.NoLimit := e0.mod.nolimit.keeps fun b o e => (e0.bs b o e).1
  have kinds : ∀ y ∈ ps.zip us, (defScope st).names.lookup y.1 = some .local ∨ ((defScope st).names.lookup y.1 = some .cell ∧ ((cellsFrom (s.heap.objs.size + 1) (defScope st).names []).lookup y.1).isSome = true) := by
    rintro ⟨a, b⟩ hy
    exact (S.par a (List.of_mem_zip hy).1).imp id fun z => ⟨z, PySem.W.cellsFrom_some _ _ _ (.inl z)⟩
  refine codeAny_call_function room.depth (Y _ _ l) rfl S.co S.gen rfl (PySem.W.codeRec_of Y c) (bt _ _ _ _ ?_)
  refine wpAny_newFunctionEnv_cells S.kind kinds fun env he s1 IC => ?_
  subst he
  refine ⟨nl.keeps IC.toInCall.keep, codeAny_func ?_⟩
  obtain ⟨t, ht, hq⟩ := body cdv A out s H vs Q gu (room.deeper _) h
  have I : Inv (cxOf CX0 P w K mg base N q (defScope st) f cdv A out s H E0) [] (start N vs) H s1 := inv_start S room.hd e0 n rv IC
  have go := ht.nox.run [] s1 (start N vs) H _ I hq
  refine wpAny_mono go (fun fl s2 h2 => ?_) fun _ _ z => z
  cases fl with
  | ret u =>
    obtain ⟨v, σ2, H2, J, r, z⟩ := h2
    exact ⟨v, H2, J.os, J.bare, J.base, J.hok, r, z⟩
  | next =>
    obtain ⟨σ2, H2, J, z⟩ := h2
    exact ⟨.non, H2, J.os, J.bare, J.base, J.hok, rfl, z⟩
  | brk =>
    obtain ⟨_, _, _, z⟩ := h2
    exact False.elim z
  | cont =>
    obtain ⟨_, _, _, z⟩ := h2
    exact False.elim z
/-- the heap in which the script alone is tracked, or nothing -/
def scr (K : PySem.W.Frag) (a : Addr) (us : List Value) (ns : List Int) : Hp := fun b => if b = a ∧ K.lookup a = none then some (.frz { cls := .type "list", data := .seq us.toArray } (.lst (ns.map V.int))) else none
theorem scr_at {K : PySem.W.Frag} {a b : Addr} {us : List Value} {ns : List Int} {o : HO} (h : scr K a us ns b = some o) : b = a ∧ K.lookup a = none ∧ o = .frz { cls := .type "list", data := .seq us.toArray } (.lst (ns.map V.int)) := by
  unfold scr at h
  split at h
  · rename_i z
    cases h
    exact ⟨z.1, z.2, rfl⟩
  · cases h
set_option maxHeartbeats 400000 in
theorem top_call {mb : Str → Option Value} {fa a : Addr} {s₁ : Shared} {us : List Value} {ns : List Int} {y : Str} (Y : K.In s₁.heap) (n1 : s₁.heap.Ns mainGlobals mg) (n2 : s₁.heap.Ns builtinsNs mb) (n3 : ∀ z : Str, z ≠ "__name__" → mb z = bootBuiltins z)
    (nl : s₁.heap.NoLimit) (gn : s₁.gens = #[]) (ha : s₁.heap.get? a = some { cls := .type "list", data := .seq us.toArray }) (hi : IntsAre us ns) (sz : ns.length ≤ sizeLine) (room : Room k callerA)
    (F : ∀ base : Heap, K.In base → base.Ns mainGlobals mg → FnTop P w K mg base k fa fd [y] sp) (bd : ∀ (s : Shared) (u : Value), BindsTo s fd ⟨[u], []⟩ [(y, u)])
    (pr : ∀ H : Hp, SqL K H a (ns.map V.int) → sp [.ref a] H (fun v _ => v = .bl true) E0) :
    codeAny (model P w) callerA (.call (.ref fa) ⟨[.ref a], []⟩) (fun r s' => r = .ok (.ret (.bool true)) ∧ OldK s₁.heap s'.heap ∧ s'.os = s₁.os ∧ AllBare s'.gens) s₁ := by
  have lenV : us.length = ns.length := hi.length
  have rv := vals_ints hi
  have seq : SqL K (scr K a us ns) a (ns.map V.int) := by
    cases z : K.lookup a with
    | none => exact .inl (.inr ⟨_, if_pos ⟨rfl, z⟩⟩)
    | some o =>
      have e := Y a o z
      rw [ha] at e
      cases e
      exact .inr ⟨_, us.toArray, _, z, rfl, rfl, rfl, by rw [List.size_toArray, lenV]; exact sz, by simpa using rv⟩
  have hok : HOk P w (scr K a us ns) s₁.heap := fun b o e => by
    obtain ⟨rfl, _, rfl⟩ := scr_at e
    exact ⟨ha, by rw [List.length_map]; exact sz, us, _, rv, ha⟩
  have other : ∀ {b : Addr} {o : Obj} {es : Array DictEntry} {ep : Nat}, s₁.heap.get? b = some o → o.data = .dict es ep → scr K a us ns b = none := fun {b o es ep} e d => by
    cases z : scr K a us ns b with
    | none => rfl
    | some u =>
      obtain ⟨rfl, _, _⟩ := scr_at z
      rw [ha] at e
      cases e
      cases d
  have part : ∀ {b : Addr} {m : Str → Option Value}, s₁.heap.Ns b m → (hidT s₁.heap (scr K a us ns)).Ns b m := fun ⟨o, es, ep, e, d, r⟩ => ⟨o, es, ep, hidT_get e (other e d), d, r⟩
  have Kb : K.In (hidT s₁.heap (scr K a us ns)) := fun b o e => hidT_get (Y b o e) (by
    cases z : scr K a us ns b with
    | none => rfl
    | some u =>
      obtain ⟨rfl, z2, _⟩ := scr_at z
      rw [z2] at e
      cases e)
  have lim : (hidT s₁.heap (scr K a us ns)).NoLimit := by
    obtain ⟨mc, h1, h2⟩ := nl
    exact ⟨mc, part h1, h2⟩
  have e0 : Env0 P w K mg (hidT s₁.heap (scr K a us ns)) callerA [] s₁ (scr K a us ns) :=
    ⟨rfl, ⟨Kb, part n1, ⟨mb, part n2, n3⟩, lim⟩, fun b o e => of_hidT e, Nat.le_of_eq (hidT_size _ _), trivial, fun b hb => absurd (show b ∈ ([] : List Addr) from hb) (by simp), hok, .of_eq gn⟩
  have run := (F _ Kb (part n1)).go callerA [] s₁ _ [.ref a] [.ref a] _ rfl room e0 (bd s₁ (.ref a)) (.cons rfl .nil) (pr _ seq)
  refine codeAny_mono run fun r s' h => ?_
  cases r with
  | error e => exact False.elim h
  | ok fl =>
    cases fl with
    | ret u =>
      obtain ⟨v, H', os, bare, un, hok', r', z⟩ := h
      have z' : v = .bl true := z
      subst z'
      have u1 : u = Value.bool true := r'
      subst u1
      refine ⟨rfl, OldK.of_keep (fun b o e => ?_), os, bare⟩
      cases zz : scr K a us ns b with
      | none => exact un.keep b o e zz (by intro t; exact absurd (show b ∈ ([] : List Addr) from t) (by simp)) (by simp)
      | some u =>
        obtain ⟨rfl, _, rfl⟩ := scr_at zz
        obtain ⟨e2, _⟩ := hok' b _ (un.frzs b _ _ zz)
        rw [ha] at e
        cases e
        exact e2
    | next => exact False.elim h
    | brk => exact False.elim h
    | cont => exact False.elim h
theorem walk_top {l : PySem.W.OpenLaw} {n k : Nat} {q : Program} {loose : List Str} {XP : (Str → Option Value) → Heap → Prop} {YP : World → Heap → Prop} {d : DefRec} {K : Params → PySem.W.Frag} {sp : World → Sp} {y : Str}
    (hn : l.most = some n) (n2 : n ≤ sizeLine) (hdf : d.params.defaults = []) (room : Room k callerA) (hY : ∀ (w : World) (h : Heap), YP w h → (K w.params).In h)
    (F : ∀ (w : World) (mg : Str → Option Value) (fa : Addr) (h : Heap), (K w.params).In h → h.Ns mainGlobals mg → mg d.name = some (.ref fa) →
      ∃ fd : FuncData, (∀ (s : Shared) (u : Value), BindsTo s fd ⟨[u], []⟩ [(y, u)]) ∧ ∀ base : Heap, (K w.params).In base → base.Ns mainGlobals mg → FnTop l.prog w (K w.params) mg base k fa fd [y] (sp w))
    (pr : ∀ (w : World) (H : Hp) (a : Addr) (ns : List Int), ns.length ≤ n → SqL (K w.params) H a (ns.map V.int) → sp w [.ref a] H (fun v _ => v = .bl true) E0) :
    PySem.W.WalkO q loose XP YP l.row.toRowW d [] (fun f vs => PySem.call f vs) := by
  refine Att.attach_call hn hdf fun w _ _ mg _ fa _ _ _ _ a us ns top fit _ _ _ at_ obj nums many gens => ?_
  have inK := hY w _ fit
  obtain ⟨fd, bd, all⟩ := F w mg fa _ inK top.T.g at_
  exact top_call inK top.T.g top.T.b top.T.builtins top.T.nolimit gens obj nums (Nat.le_trans many n2) room all bd fun H q => pr w H a ns many q
end
end My

/-! ## A def that wants that no guard stands, called where none stands -/
namespace My
open PySem PySem.Spec PyProof.Rows L2
section
variable {X : Cx} {k : Nat} {f : Addr} {fd : FuncData} {ps : List Str} {sp : Sp} {x : Str} {e : Expr} {es : List Expr} {t : TA} {p pos : Pos}
theorem run_top {pins : List (Addr × Obj)} {σ : L2.St} {H : Hp} {s : Shared} {Q : VK} {us : List Value} {vs : List V} (F : FnTop X.prog X.w X.K X.mg X.base k f fd ps sp) (gu : X.A.guards = some []) (ln : ∀ vs H Q E, sp vs H Q E → vs.length = ps.length) (hr : Room k X.A) (hb : Binds X.K fd ps [])
    (I : Inv X pins σ H s) (r : Vals vs us) (h : sp vs H Q E0) : wpAny (model X.prog X.w) X.A (call (.ref f) us) (EP X pins σ Q) X.xe s := by
  have n : us.length = ps.length := r.length ▸ ln _ _ _ _ h
  have bt := hb s us I.kIn (by rw [List.append_nil]; exact n)
  rw [List.append_nil] at bt
  refine wpAny_call (codeAny_mono (F.go X.A X.stack s H us vs Q gu hr I.env0 bt r h) fun q s' hq => ?_)
  match q, hq with
  | .error e, hq => exact pass0 pins σ H s e s' I hq
  | .ok (.ret u), hq => exact I.after hq
def tCallT (sp : Sp) (t : TA) : TE := fun σ H Q => t σ H fun vs H1 => sp vs H1 Q E0
theorem pe_callT (F : FnTop X.prog X.w X.K X.mg X.base k f fd ps sp) (gu : X.A.guards = some []) (ln : ∀ vs H Q E, sp vs H Q E → vs.length = ps.length) (hr : Room k X.A) (hg : Gl X x) (hm : X.mg x = some (.ref f)) (hk : PySem.W.keepIn X.K (.ref f) = true) (hb : Binds X.K fd ps [])
    (ha : PA X (e :: es) t) (hdb : (x == ("__debug__" : Str)) = false := by decide) (he : starEach (e :: es) X.env = (false, eval e X.env) :: starEach es X.env := by rfl) (hpl : (backTo pos (starEach es X.env)).any (·.1) = false := by rfl) :
    PE X (.Call (.Name x p) (e :: es) [] pos) (tCallT sp t) := by
  refine ⟨fun pins s σ H Q I h => ?_⟩
  refine wpAny_Call_Name_kw (ld_glob I hg hm ?_ hdb)
  refine PySem.W.callWith_K (h₀ := X.base) I.ok.mod.kin hk (thn (ha.run pos pins s σ H _ I h) fun us s1 ⟨vs, H1, I1, r, q⟩ => ⟨I1.kIn, ?_⟩) he hpl
  exact run_top F gu ln hr hb I1 r q
end
end My

/-! ## repr of nested data where no guard stands -/
namespace My
open PySem PySem.Spec PyProof.Rows L2
def rReprD (K : PySem.W.Frag) : List V → Hp → VK → Prop := fun xs H Q => ∃ (v : V) (d : PyData), xs = [v] ∧ Dp K H v d ∧ d.showable = true ∧ d.hasDict = false ∧ d.depth ≤ 60 ∧ d.shown.length ≤ sizeLine ∧ Q (.str d.shown) H
section
variable {X : Cx}
set_option maxHeartbeats 400000 in
theorem call_reprD (K : PySem.W.Frag) (gu : X.A.guards = some []) (hu : X.A.units + 64 < cLine) (hK : X.K = K := by rfl) : CallR X (.builtin "repr") (rReprD K) := by
  subst hK
  intro pins s σ H xs us Q I r h
  obtain ⟨v, d, rfl, hd, hs, hx, hdep, hz, q⟩ := h
  cases r with
  | cons rv rr =>
  cases rr
  rename_i u
  obtain ⟨as, rd⟩ := Dp.reads I d v u hd rv
  have fin : ∀ h' u' tk, (∀ b o, s.heap.get? b = some o → h'.get? b = some o) → EP X pins σ Q (.str d.shown u') { s with heap := h', toks := tk } := fun h' u' tk k => ⟨.str d.shown, H, I.kept k, ⟨u', rfl⟩, q⟩
  cases rd with
  | none => exact P.repr_of_none (fin _ _ _ fun _ _ e => e)
  | bool b => exact P.repr_of_bool (fin _ _ _ fun _ _ e => e)
  | int i t => exact P.repr_of_int (by simpa [PyData.showable] using hs) (fin _ _ _ fun _ _ e => e)
  | str x t => exact P.repr_of_str (fin _ _ _ fun _ _ e => e) (by simpa only [PyData.shown] using hz)
  | @list a o vs n xs as' h1 h2 h3 h4 =>
    have hz' : (listText (PyData.shownAll xs)).length ≤ sizeLine := by simpa only [PyData.shown] using hz
    obtain ⟨bs, hb, hk⟩ := ReprAllK.of_readsAll (prog := X.prog) (w := X.w) h4 (by simpa [PyData.showable] using hs) (fun hy => by
      have z : PyData.hasDictAll xs = false := by simpa [PyData.hasDict] using hx
      rw [z] at hy
      cases hy) (fun t ht => Nat.le_trans (listText_mem_le ht) hz')
    have rr : Reads s.heap (.ref a) (.list xs) _ := .list h1 h2 h3 h4
    have hna : a ∉ bs := not_mem_of_deeper rr (by simp only [PyData.depth]; omega) hb
    simp only [PyData.depth] at hdep
    simp only [PyData.shown] at fin
    refine call_repr_slot (T := "list") (by omega) ⟨o, h1, h2⟩ F.slot_list_repr.toG ?_
    obtain ⟨l⟩ := vs
    cases l with
    | nil =>
      have h4' : ReadsAll s.heap [] xs _ := h4
      cases h4'
      simp only [PyData.shownAll, listText_nil] at fin
      exact call_list_repr_empty ⟨o, h1, h2⟩ h1 h3 ⟨_, _, rfl, fin _ _ _ fun _ _ e => e⟩
    | cons y l => exact call_list_reprK h1 h2 h3 hna (by simpa using hk.length_eq) (fun i y e => hk.item i y (by simpa using e)) (g := []) gu (fun b _ => Clear.nil b) (by show X.A.units + 1 + _ < cLine; omega) (fun _ _ e => e) (fun h' u' tk k => ⟨_, u', rfl, fin h' u' tk k⟩) hz'
  | @tuple a o vs n xs as' h1 h2 h3 h4 =>
    have hz' : (tupleText (PyData.shownAll xs)).length ≤ sizeLine := by simpa only [PyData.shown] using hz
    obtain ⟨bs, hb, hk⟩ := ReprAllK.of_readsAll (prog := X.prog) (w := X.w) h4 (by simpa [PyData.showable] using hs) (fun hy => by
      have z : PyData.hasDictAll xs = false := by simpa [PyData.hasDict] using hx
      rw [z] at hy
      cases hy) (fun t ht => Nat.le_trans (tupleText_mem_le ht) hz')
    have rr : Reads s.heap (.ref a) (.tuple xs) _ := .tuple h1 h2 h3 h4
    have hna : a ∉ bs := not_mem_of_deeper rr (by simp only [PyData.depth]; omega) hb
    simp only [PyData.depth] at hdep
    simp only [PyData.shown] at fin
    refine call_repr_slot (T := "tuple") (by omega) ⟨o, h1, h2⟩ F.slot_tuple_repr ?_
    exact call_tuple_reprK h1 h2 h3 hna hk (g := []) gu (fun b _ => Clear.nil b) (by show X.A.units + 1 + _ < cLine; omega) (fun _ _ e => e) (fun h' u' tk k => ⟨_, u', rfl, fin h' u' tk k⟩) hz'
  | dict => cases hx
end
end My

/-! ## The law's look at a call -/
namespace My
open PySem PySem.Spec PyProof.Rows L2 PySem.MyX
abbrev s_is_made : Stmt := top 28
abbrev N_is_made : List Str := ["_law_call_here", "_law_tree_here", "_law_below", "_law_word", "_law_thing", "_law_told", "_law_one", "_law_event"]
abbrev P_is_made : List Str := ["_law_call_here", "_law_tree_here"]
theorem sc_is_made : FnScope N_is_made P_is_made (defScope s_is_made) := ⟨rfl, rfl, rfl, by decide +kernel, rfl, by decide +kernel, by decide +kernel⟩
structure TxMade (w : World) (K : PySem.W.Frag) (mg : Str → Option Value) extends TxEStr w K mg, TxLText w K mg, TxDSize w K mg where
  z_repr : mg "repr" = none
  z_zip : mg "zip" = none
  f_is_made : Addr
  d_is_made : FuncData
  F_is_made : Fun K "_law_is_made" "_law_is_made" s_is_made f_is_made d_is_made
  m_is_made : mg "_law_is_made" = some (.ref f_is_made)
  b_is_made : Binds K d_is_made P_is_made []
def spMade {w : World} {K : PySem.W.Frag} {mg : Str → Option Value} (T : TxTrees0 w K mg) (n m : Nat) : Sp := fun us H Q _ => ∃ (c : Addr) (v : V) (t : Tr), us = [.ref c, v] ∧ CallAt T H c t ∧ TrAt H v t ∧ t.deep ≤ n ∧ t.deep ≤ m ∧ t.size ≤ 800 ∧ t.cost ≤ 100000 ∧ t.fit ∧ ∀ H', Same H H' → Q (.bl true) H'
theorem made_len {w : World} {K : PySem.W.Frag} {mg : Str → Option Value} (T : TxTrees0 w K mg) (n m : Nat) : ∀ vs H Q E, spMade T n m vs H Q E → vs.length = P_is_made.length := fun vs H Q E h => by
  obtain ⟨c, v, t, rfl, _⟩ := h
  rfl
structure ShowOk (d : PyData) : Prop where
  sh : d.showable = true
  nd : d.hasDict = false
  dp : d.depth ≤ 60
  ln : d.shown.length ≤ sizeLine
@[irreducible] def qRep (K : PySem.W.Frag) (xs : List V) (H : Hp) (Q : VK) : Prop := rReprD K xs H Q
theorem qRep_eq : @rReprD = @qRep := by
  funext K xs H Q
  unfold qRep
  rfl
theorem repr_d {K : PySem.W.Frag} {v : V} {d : PyData} {H : Hp} {Q : VK} (hd : Dp K H v d) (o : ShowOk d) (q : Q (.str d.shown) H) : qRep K [v] H Q := by
  rw [← qRep_eq]
  exact ⟨v, d, rfl, hd, o.sh, o.nd, o.dp, o.ln, q⟩
theorem rne_same {x : Str} {H : Hp} {Q : Bool → Hp → Prop} (q : Q false H) : rNe (.str x) (.str x) H fun v H1 => ∃ b, v = .bl b ∧ Q b H1 := ⟨rfl, _, rfl, by rw [decide_eq_true rfl]; exact q⟩
theorem show_str {x : Str} (h : ∀ c ∈ cp x, c < 128) (l : x.length ≤ 100000) : ShowOk (.str x) := by
  refine ⟨by simp [PyData.showable], by simp [PyData.hasDict], by simp [PyData.depth], ?_⟩
  have r := repr_len2 h
  have e : (PyData.str x).shown = reprText x := by simp [PyData.shown]
  rw [e, sizeLine_eq]
  omega
theorem tostr1000 {n : Nat} (h1 : n ≤ 1000) : (Str.ofString (toString (n : Int))).length ≤ 4 := by
  have all : ∀ k : Fin 1001, (Str.ofString (toString ((k.val : Nat) : Int))).length ≤ 4 := by decide +kernel
  exact all ⟨n, by omega⟩
theorem show_int {n : Nat} (h1 : n ≤ 1000) : ShowOk (.int (n : Int)) := by
  refine ⟨?_, by simp [PyData.hasDict], by simp [PyData.depth], ?_⟩
  · have e : (PyData.int (n : Int)).showable = decide ((n : Int).natAbs.log2 < 1920) := by simp [PyData.showable]
    rw [e]
    have := Nat.log2_le_self (n : Int).natAbs
    exact decide_eq_true (by omega)
  · have e : (PyData.int (n : Int)).shown = Str.ofString (toString (n : Int)) := by simp [PyData.shown]
    have := tostr1000 h1
    rw [e, sizeLine_eq]
    omega
theorem show_four {nm kd sd : Str} {bad : Bool} (h1 : isNm nm = true) (h2 : isNm kd = true) (h3 : ∀ c ∈ cp sd, c < 128) (h4 : sd.length ≤ 10) : ShowOk (.tuple [.str nm, .str kd, .bool bad, .str sd]) := by
  refine ⟨by simp [PyData.showable, PyData.showableAll], by simp [PyData.hasDict, PyData.hasDictAll], by simp [PyData.depth, PyData.depthAll], ?_⟩
  have e : (PyData.tuple [.str nm, .str kd, .bool bad, .str sd]).shown = tupleText [reprText nm, reprText kd, (PyData.bool bad).shown, reprText sd] := by simp [PyData.shown, PyData.shownAll]
  have b : (PyData.bool bad).shown.length ≤ 5 := by cases bad <;> decide +kernel
  have r1 := repr_len2 fun c hc => by have := nm_abc h1 c hc; show c < 128; omega
  have r2 := repr_len2 fun c hc => by have := nm_abc h2 c hc; show c < 128; omega
  have r3 := repr_len2 h3
  have n1 := (isNm_len h1).2
  have n2 := (isNm_len h2).2
  have t := tuple_len2 [reprText nm, reprText kd, (PyData.bool bad).shown, reprText sd]
  simp only [List.map_cons, List.map_nil, List.sum_cons, List.sum_nil, List.length_cons, List.length_nil] at t
  rw [e, sizeLine_eq]
  omega
def treeI : EvI → Option Tr
  | .call _ t => some t
  | .hear _ => none
section
variable {w : World} {K : PySem.W.Frag} {mg : Str → Option Value} {T : TxTrees0 w K mg}
theorem CallAt.inv {H : Hp} {c : Addr} {nm kd : Str} {bad : Bool} {es : Evs} (h : CallAt T H c (.node nm kd bad es)) : ∃ dx te ti ps cs, H c = some (.ins T.C_Call dx [("service", .str nm), ("kind", .str kd), ("bad", .bl bad), ("events", .ref te), ("side", .str "old"), ("inner", .ref ti), ("_size", .int (((Tr.node nm kd bad es).size : Nat) : Int))]) ∧ SqT K H te ps ∧ SqT K H ti (cs.map V.ref) ∧ ItemsAt T H ps cs es := by
  cases h with
  | node h he hi r => exact ⟨_, _, _, _, _, h, he, hi, r⟩
theorem ItemL.calls {H : Hp} : ∀ {ps : List V} {cs : List Addr} {es : List EvI}, ItemL T H ps cs es → Paired (CallAt T H) cs (es.filterMap treeI)
  | _, _, _, .nil => .nil
  | _, _, _, .cons h r => by
    cases h with
    | wait h hc => exact .cons hc r.calls
    | leave h hc => exact .cons hc r.calls
    | hear h => exact r.calls
end
theorem treeI_mem {es : List EvI} {t : Tr} (h : t ∈ es.filterMap treeI) : ∃ w, EvI.call w t ∈ es := by
  obtain ⟨e, m, he⟩ := List.mem_filterMap.mp h
  cases e with
  | call w u => cases he; exact ⟨w, m⟩
  | hear n => cases he
theorem strs_ok {l : List Str} (h : ∀ x ∈ l, ∀ c ∈ cp x, c < 128) : (l.all PyData.strOk) = true := List.all_eq_true.mpr fun x hx => strOk_of2 fun c hc => by
  have := h x hx c hc
  omega
section
variable {P : Program} {w : World} {K : PySem.W.Frag} {mg : Str → Option Value} {base : Heap}
theorem ok_ismade (T : TxMade w K mg) (n : Nat) : ∀ m, FnTop P w K mg base (8 + n + m) T.f_is_made T.d_is_made P_is_made (spMade T.toTxTrees0 n m)
  | 0 => by
    rw [show 8 + n + 0 = (7 + n) + 1 from by omega]
    refine top_of T.F_is_made sc_is_made (made_len T.toTxTrees0 n 0) (fun cdv A out s H vs Q gu hr h => ?_)
    obtain ⟨c, v, t, rfl, ht, _, _, dp, _⟩ := h
    cases ht with
    | node => exact absurd dp (by unfold Tr.deep; omega)
  | m + 1 => by
    have G_is_made := ok_ismade T n m
    have G_cstr := str_call (P := P) (w := w) (base := base) T.toTxCStr n
    have G_estr := str_ev (P := P) (w := w) (base := base) T.toTxEStr n
    have G_clen := len_call (P := P) (w := w) (base := base) T.toTxEStr.toTxCStr.toTxWords.toTxThings.toTxCalls
    have G_text := ok_ltext (P := P) (w := w) (base := base) T.toTxLText n
    have G_size := ok_dsize (P := P) (w := w) (base := base) T.toTxDSize n
    rw [show 8 + n + (m + 1) = (8 + n + m) + 1 from rfl]
    refine top_of T.F_is_made sc_is_made (made_len T.toTxTrees0 n (m + 1)) (fun cdv A outer s H vs Q gu hr h => ?_)
    obtain ⟨c, v, t, rfl, hc, ht, dn, dm, sz, few, ft, q⟩ := h
    refine ⟨_, (pss_cons (ps_if (PW.pt (pw_or (pt_not (pt_val (pe_callB (call_isiV K) (by rfl) T.z_isinstance (by decide +kernel) (pa_cons (pv 0) (pa_cons (pe_glob (v := .ref T.C_Call) (by rfl) T.m_Call rfl) pa_nil))))) (pw_or1 (pt_cmpR op_ne (pe_callB (call_reprD K gu hr.units) (by rfl) T.z_repr (by decide +kernel) (pa_cons (pe_callTy (call_strO K G_cstr (hr.mono (by omega))) (by rfl) T.z_str (by decide +kernel) (pa_cons (pv 0) pa_nil)) pa_nil)) (pe_callB (call_reprD K gu hr.units) (by rfl) T.z_repr (by decide +kernel) (pa_cons (pe_call G_text (hr.mono (by omega)) (by rfl) T.m_text T.F_text.kp T.b_text .nil pass0 (pa_cons (pv 1) pa_nil)) pa_nil)) (nomark _))))) (pss_one (ps_ret pe_bl)) pss_nil)
      (pss_cons (ps_if (pt_cmpR op_ne (pe_callB (call_reprD K gu hr.units) (by rfl) T.z_repr (by decide +kernel) (pa_cons (pe_callB (call_lenO K G_clen (hr.mono (by omega))) (by rfl) T.z_len (by decide +kernel) (pa_cons (pv 0) pa_nil)) pa_nil)) (pe_callB (call_reprD K gu hr.units) (by rfl) T.z_repr (by decide +kernel) (pa_cons (pe_call G_size (hr.mono (by omega)) (by rfl) T.m_size T.F_size.kp T.b_size .nil pass0 (pa_cons (pv 1) pa_nil)) pa_nil)) (nomark _)) (pss_one (ps_ret pe_bl)) pss_nil)
      (pss_cons (ps_if (pt_cmpR op_ne (pe_callB (call_reprD K gu hr.units) (by rfl) T.z_repr (by decide +kernel) (pa_cons (pe_tup (pa_cons (pe_fldK K (pv 0)) (pa_cons (pe_fldK K (pv 0)) (pa_cons (pe_fldK K (pv 0)) (pa_cons (pe_fldK K (pv 0)) pa_nil))))) pa_nil)) (pe_callB (call_reprD K gu hr.units) (by rfl) T.z_repr (by decide +kernel) (pa_cons (pe_op op_catT (pe_slice (sl_tupK K) (pv 1) po_none (po_some pe_int)) (pe_tup (pa_cons pe_str pa_nil))) pa_nil)) (nomark _)) (pss_one (ps_ret pe_bl)) pss_nil)
      (pss_cons (ps_if (PW.pt (pw_or (pt_not (pt_val (pe_callB (call_isiV K) (by rfl) T.z_isinstance (by decide +kernel) (pa_cons (pe_fldK K (pv 0)) (pa_cons (pe_bltn (v := .ty "tuple") (by rfl) T.z_tuple (by decide +kernel) rfl) pa_nil))))) (pw_or1 (pt_cmpR op_ne (pe_callB (call_lenK K) (by rfl) T.z_len (by decide +kernel) (pa_cons (pe_fldK K (pv 0)) pa_nil)) (pe_callB (call_lenK K) (by rfl) T.z_len (by decide +kernel) (pa_cons (pe_ix (ix_tupK K) (pv 1) pe_int (fun _ _ => rfl)) pa_nil)) (nomark _))))) (pss_one (ps_ret pe_bl)) pss_nil)
      (pss_cons (ps_setLc (i := 2) (own := [("_law_word", 3), ("_law_thing", 4)]) (g := gTup K 2 (gCons (gName 3) (gCons (gName 4) gNil))) (by rfl) sc_is_made.nd rfl rfl (sw_true rfl rfl rfl (by decide +kernel)) (pi_tupK K (pe_ix (ix_tupK K) (pv 1) pe_int (fun _ _ => rfl))) (blkOk_by (own := [("_law_word", 3), ("_law_thing", 4)]) (N := N_is_made) (sc := defScope s_is_made) (by decide +kernel)) (fun _ _ _ _ _ => (by exact (pg_tup rfl (pgs_cons (pg_name (i := 3) sc_is_made.nd rfl (Or.inl rfl)) (pgs_cons (pg_name (i := 4) sc_is_made.nd rfl (Or.inl rfl)) pgs_nil))))) (fun _ _ _ _ _ => pts_one (by exact (pt_cmpR op_ne (pv 3) pe_str (nomark _)))) (fun _ _ _ _ _ => (pv 4)))
      (pss_cons (ps_setLc (i := 5) (own := [("_law_one", 6)]) (g := gName 6) (by rfl) sc_is_made.nd rfl rfl (sw_true rfl rfl rfl (by decide +kernel)) (pi_listK K (pv 2)) (blkOk_by (own := [("_law_one", 6)]) (N := N_is_made) (sc := defScope s_is_made) (by decide +kernel)) (fun _ _ _ _ _ => (pg_name (i := 6) sc_is_made.nd rfl (Or.inl rfl))) (fun _ _ _ _ _ => pts_nil) (fun _ _ _ _ _ => (pe_call G_text (hr.mono (by omega)) (by rfl) T.m_text T.F_text.kp T.b_text .nil pass0 (pa_cons (pv 6) pa_nil))))
      (pss_cons (ps_if (PW.pt (pw_or (pt_not (pt_val (pe_callB (call_isiV K) (by rfl) T.z_isinstance (by decide +kernel) (pa_cons (pe_fldK K (pv 0)) (pa_cons (pe_bltn (v := .ty "tuple") (by rfl) T.z_tuple (by decide +kernel) rfl) pa_nil))))) (pw_or1 (pt_cmpR (op_neDK K hr.units) (pe_lc (own := [("_law_one", 6)]) (g := gName 6) (by rfl) sc_is_made.nd (pi_tupK K (pe_fldK K (pv 0))) (blkOk_by (own := [("_law_one", 6)]) (N := N_is_made) (sc := defScope s_is_made) (by decide +kernel)) (fun _ _ _ _ _ => (pg_name (i := 6) sc_is_made.nd rfl (Or.inl rfl))) (fun _ _ _ _ _ => pts_nil) (fun _ _ _ _ _ => (pe_callTy (call_strO K G_cstr (hr.mono (by omega))) (by rfl) T.z_str (by decide +kernel) (pa_cons (pv 6) pa_nil)))) (pv 5) (nomark _))))) (pss_one (ps_ret pe_bl)) pss_nil)
      (pss_cons (ps_for PassesOwn.never rfl (pi_zipT K (by rfl) T.z_zip (pa_cons (pe_fldK K (pv 0)) (pa_cons (pe_ix (ix_tupK K) (pv 1) pe_int (fun _ _ => rfl)) pa_nil))) (pg_tup rfl (pgs_cons (pg_name (i := 7) sc_is_made.nd rfl (Or.inl rfl)) (pgs_cons (pg_tup rfl (pgs_cons (pg_name (i := 3) sc_is_made.nd rfl (Or.inl rfl)) (pgs_cons (pg_name (i := 4) sc_is_made.nd rfl (Or.inl rfl)) pgs_nil))) pgs_nil))) (pss_cons (ps_if (pt_cmpR op_ne (pe_callTy (call_strO K G_estr (hr.mono (by omega))) (by rfl) T.z_str (by decide +kernel) (pa_cons (pv 7) pa_nil)) (pe_op op_add_str (pe_op op_add_str (pv 3) pe_str) (pe_ifExp (pt_cmpR op_eq (pv 3) pe_str (nomark _)) (pe_callTy call_str_int (by rfl) T.z_str (by decide +kernel) (pa_cons (pv 4) pa_nil)) (pe_call G_text (hr.mono (by omega)) (by rfl) T.m_text T.F_text.kp T.b_text .nil pass0 (pa_cons (pv 4) pa_nil)))) (nomark _)) (pss_one (ps_ret pe_bl)) pss_nil)
      (pss_one (ps_if (pt_cmpR op_eq (pv 3) pe_str (nomark _)) (pss_one (ps_if (PW.pt (pw_or (pt_not (pt_val (pe_callB (call_isiV K) (by rfl) T.z_isinstance (by decide +kernel) (pa_cons (pv 7) (pa_cons (pe_glob (v := .ref T.C_Hear) (by rfl) T.m_Hear rfl) pa_nil))))) (pw_or1 (pt_cmpR op_ne (pe_callB (call_reprD K gu hr.units) (by rfl) T.z_repr (by decide +kernel) (pa_cons (pe_fldK K (pv 7)) pa_nil)) (pe_callB (call_reprD K gu hr.units) (by rfl) T.z_repr (by decide +kernel) (pa_cons (pv 4) pa_nil)) (nomark _))))) (pss_one (ps_ret pe_bl)) pss_nil)) (pss_one (ps_if (PW.pt (pw_or (pt_cmpR op_ne (pe_callB (call_isiV K) (by rfl) T.z_isinstance (by decide +kernel) (pa_cons (pv 7) (pa_cons (pe_glob (v := .ref T.C_Wait) (by rfl) T.m_Wait rfl) pa_nil))) (pe_cmpR op_eq (pv 3) pe_str (nomark _)) (nomark _)) (pw_or1 (pt_not (pt_val (pe_callT G_is_made gu (made_len T.toTxTrees0 n m) (hr.mono (Nat.le_refl _)) (by rfl) T.m_is_made T.F_is_made.kp T.b_is_made (pa_cons (pe_fldK K (pv 7)) (pa_cons (pv 4) pa_nil)))))))) (pss_one (ps_ret pe_bl)) pss_nil))))))
      (pss_one (ps_ret pe_bl)))))))))), ?_⟩
    rw [qRep_eq]
    cases ht with
    | @node a e nm kd bad qs es ha hea rr =>
      obtain ⟨dx, te, ti, ps, cs, h, he, hi, r⟩ := hc.inv
      have L := ItemsAt.toL _ _ _ r
      have pr := rr.pairs
      have told : Told T.toTxTrees0 n H c false (.node nm kd bad es) := ⟨hc.top, dn, few, ft⟩
      have tl := Tr.text_len _ ft
      have okT := show_str (text_lt _ ft) (Nat.le_trans tl few)
      have szc := sz
      have fd := ft
      unfold Tr.fit at fd
      obtain ⟨f1, f2, f3, f4, f5⟩ := fd
      have den : es.deep + 1 ≤ n := dn
      have dem : es.deep + 1 ≤ m + 1 := dm
      have cst : nm.length + kd.length + 16 + es.cost ≤ 100000 := few
      have ss : es.size + 1 ≤ 800 := sz
      have inn : ∀ {w t}, EvI.call w t ∈ es.list → t.deep ≤ n ∧ t.deep ≤ m ∧ t.size ≤ 800 ∧ t.cost ≤ 100000 ∧ t.fit := fun {w t} mm => by
        have a1 := es.deepL _ mm
        have a2 := es.costL _ mm
        have a3 := es.fitL f5 _ mm
        have a4 := es.sizeL w t mm
        have a5 : t.deep ≤ es.deep := a1
        have a6 : t.cost + 10 ≤ es.cost := a2
        exact ⟨by omega, by omega, by omega, by omega, a3⟩
      have lq := pair_len3 pr
      have lp := L.len
      -- its text
      refine ⟨_, rfl, .ref c, .ref T.C_Call, .ref T.C_Call, _, true, rfl, .own _, T.ty_Call _ _ _ _ h, T.kk_Call_Call, _, rfl, ?_⟩
      refine iteF ⟨_, rfl, c, (), dx, _, rfl, trivial, h, c, false, _, rfl, told, fun H1 s1 => ⟨_, rfl, ?_⟩⟩
      rw [Tr.textS_false]
      refine repr_d (.str _) okT ?_
      refine ⟨_, rfl, .ref a, .node nm kd bad es, rfl, .node (s1 _ _ ha) (s1 _ _ hea) (EvsAt.kt (KT.of_same s1) es _ rr), dn, few, ft, fun H2 s2 => ?_⟩
      refine repr_d (.str _) okT ?_
      refine ⟨rfl, _, rfl, ?_⟩
      refine ite2 (fun z => absurd z (by simp)) (fun _ => ?_)
      have s2 := s1.trans s2
      -- its size
      refine ⟨_, rfl, c, (), dx, _, rfl, trivial, s2 _ _ h, c, _, rfl, (hc.kn (KN.of_same s2)).size (by omega), _, rfl, by omega, ?_⟩
      have oki : ShowOk (.int (((Tr.node nm kd bad es).size : Nat) : Int)) := show_int (by omega)
      refine repr_d (.int _) oki ?_
      refine ⟨_, rfl, .ref a, .node nm kd bad es, rfl, .node (s2 _ _ ha) (s2 _ _ hea) (EvsAt.kt (KT.of_same s2) es _ rr), dn, by omega, fun H3 s3 => ?_⟩
      refine repr_d (.int _) oki ?_
      refine ⟨rfl, _, rfl, ?_⟩
      refine ite2 (fun z => absurd z (by simp)) (fun _ => ?_)
      have s3 := s2.trans s3
      -- its words
      refine ⟨_, rfl, c, T.C_Call, dx, _, _, rfl, s3 _ _ h, T.c_Call, T.n_Call_service, rfl, _, rfl, c, T.C_Call, dx, _, _, rfl, s3 _ _ h, T.c_Call, T.n_Call_kind, rfl, _, rfl, c, T.C_Call, dx, _, _, rfl, s3 _ _ h, T.c_Call, T.n_Call_bad, rfl, _, rfl, c, T.C_Call, dx, _, _, rfl, s3 _ _ h, T.c_Call, T.n_Call_side, rfl, by show 4 ≤ sizeLine; decide, fun t4 ht4 => ?_⟩
      have ok4 : ShowOk (.tuple [.str nm, .str kd, .bool bad, .str "old"]) := show_four f1 f2 (by decide +kernel) (by decide +kernel)
      refine repr_d (.tup (SqT.of upd_same) (.cons (.str _) (.cons (.str _) (.cons (.bl _) (.cons (.str _) .nil))))) ok4 ?_
      have s4 := s3.trans (same_upd ht4 (.tup [.str nm, .str kd, .bl bad, .str "old"]))
      refine ⟨_, rfl, _, rfl, a, _, rfl, SqT.of (s4 _ _ ha), (by show ¬(HT.sIx 4 0 none = 0 ∧ HT.sIx 4 4 (some 3) = 4); decide), fun p hp => ⟨by show 1 ≤ sizeLine; decide, fun u hu => ⟨p, u, [.str nm, .str kd, .bl bad], [.str "old"], rfl, rfl, SqT.of (same_upd hu _ _ _ upd_same), SqT.of upd_same, (fun z => nomatch z), (by show 3 + 1 ≤ sizeLine; decide), (fun z => nomatch z), fun _ t5 ht5 => ?_⟩⟩⟩
      refine repr_d (.tup (SqT.of upd_same) (.cons (.str _) (.cons (.str _) (.cons (.bl _) (.cons (.str _) .nil))))) ok4 ?_
      refine ⟨rfl, _, rfl, ?_⟩
      refine ite2 (fun z => absurd z (by simp)) (fun _ => ?_)
      have s5 := s4.trans (((same_upd hp (.tup (cutV [.str nm, .str kd, .bl bad, .ref e] none (some 3)))).trans (same_upd hu (.tup [.str "old"]))).trans (same_upd ht5 (.tup ([.str nm, .str kd, .bl bad] ++ [.str "old"]))))
      generalize upd (upd (upd (upd H3 t4 (.tup [.str nm, .str kd, .bl bad, .str "old"])) p (.tup (cutV [.str nm, .str kd, .bl bad, .ref e] none (some 3)))) u (.tup [.str "old"])) t5 (.tup ([.str nm, .str kd, .bl bad] ++ [.str "old"])) = H5 at s5 ⊢
      -- its events
      refine ⟨_, rfl, c, T.C_Call, dx, _, _, rfl, s5 _ _ h, T.c_Call, T.n_Call_events, rfl, .ref te, .ty "tuple", .type "tuple", _, true, rfl, .ty _, tyT (seqT_same s5 he), kit_ty (by decide +kernel), _, rfl, ?_⟩
      refine iteF ⟨_, rfl, c, T.C_Call, dx, _, _, rfl, s5 _ _ h, T.c_Call, T.n_Call_events, rfl, te, _, rfl, .inr (seqT_same s5 he), _, rfl, ixT_tc (j := 3) (SqT.of (s5 _ _ ha)) rfl ⟨e, _, rfl, .inr (SqT.of (s5 _ _ hea)), ?_⟩⟩
      refine ⟨rfl, _, rfl, ?_⟩
      refine ite2 (fun z => absurd z (by rw [lp, lq]; simp)) (fun _ => ?_)
      -- the trees below
      refine ⟨_, rfl, ixT_tc (j := 3) (SqT.of (s5 _ _ ha)) rfl ⟨e, rfl, ⟨_, SqT.of (s5 _ _ hea)⟩, fun B hB => ?_⟩⟩
      refine lc_tup (K := K) (a := e) (xs := qs) (fun i H' => Same H5 H' ∧ ∃ us, H' B = some (.lst us) ∧ Paired (TrAt H') us ((es.list.take i).filterMap treeI)) ⟨same_upd hB _, [], upd_same, .nil⟩ (fun i H' _ hh => SqT.of (hh.1 _ _ (s5 _ _ hea))) ?_ ?_
      · rintro i x H6 hx ⟨s6, us, b6, pu⟩
        obtain ⟨ev, hev, ea⟩ := pair_at2 pr hx
        have ea := ea.kt (KT.of_same (s5.trans s6))
        have il := (List.getElem?_eq_some_iff.mp hev).1
        have tk : (es.list.take (i + 1)).filterMap treeI = (es.list.take i).filterMap treeI ++ (treeI ev).toList := by
          rw [List.take_add_one, hev, List.filterMap_append]
          congr 1
        have fw : us.length < sizeLine := small1000 (by
          rw [pair_len3 pu]
          exact Nat.le_trans (List.length_filterMap_le _ _) (by rw [List.length_take]; omega))
        cases ea with
        | @call p v w t hp ht =>
          refine ⟨p, _, rfl, SqT.of hp, rfl, _, _, rfl, _, _, rfl, rfl, rfl, ?_⟩
          have nh : (!decide (V.str (evW w) = V.str (Str.ofString "hear"))) = true := by cases w <;> decide +kernel
          refine ⟨_, rfl, rfl, _, rfl, ?_⟩
          rw [nh]
          refine iteT ⟨_, rfl, us, b6, fw, fun b o z => ?_, us ++ [v], upd_same, ?_⟩
          · rw [upd_ne (ne_of_none z hB)]
            exact s6 _ _ z
          · have k := (KN.put b6 (.lst (us ++ [v]))).kt
            rw [tk]
            exact paired_end (paired_kp (fun x y z => TrAt.kt k y x z) pu) (TrAt.kt k t v ht)
        | @hear p m hp =>
          refine ⟨p, _, rfl, SqT.of hp, rfl, _, _, rfl, _, _, rfl, rfl, rfl, ?_⟩
          refine ⟨_, rfl, rfl, _, rfl, ?_⟩
          refine ite2 (fun z => absurd z (by simp)) (fun _ => ⟨s6, us, b6, ?_⟩)
          rw [tk]
          show Paired _ us (_ ++ [])
          rw [List.append_nil]
          exact pu
      rintro H6 ⟨s6, us, b6, pu⟩
      rw [lq, List.take_length] at pu
      have s6 := s5.trans s6
      generalize hcl : es.list.filterMap treeI = cl at pu
      have clo : ∀ t ∈ cl, ∃ w, EvI.call w t ∈ es.list := fun t m => treeI_mem (by rw [hcl]; exact m)
      have cll : cl.length ≤ 500 := by
        rw [← hcl]
        exact Nat.le_trans (List.length_filterMap_le _ _) f4
      -- their texts
      refine ⟨_, rfl, B, rfl, ⟨_, SqL.of b6⟩, fun D hD => ?_⟩
      refine lc_list (K := K) (a := B) (xs := us) (fun j H' => Same H6 H' ∧ H' D = some (.lst (((cl.take j).map Tr.text).map V.str))) ⟨same_upd hD _, upd_same⟩ (fun j H' _ hh => SqL.of (hh.1 _ _ b6)) ?_ ?_
      · rintro j x H7 hx ⟨s7, d7⟩
        obtain ⟨t, ht, ta⟩ := pair_at2 pu hx
        obtain ⟨w, mw⟩ := clo t (List.mem_of_getElem? ht)
        obtain ⟨i1, _, _, i4, i5⟩ := inn mw
        refine ⟨rfl, _, rfl, x, t, rfl, TrAt.kt (KT.of_same s7) t x ta, i1, i4, i5, fun H8 s8 => ⟨_, s8 _ _ d7, small1000 (by rw [List.length_map, List.length_map, List.length_take]; omega), fun b o z => ?_, ?_⟩⟩
        · rw [upd_ne (ne_of_none z hD)]
          exact s8 _ _ (s7 _ _ z)
        · rw [upd_same, List.take_add_one, ht, List.map_append, List.map_append]
          rfl
      rintro H7 ⟨s7, d7⟩
      rw [pair_len3 pu, List.take_length] at d7
      have s7 := s6.trans s7
      -- the calls below
      have cc := L.calls
      rw [hcl] at cc
      refine ⟨_, rfl, c, T.C_Call, dx, _, _, rfl, s7 _ _ h, T.c_Call, T.n_Call_inner, rfl, .ref ti, .ty "tuple", .type "tuple", _, true, rfl, .ty _, tyT (seqT_same s7 hi), kit_ty (by decide +kernel), _, rfl, ?_⟩
      refine iteF ⟨_, rfl, c, T.C_Call, dx, _, _, rfl, s7 _ _ h, T.c_Call, T.n_Call_inner, rfl, ti, rfl, ⟨_, seqT_same s7 hi⟩, fun F hF => ?_⟩
      refine lc_tup (K := K) (a := ti) (xs := cs.map V.ref) (fun j H' => Same H7 H' ∧ H' F = some (.lst (((cl.take j).map Tr.text).map V.str))) ⟨same_upd hF _, upd_same⟩ (fun j H' _ hh => seqT_same (s7.trans hh.1) hi) ?_ ?_
      · rintro j x H8 hx ⟨s8, d8⟩
        rw [List.getElem?_map] at hx
        obtain ⟨c2, hc2, rfl⟩ : ∃ y, cs[j]? = some y ∧ V.ref y = x := by
          cases e : cs[j]? with
          | none => rw [e] at hx; cases hx
          | some z => rw [e] at hx; cases hx; exact ⟨z, rfl, rfl⟩
        obtain ⟨t, ht, ca⟩ := pair_at2 cc hc2
        obtain ⟨w, mw⟩ := clo t (List.mem_of_getElem? ht)
        obtain ⟨i1, _, _, i4, i5⟩ := inn mw
        have ca := ca.kn (KN.of_same (s7.trans s8))
        have to : Told T.toTxTrees0 n H8 c2 false t := ⟨ca.top, i1, i4, i5⟩
        obtain ⟨dx2, fs2, h2⟩ := to.ins
        refine ⟨rfl, _, rfl, c2, (), dx2, fs2, rfl, trivial, h2, c2, false, t, rfl, to, fun H9 s9 => ⟨_, rfl, _, s9 _ _ d8, small1000 (by rw [List.length_map, List.length_map, List.length_take]; omega), fun b o z => ?_, ?_⟩⟩
        · rw [upd_ne (ne_of_none z hF)]
          exact s9 _ _ (s8 _ _ z)
        · rw [upd_same, List.take_add_one, ht, List.map_append, List.map_append, Tr.textS_false]
          rfl
      rintro H8 ⟨s8, d8⟩
      rw [List.length_map, pair_len3 cc, List.take_length] at d8
      have all := strs_ok (l := cl.map Tr.text) fun x hx => by
        obtain ⟨t, mt, rfl⟩ := List.mem_map.mp hx
        obtain ⟨w, mw⟩ := clo t mt
        exact text_lt t (inn mw).2.2.2.2
      have sh := shapedL_strs all
      have lay : (PyData.list ((cl.map Tr.text).map PyData.str)).canLay0 = true := by
        unfold SeqAt.shaped at sh
        exact (Bool.and_eq_true_iff.mp sh).1
      refine ⟨_, rfl, .list _, .list _, .lst (SqL.of d8) (Dp.all_strs _), .lst (SqL.of (s8 _ _ d7)) (Dp.all_strs _), sh, sh, _, rfl, ?_⟩
      rw [SeqAt.eqv_refl _ lay]
      have s8 := s7.trans s8
      -- event by event
      refine ⟨_, rfl, c, T.C_Call, dx, _, _, rfl, s8 _ _ h, T.c_Call, T.n_Call_events, rfl, _, rfl, ixT_tc (j := 3) (SqT.of (s8 _ _ ha)) rfl ⟨te, e, ps, qs, rfl, seqT_same s8 he, SqT.of (s8 _ _ hea), ?_⟩⟩
      refine for_it (walkTT (K := K) (a := te) (b := e) (xs := ps) (ys := qs)) (fun i σ H' => (∃ v3 v4 v6 v7, σ = [some (.ref c), some (.ref a), some (.ref B), v3, v4, some (.ref D), v6, v7]) ∧ Same H H') ⟨⟨_, _, _, _, rfl⟩, s8⟩ (fun i σ H' _ hh => ⟨seqT_same hh.2 he, SqT.of (hh.2 _ _ hea)⟩) ?_ ?_
      · rintro i z σ H9 H10 hi9 ⟨⟨v3, v4, v6, v7, rfl⟩, s9⟩ ⟨T2, x, y, rfl, nT, rfl, hx, hy⟩
        have hx : ps[i]? = some x := hx
        have hy : qs[i]? = some y := hy
        have s10 := s9.trans (same_upd nT (.tup [x, y]))
        obtain ⟨ev, co, hev, ia⟩ := L.at_ hx
        obtain ⟨ev2, hev2, ea⟩ := pair_at2 pr hy
        obtain rfl : ev = ev2 := by rw [hev] at hev2; exact Option.some.inj hev2
        have mev := List.mem_of_getElem? hev
        have ia := ia.kn (KN.of_same s10)
        have ea := ea.kt (KT.of_same s10)
        have hT := upd_same (H := H9) (a := T2) (o := .tup [x, y])
        generalize upd H9 T2 (.tup [x, y]) = H10 at s10 ia ea hT ⊢
        have fin : ∀ {H11 : Hp} {u3 u4 u7 : Option V}, Same H10 H11 → (∃ v3 v4 v6 v7, [some (.ref c), some (.ref a), some (.ref B), u3, u4, some (.ref D), v6, u7] = ([some (.ref c), some (.ref a), some (.ref B), v3, v4, some (.ref D), v6, v7] : L2.St)) ∧ Same H H11 := fun {H11 u3 u4 u7} s11 => ⟨⟨_, _, v6, _, rfl⟩, s10.trans s11⟩
        cases ea with
        | @call p v w t hp htr =>
          obtain ⟨i1, i2, i3, i4, i5⟩ := inn mev
          have tle := Tr.text_len _ i5
          refine ⟨T2, _, rfl, SqT.of hT, rfl, _, _, rfl, _, _, rfl, ⟨p, _, rfl, SqT.of hp, rfl, _, _, rfl, _, _, rfl, rfl, rfl, ?_⟩⟩
          cases w with
          | true =>
            cases ia with
            | @wait b dx2 cc _ hb hcc =>
              have to : Told T.toTxTrees0 n H10 cc false t := ⟨hcc.top, i1, i4, i5⟩
              have wl : ("wait" : Str).length + (" " : Str).length ≤ 10 := by decide +kernel
              refine ⟨_, rfl, b, ThK.wait, dx2, _, rfl, trivial, hb, b, _, rfl, .wait hb to, fun H11 s11 => ⟨_, rfl, ?_⟩⟩
              refine ⟨_, rfl, _, _, rfl, rfl, Nat.le_trans wl (by decide), _, rfl, rfl, _, rfl, ?_⟩
              refine ite2 (fun z => absurd z (by decide +kernel)) (fun _ => ?_)
              refine ⟨_, rfl, v, t, rfl, TrAt.kt (KT.of_same s11) t v htr, i1, i4, i5, fun H12 s12 => ⟨_, _, rfl, rfl, ?_, rfl, _, rfl, ?_⟩⟩
              · have : (Str.ofString "wait").length + (Str.ofString " ").length ≤ 10 := wl
                rw [app_len, sizeLine_eq]
                show (Str.ofString "wait").length + (Str.ofString " ").length + _ ≤ _
                omega
              rw [Tr.textS_false]
              refine ite2 (fun z => absurd z (by simp [evW])) (fun _ => ?_)
              have s12 := s11.trans s12
              refine ⟨_, rfl, rfl, _, rfl, ?_⟩
              refine ite2 (fun z => absurd z (by decide +kernel)) (fun _ => ?_)
              refine ⟨_, rfl, .ref b, .ref T.C_Wait, .ref T.C_Wait, _, true, rfl, .own _, T.ty_Wait _ _ _ _ (s12 _ _ hb), T.kk_Wait_Wait, _, rfl, rfl, rfl, _, rfl, ?_⟩
              refine ite2 (fun z => absurd z (by decide +kernel)) (fun _ => ?_)
              refine ⟨_, rfl, b, T.C_Wait, dx2, _, _, rfl, s12 _ _ hb, T.c_Wait, T.n_Wait_call, rfl, _, rfl, cc, v, t, rfl, hcc.kn (KN.of_same s12), TrAt.kt (KT.of_same s12) t v htr, i1, i2, i3, i4, i5, fun H13 s13 => ⟨_, rfl, ?_⟩⟩
              exact iteF ⟨⟨_, _, v6, _, rfl⟩, s10.trans (s12.trans s13)⟩
          | false =>
            cases ia with
            | @leave b dx2 cc _ hb hcc =>
              have to : Told T.toTxTrees0 n H10 cc false t := ⟨hcc.top, i1, i4, i5⟩
              have wl : ("leave" : Str).length + (" " : Str).length ≤ 10 := by decide +kernel
              refine ⟨_, rfl, b, ThK.leave, dx2, _, rfl, trivial, hb, b, _, rfl, .leave hb to, fun H11 s11 => ⟨_, rfl, ?_⟩⟩
              refine ⟨_, rfl, _, _, rfl, rfl, Nat.le_trans wl (by decide), _, rfl, rfl, _, rfl, ?_⟩
              refine ite2 (fun z => absurd z (by decide +kernel)) (fun _ => ?_)
              refine ⟨_, rfl, v, t, rfl, TrAt.kt (KT.of_same s11) t v htr, i1, i4, i5, fun H12 s12 => ⟨_, _, rfl, rfl, ?_, rfl, _, rfl, ?_⟩⟩
              · have : (Str.ofString "leave").length + (Str.ofString " ").length ≤ 10 := wl
                rw [app_len, sizeLine_eq]
                show (Str.ofString "leave").length + (Str.ofString " ").length + _ ≤ _
                omega
              rw [Tr.textS_false]
              refine ite2 (fun z => absurd z (by simp [evW])) (fun _ => ?_)
              have s12 := s11.trans s12
              refine ⟨_, rfl, rfl, _, rfl, ?_⟩
              refine ite2 (fun z => absurd z (by decide +kernel)) (fun _ => ?_)
              refine ⟨_, rfl, .ref b, .ref T.C_Wait, .ref T.C_Leave, _, false, rfl, .own _, T.ty_Leave _ _ _ _ (s12 _ _ hb), T.kk_Leave_Wait, _, rfl, rfl, rfl, _, rfl, ?_⟩
              refine ite2 (fun z => absurd z (by decide +kernel)) (fun _ => ?_)
              refine ⟨_, rfl, b, T.C_Leave, dx2, _, _, rfl, s12 _ _ hb, T.c_Leave, T.n_Leave_call, rfl, _, rfl, cc, v, t, rfl, hcc.kn (KN.of_same s12), TrAt.kt (KT.of_same s12) t v htr, i1, i2, i3, i4, i5, fun H13 s13 => ⟨_, rfl, ?_⟩⟩
              exact iteF ⟨⟨_, _, v6, _, rfl⟩, s10.trans (s12.trans s13)⟩
        | @hear p k hp =>
          have mm := es.fitL f5 _ mev
          have m0 : 0 ≤ k := mm.1
          have m1 : k ≤ 500 := mm.2
          have tl5 := tostr500 m0 m1
          have wl : ("hear" : Str).length + (" " : Str).length ≤ 10 := by decide +kernel
          have lg : k.natAbs.log2 < 1920 := by
            have := Nat.log2_le_self k.natAbs
            omega
          have okk : ShowOk (.int k) := by
            have e : ((k.toNat : Nat) : Int) = k := by omega
            rw [← e]
            exact show_int (by omega)
          refine ⟨T2, _, rfl, SqT.of hT, rfl, _, _, rfl, _, _, rfl, ⟨p, _, rfl, SqT.of hp, rfl, _, _, rfl, _, _, rfl, rfl, rfl, ?_⟩⟩
          cases ia with
          | @hear b dx2 _ hb =>
            refine ⟨_, rfl, b, ThK.hear, dx2, _, rfl, trivial, hb, b, _, rfl, .hear hb m0 m1, fun H11 s11 => ⟨_, rfl, ?_⟩⟩
            refine ⟨_, rfl, _, _, rfl, rfl, Nat.le_trans wl (by decide), _, rfl, rfl, _, rfl, ?_⟩
            refine ite2 (fun _ => ?_) (fun z => (z (by simp)).elim)
            refine ⟨_, rfl, k, rfl, lg, _, _, rfl, rfl, ?_, rfl, _, rfl, ?_⟩
            · have : (Str.ofString "hear").length + (Str.ofString " ").length ≤ 10 := wl
              rw [app_len, sizeLine_eq]
              omega
            refine ite2 (fun z => absurd z (by simp)) (fun _ => ?_)
            refine ⟨_, rfl, rfl, _, rfl, ?_⟩
            refine ite2 (fun _ => ?_) (fun z => (z (by simp)).elim)
            refine ⟨_, rfl, .ref b, .ref T.C_Hear, .ref T.C_Hear, _, true, rfl, .own _, T.ty_Hear _ _ _ _ (s11 _ _ hb), T.kk_Hear_Hear, _, rfl, ?_⟩
            refine iteF ⟨_, rfl, b, T.C_Hear, dx2, _, _, rfl, s11 _ _ hb, T.c_Hear, T.n_Hear_number, rfl, ?_⟩
            refine repr_d (.int _) okk ?_
            refine ⟨_, rfl, ?_⟩
            refine repr_d (.int _) okk ?_
            refine ⟨rfl, _, rfl, ?_⟩
            refine ite2 (fun z => absurd z (by simp)) (fun _ => ?_)
            exact ⟨⟨_, _, v6, _, rfl⟩, s10.trans s11⟩
      · rintro σ H9 ⟨⟨v3, v4, v6, v7, rfl⟩, s9⟩
        exact q H9 s9
end
end My

/-! ## k21: what the law reaches -/
namespace My
open PySem PySem.Spec PyProof.Rows L2 PySem.MyX
abbrev s_law : Stmt := top 29
abbrev N_law : List Str := ["_law_script", "_law_deal", "_law_turn", "_law_book_here", "_law_trees", "_law_k", "_law_made", "_law_tree_here", "_law_call_here", "_law_other", "_law_its", "_law_some", "_law_inner", "_law_plain"]
abbrev P_law : List Str := ["_law_script"]
theorem sc_law : FnScope N_law P_law (defScope s_law) := ⟨rfl, rfl, rfl, by decide +kernel, rfl, by decide +kernel, by decide +kernel⟩
structure TxK21 (w : World) (K : PySem.W.Frag) (mg : Str → Option Value) extends TxDCall w K mg, TxDGrow w K mg, TxDBook w K mg, TxMade w K mg, TxCEq w K mg, TxEEq w K mg where
  nf_Call_str : PySem.W.notFirst K C_Call (.type "str") = true
  nf_Call_tuple : PySem.W.notFirst K C_Call (.type "tuple") = true
  nf_Wait_Leave : PySem.W.notFirst K C_Wait (.ref C_Leave) = true
  nf_Leave_Leave : PySem.W.notFirst K C_Leave (.ref C_Leave) = true
  nf_Hear_Hear : PySem.W.notFirst K C_Hear (.ref C_Hear) = true
  nf_Hear_str : PySem.W.notFirst K C_Hear (.type "str") = true
  f_law : Addr
  d_law : FuncData
  F_law : Fun K "law" "law" s_law f_law d_law
end My

/-! ## k21: the reading, cut in parts -/
namespace My
open PySem PySem.Spec PyProof.Rows L2 PySem.MyX
def catStr : R2 := fun x y H Q => ∃ i j, x = V.str i ∧ y = V.str j ∧ i.length + j.length ≤ sizeLine ∧ Q (V.str (i ++ j)) H
def tG21 {w : World} {K : PySem.W.Frag} {mg : Str → Option Value} (T : TxK21 w K mg) : TS := (tSeq (tIfS (tOr (tTest (tOp (rEqO K (fun _ : Unit => T.toTxCEq.C_Call) (fun _ => True) (spCEq T.toTxCEq.toTxTrees0 8) false) (tVar 8) (tMake T.C_Call (spCallInit T.toTxTrees0) (List.drop 2 [V.bl false, V.ref T.e_events, V.str (Str.ofString "old")]) E0 (tCons (tC (V.str (Str.ofString "web"))) (tCons (tC (V.str (Str.ofString "top"))) (tCons (tC (V.bl true)) (tCons (tSl (rSlL K) (tVar 11) tNoPart (tPart (tC (V.int 3)))) tNil))))))) (tTest (tOp (rEqO K (clK T.toTxEEq.toTxTrees0) (fun _ => True) (spEEq T.toTxEEq.toTxTrees0 8) true) (tOp (rIxT K) (tFld K (tVar 8) (Str.ofString "events")) (tC (V.int 1))) (tMake T.C_Leave (spHolder T.toTxTrees0 T.C_Leave) [] E0 (tCons (tOp (rIxL K) (tVar 6) (tC (V.int 1))) tNil))))) (tRet (tC (V.bl false))) tNext) (tIfS (tOr (tTest (tOp (rEqO K (clK T.toTxEEq.toTxTrees0) (fun _ => True) (spEEq T.toTxEEq.toTxTrees0 8) false) (tMake T.C_Wait (spHolder T.toTxTrees0 T.C_Wait) [] E0 (tCons (tOp (rIxL K) (tVar 6) (tC (V.int 0))) tNil)) (tMake T.C_Leave (spHolder T.toTxTrees0 T.C_Leave) [] E0 (tCons (tOp (rIxL K) (tVar 6) (tC (V.int 0))) tNil)))) (tOr (tTest (tOp (rEqO K (clK T.toTxEEq.toTxTrees0) (fun _ => True) (spEEq T.toTxEEq.toTxTrees0 8) false) (tMake T.C_Hear (spHear T.toTxTrees0) [] E0 (tCons (tC (V.int 0)) tNil)) (tMake T.C_Hear (spHear T.toTxTrees0) [] E0 (tCons (tC (V.int 1)) tNil)))) (tTest (tOp (rEqO K (clK T.toTxEEq.toTxTrees0) (fun _ => True) (spEEq T.toTxEEq.toTxTrees0 8) false) (tMake T.C_Hear (spHear T.toTxTrees0) [] E0 (tCons (tC (V.int 0)) tNil)) (tC (V.str (Str.ofString "hear 0"))))))) (tRet (tC (V.bl false))) tNext))
def tF21 {w : World} {K : PySem.W.Frag} {mg : Str → Option Value} (T : TxK21 w K mg) : TS := (tSeq (tIfS (tOr (tTest (tOp rNe (tCB (rStrO (fun _ : Unit => T.toTxCEq.C_Call) (fun _ => True) (spCStr T.toTxCEq.toTxTrees0 8)) (tCons (tVar 8) tNil)) (tOp catStr (tOp catStr (tC (V.str (Str.ofString "web top bad new ("))) (tVar 12)) (tC (V.str (Str.ofString ")")))))) (tTest (tOp rNe (tCB (rLenO (fun _ : Unit => T.C_Call) (fun _ => True) (spCallLen T.toTxTrees0)) (tCons (tVar 8) tNil)) (tOp (rI0 fun i j => V.int (i + j)) (tOp (rI0 fun i j => V.int (i + j)) (tC (V.int 1)) (tCB (rLenO (fun _ : Unit => T.C_Call) (fun _ => True) (spCallLen T.toTxTrees0)) (tCons (tOp (rIxL K) (tVar 6) (tC (V.int 0))) tNil))) (tCB (rLenO (fun _ : Unit => T.C_Call) (fun _ => True) (spCallLen T.toTxTrees0)) (tCons (tOp (rIxL K) (tVar 6) (tC (V.int 1))) tNil)))))) (tRet (tC (V.bl false))) tNext) (tG21 T))
def tE21 {w : World} {K : PySem.W.Frag} {mg : Str → Option Value} (T : TxK21 w K mg) : TS := (tSeq (tAsg (tLst (tCons (tMake T.C_Wait (spHolder T.toTxTrees0 T.C_Wait) [] E0 (tCons (tOp (rIxL K) (tVar 6) (tC (V.int 0))) tNil)) (tCons (tMake T.C_Leave (spHolder T.toTxTrees0 T.C_Leave) [] E0 (tCons (tOp (rIxL K) (tVar 6) (tC (V.int 1))) tNil)) (tCons (tMake T.C_Hear (spHear T.toTxTrees0) [] E0 (tCons (tC (V.int 0)) tNil)) tNil)))) (gName 11)) (tSeq (tAsg (tMake T.C_Call (spCallInit T.toTxTrees0) (List.drop 3 [V.bl false, V.ref T.e_events, V.str (Str.ofString "old")]) E0 (tCons (tC (V.str (Str.ofString "web"))) (tCons (tC (V.str (Str.ofString "top"))) (tCons (tC (V.bl true)) (tCons (tVar 11) (tCons (tC (V.str (Str.ofString "new"))) tNil)))))) (gName 8)) (tSeq (tDrop (tBM K "list" rAppend (tVar 11) (tCons (tMake T.C_Hear (spHear T.toTxTrees0) [] E0 (tCons (tC (V.int 1)) tNil)) tNil))) (tSeq (tAsg (tM1 (rJoin K) (tC (V.str (Str.ofString ", "))) (tLst (tCons (tOp catStr (tC (V.str (Str.ofString "wait "))) (tCall (spLText 8) [] E0 (tCons (tOp (rIxL K) (tVar 4) (tC (V.int 0))) tNil))) (tCons (tOp catStr (tC (V.str (Str.ofString "leave "))) (tCall (spLText 8) [] E0 (tCons (tOp (rIxL K) (tVar 4) (tC (V.int 1))) tNil))) (tCons (tC (V.str (Str.ofString "hear 0"))) tNil))))) (gName 12)) (tF21 T)))))
def tC21 {w : World} {K : PySem.W.Frag} {mg : Str → Option Value} (T : TxK21 w K mg) : TS := (tFor (iZip K (tCons (tVar 6) (tCons (tVar 4) tNil))) (gTup K 2 (gCons (gName 8) (gCons (gName 7) gNil))) (tSeq (tIfS (tOr (tNot (tB (tCallT (spMade T.toTxMade.toTxTrees0 8 8) (tCons (tVar 8) (tCons (tVar 7) tNil))))) (tOr (tTest (tOp (rEqO K (fun _ : Unit => T.toTxCEq.C_Call) (fun _ => True) (spCEq T.toTxCEq.toTxTrees0 8) false) (tVar 8) (tCB (rStrO (fun _ : Unit => T.toTxCEq.C_Call) (fun _ => True) (spCStr T.toTxCEq.toTxTrees0 8)) (tCons (tVar 8) tNil)))) (tTest (tOp (rEqO K (fun _ : Unit => T.toTxCEq.C_Call) (fun _ => True) (spCEq T.toTxCEq.toTxTrees0 8) false) (tVar 8) (tVar 7))))) (tRet (tC (V.bl false))) tNext) (tFor (iZip K (tCons (tVar 6) (tCons (tVar 4) tNil))) (gTup K 2 (gCons (gName 9) (gCons (gName 10) gNil))) (tIfS (tTest (tOp rNe (tCB (qRep K) (tCons (tLst (tCons (tOp (rEqO K (fun _ : Unit => T.toTxCEq.C_Call) (fun _ => True) (spCEq T.toTxCEq.toTxTrees0 8) false) (tVar 8) (tVar 9)) (tCons (tOp (rEqO K (fun _ : Unit => T.toTxCEq.C_Call) (fun _ => True) (spCEq T.toTxCEq.toTxTrees0 8) true) (tVar 8) (tVar 9)) tNil))) tNil)) (tCB (qRep K) (tCons (tLst (tCons (tOp (rEqD K) (tVar 7) (tVar 10)) (tCons (tOp (rNeD K) (tVar 7) (tVar 10)) tNil))) tNil)))) (tRet (tC (V.bl false))) tNext))))
def tT21 {w : World} {K : PySem.W.Frag} {mg : Str → Option Value} (T : TxK21 w K mg) : TS := (tSeq (tAsg (tCall spDBook [] E0 (tCons (tVar 1) (tCons (tC (V.int 4)) (tCons (tC (V.int 2)) (tCons (tTup (tCons (tC (V.int 2)) (tCons (tC (V.int 1)) (tCons (tC (V.int 1)) tNil)))) tNil))))) (gName 3)) (tSeq (tAsg (tLc (iRng1 (tCons (tC (V.int 3)) tNil)) (gName 5) tYes (tCall (spDGrow 7) [] E0 (tCons (tVar 1) (tCons (tVar 3) (tCons (tCall spDPick [] E0 (tCons (tVar 1) (tCons (tDGet (tVar 3) (tC (V.str (Str.ofString "roots")))) tNil))) (tCons (tLst (tCons (tC (V.int 6)) tNil)) tNil))))) (List.map (fun x => x.snd) [(Str.ofString "_law_k", 5)])) (gName 4)) (tSeq (tDrop (tBM K "list" rAppend (tVar 4) (tCons (tOp (rCatT K) (tSl (rSlT K) (tOp (rIxL K) (tVar 4) (tC (V.int 0))) tNoPart (tPart (tC (V.int 2)))) (tTup (tCons (tNotV (tOp (rIxT K) (tOp (rIxL K) (tVar 4) (tC (V.int 0))) (tC (V.int 2)))) (tCons (tOp (rIxT K) (tOp (rIxL K) (tVar 4) (tC (V.int 0))) (tC (V.int 3))) tNil)))) tNil))) (tSeq (tAsg (tLc (iList K (tVar 4)) (gName 7) tYes (tCall (spDCall T.toTxTrees0 8) [] E0 (tCons (tVar 7) tNil)) (List.map (fun x => x.snd) [(Str.ofString "_law_tree_here", 7)])) (gName 6)) (tSeq (tC21 T) (tE21 T))))))
def tP21 {w : World} {K : PySem.W.Frag} {mg : Str → Option Value} (T : TxK21 w K mg) : TS := (tSeq (tAsg (tMake T.C_Call (spCallInit T.toTxTrees0) (List.drop 0 [V.bl false, V.ref T.e_events, V.str (Str.ofString "old")]) E0 (tCons (tC (V.str (Str.ofString "a"))) (tCons (tC (V.str (Str.ofString "k"))) tNil))) (gName 13)) (tRet (tAndV (tOp (rEqO K (fun _ : Unit => T.toTxCEq.C_Call) (fun _ => True) (spCEq T.toTxCEq.toTxTrees0 8) false) (tVar 13) (tMake T.C_Call (spCallInit T.toTxTrees0) (List.drop 3 [V.bl false, V.ref T.e_events, V.str (Str.ofString "old")]) E0 (tCons (tC (V.str (Str.ofString "a"))) (tCons (tC (V.str (Str.ofString "k"))) (tCons (tC (V.bl false)) (tCons (tLst tNil) (tCons (tC (V.str (Str.ofString "old"))) tNil))))))) (tAndV (tOp (rEqD K) (tFld K (tVar 13) (Str.ofString "inner")) (tTup tNil)) (tOp rEq (tCB (rStrO (fun _ : Unit => T.toTxCEq.C_Call) (fun _ => True) (spCStr T.toTxCEq.toTxTrees0 8)) (tCons (tVar 13) tNil)) (tC (V.str (Str.ofString "a k good"))))))))
end My

/-! ## k21: the calls without events -/
namespace My
open PySem PySem.Spec PyProof.Rows L2 PySem.MyX
/-- a drawn tree -/
structure GoodT (t : Tr) : Prop where
  ft : t.fit
  sz : t.size ≤ 7
  co : t.cost ≤ 700
theorem GoodT.dp {t : Tr} (g : GoodT t) : t.deep ≤ 8 := by
  have := t.deep_size
  have := g.sz
  omega
section
variable {w : World} {K : PySem.W.Frag} {mg : Str → Option Value}
theorem GoodT.told {T : TxTrees0 w K mg} {H : Hp} {c : Addr} {new : Bool} {t : Tr} (g : GoodT t) (h : TopAt T H new c t) : Told T 8 H c new t := ⟨h, g.dp, by have := g.co; omega, g.ft⟩
theorem plain_good : GoodT (.node "a" "k" false .nil) := by
  refine ⟨?_, by decide, by unfold Tr.cost Evs.cost; decide +kernel⟩
  unfold Tr.fit
  exact ⟨by decide +kernel, by decide +kernel, rfl, by decide, by unfold Evs.fit; trivial⟩
theorem ok_tP21 (T : TxK21 w K mg) {D : Ends} {v0 v1 v2 v3 v4 v5 v6 v7 v8 v9 v10 v11 v12 v13 : Option V} {H : Hp} (q : ∀ H', D.rt (.bl true) H') : tP21 T D [v0, v1, v2, v3, v4, v5, v6, v7, v8, v9, v10, v11, v12, v13] H := by
  unfold tP21
  refine fun x dx nx nd ne => ?_
  refine made_callT T.toTxDCall.toTxThings (es := .nil) (ps := []) (cs := []) nx nd (by decide +kernel) (by decide +kernel) (.inr (T.t_events _)) .nil rfl (by decide) (by decide) fun H1 s1 c1 => ?_
  refine ⟨_, rfl, Nat.zero_le _, fun l hl => fun x2 dx2 nx2 nd2 ne2 => ?_⟩
  have y2 := same_upd hl (.lst [])
  have l2 : upd H1 l (.lst []) l = some (.lst []) := upd_same
  refine made_callT T.toTxDCall.toTxThings (es := .nil) (ps := []) (cs := []) nx2 nd2 (by decide +kernel) (by decide +kernel) (.inl (SqL.of l2)) .nil rfl (by decide) (by decide) fun H2 s2 c2 => ?_
  have s12 := y2.trans s2
  have t1 := plain_good.told (c1.kn (KN.of_same s12)).top
  have t2 := plain_good.told c2.top
  obtain ⟨d1, f1, h1⟩ := t1.ins
  obtain ⟨d2, f2, h2⟩ := t2.ins
  refine ⟨x, (), d1, f1, .ref T.C_Call, rfl, trivial, h1, T.ty_Call _ _ _ _ h2, T.nf_Call_Call, x, false, _, .ref x2, _, rfl, t1, .call t2, fun H3 s3 => ⟨_, rfl, ?_⟩⟩
  refine ⟨_, rfl, ?_⟩
  refine ite2 (fun _ => ?_) (fun z => (z (by simp)).elim)
  have s3 := s12.trans s3
  obtain ⟨dx1, te, ti, ps1, cs1, hx1, he1, hi1, r1⟩ := c1.inv
  have e1 : cs1 = [] := by cases r1; rfl
  subst e1
  refine ⟨_, rfl, x, T.C_Call, dx1, _, _, rfl, s3 _ _ hx1, T.toTxCEq.c_Call, T.n_Call_inner, rfl, Nat.zero_le _, fun t0 ht0 => ⟨.tuple [], .tuple [], .tup (seqT_same (s3.trans (same_upd ht0 _)) hi1) .nil, .tup (SqT.of upd_same) .nil, by decide +kernel, by decide +kernel, _, rfl, ?_⟩⟩
  refine ite2 (fun _ => ?_) (fun z => (z (by decide +kernel)).elim)
  have s4 := s3.trans (same_upd ht0 (.tup []))
  have t3 := plain_good.told (c1.kn (KN.of_same s4)).top
  refine ⟨_, rfl, x, (), dx1, _, rfl, trivial, s4 _ _ hx1, x, false, _, rfl, t3, fun H5 s5 => ⟨_, rfl, rfl, ?_⟩⟩
  rw [Tr.textS_false, show (Tr.node "a" "k" false .nil).text = ("a k good" : Str) from by decide +kernel, decide_eq_true rfl]
  exact q H5
end
end My

/-! ## k21: calls, events and what they are compared with -/
namespace My
open PySem PySem.Spec PyProof.Rows L2 PySem.MyX
section
variable {w : World} {K : PySem.W.Frag} {mg : Str → Option Value}
/-- four trees and the calls made of them -/
structure S21 (T : TxTrees0 w K mg) (H : Hp) (Lt Lm : Addr) (ts : List Tr) (vs : List V) (cs : List Addr) : Prop where
  hv : H Lt = some (.lst vs)
  hc : H Lm = some (.lst (cs.map V.ref))
  tv : Paired (TrAt H) vs ts
  cv : Paired (CallAt T H) cs ts
  gt : ∀ t ∈ ts, GoodT t
  ln : ts.length = 4
theorem S21.same {T : TxTrees0 w K mg} {H H' : Hp} {Lt Lm : Addr} {ts : List Tr} {vs : List V} {cs : List Addr} (h : S21 T H Lt Lm ts vs cs) (s : Same H H') : S21 T H' Lt Lm ts vs cs :=
  ⟨s _ _ h.hv, s _ _ h.hc, paired_kp (fun x y z => TrAt.kt (KT.of_same s) y x z) h.tv, paired_kp (fun x y z => CallAt.kn (KN.of_same s) y x z) h.cv, h.gt, h.ln⟩
/-- the two at the front -/
theorem S21.two {T : TxTrees0 w K mg} {H : Hp} {Lt Lm : Addr} {ts : List Tr} {vs : List V} {cs : List Addr} (h : S21 T H Lt Lm ts vs cs) : ∃ t0 t1 v0 v1 c0 c1, (cs.map V.ref)[0]? = some (.ref c0) ∧ (cs.map V.ref)[1]? = some (.ref c1) ∧ vs[0]? = some v0 ∧ vs[1]? = some v1 ∧ CallAt T H c0 t0 ∧ CallAt T H c1 t1 ∧ TrAt H v0 t0 ∧ TrAt H v1 t1 ∧ GoodT t0 ∧ GoodT t1 := by
  have ln := h.ln
  have gt := h.gt
  match ts, vs, cs, h.tv, h.cv, ln, gt with
  | t0 :: t1 :: _, v0 :: v1 :: _, c0 :: c1 :: _, .cons a1 (.cons a2 _), .cons b1 (.cons b2 _), _, gt => exact ⟨t0, t1, v0, v1, c0, c1, rfl, rfl, rfl, rfl, b1, b2, a1, a2, gt _ List.mem_cons_self, gt _ (List.mem_cons_of_mem _ List.mem_cons_self)⟩
/-- the tree of the new call -/
def newT (t0 t1 : Tr) : Tr := .node "web" "top" true (.wait t0 (.leave t1 (.hear 0 .nil)))
theorem newT_fit {t0 t1 : Tr} (g0 : GoodT t0) (g1 : GoodT t1) : (newT t0 t1).fit ∧ (newT t0 t1).deep ≤ 8 ∧ (newT t0 t1).cost ≤ 5000 ∧ (newT t0 t1).size = 1 + t0.size + t1.size := by
  have a0 := t0.deep_size
  have a1 := t1.deep_size
  have b0 := g0.sz
  have b1 := g1.sz
  have c0 := g0.co
  have c1 := g1.co
  refine ⟨?_, ?_, ?_, ?_⟩
  · unfold newT Tr.fit
    refine ⟨by decide +kernel, by decide +kernel, rfl, Nat.le_of_ble_eq_true rfl, ?_⟩
    unfold Evs.fit
    refine ⟨g0.ft, ?_⟩
    unfold Evs.fit
    refine ⟨g1.ft, ?_⟩
    unfold Evs.fit
    exact ⟨by decide, by unfold Evs.fit; trivial⟩
  · show max t0.deep (max t1.deep 0) + 1 ≤ 8
    omega
  · unfold newT Tr.cost Evs.cost Evs.cost Evs.cost Evs.cost
    have : ("web" : Str).length + ("top" : Str).length = 6 := by decide +kernel
    omega
  · show t0.size + (t1.size + 0) + 1 = _
    omega
/-- a call is made, of either side -/
theorem made_callS (T : TxThings w K mg) (new : Bool) {x dx a : Addr} {H1 : Hp} {nm kd : Str} {bad : Bool} {es : Evs} {ps : List V} {cs : List Addr} {Q : Hp → Prop} (nx : H1 x = none) (nd : H1 dx = none) (hs : isNm nm = true) (hk : isNm kd = true) (hA : SqA K H1 a ps) (L : ItemL T.toTxTrees0 H1 ps cs es.list) (ru : (runL es.list (0, [])).isSome = true) (n500 : es.list.length ≤ 500) (few : es.size + 1 ≤ 800)
    (q : ∀ H', Same H1 H' → TopAt T.toTxTrees0 H' new x (.node nm kd bad es) → (∃ dx te ti, H' x = some (.ins T.C_Call dx [("service", .str nm), ("kind", .str kd), ("bad", .bl bad), ("events", .ref te), ("side", .str (if new = true then "new" else "old")), ("inner", .ref ti), ("_size", .int (((Tr.node nm kd bad es).size : Nat) : Int))]) ∧ SqT K H' te ps) → Q H') :
    spCallInit T.toTxTrees0 [.ref x, .str nm, .str kd, .bl bad, .ref a, .str (if new = true then "new" else "old")] (upd (upd H1 dx (.own x)) x (.ins T.C_Call dx [])) (fun v H2 => v = .non ∧ Q H2) E0 := by
  have lt : ∀ {y : Str}, isNm y = true → y.length ≤ 2000 := fun h => by have := isNm_len h; omega
  have m0 := made_same (o := .own x) (o2 := .ins T.C_Call dx []) nx nd
  obtain ⟨ks, pk, ik, no, rk, sz⟩ := (L.kn (KN.of_same m0)).eks fun w t m => by
    have := es.sizeL w t m
    omega
  have ok : evOk ks = true := by
    unfold evOk
    rw [rk]
    exact ru
  have si : inSides (.str (if new = true then ("new" : Str) else "old")) = true := by cases new <;> decide +kernel
  have wn : wrCall (nmV (.str nm)) (nmV (.str kd)) true (evOk ks) (inSides (.str (if new = true then ("new" : Str) else "old"))) = none := by
    show wrCall (isNm nm) (isNm kd) true (evOk ks) _ = none
    rw [hs, hk, ok, si]
    decide +kernel
  have hA2 : SqA K (upd (upd H1 dx (.own x)) x (.ins T.C_Call dx [])) a ps := hA.same m0
  have lp : ps.length ≤ 500 := by rw [L.len]; exact n500
  have sm := es.sizes
  have e1 : ((1 : Int) + (((es.list.filterMap sizeI).sum : Nat) : Int)) = (((Tr.node nm kd bad es).size : Nat) : Int) := by
    rw [sm]
    show (1 : Int) + ((es.size : Nat) : Int) = ((es.size + 1 : Nat) : Int)
    omega
  have shp : SeqAt.shaped (.str (if new = true then ("new" : Str) else "old")) = true := by cases new <;> decide +kernel
  refine ⟨x, dx, .str nm, .str kd, .bl bad, .ref a, .str (if new = true then "new" else "old"), true, evOk ks, .str (if new = true then "new" else "old"), rfl, upd_same, .str nm (lt hs), .str kd (lt hk), ⟨_, .base (.bl bad), kit_ty (show kitB "bool" "bool" = some true by decide +kernel)⟩, .seq hA2 pk lp, .str _, shp, (fun wd a H' e => by rw [wn] at e; cases e), fun _ => ⟨a, ps, ks, es.list.filterMap sizeI, rfl, hA2, pk, lp, no, by rw [ik]; exact sz, by rw [sm]; omega, fun H' te ti kp hx hte hti => ⟨rfl, ?_⟩⟩⟩
  have sa : Same H1 H' := same_made nx nd fun b u e n => kp b u e n
  rw [ik] at hti
  rw [e1] at hx
  exact q H' sa (.node hx hte hti (ItemL.toI es _ _ (L.kn (KN.of_same sa)))) ⟨_, _, _, hx, hte⟩
end
end My

/-! ## k21: the end of a turn -/
namespace My
open PySem PySem.Spec PyProof.Rows L2 PySem.MyX
section
variable {w : World} {K : PySem.W.Frag} {mg : Str → Option Value}
/-- what stands once the new call is made -/
structure N21 (T : TxThings w K mg) (H : Hp) (Lm S x : Addr) (t0 t1 : Tr) (c0 c1 a0 a1 a2 : Addr) : Prop where
  m : ∃ cs : List Addr, H Lm = some (.lst (cs.map V.ref)) ∧ (cs.map V.ref)[0]? = some (.ref c0) ∧ (cs.map V.ref)[1]? = some (.ref c1)
  s : ∃ r, H S = some (.lst [.ref a0, .ref a1, .ref a2, r])
  k0 : CallAt T.toTxTrees0 H c0 t0
  k1 : CallAt T.toTxTrees0 H c1 t1
  g0 : GoodT t0
  g1 : GoodT t1
  h0 : ∃ dx, H a0 = some (.ins T.C_Wait dx [("call", .ref c0)])
  h1 : ∃ dx, H a1 = some (.ins T.C_Leave dx [("call", .ref c1)])
  h2 : ∃ dx, H a2 = some (.ins T.C_Hear dx [("number", .int 0)])
  n : TopAt T.toTxTrees0 H true x (newT t0 t1)
  ne : ∃ dx te ti, H x = some (.ins T.C_Call dx [("service", .str "web"), ("kind", .str "top"), ("bad", .bl true), ("events", .ref te), ("side", .str "new"), ("inner", .ref ti), ("_size", .int (((newT t0 t1).size : Nat) : Int))]) ∧ SqT K H te [.ref a0, .ref a1, .ref a2]
theorem N21.same {T : TxThings w K mg} {H H' : Hp} {Lm S x : Addr} {t0 t1 : Tr} {c0 c1 a0 a1 a2 : Addr} (h : N21 T H Lm S x t0 t1 c0 c1 a0 a1 a2) (s : Same H H') : N21 T H' Lm S x t0 t1 c0 c1 a0 a1 a2 := by
  obtain ⟨cs, m1, m2, m3⟩ := h.m
  obtain ⟨r, hr⟩ := h.s
  obtain ⟨d0, h0⟩ := h.h0
  obtain ⟨d1, h1⟩ := h.h1
  obtain ⟨d2, h2⟩ := h.h2
  obtain ⟨dx, te, ti, n1, n2⟩ := h.ne
  have k := KN.of_same s
  exact ⟨⟨cs, s _ _ m1, m2, m3⟩, ⟨r, s _ _ hr⟩, h.k0.kn k, h.k1.kn k, h.g0, h.g1, ⟨d0, s _ _ h0⟩, ⟨d1, s _ _ h1⟩, ⟨d2, s _ _ h2⟩, h.n.kn k, ⟨dx, te, ti, s _ _ n1, seqT_same s n2⟩⟩
theorem newT_items {T : TxThings w K mg} {H : Hp} {t0 t1 : Tr} {c0 c1 a0 a1 a2 : Addr} (h0 : ∃ dx, H a0 = some (.ins T.C_Wait dx [("call", .ref c0)])) (h1 : ∃ dx, H a1 = some (.ins T.C_Leave dx [("call", .ref c1)])) (h2 : ∃ dx, H a2 = some (.ins T.C_Hear dx [("number", .int 0)])) (k0 : CallAt T.toTxTrees0 H c0 t0) (k1 : CallAt T.toTxTrees0 H c1 t1) : ItemL T.toTxTrees0 H [.ref a0, .ref a1, .ref a2] [c0, c1] (Evs.wait t0 (.leave t1 (.hear 0 .nil))).list := by
  obtain ⟨d0, h0⟩ := h0
  obtain ⟨d1, h1⟩ := h1
  obtain ⟨d2, h2⟩ := h2
  exact .cons (.wait h0 k0) (.cons (.leave h1 k1) (.cons (.hear h2) .nil))
theorem newT_size {t0 t1 : Tr} (g0 : GoodT t0) (g1 : GoodT t1) : (Evs.wait t0 (.leave t1 (.hear 0 .nil))).size + 1 ≤ 800 := by
  have := g0.sz
  have := g1.sz
  show t0.size + (t1.size + 0) + 1 ≤ 800
  omega
theorem ok_tG21 (T : TxK21 w K mg) {D : Ends} {v0 v1 v2 v3 v4 v5 v7 v9 v10 v12 v13 : Option V} {H : Hp} {Lm S x : Addr} {t0 t1 : Tr} {c0 c1 a0 a1 a2 : Addr} (N : N21 T.toTxDCall.toTxThings H Lm S x t0 t1 c0 c1 a0 a1 a2)
    (q : ∀ H', Same H H' → D.nx [v0, v1, v2, v3, v4, v5, some (.ref Lm), v7, some (.ref x), v9, v10, some (.ref S), v12, v13] H') : tG21 T D [v0, v1, v2, v3, v4, v5, some (.ref Lm), v7, some (.ref x), v9, v10, some (.ref S), v12, v13] H := by
  unfold tG21
  obtain ⟨f1, f2, f3, f4⟩ := newT_fit N.g0 N.g1
  obtain ⟨cs, m1, m2, m3⟩ := N.m
  obtain ⟨r, hr⟩ := N.s
  -- a new call is not an old one
  refine ⟨_, rfl, _, rfl, _, rfl, S, _, rfl, SqL.of hr, fun p hp => ?_⟩
  rw [show cutV [.ref a0, .ref a1, .ref a2, r] none (some 3) = [V.ref a0, .ref a1, .ref a2] from cut_to (i := 3)]
  have s1 := same_upd hp (.lst [.ref a0, .ref a1, .ref a2])
  have p1 : upd H p (.lst [.ref a0, .ref a1, .ref a2]) p = some (.lst [.ref a0, .ref a1, .ref a2]) := upd_same
  generalize upd H p (.lst [.ref a0, .ref a1, .ref a2]) = H1 at s1 p1 ⊢
  have N1 := N.same s1
  refine fun y dy ny nd ne => ?_
  refine made_callT T.toTxDCall.toTxThings (es := .wait t0 (.leave t1 (.hear 0 .nil))) (ps := [.ref a0, .ref a1, .ref a2]) (cs := [c0, c1]) ny nd (by decide +kernel) (by decide +kernel) (.inl (SqL.of p1)) (newT_items N1.h0 N1.h1 N1.h2 N1.k0 N1.k1) rfl (Nat.le_of_ble_eq_true rfl) (newT_size N.g0 N.g1) fun H2 s2 cy => ?_
  have N2 := N1.same s2
  have tx : Told T.toTxTrees0 8 H2 x true (newT t0 t1) := ⟨N2.n, f2, by omega, f1⟩
  have ty : Told T.toTxTrees0 8 H2 y false (newT t0 t1) := ⟨cy.top, f2, by omega, f1⟩
  obtain ⟨dx, fx, hx⟩ := tx.ins
  obtain ⟨dy2, fy, hy⟩ := ty.ins
  refine ⟨x, (), dx, fx, .ref T.C_Call, rfl, trivial, hx, T.ty_Call _ _ _ _ hy, T.nf_Call_Call, x, true, newT t0 t1, .ref y, some ((newT t0 t1).textS false), rfl, tx, .call ty, fun H3 s3 => ⟨_, rfl, ?_⟩⟩
  rw [decide_eq_false (fun z => (newT t0 t1).textS_ne (Option.some.inj z).symm : ¬ some ((newT t0 t1).textS false) = some ((newT t0 t1).textS true))]
  refine ⟨_, rfl, ?_⟩
  refine ite2 (fun z => absurd z (by decide)) (fun _ => ?_)
  have N3 := N2.same s3
  -- its second event
  obtain ⟨dz, te, ti, hz, hte⟩ := N3.ne
  refine ⟨_, rfl, x, T.C_Call, dz, _, _, rfl, hz, T.toTxCEq.c_Call, T.n_Call_events, rfl, ixT_tc (j := 1) hte rfl ?_⟩
  obtain ⟨cs3, m13, m23, m33⟩ := N3.m
  refine ⟨_, rfl, ixL_tc (j := 1) (SqL.of m13) m33 ?_⟩
  refine fun y2 dy2 ny2 nd2 ne2 => ?_
  refine made_holdT T.toTxDCall.toTxThings ny2 nd2 N3.k1 fun H4 s4 h4 _ => ?_
  have N4 := N3.same s4
  obtain ⟨d1, h1⟩ := N4.h1
  have e1 : TellE T.toTxTrees0 8 H4 .leave a1 _ := .leave h1 (N4.g1.told N4.k1.top)
  have e2 : TellE T.toTxTrees0 8 H4 .leave y2 _ := .leave h4 (N4.g1.told N4.k1.top)
  refine ⟨a1, ThK.leave, d1, _, .ref T.C_Leave, rfl, trivial, h1, T.ty_Leave _ _ _ _ h4, T.nf_Leave_Leave, a1, _, .ref y2, _, rfl, e1, .ev e2, fun H5 s5 => ⟨_, rfl, ?_⟩⟩
  rw [decide_eq_true rfl]
  refine ⟨_, rfl, ?_⟩
  refine ite2 (fun z => absurd z (by decide)) (fun _ => ?_)
  have N5 := N4.same s5
  -- a wait is no leave
  obtain ⟨cs5, m15, m25, m35⟩ := N5.m
  refine ⟨_, rfl, ixL_tc (j := 0) (SqL.of m15) m25 ?_⟩
  refine fun y3 dy3 ny3 nd3 ne3 => ?_
  refine made_holdT T.toTxDCall.toTxThings ny3 nd3 N5.k0 fun H6 s6 h6 _ => ?_
  have N6 := N5.same s6
  obtain ⟨cs6, m16, m26, m36⟩ := N6.m
  refine ⟨_, rfl, ixL_tc (j := 0) (SqL.of m16) m26 ?_⟩
  refine fun y4 dy4 ny4 nd4 ne4 => ?_
  refine made_holdT T.toTxDCall.toTxThings ny4 nd4 N6.k0 fun H7 s7 h7 _ => ?_
  have N7 := N6.same s7
  have h67 := s7 _ _ h6
  have e3 : TellE T.toTxTrees0 8 H7 .wait y3 _ := .wait h67 (N7.g0.told N7.k0.top)
  refine ⟨y3, ThK.wait, dy3, _, .ref T.C_Leave, rfl, trivial, h67, T.ty_Leave _ _ _ _ h7, T.nf_Wait_Leave, y3, _, .ref y4, none, rfl, e3, .odd ⟨_, T.ty_Leave _ _ _ _ h7, T.kk_Leave_Wait⟩, fun H8 s8 => ⟨_, rfl, ?_⟩⟩
  rw [decide_eq_false (fun z => nomatch z)]
  refine ⟨_, rfl, ?_⟩
  refine ite2 (fun z => absurd z (by decide)) (fun _ => ?_)
  -- signs heard
  refine fun y5 dy5 ny5 nd5 ne5 => ?_
  refine made_hearT T.toTxDCall.toTxThings (by decide) ny5 nd5 fun H9 s9 h9 => ?_
  refine fun y6 dy6 ny6 nd6 ne6 => ?_
  refine made_hearT T.toTxDCall.toTxThings (by decide) ny6 nd6 fun H10 s10 h10 => ?_
  have h910 := s10 _ _ h9
  refine ⟨y5, ThK.hear, dy5, _, .ref T.C_Hear, rfl, trivial, h910, T.ty_Hear _ _ _ _ h10, T.nf_Hear_Hear, y5, _, .ref y6, _, rfl, .hear h910 (by decide) (by decide), .ev (.hear h10 (by decide) (by decide)), fun H11 s11 => ⟨_, rfl, ?_⟩⟩
  rw [decide_eq_false (by decide +kernel)]
  refine ⟨_, rfl, ?_⟩
  refine ite2 (fun z => absurd z (by decide)) (fun _ => ?_)
  refine fun y7 dy7 ny7 nd7 ne7 => ?_
  refine made_hearT T.toTxDCall.toTxThings (by decide) ny7 nd7 fun H12 s12 h12 => ?_
  refine ⟨y7, ThK.hear, dy7, _, .type "str", rfl, trivial, h12, .base (.str _), T.nf_Hear_str, y7, _, .str "hear 0", none, rfl, .hear h12 (by decide) (by decide), .odd ⟨_, .base (.str _), T.kt_str_Hear⟩, fun H13 s13 => ⟨_, rfl, ?_⟩⟩
  rw [decide_eq_false (fun z => nomatch z)]
  refine ⟨_, rfl, ?_⟩
  refine ite2 (fun z => absurd z (by decide)) (fun _ => ?_)
  exact q H13 (((((((((((s1.trans s2).trans s3).trans s4).trans s5).trans s6).trans s7).trans s8).trans s9).trans s10).trans s11).trans (s12.trans s13))
end
end My

/-! ## k21: the new call told, its size; how it is made -/
namespace My
open PySem PySem.Spec PyProof.Rows L2 PySem.MyX
def innerT (t0 t1 : Tr) : Str := Txt.join ", " [("wait " : Str) ++ t0.text, ("leave " : Str) ++ t1.text, "hear 0"]
theorem newT_text (t0 t1 : Tr) : (newT t0 t1).textS true = ("web top bad new (" : Str) ++ innerT t0 t1 ++ ")" := by
  refine cp_inj ?_
  have j := join_cp (("wait " : Str) ++ t0.text) [("leave " : Str) ++ t1.text, "hear 0"]
  have c1 : cp ("wait " : Str) = [119, 97, 105, 116, 32] := by decide +kernel
  have c2 : cp ("leave " : Str) = [108, 101, 97, 118, 101, 32] := by decide +kernel
  have c3 : cp ("hear 0" : Str) = [104, 101, 97, 114, 32, 48] := by decide +kernel
  have c4 : cp ("web top bad new (" : Str) = cp ("web" : Str) ++ 32 :: (cp ("top" : Str) ++ 32 :: (cp ("bad" : Str) ++ [32, 110, 101, 119, 32, 40])) := by decide +kernel
  have c5 : cp (")" : Str) = [41] := by decide +kernel
  have c6 : cp (Str.ofString (toString (0 : Int))) = [48] := by decide +kernel
  simp only [List.map_cons, List.map_nil, List.flatten_cons, List.flatten_nil, cp_app, c1, c2, c3, List.append_nil] at j
  have e : cp (innerT t0 t1) = [119, 97, 105, 116, 32] ++ cp t0.text ++ 44 :: 32 :: ([108, 101, 97, 118, 101, 32] ++ cp t1.text ++ 44 :: 32 :: [104, 101, 97, 114, 32, 48]) := by
    have z := (List.cons.inj (List.cons.inj j).2).2
    unfold innerT
    rw [z]
    simp
  unfold newT Tr.textS Tr.wordsS
  rw [headW_cp, cp_app, cp_app, c4, c5, e]
  unfold restT bodyT bodyT bodyT bodyT
  rw [c6]
  simp
theorem innerT_len {t0 t1 : Tr} (g0 : GoodT t0) (g1 : GoodT t1) : (innerT t0 t1).length ≤ 2000 ∧ t0.text.length ≤ 700 ∧ t1.text.length ≤ 700 := by
  have a0 := t0.text_len g0.ft
  have a1 := t1.text_len g1.ft
  have b0 := g0.co
  have b1 := g1.co
  have j := joinT_len ", " [("wait " : Str) ++ t0.text, ("leave " : Str) ++ t1.text, "hear 0"]
  simp only [List.map_cons, List.map_nil, List.sum_cons, List.sum_nil, List.length_cons, List.length_nil, app_len] at j
  have l1 : ("wait " : Str).length = 5 := by decide +kernel
  have l2 : ("leave " : Str).length = 6 := by decide +kernel
  have l3 : ("hear 0" : Str).length = 6 := by decide +kernel
  have l4 : (", " : Str).length = 2 := by decide +kernel
  rw [l1, l2, l3, l4] at j
  refine ⟨?_, by omega, by omega⟩
  unfold innerT
  omega
section
variable {w : World} {K : PySem.W.Frag} {mg : Str → Option Value}
theorem TopAt.size {T : TxTrees0 w K mg} {H : Hp} {new : Bool} {c : Addr} {t : Tr} (h : TopAt T H new c t) (few : t.size ≤ 1000) : CallS T H c t.size := by
  cases h with
  | node h he hi r => exact ⟨⟨_, _, h, rfl⟩, few⟩
theorem ok_tF21 (T : TxK21 w K mg) {D : Ends} {v0 v1 v2 v3 v4 v5 v7 v9 v10 v13 : Option V} {H : Hp} {Lm S x : Addr} {t0 t1 : Tr} {c0 c1 a0 a1 a2 : Addr} (N : N21 T.toTxDCall.toTxThings H Lm S x t0 t1 c0 c1 a0 a1 a2)
    (q : ∀ H', Same H H' → D.nx [v0, v1, v2, v3, v4, v5, some (.ref Lm), v7, some (.ref x), v9, v10, some (.ref S), some (.str (innerT t0 t1)), v13] H') : tF21 T D [v0, v1, v2, v3, v4, v5, some (.ref Lm), v7, some (.ref x), v9, v10, some (.ref S), some (.str (innerT t0 t1)), v13] H := by
  unfold tF21
  obtain ⟨f1, f2, f3, f4⟩ := newT_fit N.g0 N.g1
  obtain ⟨il, _, _⟩ := innerT_len N.g0 N.g1
  have tx : Told T.toTxTrees0 8 H x true (newT t0 t1) := ⟨N.n, f2, by omega, f1⟩
  obtain ⟨dx, fx, hx⟩ := tx.ins
  have l1 : ("web top bad new (" : Str).length = 17 := by decide +kernel
  have l2 : (")" : Str).length = 1 := by decide +kernel
  refine ⟨_, rfl, x, (), dx, fx, rfl, trivial, hx, x, true, newT t0 t1, rfl, tx, fun H1 s1 => ⟨_, rfl, _, rfl, _, _, rfl, rfl, ?_, _, _, rfl, rfl, ?_, rfl, ?_⟩⟩
  · rw [l1, sizeLine_eq]
    omega
  · rw [app_len, l1, l2, sizeLine_eq]
    omega
  rw [newT_text, decide_eq_true rfl]
  refine ⟨_, rfl, ?_⟩
  refine ite2 (fun z => absurd z (by decide)) (fun _ => ?_)
  have N1 := N.same s1
  obtain ⟨cs, m1, m2, m3⟩ := N1.m
  have hx1 := s1 _ _ hx
  have b0 := N.g0.sz
  have b1 := N.g1.sz
  obtain ⟨d0, fs0, i0⟩ := (N.g0.told N1.k0.top).ins
  obtain ⟨d1, fs1, i1⟩ := (N.g1.told N1.k1.top).ins
  refine ⟨_, rfl, x, (), dx, fx, rfl, trivial, hx1, x, _, rfl, N1.n.size (by omega), _, rfl, by omega, ?_⟩
  refine ⟨_, rfl, ixL_tc (j := 0) (SqL.of m1) m2 ⟨c0, (), d0, fs0, rfl, trivial, i0, c0, _, rfl, N1.k0.size (by omega), _, rfl, by omega, _, _, rfl, rfl, ?_⟩⟩
  refine ⟨_, rfl, ixL_tc (j := 1) (SqL.of m1) m3 ⟨c1, (), d1, fs1, rfl, trivial, i1, c1, _, rfl, N1.k1.size (by omega), _, rfl, by omega, _, _, rfl, rfl, rfl, ?_⟩⟩
  have e : V.int (((newT t0 t1).size : Nat) : Int) = V.int (1 + ((t0.size : Nat) : Int) + ((t1.size : Nat) : Int)) := by
    rw [f4]
    exact congrArg V.int (by omega)
  rw [e, decide_eq_true rfl]
  refine ⟨_, rfl, ?_⟩
  refine ite2 (fun z => absurd z (by decide)) (fun _ => ?_)
  exact ok_tG21 T N1 fun H2 s2 => q H2 (s1.trans s2)
theorem ok_tE21 (T : TxK21 w K mg) {D : Ends} {v0 v1 v2 v3 v5 v7 v8 v9 v10 v11 v12 v13 : Option V} {H : Hp} {Lt Lm : Addr} {ts : List Tr} {vs : List V} {cs : List Addr} (S : S21 T.toTxTrees0 H Lt Lm ts vs cs)
    (q : ∀ v8 v11 v12 H', Same H H' → D.nx [v0, v1, v2, v3, some (.ref Lt), v5, some (.ref Lm), v7, v8, v9, v10, v11, v12, v13] H') : tE21 T D [v0, v1, v2, v3, some (.ref Lt), v5, some (.ref Lm), v7, v8, v9, v10, v11, v12, v13] H := by
  unfold tE21
  obtain ⟨t0, t1, u0, u1, c0, c1, m0, m1, w0, w1, k0, k1, r0, r1, g0, g1⟩ := S.two
  refine ⟨_, rfl, ixL_tc (j := 0) (SqL.of S.hc) m0 ?_⟩
  refine fun a0 d0 n0 nd0 ne0 => ?_
  refine made_holdT T.toTxDCall.toTxThings n0 nd0 k0 fun H1 s1 h0 _ => ?_
  refine ⟨_, rfl, ixL_tc (j := 1) (SqL.of (s1 _ _ S.hc)) m1 ?_⟩
  refine fun a1 d1 n1 nd1 ne1 => ?_
  refine made_holdT T.toTxDCall.toTxThings n1 nd1 (k1.kn (KN.of_same s1)) fun H2 s2 h1 _ => ?_
  refine fun a2 d2 n2 nd2 ne2 => ?_
  refine made_hearT T.toTxDCall.toTxThings (by decide) n2 nd2 fun H3 s3 h2 => ?_
  have s03 := (s1.trans s2).trans s3
  refine ⟨by show 3 ≤ sizeLine; decide, fun L hL => ?_⟩
  have y4 := same_upd hL (.lst [.ref a0, .ref a1, .ref a2])
  have L4 : upd H3 L (.lst [.ref a0, .ref a1, .ref a2]) L = some (.lst [.ref a0, .ref a1, .ref a2]) := upd_same
  have b0 := (s2.trans s3) _ _ h0
  have b1 := s3 _ _ h1
  have items : ItemL T.toTxTrees0 (upd H3 L (.lst [.ref a0, .ref a1, .ref a2])) [.ref a0, .ref a1, .ref a2] [c0, c1] (Evs.wait t0 (.leave t1 (.hear 0 .nil))).list := newT_items ⟨_, y4 _ _ b0⟩ ⟨_, y4 _ _ b1⟩ ⟨_, y4 _ _ h2⟩ (k0.kn (KN.of_same (s03.trans y4))) (k1.kn (KN.of_same (s03.trans y4)))
  generalize upd H3 L (.lst [.ref a0, .ref a1, .ref a2]) = H4 at y4 L4 items ⊢
  refine ⟨_, rfl, fun x dx nx ndx ne => ?_⟩
  refine made_callS T.toTxDCall.toTxThings true (es := .wait t0 (.leave t1 (.hear 0 .nil))) (ps := [.ref a0, .ref a1, .ref a2]) (cs := [c0, c1]) nx ndx (by decide +kernel) (by decide +kernel) (.inl (SqL.of L4)) items rfl (Nat.le_of_ble_eq_true rfl) (newT_size g0 g1) fun H5 s5 cx nex => ?_
  refine ⟨_, rfl, .inl ⟨rfl, _, SqL.of (s5 _ _ L4)⟩, ?_⟩
  refine fun a3 d3 n3 nd3 ne3 => ?_
  refine made_hearT T.toTxDCall.toTxThings (by decide) n3 nd3 fun H6 s6 h3 => ?_
  have L6 := s6 _ _ (s5 _ _ L4)
  refine ⟨L, _, _, rfl, rfl, L6, (by show 3 < sizeLine; decide), ?_⟩
  have nL : H L = none := s03.free hL
  have s47 : ∀ b o, H3 b = some o → upd H6 L (.lst ([.ref a0, .ref a1, .ref a2] ++ [.ref a3])) b = some o := fun b o z => by
    rw [upd_ne (ne_of_none z hL)]
    exact s6 _ _ (s5 _ _ (y4 _ _ z))
  have k7 := KN.put L6 (.lst ([.ref a0, .ref a1, .ref a2] ++ [.ref a3]))
  have L7 : upd H6 L (.lst ([.ref a0, .ref a1, .ref a2] ++ [.ref a3])) L = some (.lst [.ref a0, .ref a1, .ref a2, .ref a3]) := upd_same
  have k67 : KN H5 (upd H6 L (.lst ([.ref a0, .ref a1, .ref a2] ++ [.ref a3]))) := (KN.of_same s6).trans k7
  have cx7 := cx.kn k67
  obtain ⟨dz, te, ti, hz, hte⟩ := nex
  have hz7 := k67 _ _ (by intro _ z; cases z) (by intro _ z; cases z) hz
  have hte7 := sqT_kn k67 hte
  have s07 : Same H (upd H6 L (.lst ([.ref a0, .ref a1, .ref a2] ++ [.ref a3]))) := fun b o z => s47 b o (s03 _ _ z)
  have N7 : N21 T.toTxDCall.toTxThings (upd H6 L (.lst ([.ref a0, .ref a1, .ref a2] ++ [.ref a3]))) Lm L x t0 t1 c0 c1 a0 a1 a2 := ⟨⟨cs, s07 _ _ S.hc, m0, m1⟩, ⟨_, L7⟩, k0.kn (KN.of_same s07), k1.kn (KN.of_same s07), g0, g1, ⟨_, s47 _ _ b0⟩, ⟨_, s47 _ _ b1⟩, ⟨_, s47 _ _ h2⟩, cx7, ⟨_, _, _, hz7, hte7⟩⟩
  have S7 := S.same s07
  have q0 := TrAt.kt (KT.of_same s07) t0 u0 r0
  have q1 := TrAt.kt (KT.of_same s07) t1 u1 r1
  generalize upd H6 L (.lst ([.ref a0, .ref a1, .ref a2] ++ [.ref a3])) = H7 at s07 N7 S7 q0 q1 ⊢
  obtain ⟨il, tl0, tl1⟩ := innerT_len g0 g1
  have l1 : ("wait " : Str).length = 5 := by decide +kernel
  have l2 : ("leave " : Str).length = 6 := by decide +kernel
  have l3 : ("hear 0" : Str).length = 6 := by decide +kernel
  have l4 : (", " : Str).length = 2 := by decide +kernel
  refine ⟨⟨_, rfl⟩, _, rfl, ixL_tc (j := 0) (SqL.of S7.hv) w0 ⟨u0, t0, rfl, q0, g0.dp, by have := g0.co; omega, g0.ft, fun H8 s8 => ⟨_, _, rfl, rfl, ?_, ?_⟩⟩⟩
  · rw [l1, sizeLine_eq]
    omega
  refine ⟨_, rfl, ixL_tc (j := 1) (SqL.of (s8 _ _ S7.hv)) w1 ⟨u1, t1, rfl, TrAt.kt (KT.of_same s8) t1 u1 q1, g1.dp, by have := g1.co; omega, g1.ft, fun H9 s9 => ⟨_, _, rfl, rfl, ?_, ?_⟩⟩⟩
  · rw [l2, sizeLine_eq]
    omega
  refine ⟨by show 3 ≤ sizeLine; decide, fun J hJ => ⟨", ", J, [("wait " : Str) ++ t0.text, ("leave " : Str) ++ t1.text, "hear 0"], rfl, rfl, .inl (SqL.of upd_same), ?_, ?_⟩⟩
  · simp only [List.map_cons, List.map_nil, List.sum_cons, List.sum_nil, List.length_cons, List.length_nil, app_len]
    rw [l1, l2, l3, l4]
    omega
  have s10 := (s8.trans s9).trans (same_upd hJ (.lst [.str (("wait " : Str) ++ t0.text), .str (("leave " : Str) ++ t1.text), .str "hear 0"]))
  exact ok_tF21 T (N7.same s10) fun H' s' => q _ _ _ H' (s07.trans (s10.trans s'))
end
end My

/-! ## k21: calls and trees compared -/
namespace My
open PySem PySem.Spec PyProof.Rows L2 PySem.MyX
theorem show_two (b : Bool) : ShowOk (.list [.bool b, .bool (!b)]) := by
  cases b <;> exact ⟨by decide +kernel, by decide +kernel, by decide +kernel, by decide +kernel⟩
section
variable {w : World} {K : PySem.W.Frag} {mg : Str → Option Value}
theorem told_iff {t u : Tr} (g : GoodT t) (h : GoodT u) : decide (some (u.textS false) = some (t.textS false)) = PyData.eqv t.data u.data := by
  rw [Tr.textS_false, Tr.textS_false, Bool.eq_iff_iff, decide_eq_true_eq, Tr.eqv]
  exact ⟨fun z => Tr.text_inj g.ft h.ft (Option.some.inj z).symm, fun z => by rw [z]⟩
theorem ok_tC21 (T : TxK21 w K mg) {D : Ends} {v0 v1 v2 v3 v5 v7 v8 v9 v10 v11 v12 v13 : Option V} {H : Hp} {Lt Lm : Addr} {ts : List Tr} {vs : List V} {cs : List Addr} (S : S21 T.toTxTrees0 H Lt Lm ts vs cs)
    (q : ∀ v7 v8 v9 v10 H', Same H H' → D.nx [v0, v1, v2, v3, some (.ref Lt), v5, some (.ref Lm), v7, v8, v9, v10, v11, v12, v13] H') : tC21 T D [v0, v1, v2, v3, some (.ref Lt), v5, some (.ref Lm), v7, v8, v9, v10, v11, v12, v13] H := by
  unfold tC21
  have lv : vs.length = 4 := by rw [pair_len3 S.tv]; exact S.ln
  have lc : (cs.map V.ref).length = 4 := by rw [List.length_map, pair_len3 S.cv]; exact S.ln
  refine ⟨_, rfl, _, rfl, Lm, Lt, cs.map V.ref, vs, rfl, SqL.of S.hc, SqL.of S.hv, ?_⟩
  refine for_it (walk_zip (K := K) (a := Lm) (b := Lt) (xs := cs.map V.ref) (ys := vs) (n := 4) (by rw [lc, lv]; rfl)) (fun i σ H' => (∃ v7 v8 v9 v10, σ = [v0, v1, v2, v3, some (.ref Lt), v5, some (.ref Lm), v7, v8, v9, v10, v11, v12, v13]) ∧ Same H H') ⟨⟨_, _, _, _, rfl⟩, Same.refl _⟩ (fun i σ H' _ hh => ⟨SqL.of (hh.2 _ _ S.hc), SqL.of (hh.2 _ _ S.hv)⟩) ?_ ?_
  · rintro i z σ H1 H2 hi ⟨⟨v7, v8, v9, v10, rfl⟩, s1⟩ ⟨T2, x, y, rfl, nT, rfl, hx, hy⟩
    have hx : (cs.map V.ref)[i]? = some x := hx
    have hy : vs[i]? = some y := hy
    rw [List.getElem?_map] at hx
    obtain ⟨c, hc, rfl⟩ : ∃ u, cs[i]? = some u ∧ V.ref u = x := by
      cases e : cs[i]? with
      | none => rw [e] at hx; cases hx
      | some u => rw [e] at hx; cases hx; exact ⟨u, rfl, rfl⟩
    have s2 := s1.trans (same_upd nT (.tup [.ref c, y]))
    have S2 := S.same s2
    obtain ⟨t, ht, ca⟩ := pair_at2 S2.cv hc
    obtain ⟨t', ht', ta⟩ := pair_at2 S2.tv hy
    obtain rfl : t = t' := by rw [ht] at ht'; exact Option.some.inj ht'
    have g := S.gt t (List.mem_of_getElem? ht)
    have hT := upd_same (H := H1) (a := T2) (o := .tup [.ref c, y])
    generalize upd H1 T2 (.tup [.ref c, y]) = H2 at s2 S2 ca ta hT ⊢
    refine ⟨T2, _, rfl, SqT.of hT, rfl, _, _, rfl, _, _, rfl, rfl, ?_⟩
    -- the look
    refine ⟨_, rfl, _, rfl, c, y, t, rfl, ca, ta, g.dp, g.dp, by have := g.sz; omega, by have := g.co; omega, g.ft, fun H3 s3 => ⟨_, rfl, ?_⟩⟩
    refine iteF ?_
    have s3 := s2.trans s3
    have S3 := S.same s3
    have told : ∀ {H'}, Same H2 H' → Told T.toTxTrees0 8 H' c false t := fun {H'} s => g.told (ca.kn (KN.of_same s)).top
    have s23 : Same H2 H3 := by assumption
    obtain ⟨dc, fc, hc3⟩ := (told s23).ins
    -- no text
    refine ⟨_, rfl, _, rfl, c, (), dc, fc, rfl, trivial, hc3, c, false, t, rfl, told s23, fun H4 s4 => ⟨_, rfl, ?_⟩⟩
    have s24 := s23.trans s4
    refine ⟨c, (), dc, fc, .type "str", rfl, trivial, s4 _ _ hc3, .base (.str _), T.nf_Call_str, c, false, t, .str (t.textS false), none, rfl, told s24, .odd ⟨_, .base (.str _), T.kt_str_Call⟩, fun H5 s5 => ⟨_, rfl, ?_⟩⟩
    rw [decide_eq_false (fun z => nomatch z)]
    refine ⟨_, rfl, ?_⟩
    refine iteF ?_
    have s25 := s24.trans s5
    have hy5 : ∃ b e, y = .ref b ∧ SqT K H5 b e := by
      cases ta with
      | node h _ _ => exact ⟨_, _, rfl, SqT.of (s25 _ _ h)⟩
    obtain ⟨b, e, rfl, hb⟩ := hy5
    refine ⟨_, rfl, _, rfl, c, (), dc, fc, .type "tuple", rfl, trivial, s5 _ _ (s4 _ _ hc3), tyT hb, T.nf_Call_tuple, c, false, t, .ref b, none, rfl, told s25, .odd ⟨_, tyT hb, T.kt_tuple_Call⟩, fun H6 s6 => ⟨_, rfl, ?_⟩⟩
    rw [decide_eq_false (fun z => nomatch z)]
    refine ⟨_, rfl, ?_⟩
    refine iteF ?_
    have s26 := s25.trans s6
    have S6 := S2.same s26
    have hc6 := s6 _ _ (s5 _ _ (s4 _ _ hc3))
    -- each with each
    refine ⟨_, rfl, _, rfl, Lm, Lt, cs.map V.ref, vs, rfl, SqL.of S6.hc, SqL.of S6.hv, ?_⟩
    refine for_it (walk_zip (K := K) (a := Lm) (b := Lt) (xs := cs.map V.ref) (ys := vs) (n := 4) (by rw [lc, lv]; rfl)) (fun i σ H' => (∃ v9 v10, σ = [v0, v1, v2, v3, some (.ref Lt), v5, some (.ref Lm), some (.ref b), some (.ref c), v9, v10, v11, v12, v13]) ∧ Same H6 H') ⟨⟨_, _, rfl⟩, Same.refl _⟩ (fun i σ H' _ hh => ⟨SqL.of (hh.2 _ _ S6.hc), SqL.of (hh.2 _ _ S6.hv)⟩) ?_ ?_
    · rintro j z σ H7 H8 hj ⟨⟨v9, v10, rfl⟩, s7⟩ ⟨T3, x3, y3, rfl, nT3, rfl, hx3, hy3⟩
      have hx3 : (cs.map V.ref)[j]? = some x3 := hx3
      have hy3 : vs[j]? = some y3 := hy3
      rw [List.getElem?_map] at hx3
      obtain ⟨c3, hcc3, rfl⟩ : ∃ u, cs[j]? = some u ∧ V.ref u = x3 := by
        cases e : cs[j]? with
        | none => rw [e] at hx3; cases hx3
        | some u => rw [e] at hx3; cases hx3; exact ⟨u, rfl, rfl⟩
      have s8 := s7.trans (same_upd nT3 (.tup [.ref c3, y3]))
      have S8 := S6.same s8
      obtain ⟨u, hu, ca3⟩ := pair_at2 S8.cv hcc3
      obtain ⟨u', hu', ta3⟩ := pair_at2 S8.tv hy3
      obtain rfl : u = u' := by rw [hu] at hu'; exact Option.some.inj hu'
      have gu3 := S.gt u (List.mem_of_getElem? hu)
      have hT3 := upd_same (H := H7) (a := T3) (o := .tup [.ref c3, y3])
      generalize upd H7 T3 (.tup [.ref c3, y3]) = H8 at s8 S8 ca3 ta3 hT3 ⊢
      refine ⟨T3, _, rfl, SqT.of hT3, rfl, _, _, rfl, _, _, rfl, rfl, ?_⟩
      have s28 := s26.trans s8
      have tu : ∀ {H'}, Same H8 H' → Told T.toTxTrees0 8 H' c3 false u := fun {H'} s => gu3.told (ca3.kn (KN.of_same s)).top
      have tt : ∀ {H'}, Same H8 H' → Told T.toTxTrees0 8 H' c false t := fun {H'} s => told (s28.trans s)
      obtain ⟨du, fu, hu8⟩ := (tu (Same.refl _)).ins
      have hc8 := s8 _ _ hc6
      refine ⟨_, rfl, _, rfl, c, (), dc, fc, .ref T.C_Call, rfl, trivial, hc8, T.ty_Call _ _ _ _ hu8, T.nf_Call_Call, c, false, t, .ref c3, some (u.textS false), rfl, tt (Same.refl _), .call (tu (Same.refl _)), fun H9 s9 => ⟨_, rfl, ?_⟩⟩
      refine ⟨_, rfl, _, rfl, c, (), dc, fc, .ref T.C_Call, rfl, trivial, s9 _ _ hc8, T.ty_Call _ _ _ _ (s9 _ _ hu8), T.nf_Call_Call, c, false, t, .ref c3, some (u.textS false), rfl, tt s9, .call (tu s9), fun H10 s10 => ⟨_, rfl, ?_⟩⟩
      rw [told_iff g gu3]
      generalize hbb : PyData.eqv t.data u.data = bb
      refine ⟨by show 2 ≤ sizeLine; decide, fun r hr => ?_⟩
      refine repr_d (d := .list [.bool bb, .bool (!bb)]) (.lst (SqL.of upd_same) (.cons (.bl _) (.cons (.bl _) .nil))) (show_two bb) ?_
      have s810 := s9.trans s10
      have s11 := s810.trans (same_upd hr (.lst [.bl bb, .bl (!bb)]))
      have ta8 : TrAt H8 (.ref b) t := TrAt.kt (KT.of_same s28) t _ ta
      have A := TrAt.dp (K := K) t _ (TrAt.kt (KT.of_same s11) t _ ta8)
      have B := TrAt.dp (K := K) u _ (TrAt.kt (KT.of_same s11) u _ ta3)
      have sa := Tr.shaped g.ft (by have := g.dp; omega)
      have sb := Tr.shaped gu3.ft (by have := gu3.dp; omega)
      refine ⟨_, rfl, _, rfl, t.data, u.data, A, B, sa, sb, ?_⟩
      refine ⟨_, rfl, _, rfl, t.data, u.data, A, B, sa, sb, ?_⟩
      rw [hbb]
      refine ⟨by show 2 ≤ sizeLine; decide, fun r2 hr2 => ?_⟩
      refine repr_d (d := .list [.bool bb, .bool (!bb)]) (.lst (SqL.of upd_same) (.cons (.bl _) (.cons (.bl _) .nil))) (show_two bb) ?_
      refine ⟨rfl, ?_⟩
      rw [decide_eq_true rfl]
      refine ⟨_, rfl, ?_⟩
      refine ite2 (fun z => absurd z (by decide)) (fun _ => ?_)
      exact ⟨⟨_, _, rfl⟩, s8.trans (s11.trans (same_upd hr2 (.lst [.bl bb, .bl (!bb)])))⟩
    · rintro σ H7 ⟨⟨v9, v10, rfl⟩, s7⟩
      exact ⟨⟨_, _, _, _, rfl⟩, s2.trans (s26.trans s7)⟩
  · rintro σ H1 ⟨⟨v7, v8, v9, v10, rfl⟩, s1⟩
    exact q _ _ _ _ H1 s1
end
end My

/-! ## k21: a turn -/
namespace My
open PySem PySem.Spec PyProof.Rows L2 PySem.MyX
theorem someIn_mem {names zs : List Str} (h : SomeIn names zs) : (∀ y ∈ zs, y ∈ names) ∧ zs.length ≤ names.length := by
  obtain ⟨ys, pm, sb⟩ := h
  exact ⟨fun y m => pm.mem_iff.mp (sb.subset m), by rw [← pm.length_eq]; exact sb.length_le⟩
theorem drawn_svn {W : WordsD} {many most : Int} {vs : List Sv2} {roots : List Str} (d : DrawnD W many most vs roots) : (∀ v ∈ vs, SvN (vs.map (·.nm)) v) ∧ vs.length ≤ 4 ∧ roots ≠ [] ∧ roots.length ≤ 4 ∧ ∀ y ∈ roots, y ∈ vs.map (·.nm) := by
  obtain ⟨j, j1, j2, en⟩ := d.names
  obtain ⟨l, hl, pm⟩ := d.ok.names
  have nl : vs.length ≤ 4 := by
    have e := congrArg List.length en
    rw [List.length_map, List.length_take, d.ok.lens.1] at e
    omega
  have pool : ∀ l ∈ POOLS3, ∀ y ∈ l, isNm y = true := by decide +kernel
  have kind : ∀ l ∈ KINDS3, (∀ y ∈ l, isNm y = true) ∧ l.length = 2 := by decide +kernel
  have nn : ∀ y ∈ vs.map (·.nm), isNm y = true := fun y m => by
    rw [en] at m
    exact pool l hl y (pm.mem_iff.mp (List.mem_of_mem_take m))
  obtain ⟨kk, k2⟩ := kind _ d.ok.kinds
  have rr := someIn_mem d.roots.2
  rw [List.length_map] at rr
  refine ⟨fun v mv => ?_, nl, d.roots.1, by omega, rr.1⟩
  have g := d.good v mv
  obtain ⟨i, i12, ek⟩ := g.kinds
  have ww := someIn_mem g.waits
  have ll := someIn_mem g.leaves
  rw [List.length_map] at ww ll
  refine ⟨nn _ (List.mem_map.mpr ⟨v, mv, rfl⟩), ⟨fun z => ?_, ?_, fun k m => ?_⟩, ⟨by omega, ww.1⟩, ⟨by omega, ll.1⟩⟩
  · have e := congrArg List.length ek
    rw [z, List.length_take, k2] at e
    simp only [List.length_nil] at e
    omega
  · rw [ek, List.length_take]
    omega
  · rw [ek] at m
    exact kk k (List.mem_of_mem_take m)
def Tr.flip : Tr → Tr
  | .node nm kd bad es => .node nm kd (!bad) es
theorem GoodT.flip {t : Tr} (g : GoodT t) : GoodT t.flip := by
  cases t with
  | node nm kd bad es =>
    have f := g.ft
    have s := g.sz
    have c := g.co
    unfold Tr.fit at f
    unfold Tr.cost at c
    refine ⟨?_, s, ?_⟩
    · unfold Tr.flip Tr.fit
      exact f
    · unfold Tr.flip Tr.cost
      exact c
theorem DealAt.off2 {H : Hp} {d g D : Addr} {ns : List Int} {s : Int} (h : DealAt H d g ns s) (n1 : D ≠ d) (n2 : D ≠ g) (o : HO) : DealAt (upd H D o) d g ns s := ⟨h.ne, h.s0, h.s1, by rw [upd_ne n1.symm]; exact h.dict, by rw [upd_ne n2.symm]; exact h.great, h.pos, h.few⟩
section
variable {w : World} {K : PySem.W.Frag} {mg : Str → Option Value}
theorem ok_tT21 (T : TxK21 w K mg) {D : Ends} {a d g : Addr} {v2 v3 v4 v5 v6 v7 v8 v9 v10 v11 v12 v13 : Option V} {H : Hp} {ns : List Int} {s : Int} (D0 : DealAt H d g ns s)
    (q : ∀ v2 v3 v4 v5 v6 v7 v8 v9 v10 v11 v12 v13 H' ns' s', DealAt H' d g ns' s' → D.nx [some (.ref a), some (.ref d), v2, v3, v4, v5, v6, v7, v8, v9, v10, v11, v12, v13] H') : tT21 T D [some (.ref a), some (.ref d), v2, v3, v4, v5, v6, v7, v8, v9, v10, v11, v12, v13] H := by
  unfold tT21
  refine ⟨_, rfl, by show 3 ≤ sizeLine; decide, fun z hz => ?_⟩
  refine ⟨d, g, z, 4, 2, ns, s, 2, 1, 1, rfl, D0.new hz _, by decide, by decide, by decide, by decide, upd_same, by decide, fun p W us roots ns1 s1 H1 k1 D1 BA dr => ?_⟩
  obtain ⟨svn, few, rne, rfew, rin⟩ := drawn_svn dr
  obtain ⟨Sv, R, bps, pd, pg, hp, _, _, LR⟩ := id BA.at_
  -- three trees
  refine ⟨3, rfl, by decide, by decide, fun L hL => ?_⟩
  have Ld : L ≠ d := fun e => D1.dn (e ▸ hL)
  have Lg : L ≠ g := fun e => D1.gn (e ▸ hL)
  refine lc_range (lo := 0) (n := 3) (fun i H' => KeepD d g H1 H' ∧ (∃ ns s, DealAt H' d g ns s) ∧ ∃ (vs : List V) (ts : List Tr), H' L = some (.lst vs) ∧ Paired (TrAt H') vs ts ∧ vs.length = i ∧ ∀ t ∈ ts, GoodT t) ⟨KeepD.same (same_upd hL _), ⟨_, _, D1.sameD (same_upd hL _)⟩, [], [], upd_same, .nil, rfl, fun _ m => nomatch m⟩ ?_ ?_
  · rintro i H2 hi ⟨k2, ⟨ns2, s2, D2⟩, vs, ts, hv, tv, lv, gt⟩
    refine ⟨rfl, ?_⟩
    refine ⟨_, rfl, _, rfl, _, rfl, _, rfl, p, _, rfl, DGet.k (k := .inr "roots") (k2 _ _ pd pg hp), ?_⟩
    refine pickS D2 (LR.keep k2) rne (by omega) fun nm ns3 s3 H3 k3 D3 mn => ?_
    refine ⟨by show 1 ≤ sizeLine; decide, fun l hl => ?_⟩
    have k13 := k2.trans2 k3
    have ld : l ≠ d := fun e => D3.dn (e ▸ hl)
    have lg : l ≠ g := fun e => D3.gn (e ▸ hl)
    have l0 : H1 l = none := by
      cases e : H1 l with
      | none => rfl
      | some o =>
        rw [k13 l o ld lg e] at hl
        cases hl
    have y4 := same_upd hl (.lst [.int 6])
    have D4 := D3.sameD y4
    have k14 := k13.trans2 (KeepD.same y4)
    have hv4 := y4 _ _ (k3 _ _ Ld Lg hv)
    have Ll : L ≠ l := fun e => by rw [← e, k3 _ _ Ld Lg hv] at hl; cases hl
    have l4 : upd H3 l (.lst [.int 6]) l = some (.lst [.int ((6 : Nat) : Int)]) := upd_same
    have tv4 : Paired (TrAt (upd H3 l (.lst [.int 6]))) vs ts := paired_kp (fun x y z => TrAt.kt (KT.of_same y4) y x (TrAt.kt (KT.of_keepD D2 k3) y x z)) tv
    generalize upd H3 l (.lst [.int 6]) = H4 at y4 D4 k14 hv4 l4 tv4 ⊢
    refine ⟨d, g, p, l, nm, us, roots, H1, 6, ns3, s3, rfl, D4, BA, k14, l0, ld, lg, l4, by decide, by decide, rin nm mn, by omega, svn, fun v t left' ns5 s5 H5 k5 D5 _ tr ft ib tn sz co => ?_⟩
    have hv5 := k5 _ _ Ld Lg Ll hv4
    have gt5 : GoodT t := ⟨ft, by omega, by omega⟩
    refine ⟨vs, hv5, small1000 (by omega), fun b o n1 n2 e => ?_, ⟨ns5, s5, D5.off2 Ld Lg _⟩, vs ++ [v], ts ++ [t], upd_same, ?_, by rw [List.length_append, lv]; rfl, fun t2 m => ?_⟩
    · rw [upd_ne (ne_of_none e hL)]
      exact KeepL.keepD k14 l0 k5 b o n1 n2 e
    · have kt := (KN.put hv5 (.lst (vs ++ [v]))).kt
      exact paired_end (paired_kp (fun x y z => TrAt.kt kt y x (TrAt.kt (KeepL.kt D4 l4 k5) y x z)) tv4) (TrAt.kt kt t v tr)
    · rcases List.mem_append.mp m with h | h
      · exact gt t2 h
      · rw [List.mem_singleton.mp h]
        exact gt5
  rintro H2 ⟨k2, ⟨ns2, s2, D2⟩, vs, ts, hv, tv, lv, gt⟩
  -- the fourth is the first, ending otherwise
  match vs, ts, tv, lv, hv, gt with
  | [u0, u1, u2], [t0, t1, t2], .cons b0 (.cons b1 (.cons b2 .nil)), _, hv, gt =>
    have g0 := gt t0 List.mem_cons_self
    have g1 := gt t1 (by simp)
    have g2 := gt t2 (by simp)
    cases b0 with
    | @node ra re nm kd bad qs es ha hea rr =>
      refine ⟨_, rfl, .inl ⟨rfl, _, SqL.of hv⟩, _, rfl, ixL_tc (j := 0) (SqL.of hv) rfl ?_⟩
      refine ⟨2, rfl, ra, _, rfl, SqT.of ha, (by show ¬(HT.sIx 4 0 none = 0 ∧ HT.sIx 4 4 (some 2) = 4); decide), fun e1 he1 => ?_⟩
      have y1 := same_upd he1 (.tup (cutV [.str nm, .str kd, .bl bad, .ref re] none (some 2)))
      have x1 : upd H2 e1 (.tup (cutV [.str nm, .str kd, .bl bad, .ref re] none (some 2))) e1 = some (.tup [.str nm, .str kd]) := upd_same
      generalize upd H2 e1 (.tup (cutV [.str nm, .str kd, .bl bad, .ref re] none (some 2))) = H3 at y1 x1 ⊢
      refine ⟨_, rfl, ixL_tc (j := 0) (SqL.of (y1 _ _ hv)) rfl (ixT_tc (j := 2) (SqT.of (y1 _ _ ha)) rfl ⟨bad, rfl, ?_⟩)⟩
      refine ⟨_, rfl, ixL_tc (j := 0) (SqL.of (y1 _ _ hv)) rfl (ixT_tc (j := 3) (SqT.of (y1 _ _ ha)) rfl ⟨by show 2 ≤ sizeLine; decide, fun e2 he2 => ?_⟩)⟩
      have y2 := same_upd he2 (.tup [.bl (!bad), .ref re])
      refine ⟨e1, e2, [.str nm, .str kd], [.bl (!bad), .ref re], rfl, rfl, SqT.of (y2 _ _ x1), SqT.of upd_same, (fun z => nomatch z), (by show 2 + 2 ≤ sizeLine; decide), (fun z => nomatch z), fun _ r3 hr3 => ?_⟩
      have y3 := same_upd hr3 (.tup ([.str nm, .str kd] ++ [.bl (!bad), .ref re]))
      have x3 : upd (upd H3 e2 (.tup [.bl (!bad), .ref re])) r3 (.tup ([.str nm, .str kd] ++ [.bl (!bad), .ref re])) r3 = some (.tup [.str nm, .str kd, .bl (!bad), .ref re]) := upd_same
      have y23 := (y1.trans y2).trans y3
      generalize upd (upd H3 e2 (.tup [.bl (!bad), .ref re])) r3 (.tup ([.str nm, .str kd] ++ [.bl (!bad), .ref re])) = H4 at x3 y23 ⊢
      have hv4 := y23 _ _ hv
      refine ⟨L, _, _, rfl, rfl, hv4, (by show 3 < sizeLine; decide), ?_⟩
      have kn := KN.put hv4 (.lst ([.ref ra, u1, u2] ++ [.ref r3]))
      have kt : KT H2 (upd H4 L (.lst ([.ref ra, u1, u2] ++ [.ref r3]))) := ((KN.of_same y23).trans kn).kt
      have D4 := (D2.sameD y23).off2 Ld Lg (.lst ([.ref ra, u1, u2] ++ [.ref r3]))
      have hL5 : upd H4 L (.lst ([.ref ra, u1, u2] ++ [.ref r3])) L = some (.lst [.ref ra, u1, u2, .ref r3]) := upd_same
      have tv5 : Paired (TrAt (upd H4 L (.lst ([.ref ra, u1, u2] ++ [.ref r3])))) [.ref ra, u1, u2, .ref r3] [.node nm kd bad es, t1, t2, .node nm kd (!bad) es] :=
        .cons (.node (kt _ _ ha) (kt _ _ hea) (EvsAt.kt kt es _ rr)) (.cons (TrAt.kt kt t1 u1 b1) (.cons (TrAt.kt kt t2 u2 b2) (.cons (.node (kn.kt _ _ x3) (kt _ _ hea) (EvsAt.kt kt es _ rr)) .nil)))
      generalize upd H4 L (.lst ([.ref ra, u1, u2] ++ [.ref r3])) = H5 at D4 hL5 tv5 ⊢
      have gt4 : ∀ t ∈ [Tr.node nm kd bad es, t1, t2, .node nm kd (!bad) es], GoodT t := by
        intro t m
        simp only [List.mem_cons, List.not_mem_nil, or_false] at m
        rcases m with rfl | rfl | rfl | rfl
        · exact g0
        · exact g1
        · exact g2
        · exact g0.flip
      have ln4 : [Tr.node nm kd bad es, t1, t2, .node nm kd (!bad) es].length = 4 := rfl
      generalize ([Tr.node nm kd bad es, t1, t2, .node nm kd (!bad) es] : List Tr) = ts4 at tv5 gt4 ln4
      generalize ([V.ref ra, u1, u2, .ref r3] : List V) = vs4 at tv5 hL5
      -- the calls
      refine ⟨_, rfl, L, rfl, ⟨_, SqL.of hL5⟩, fun M hM => ?_⟩
      refine lc_list (K := K) (a := L) (xs := vs4) (fun i H' => Same H5 H' ∧ ∃ cs : List Addr, H' M = some (.lst (cs.map V.ref)) ∧ Paired (CallAt T.toTxTrees0 H') cs (ts4.take i)) ⟨same_upd hM _, [], upd_same, .nil⟩ (fun i H' _ hh => SqL.of (hh.1 _ _ hL5)) ?_ ?_
      · rintro i x H6 hx ⟨s6, cs, m6, cv⟩
        obtain ⟨t, ht, ta⟩ := pair_at2 tv5 hx
        have g := gt4 t (List.mem_of_getElem? ht)
        refine ⟨rfl, _, rfl, x, t, rfl, TrAt.kt (KT.of_same s6) t x ta, g.dp, by have := g.sz; omega, g.ft, fun c H7 s7 _ ca => ⟨_, s7 _ _ m6, small1000 (by rw [List.length_map, pair_len3 cv, List.length_take]; omega), fun b o z => ?_, cs ++ [c], ?_, ?_⟩⟩
        · rw [upd_ne (ne_of_none z hM)]
          exact s7 _ _ (s6 _ _ z)
        · rw [upd_same, List.map_append]
          rfl
        · have k := KN.put (s7 _ _ m6) (.lst (cs.map V.ref ++ [.ref c]))
          rw [List.take_add_one, ht]
          exact paired_end (paired_kp (fun x y z => CallAt.kn ((KN.of_same s7).trans k) y x z) cv) (ca.kn k)
      rintro H6 ⟨s6, cs, m6, cv⟩
      rw [pair_len3 tv5, List.take_length] at cv
      have S6 : S21 T.toTxTrees0 H6 L M ts4 vs4 cs := ⟨s6 _ _ hL5, m6, paired_kp (fun x y z => TrAt.kt (KT.of_same s6) y x z) tv5, cv, gt4, ln4⟩
      exact ok_tC21 T S6 fun v7 v8 v9 v10 H7 s7 => ok_tE21 T (S6.same s7) fun v8 v11 v12 H8 s8 => q _ _ _ _ _ _ _ _ _ _ _ _ H8 ns2 s2 (D4.sameD ((s6.trans s7).trans s8))
end
end My

/-! ## k21: the law -/
namespace My
open PySem PySem.Spec PyProof.Rows L2 PySem.MyX
def spLaw (K : PySem.W.Frag) : Sp := fun vs H Q _ => ∃ (a : Addr) (ns : List Int), vs = [.ref a] ∧ SqL K H a (ns.map V.int) ∧ ns.length ≤ 63 ∧ ∀ H', Q (.bl true) H'
section
variable {P : Program} {w : World} {K : PySem.W.Frag} {mg : Str → Option Value} {base : Heap}
theorem ok_law21 (T : TxK21 w K mg) : FnTop P w K mg base 25 T.f_law T.d_law P_law (spLaw K) := by
  have G_source := ok_source (P := P) (w := w) (base := base) T.toTxDBook.toTxDeal
  have G_pick := ok_dpick (P := P) (w := w) (base := base) T.toTxDBook.toTxDeal
  have G_book := ok_dbook (P := P) (w := w) (base := base) T.toTxDBook
  have G_tree := ok_dgrow (P := P) (w := w) (base := base) T.toTxDGrow 7
  have G_call := ok_dcall (P := P) (w := w) (base := base) T.toTxDCall 8
  have G_text := ok_ltext (P := P) (w := w) (base := base) T.toTxMade.toTxLText 8
  have G_is_made := ok_ismade (P := P) (w := w) (base := base) T.toTxMade 8 8
  have G_cstr := str_call (P := P) (w := w) (base := base) T.toTxCEq.toTxCStr 8
  have G_ceq := eq_call (P := P) (w := w) (base := base) T.toTxCEq 8
  have G_eeq := eq_ev (P := P) (w := w) (base := base) T.toTxEEq 8
  have G_clen := len_call (P := P) (w := w) (base := base) T.toTxDCall.toTxThings.toTxCalls
  have G_Call_init := ok_Call_init (P := P) (w := w) (base := base) T.toTxDCall.toTxThings.toTxCalls
  have G_Wait_init := ok_Wait_init (P := P) (w := w) (base := base) T.toTxTrees0
  have G_Leave_init := ok_Leave_init (P := P) (w := w) (base := base) T.toTxTrees0
  have G_Hear_init := ok_Hear_init (P := P) (w := w) (base := base) T.toTxTrees0
  obtain ⟨ds0, hv0, hb0⟩ := T.F_Call_init.binds1 (ps := P_Call_init) 6 3 (by simp) rfl (fun TT kV doc pm an cdv ct us its h1 h2 => by
    match us, h1, its, h2 with
    | [_, _, _, _, _, _], _, [_, _, _], _ => exact ⟨_, rfl, rfl⟩)
  obtain ⟨ds2, hv2, hb2⟩ := T.F_Call_init.binds1 (ps := P_Call_init) 5 2 (by simp) rfl (fun TT kV doc pm an cdv ct us its h1 h2 => by
    match us, h1, its, h2 with
    | [_, _, _, _, _], _, [_, _, _], _ => exact ⟨_, rfl, rfl⟩)
  obtain ⟨ds3, hv3, hb3⟩ := T.F_Call_init.binds1 (ps := P_Call_init) 3 0 (by simp) rfl (fun TT kV doc pm an cdv ct us its h1 h2 => by
    match us, h1, its, h2 with
    | [_, _, _], _, [_, _, _], _ => exact ⟨_, rfl, rfl⟩)
  refine top_of T.F_law sc_law (fun vs H Q E h => ?_) (fun cdv A outer s H vs Q gu hr h => ?_)
  · obtain ⟨a, ns, rfl, _⟩ := h
    rfl
  obtain ⟨a, ns, rfl, hS, h63, q⟩ := h
  refine ⟨_, (pss_cons (ps_set (i := 1) sc_law.nd rfl (Or.inr rfl) (pe_call G_source (hr.mono (by decide)) (by rfl) T.m_source T.F_source.kp T.b_source .nil pass0 (pa_cons (pv 0) (pa_cons pe_int pa_nil))))
      (pss_cons (ps_for PassesOwn.never rfl (pi_range1 (by rfl) T.z_range (pa_cons pe_int pa_nil)) (pg_name (i := 2) sc_law.nd rfl (Or.inl rfl)) (pss_cons (ps_set (i := 3) sc_law.nd rfl (Or.inr rfl) (pe_call G_book (hr.mono (by decide)) (by rfl) T.m_book T.F_book.kp T.b_book .nil pass0 (pa_cons (pv 1) (pa_cons pe_int (pa_cons pe_int (pa_cons (pe_tup (pa_cons pe_int (pa_cons pe_int (pa_cons pe_int pa_nil)))) pa_nil))))))
      (pss_cons (ps_setLc (i := 4) (own := [("_law_k", 5)]) (g := gName 5) (by rfl) sc_law.nd rfl rfl (sw_true rfl rfl rfl (by decide +kernel)) (pi_range1 (by rfl) T.z_range (pa_cons pe_int pa_nil)) (blkOk_by (own := [("_law_k", 5)]) (N := N_law) (sc := defScope s_law) (by decide +kernel)) (fun _ _ _ _ _ => (pg_name (i := 5) sc_law.nd rfl (Or.inl rfl))) (fun _ _ _ _ _ => pts_nil) (fun _ _ _ _ _ => (pe_call G_tree (hr.mono (by decide)) (by rfl) T.m_tree T.F_tree.kp T.b_tree .nil pass0 (pa_cons (pv 1) (pa_cons (pv 3) (pa_cons (pe_call G_pick (hr.mono (by decide)) (by rfl) T.m_pick T.F_pick.kp T.b_pick .nil pass0 (pa_cons (pv 1) (pa_cons (pe_dget (hu_of hr) (pv 3) pe_str (fun _ _ => rfl)) pa_nil))) (pa_cons (pe_lst (pa_cons pe_int pa_nil)) pa_nil)))))))
      (pss_cons (ps_expr (pe_bm PySem.F.plainAttrs_list PySem.F.slot_list_append PySem.F.type_list_append mt_append (pv 4) (pa_cons (pe_op op_catT (pe_slice (sl_tupK K) (pe_ix (ix_listK K) (pv 4) pe_int (fun _ _ => rfl)) po_none (po_some pe_int)) (pe_tup (pa_cons (pe_not (pe_ix (ix_tupK K) (pe_ix (ix_listK K) (pv 4) pe_int (fun _ _ => rfl)) pe_int (fun _ _ => rfl))) (pa_cons (pe_ix (ix_tupK K) (pe_ix (ix_listK K) (pv 4) pe_int (fun _ _ => rfl)) pe_int (fun _ _ => rfl)) pa_nil)))) pa_nil)))
      (pss_cons (ps_setLc (i := 6) (own := [("_law_tree_here", 7)]) (g := gName 7) (by rfl) sc_law.nd rfl rfl (sw_true rfl rfl rfl (by decide +kernel)) (pi_listK K (pv 4)) (blkOk_by (own := [("_law_tree_here", 7)]) (N := N_law) (sc := defScope s_law) (by decide +kernel)) (fun _ _ _ _ _ => (pg_name (i := 7) sc_law.nd rfl (Or.inl rfl))) (fun _ _ _ _ _ => pts_nil) (fun _ _ _ _ _ => (pe_call G_call (hr.mono (by decide)) (by rfl) T.m_call T.F_call.kp T.b_call .nil pass0 (pa_cons (pv 7) pa_nil))))
      (pss_cons (ps_for PassesOwn.never rfl (pi_zip (by rfl) T.z_zip (pa_cons (pv 6) (pa_cons (pv 4) pa_nil))) (pg_tup rfl (pgs_cons (pg_name (i := 8) sc_law.nd rfl (Or.inl rfl)) (pgs_cons (pg_name (i := 7) sc_law.nd rfl (Or.inl rfl)) pgs_nil))) (pss_cons (ps_if (PW.pt (pw_or (pt_not (pt_val (pe_callT G_is_made gu (made_len T.toTxTrees0 8 8) (hr.mono (by decide)) (by rfl) T.m_is_made T.F_is_made.kp T.b_is_made (pa_cons (pv 8) (pa_cons (pv 7) pa_nil))))) (pw_or (pt_cmpR (op_eqO K G_ceq (hr.mono (by decide))) (pv 8) (pe_callTy (call_strO K G_cstr (hr.mono (by decide))) (by rfl) T.z_str (by decide +kernel) (pa_cons (pv 8) pa_nil)) (nomark _)) (pw_or1 (pt_cmpR (op_eqO K G_ceq (hr.mono (by decide))) (pv 8) (pv 7) (nomark _)))))) (pss_one (ps_ret pe_bl)) pss_nil)
      (pss_one (ps_for PassesOwn.never rfl (pi_zip (by rfl) T.z_zip (pa_cons (pv 6) (pa_cons (pv 4) pa_nil))) (pg_tup rfl (pgs_cons (pg_name (i := 9) sc_law.nd rfl (Or.inl rfl)) (pgs_cons (pg_name (i := 10) sc_law.nd rfl (Or.inl rfl)) pgs_nil))) (pss_one (ps_if (pt_cmpR op_ne (pe_callB (call_reprD K gu hr.units) (by rfl) T.z_repr (by decide +kernel) (pa_cons (pe_lst (pa_cons (pe_cmpR (op_eqO K G_ceq (hr.mono (by decide))) (pv 8) (pv 9) (nomark _)) (pa_cons (pe_cmpR (op_neO K G_ceq (hr.mono (by decide))) (pv 8) (pv 9) (nomark _)) pa_nil))) pa_nil)) (pe_callB (call_reprD K gu hr.units) (by rfl) T.z_repr (by decide +kernel) (pa_cons (pe_lst (pa_cons (pe_cmpR (op_eqDK K hr.units) (pv 7) (pv 10) (nomark _)) (pa_cons (pe_cmpR (op_neDK K hr.units) (pv 7) (pv 10) (nomark _)) pa_nil))) pa_nil)) (nomark _)) (pss_one (ps_ret pe_bl)) pss_nil))))))
      (pss_cons (ps_set (i := 11) sc_law.nd rfl (Or.inl rfl) (pe_lst (pa_cons (pe_make T.mk_Wait G_Wait_init (hr.mono (by decide)) (by rfl) T.m_Wait T.b_Wait_init .nil passL (pa_cons (pe_ix (ix_listK K) (pv 6) pe_int (fun _ _ => rfl)) pa_nil)) (pa_cons (pe_make T.mk_Leave G_Leave_init (hr.mono (by decide)) (by rfl) T.m_Leave T.b_Leave_init .nil passL (pa_cons (pe_ix (ix_listK K) (pv 6) pe_int (fun _ _ => rfl)) pa_nil)) (pa_cons (pe_make T.mk_Hear G_Hear_init (hr.mono (by decide)) (by rfl) T.m_Hear T.b_Hear_init .nil passL (pa_cons pe_int pa_nil)) pa_nil)))))
      (pss_cons (ps_set (i := 8) sc_law.nd rfl (Or.inl rfl) (pe_make T.mk_Call G_Call_init (hr.mono (by decide)) (by rfl) T.m_Call hb0 hv0 passL (pa_cons pe_str (pa_cons pe_str (pa_cons pe_bl (pa_cons (pv 11) (pa_cons pe_str pa_nil)))))))
      (pss_cons (ps_expr (pe_bm PySem.F.plainAttrs_list PySem.F.slot_list_append PySem.F.type_list_append mt_append (pv 11) (pa_cons (pe_make T.mk_Hear G_Hear_init (hr.mono (by decide)) (by rfl) T.m_Hear T.b_Hear_init .nil passL (pa_cons pe_int pa_nil)) pa_nil)))
      (pss_cons (ps_set (i := 12) sc_law.nd rfl (Or.inl rfl) (pe_m1 PySem.F.slot_str_join PySem.F.type_str_join (mt_joinK K) pe_str (pe_lst (pa_cons (pe_op op_add_str pe_str (pe_call G_text (hr.mono (by decide)) (by rfl) T.m_text T.F_text.kp T.b_text .nil pass0 (pa_cons (pe_ix (ix_listK K) (pv 4) pe_int (fun _ _ => rfl)) pa_nil))) (pa_cons (pe_op op_add_str pe_str (pe_call G_text (hr.mono (by decide)) (by rfl) T.m_text T.F_text.kp T.b_text .nil pass0 (pa_cons (pe_ix (ix_listK K) (pv 4) pe_int (fun _ _ => rfl)) pa_nil))) (pa_cons pe_str pa_nil))))))
      (pss_cons (ps_if (PW.pt (pw_or (pt_cmpR op_ne (pe_callTy (call_strO K G_cstr (hr.mono (by decide))) (by rfl) T.z_str (by decide +kernel) (pa_cons (pv 8) pa_nil)) (pe_op op_add_str (pe_op op_add_str pe_str (pv 12)) pe_str) (nomark _)) (pw_or1 (pt_cmpR op_ne (pe_callB (call_lenO K G_clen (hr.mono (by decide))) (by rfl) T.z_len (by decide +kernel) (pa_cons (pv 8) pa_nil)) (pe_op op_add (pe_op op_add pe_int (pe_callB (call_lenO K G_clen (hr.mono (by decide))) (by rfl) T.z_len (by decide +kernel) (pa_cons (pe_ix (ix_listK K) (pv 6) pe_int (fun _ _ => rfl)) pa_nil))) (pe_callB (call_lenO K G_clen (hr.mono (by decide))) (by rfl) T.z_len (by decide +kernel) (pa_cons (pe_ix (ix_listK K) (pv 6) pe_int (fun _ _ => rfl)) pa_nil))) (nomark _))))) (pss_one (ps_ret pe_bl)) pss_nil)
      (pss_cons (ps_if (PW.pt (pw_or (pt_cmpR (op_eqO K G_ceq (hr.mono (by decide))) (pv 8) (pe_make T.mk_Call G_Call_init (hr.mono (by decide)) (by rfl) T.m_Call hb2 hv2 passL (pa_cons pe_str (pa_cons pe_str (pa_cons pe_bl (pa_cons (pe_slice (sl_listK K) (pv 11) po_none (po_some pe_int)) pa_nil))))) (nomark _)) (pw_or1 (pt_cmpR (op_neO K G_eeq (hr.mono (by decide))) (pe_ix (ix_tupK K) (pe_fldK K (pv 8)) pe_int (fun _ _ => rfl)) (pe_make T.mk_Leave G_Leave_init (hr.mono (by decide)) (by rfl) T.m_Leave T.b_Leave_init .nil passL (pa_cons (pe_ix (ix_listK K) (pv 6) pe_int (fun _ _ => rfl)) pa_nil)) (nomark _))))) (pss_one (ps_ret pe_bl)) pss_nil)
      (pss_one (ps_if (PW.pt (pw_or (pt_cmpR (op_eqO K G_eeq (hr.mono (by decide))) (pe_make T.mk_Wait G_Wait_init (hr.mono (by decide)) (by rfl) T.m_Wait T.b_Wait_init .nil passL (pa_cons (pe_ix (ix_listK K) (pv 6) pe_int (fun _ _ => rfl)) pa_nil)) (pe_make T.mk_Leave G_Leave_init (hr.mono (by decide)) (by rfl) T.m_Leave T.b_Leave_init .nil passL (pa_cons (pe_ix (ix_listK K) (pv 6) pe_int (fun _ _ => rfl)) pa_nil)) (nomark _)) (pw_or (pt_cmpR (op_eqO K G_eeq (hr.mono (by decide))) (pe_make T.mk_Hear G_Hear_init (hr.mono (by decide)) (by rfl) T.m_Hear T.b_Hear_init .nil passL (pa_cons pe_int pa_nil)) (pe_make T.mk_Hear G_Hear_init (hr.mono (by decide)) (by rfl) T.m_Hear T.b_Hear_init .nil passL (pa_cons pe_int pa_nil)) (nomark _)) (pw_or1 (pt_cmpR (op_eqO K G_eeq (hr.mono (by decide))) (pe_make T.mk_Hear G_Hear_init (hr.mono (by decide)) (by rfl) T.m_Hear T.b_Hear_init .nil passL (pa_cons pe_int pa_nil)) pe_str (nomark _)))))) (pss_one (ps_ret pe_bl)) pss_nil))))))))))))))
      (pss_cons (ps_set (i := 13) sc_law.nd rfl (Or.inl rfl) (pe_make T.mk_Call G_Call_init (hr.mono (by decide)) (by rfl) T.m_Call hb3 hv3 passL (pa_cons pe_str (pa_cons pe_str pa_nil))))
      (pss_one (ps_ret (pe_and (pe_cmpR (op_eqO K G_ceq (hr.mono (by decide))) (pv 13) (pe_make T.mk_Call G_Call_init (hr.mono (by decide)) (by rfl) T.m_Call hb0 hv0 passL (pa_cons pe_str (pa_cons pe_str (pa_cons pe_bl (pa_cons (pe_lst pa_nil) (pa_cons pe_str pa_nil)))))) (nomark _)) (pe_and (pe_cmpR (op_eqDK K hr.units) (pe_fldK K (pv 13)) (pe_tup pa_nil) (nomark _)) (pe_one (pe_cmpR op_eq (pe_callTy (call_strO K G_cstr (hr.mono (by decide))) (by rfl) T.z_str (by decide +kernel) (pa_cons (pv 13) pa_nil)) pe_str (nomark _)))))))))), ?_⟩
  rw [qRep_eq]
  refine ⟨_, rfl, a, ns, 0, rfl, hS, h63, by decide, fun d g gs s0 H1 s1 d0 g0 D1 => ?_⟩
  refine ⟨3, rfl, by decide, by decide, for_range (lo := 0) (fun i σ H' => (∃ v2 v3 v4 v5 v6 v7 v8 v9 v10 v11 v12 v13, σ = [some (.ref a), some (.ref d), v2, v3, v4, v5, v6, v7, v8, v9, v10, v11, v12, v13]) ∧ ∃ ns s, DealAt H' d g ns s) ⟨⟨_, _, _, _, _, _, _, _, _, _, _, _, rfl⟩, _, _, D1⟩ ?_ ?_⟩
  · rintro i σ H2 hi ⟨⟨v2, v3, v4, v5, v6, v7, v8, v9, v10, v11, v12, v13, rfl⟩, ns2, s2, D2⟩
    show tT21 T _ _ _
    exact ok_tT21 T D2 fun v2 v3 v4 v5 v6 v7 v8 v9 v10 v11 v12 v13 H' ns' s' D' => ⟨⟨_, _, _, _, _, _, _, _, _, _, _, _, rfl⟩, ns', s', D'⟩
  · rintro σ H2 ⟨⟨v2, v3, v4, v5, v6, v7, v8, v9, v10, v11, v12, v13, rfl⟩, ns2, s2, D2⟩
    show tP21 T _ _ _
    exact ok_tP21 T q
end
end My

/-! ## The end: what the top has written, the theorem -/
namespace My
open PySem L2
theorem kit_yes {K : PySem.W.Frag} {t : Value} {C : Addr} (h1 : PySem.W.isClsIn K C = true) (h2 : PySem.W.typeIn K (.ref C) = some (.type "type")) (h3 : PySem.W.subIn K t (.ref C) = some true) : PySem.W.kitOne K t (.ref C) = some true := by
  have e : ((PySem.W.clsIn K C).isSome && PySem.W.typeIn K (.ref C) == some (.type "type")) = true := by
    have h1' : (PySem.W.clsIn K C).isSome = true := h1
    rw [h1', h2] <;> rfl
  unfold PySem.W.kitOne
  split
  · rfl
  · show (if ((PySem.W.clsIn K C).isSome && PySem.W.typeIn K (.ref C) == some (.type "type")) = true then PySem.W.subIn K t (.ref C) else none) = some true
    rw [if_pos e]
    exact h3
theorem kit_no {K : PySem.W.Frag} {A C : Addr} {b : Bool} (h1 : PySem.W.isClsIn K C = true) (h2 : PySem.W.typeIn K (.ref C) = some (.type "type")) (h3 : PySem.W.subIn K (.ref A) (.ref C) = some b) (n : A ≠ C) : PySem.W.kitOne K (.ref A) (.ref C) = some b := by
  have e : ((PySem.W.clsIn K C).isSome && PySem.W.typeIn K (.ref C) == some (.type "type")) = true := by
    have h1' : (PySem.W.clsIn K C).isSome = true := h1
    rw [h1', h2] <;> rfl
  unfold PySem.W.kitOne
  rw [if_neg (fun z => n (by have z2 := beq_iff_eq.mp z; cases z2; rfl))]
  show (if ((PySem.W.clsIn K C).isSome && PySem.W.typeIn K (.ref C) == some (.type "type")) = true then PySem.W.subIn K (.ref A) (.ref C) else none) = some b
  rw [if_pos e]
  exact h3
theorem kit_tyno {K : PySem.W.Frag} {A : String} {C : Addr} {b : Bool} (h1 : PySem.W.isClsIn K C = true) (h2 : PySem.W.typeIn K (.ref C) = some (.type "type")) (h3 : PySem.W.subIn K (.type A) (.ref C) = some b) : PySem.W.kitOne K (.type A) (.ref C) = some b := by
  have e : ((PySem.W.clsIn K C).isSome && PySem.W.typeIn K (.ref C) == some (.type "type")) = true := by
    have h1' : (PySem.W.clsIn K C).isSome = true := h1
    rw [h1', h2] <;> rfl
  unfold PySem.W.kitOne
  rw [if_neg (fun z => by have z2 := beq_iff_eq.mp z; cases z2)]
  show (if ((PySem.W.clsIn K C).isSome && PySem.W.typeIn K (.ref C) == some (.type "type")) = true then PySem.W.subIn K (.type A) (.ref C) else none) = some b
  rw [if_pos e]
  exact h3
theorem kit_reflist {K : PySem.W.Frag} {A : Addr} {b : Bool} (h3 : PySem.W.subIn K (.ref A) (.type "list") = some b) : PySem.W.kitOne K (.ref A) (.type "list") = some b := by
  unfold PySem.W.kitOne
  rw [if_neg (fun z => by have z2 := beq_iff_eq.mp z; cases z2)]
  unfold PySem.W.kitCls
  first | exact h3 | (simp; exact h3)
theorem kit_reftuple {K : PySem.W.Frag} {A : Addr} {b : Bool} (h3 : PySem.W.subIn K (.ref A) (.type "tuple") = some b) : PySem.W.kitOne K (.ref A) (.type "tuple") = some b := by
  unfold PySem.W.kitOne
  rw [if_neg (fun z => by have z2 := beq_iff_eq.mp z; cases z2)]
  unfold PySem.W.kitCls
  first | exact h3 | (simp; exact h3)
theorem kit_refstr {K : PySem.W.Frag} {A : Addr} {b : Bool} (h3 : PySem.W.subIn K (.ref A) (.type "str") = some b) : PySem.W.kitOne K (.ref A) (.type "str") = some b := by
  unfold PySem.W.kitOne
  rw [if_neg (fun z => by have z2 := beq_iff_eq.mp z; cases z2)]
  unfold PySem.W.kitCls
  first | exact h3 | (simp; exact h3)
theorem kit_refbool {K : PySem.W.Frag} {A : Addr} {b : Bool} (h3 : PySem.W.subIn K (.ref A) (.type "bool") = some b) : PySem.W.kitOne K (.ref A) (.type "bool") = some b := by
  unfold PySem.W.kitOne
  rw [if_neg (fun z => by have z2 := beq_iff_eq.mp z; cases z2)]
  unfold PySem.W.kitCls
  first | exact h3 | (simp; exact h3)
theorem kit_refint {K : PySem.W.Frag} {A : Addr} {b : Bool} (h3 : PySem.W.subIn K (.ref A) (.type "int") = some b) : PySem.W.kitOne K (.ref A) (.type "int") = some b := by
  unfold PySem.W.kitOne
  rw [if_neg (fun z => by have z2 := beq_iff_eq.mp z; cases z2)]
  unfold PySem.W.kitCls
  first | exact h3 | (simp; exact h3)
theorem kit_refIndexError {K : PySem.W.Frag} {A : Addr} {b : Bool} (h3 : PySem.W.subIn K (.ref A) (.type "IndexError") = some b) : PySem.W.kitOne K (.ref A) (.type "IndexError") = some b := by
  unfold PySem.W.kitOne
  rw [if_neg (fun z => by have z2 := beq_iff_eq.mp z; cases z2)]
  unfold PySem.W.kitCls
  first | exact h3 | (simp; exact h3)
theorem kit_refKeyError {K : PySem.W.Frag} {A : Addr} {b : Bool} (h3 : PySem.W.subIn K (.ref A) (.type "KeyError") = some b) : PySem.W.kitOne K (.ref A) (.type "KeyError") = some b := by
  unfold PySem.W.kitOne
  rw [if_neg (fun z => by have z2 := beq_iff_eq.mp z; cases z2)]
  unfold PySem.W.kitCls
  first | exact h3 | (simp; exact h3)
theorem kit_refValueError {K : PySem.W.Frag} {A : Addr} {b : Bool} (h3 : PySem.W.subIn K (.ref A) (.type "ValueError") = some b) : PySem.W.kitOne K (.ref A) (.type "ValueError") = some b := by
  unfold PySem.W.kitOne
  rw [if_neg (fun z => by have z2 := beq_iff_eq.mp z; cases z2)]
  unfold PySem.W.kitCls
  first | exact h3 | (simp; exact h3)
theorem exm_mk {K : PySem.W.Frag} {t : Value} {C : Addr} {b : Bool} (h0 : PySem.W.subIn K (.ref C) (.type "BaseException") = some true) (h1 : PySem.W.isClsIn K C = true) (h2 : PySem.W.typeIn K (.ref C) = some (.type "type")) (h3 : PySem.W.subIn K t (.ref C) = some b) : PySem.W.exmOne K t (.ref C) = some b := by
  have e : ((PySem.W.clsIn K C).isSome && PySem.W.typeIn K (.ref C) == some (.type "type")) = true := by
    have h1' : (PySem.W.clsIn K C).isSome = true := h1
    rw [h1', h2] <;> rfl
  have e0 : (PySem.W.subIn K (.ref C) (.type "BaseException") == some true) = true := by rw [h0] <;> rfl
  unfold PySem.W.exmOne
  rw [if_pos e0]
  show (if ((PySem.W.clsIn K C).isSome && PySem.W.typeIn K (.ref C) == some (.type "type")) = true then PySem.W.subIn K t (.ref C) else none) = some b
  rw [if_pos e]
  exact h3
theorem ve_one {C : Addr} : PySem.HandSPX.refsVE [.ref C, .type "ValueError", .type "Exception", .type "BaseException", .type "object"] = true := by
  show PySem.HandSPX.refsVE [.type "ValueError", .type "Exception", .type "BaseException", .type "object"] = true
  decide +kernel
theorem all_mk {P : Program} {w : World} {K : PySem.W.Frag} {h : Heap} {mg : Str → Option Value} {fa : Addr} (X : K.In h) (G : h.Ns mainGlobals mg) (hfa : mg "law" = some (.ref fa))
    {oc_is_integer kV_is_integer dc_is_integer pm_is_integer cd_is_integer ct_is_integer oc_InvalidTree_init kV_InvalidTree_init dc_InvalidTree_init pm_InvalidTree_init cd_InvalidTree_init ct_InvalidTree_init oc_Wait_init kV_Wait_init dc_Wait_init pm_Wait_init cd_Wait_init ct_Wait_init oc_Leave_init kV_Leave_init dc_Leave_init pm_Leave_init cd_Leave_init ct_Leave_init oc_Hear_init kV_Hear_init dc_Hear_init pm_Hear_init cd_Hear_init ct_Hear_init oc_is_name kV_is_name dc_is_name pm_is_name cd_is_name ct_is_name oc_is_sequence kV_is_sequence dc_is_sequence pm_is_sequence cd_is_sequence ct_is_sequence oc_are_events kV_are_events dc_are_events pm_are_events cd_are_events ct_are_events oc_Call_len kV_Call_len dc_Call_len pm_Call_len cd_Call_len ct_Call_len oc_call kV_call dc_call pm_call cd_call ct_call oc_named kV_named dc_named pm_named cd_named ct_named oc_source kV_source dc_source pm_source cd_source ct_source oc_draw kV_draw dc_draw pm_draw cd_draw ct_draw oc_pick kV_pick dc_pick pm_pick cd_pick ct_pick oc_tree kV_tree dc_tree pm_tree cd_tree ct_tree oc_shuffled kV_shuffled dc_shuffled pm_shuffled cd_shuffled ct_shuffled oc_words kV_words dc_words pm_words cd_words ct_words oc_row kV_row dc_row pm_row cd_row ct_row oc_book kV_book dc_book pm_book cd_book ct_book oc_call_words kV_call_words dc_call_words pm_call_words cd_call_words ct_call_words oc_Call_str kV_Call_str dc_Call_str pm_Call_str cd_Call_str ct_Call_str oc_Wait_str kV_Wait_str dc_Wait_str pm_Wait_str cd_Wait_str ct_Wait_str oc_Leave_str kV_Leave_str dc_Leave_str pm_Leave_str cd_Leave_str ct_Leave_str oc_Hear_str kV_Hear_str dc_Hear_str pm_Hear_str cd_Hear_str ct_Hear_str oc_text kV_text dc_text pm_text cd_text ct_text oc_size kV_size dc_size pm_size cd_size ct_size oc_is_made kV_is_made dc_is_made pm_is_made cd_is_made ct_is_made oc_Call_eq kV_Call_eq dc_Call_eq pm_Call_eq cd_Call_eq ct_Call_eq oc_Wait_eq kV_Wait_eq dc_Wait_eq pm_Wait_eq cd_Wait_eq ct_Wait_eq oc_Leave_eq kV_Leave_eq dc_Leave_eq pm_Leave_eq cd_Leave_eq ct_Leave_eq oc_Hear_eq kV_Hear_eq dc_Hear_eq pm_Hear_eq cd_Hear_eq ct_Hear_eq oc_law kV_law dc_law pm_law cd_law ct_law v0_aNO v1_aNO v2_aNO v3_aNO v4_aNO v5_aNO v6_aNO v7_aNO v8_aNO v9_aNO oc_Call_init kV_Call_init dc_Call_init pm_Call_init cd_Call_init ct_Call_init : Value}
    {od_is_integer an_is_integer od_InvalidTree_init an_InvalidTree_init od_Wait_init an_Wait_init od_Leave_init an_Leave_init od_Hear_init an_Hear_init od_is_name an_is_name od_is_sequence an_is_sequence od_are_events an_are_events od_Call_len an_Call_len od_call an_call od_named an_named od_source an_source od_draw an_draw od_pick an_pick od_tree an_tree od_shuffled an_shuffled od_words an_words od_row an_row od_book an_book od_call_words an_call_words od_Call_str an_Call_str od_Wait_str an_Wait_str od_Leave_str an_Leave_str od_Hear_str an_Hear_str od_text an_text od_size an_size od_is_made an_is_made od_Call_eq an_Call_eq od_Wait_eq an_Wait_eq od_Leave_eq an_Leave_eq od_Hear_eq an_Hear_eq od_law an_law dd_C_InvalidTree dt_e_events od_Call_init an_Call_init dtD_Call_init : Option Addr}
    {sl_is_integer sl_InvalidTree_init sl_Wait_init sl_Leave_init sl_Hear_init sl_is_name sl_is_sequence sl_are_events sl_Call_len sl_call sl_named sl_source sl_draw sl_pick sl_tree sl_shuffled sl_words sl_row sl_book sl_call_words sl_Call_str sl_Wait_str sl_Leave_str sl_Hear_str sl_text sl_size sl_is_made sl_Call_eq sl_Wait_eq sl_Leave_eq sl_Hear_eq sl_law so_e_events sl_Call_init soD_Call_init : Array (Option Value)}
    {f_is_integer C_InvalidTree N_C_InvalidTree bC_C_InvalidTree f_InvalidTree_init C_Call C_Wait f_Wait_init C_Leave f_Leave_init C_Hear f_Hear_init aNO f_is_name f_is_sequence f_are_events f_Call_len e_events f_Call_init dT_Call_init f_call f_named f_source f_draw f_pick f_tree f_shuffled f_words f_row f_book f_call_words f_Call_str f_Wait_str f_Leave_str f_Hear_str f_text f_size f_is_made f_Call_eq f_Wait_eq f_Leave_eq f_Hear_eq f_law : Addr}
    {nm_C_InvalidTree qn_C_InvalidTree : Str}
    {bs_C_InvalidTree sb_C_InvalidTree : List Value}
    {sn_C_InvalidTree : List Str}
    {ab_C_InvalidTree : Bool}
    {co_C_InvalidTree : Option Bool}
    {m0_C_InvalidTree m1_C_InvalidTree m2_C_InvalidTree m3_C_InvalidTree m5_C_InvalidTree : Option Value}
    {sz_aNO sz_e_events szD_Call_init : Nat}
    {h0_aNO h1_aNO h2_aNO h3_aNO h4_aNO h5_aNO h6_aNO h7_aNO h8_aNO h9_aNO : Int}
    {w0_aNO w1_aNO w2_aNO w3_aNO w4_aNO w5_aNO w6_aNO w7_aNO w8_aNO w9_aNO tk2_Call_init : Tok}
    (a_law : PySem.W.nsIn K mainGlobals "law" = some (some (.ref f_law)))
    (a_is_integer : PySem.W.nsIn K mainGlobals "is_integer" = some (some (.ref f_is_integer)))
    (a_InvalidTree : PySem.W.nsIn K mainGlobals "InvalidTree" = some (some (.ref C_InvalidTree)))
    (a_Call : PySem.W.nsIn K mainGlobals "Call" = some (some (.ref C_Call)))
    (a_Wait : PySem.W.nsIn K mainGlobals "Wait" = some (some (.ref C_Wait)))
    (a_Leave : PySem.W.nsIn K mainGlobals "Leave" = some (some (.ref C_Leave)))
    (a_Hear : PySem.W.nsIn K mainGlobals "Hear" = some (some (.ref C_Hear)))
    (a_NO_NAMES : PySem.W.nsIn K mainGlobals "NO_NAMES" = some (some (.ref aNO)))
    (a_is_name : PySem.W.nsIn K mainGlobals "is_name" = some (some (.ref f_is_name)))
    (a_is_sequence : PySem.W.nsIn K mainGlobals "is_sequence" = some (some (.ref f_is_sequence)))
    (a_are_events : PySem.W.nsIn K mainGlobals "are_events" = some (some (.ref f_are_events)))
    (a__law_call : PySem.W.nsIn K mainGlobals "_law_call" = some (some (.ref f_call)))
    (a__law_named : PySem.W.nsIn K mainGlobals "_law_named" = some (some (.ref f_named)))
    (a__law_source : PySem.W.nsIn K mainGlobals "_law_source" = some (some (.ref f_source)))
    (a__law_draw : PySem.W.nsIn K mainGlobals "_law_draw" = some (some (.ref f_draw)))
    (a__law_pick : PySem.W.nsIn K mainGlobals "_law_pick" = some (some (.ref f_pick)))
    (a__law_tree : PySem.W.nsIn K mainGlobals "_law_tree" = some (some (.ref f_tree)))
    (a__law_shuffled : PySem.W.nsIn K mainGlobals "_law_shuffled" = some (some (.ref f_shuffled)))
    (a__law_words : PySem.W.nsIn K mainGlobals "_law_words" = some (some (.ref f_words)))
    (a__law_row : PySem.W.nsIn K mainGlobals "_law_row" = some (some (.ref f_row)))
    (a__law_book : PySem.W.nsIn K mainGlobals "_law_book" = some (some (.ref f_book)))
    (a_call_words : PySem.W.nsIn K mainGlobals "call_words" = some (some (.ref f_call_words)))
    (a__law_text : PySem.W.nsIn K mainGlobals "_law_text" = some (some (.ref f_text)))
    (a__law_size : PySem.W.nsIn K mainGlobals "_law_size" = some (some (.ref f_size)))
    (a__law_is_made : PySem.W.nsIn K mainGlobals "_law_is_made" = some (some (.ref f_is_made)))
    (in_f_InvalidTree_init : PySem.W.findIn K (.ref C_InvalidTree) "__init__" = some (some (.ref f_InvalidTree_init)))
    (in_f_Wait_init : PySem.W.findIn K (.ref C_Wait) "__init__" = some (some (.ref f_Wait_init)))
    (in_f_Leave_init : PySem.W.findIn K (.ref C_Leave) "__init__" = some (some (.ref f_Leave_init)))
    (in_f_Hear_init : PySem.W.findIn K (.ref C_Hear) "__init__" = some (some (.ref f_Hear_init)))
    (q_li_Call : PySem.W.findIn K (.ref C_Call) "__len__" = some (some (.ref f_Call_len)))
    (in_f_Call_init : PySem.W.findIn K (.ref C_Call) "__init__" = some (some (.ref f_Call_init)))
    (q_si_Call : PySem.W.findIn K (.ref C_Call) "__str__" = some (some (.ref f_Call_str)))
    (q_si_Wait : PySem.W.findIn K (.ref C_Wait) "__str__" = some (some (.ref f_Wait_str)))
    (q_si_Leave : PySem.W.findIn K (.ref C_Leave) "__str__" = some (some (.ref f_Leave_str)))
    (q_si_Hear : PySem.W.findIn K (.ref C_Hear) "__str__" = some (some (.ref f_Hear_str)))
    (q_ei_Call : PySem.W.findIn K (.ref C_Call) "__eq__" = some (some (.ref f_Call_eq)))
    (q_ei_Wait : PySem.W.findIn K (.ref C_Wait) "__eq__" = some (some (.ref f_Wait_eq)))
    (q_ei_Leave : PySem.W.findIn K (.ref C_Leave) "__eq__" = some (some (.ref f_Leave_eq)))
    (q_ei_Hear : PySem.W.findIn K (.ref C_Hear) "__eq__" = some (some (.ref f_Hear_eq)))
    (l_is_integer : K.lookup f_is_integer = some ⟨oc_is_integer, od_is_integer, .func (PySem.W.fnOf "is_integer" "is_integer" (defArgs s_is_integer) (defBody s_is_integer) (defScope s_is_integer) .none kV_is_integer dc_is_integer pm_is_integer an_is_integer cd_is_integer ct_is_integer), sl_is_integer⟩)
    (l_InvalidTree_init : K.lookup f_InvalidTree_init = some ⟨oc_InvalidTree_init, od_InvalidTree_init, .func (PySem.W.fnOf "__init__" "InvalidTree.__init__" (defArgs s_InvalidTree_init) (defBody s_InvalidTree_init) (defScope s_InvalidTree_init) .none kV_InvalidTree_init dc_InvalidTree_init pm_InvalidTree_init an_InvalidTree_init cd_InvalidTree_init ct_InvalidTree_init), sl_InvalidTree_init⟩)
    (l_Wait_init : K.lookup f_Wait_init = some ⟨oc_Wait_init, od_Wait_init, .func (PySem.W.fnOf "__init__" "Wait.__init__" (defArgs s_Wait_init) (defBody s_Wait_init) (defScope s_Wait_init) .none kV_Wait_init dc_Wait_init pm_Wait_init an_Wait_init cd_Wait_init ct_Wait_init), sl_Wait_init⟩)
    (l_Leave_init : K.lookup f_Leave_init = some ⟨oc_Leave_init, od_Leave_init, .func (PySem.W.fnOf "__init__" "Leave.__init__" (defArgs s_Leave_init) (defBody s_Leave_init) (defScope s_Leave_init) .none kV_Leave_init dc_Leave_init pm_Leave_init an_Leave_init cd_Leave_init ct_Leave_init), sl_Leave_init⟩)
    (l_Hear_init : K.lookup f_Hear_init = some ⟨oc_Hear_init, od_Hear_init, .func (PySem.W.fnOf "__init__" "Hear.__init__" (defArgs s_Hear_init) (defBody s_Hear_init) (defScope s_Hear_init) .none kV_Hear_init dc_Hear_init pm_Hear_init an_Hear_init cd_Hear_init ct_Hear_init), sl_Hear_init⟩)
    (l_is_name : K.lookup f_is_name = some ⟨oc_is_name, od_is_name, .func (PySem.W.fnOf "is_name" "is_name" (defArgs s_is_name) (defBody s_is_name) (defScope s_is_name) .none kV_is_name dc_is_name pm_is_name an_is_name cd_is_name ct_is_name), sl_is_name⟩)
    (l_is_sequence : K.lookup f_is_sequence = some ⟨oc_is_sequence, od_is_sequence, .func (PySem.W.fnOf "is_sequence" "is_sequence" (defArgs s_is_sequence) (defBody s_is_sequence) (defScope s_is_sequence) .none kV_is_sequence dc_is_sequence pm_is_sequence an_is_sequence cd_is_sequence ct_is_sequence), sl_is_sequence⟩)
    (l_are_events : K.lookup f_are_events = some ⟨oc_are_events, od_are_events, .func (PySem.W.fnOf "are_events" "are_events" (defArgs s_are_events) (defBody s_are_events) (defScope s_are_events) .none kV_are_events dc_are_events pm_are_events an_are_events cd_are_events ct_are_events), sl_are_events⟩)
    (l_Call_len : K.lookup f_Call_len = some ⟨oc_Call_len, od_Call_len, .func (PySem.W.fnOf "__len__" "Call.__len__" (defArgs s_Call_len) (defBody s_Call_len) (defScope s_Call_len) .none kV_Call_len dc_Call_len pm_Call_len an_Call_len cd_Call_len ct_Call_len), sl_Call_len⟩)
    (l_call : K.lookup f_call = some ⟨oc_call, od_call, .func (PySem.W.fnOf "_law_call" "_law_call" (defArgs s_call) (defBody s_call) (defScope s_call) .none kV_call dc_call pm_call an_call cd_call ct_call), sl_call⟩)
    (l_named : K.lookup f_named = some ⟨oc_named, od_named, .func (PySem.W.fnOf "_law_named" "_law_named" (defArgs s_named) (defBody s_named) (defScope s_named) .none kV_named dc_named pm_named an_named cd_named ct_named), sl_named⟩)
    (l_source : K.lookup f_source = some ⟨oc_source, od_source, .func (PySem.W.fnOf "_law_source" "_law_source" (defArgs s_source) (defBody s_source) (defScope s_source) .none kV_source dc_source pm_source an_source cd_source ct_source), sl_source⟩)
    (l_draw : K.lookup f_draw = some ⟨oc_draw, od_draw, .func (PySem.W.fnOf "_law_draw" "_law_draw" (defArgs s_draw) (defBody s_draw) (defScope s_draw) .none kV_draw dc_draw pm_draw an_draw cd_draw ct_draw), sl_draw⟩)
    (l_pick : K.lookup f_pick = some ⟨oc_pick, od_pick, .func (PySem.W.fnOf "_law_pick" "_law_pick" (defArgs s_pick) (defBody s_pick) (defScope s_pick) .none kV_pick dc_pick pm_pick an_pick cd_pick ct_pick), sl_pick⟩)
    (l_tree : K.lookup f_tree = some ⟨oc_tree, od_tree, .func (PySem.W.fnOf "_law_tree" "_law_tree" (defArgs s_tree) (defBody s_tree) (defScope s_tree) .none kV_tree dc_tree pm_tree an_tree cd_tree ct_tree), sl_tree⟩)
    (l_shuffled : K.lookup f_shuffled = some ⟨oc_shuffled, od_shuffled, .func (PySem.W.fnOf "_law_shuffled" "_law_shuffled" (defArgs s_shuffled) (defBody s_shuffled) (defScope s_shuffled) .none kV_shuffled dc_shuffled pm_shuffled an_shuffled cd_shuffled ct_shuffled), sl_shuffled⟩)
    (l_words : K.lookup f_words = some ⟨oc_words, od_words, .func (PySem.W.fnOf "_law_words" "_law_words" (defArgs s_words) (defBody s_words) (defScope s_words) .none kV_words dc_words pm_words an_words cd_words ct_words), sl_words⟩)
    (l_row : K.lookup f_row = some ⟨oc_row, od_row, .func (PySem.W.fnOf "_law_row" "_law_row" (defArgs s_row) (defBody s_row) (defScope s_row) .none kV_row dc_row pm_row an_row cd_row ct_row), sl_row⟩)
    (l_book : K.lookup f_book = some ⟨oc_book, od_book, .func (PySem.W.fnOf "_law_book" "_law_book" (defArgs s_book) (defBody s_book) (defScope s_book) .none kV_book dc_book pm_book an_book cd_book ct_book), sl_book⟩)
    (l_call_words : K.lookup f_call_words = some ⟨oc_call_words, od_call_words, .func (PySem.W.fnOf "call_words" "call_words" (defArgs s_call_words) (defBody s_call_words) (defScope s_call_words) .none kV_call_words dc_call_words pm_call_words an_call_words cd_call_words ct_call_words), sl_call_words⟩)
    (l_Call_str : K.lookup f_Call_str = some ⟨oc_Call_str, od_Call_str, .func (PySem.W.fnOf "__str__" "Call.__str__" (defArgs s_Call_str) (defBody s_Call_str) (defScope s_Call_str) .none kV_Call_str dc_Call_str pm_Call_str an_Call_str cd_Call_str ct_Call_str), sl_Call_str⟩)
    (l_Wait_str : K.lookup f_Wait_str = some ⟨oc_Wait_str, od_Wait_str, .func (PySem.W.fnOf "__str__" "Wait.__str__" (defArgs s_Wait_str) (defBody s_Wait_str) (defScope s_Wait_str) .none kV_Wait_str dc_Wait_str pm_Wait_str an_Wait_str cd_Wait_str ct_Wait_str), sl_Wait_str⟩)
    (l_Leave_str : K.lookup f_Leave_str = some ⟨oc_Leave_str, od_Leave_str, .func (PySem.W.fnOf "__str__" "Leave.__str__" (defArgs s_Leave_str) (defBody s_Leave_str) (defScope s_Leave_str) .none kV_Leave_str dc_Leave_str pm_Leave_str an_Leave_str cd_Leave_str ct_Leave_str), sl_Leave_str⟩)
    (l_Hear_str : K.lookup f_Hear_str = some ⟨oc_Hear_str, od_Hear_str, .func (PySem.W.fnOf "__str__" "Hear.__str__" (defArgs s_Hear_str) (defBody s_Hear_str) (defScope s_Hear_str) .none kV_Hear_str dc_Hear_str pm_Hear_str an_Hear_str cd_Hear_str ct_Hear_str), sl_Hear_str⟩)
    (l_text : K.lookup f_text = some ⟨oc_text, od_text, .func (PySem.W.fnOf "_law_text" "_law_text" (defArgs s_text) (defBody s_text) (defScope s_text) .none kV_text dc_text pm_text an_text cd_text ct_text), sl_text⟩)
    (l_size : K.lookup f_size = some ⟨oc_size, od_size, .func (PySem.W.fnOf "_law_size" "_law_size" (defArgs s_size) (defBody s_size) (defScope s_size) .none kV_size dc_size pm_size an_size cd_size ct_size), sl_size⟩)
    (l_is_made : K.lookup f_is_made = some ⟨oc_is_made, od_is_made, .func (PySem.W.fnOf "_law_is_made" "_law_is_made" (defArgs s_is_made) (defBody s_is_made) (defScope s_is_made) .none kV_is_made dc_is_made pm_is_made an_is_made cd_is_made ct_is_made), sl_is_made⟩)
    (l_Call_eq : K.lookup f_Call_eq = some ⟨oc_Call_eq, od_Call_eq, .func (PySem.W.fnOf "__eq__" "Call.__eq__" (defArgs s_Call_eq) (defBody s_Call_eq) (defScope s_Call_eq) .none kV_Call_eq dc_Call_eq pm_Call_eq an_Call_eq cd_Call_eq ct_Call_eq), sl_Call_eq⟩)
    (l_Wait_eq : K.lookup f_Wait_eq = some ⟨oc_Wait_eq, od_Wait_eq, .func (PySem.W.fnOf "__eq__" "Wait.__eq__" (defArgs s_Wait_eq) (defBody s_Wait_eq) (defScope s_Wait_eq) .none kV_Wait_eq dc_Wait_eq pm_Wait_eq an_Wait_eq cd_Wait_eq ct_Wait_eq), sl_Wait_eq⟩)
    (l_Leave_eq : K.lookup f_Leave_eq = some ⟨oc_Leave_eq, od_Leave_eq, .func (PySem.W.fnOf "__eq__" "Leave.__eq__" (defArgs s_Leave_eq) (defBody s_Leave_eq) (defScope s_Leave_eq) .none kV_Leave_eq dc_Leave_eq pm_Leave_eq an_Leave_eq cd_Leave_eq ct_Leave_eq), sl_Leave_eq⟩)
    (l_Hear_eq : K.lookup f_Hear_eq = some ⟨oc_Hear_eq, od_Hear_eq, .func (PySem.W.fnOf "__eq__" "Hear.__eq__" (defArgs s_Hear_eq) (defBody s_Hear_eq) (defScope s_Hear_eq) .none kV_Hear_eq dc_Hear_eq pm_Hear_eq an_Hear_eq cd_Hear_eq ct_Hear_eq), sl_Hear_eq⟩)
    (l_law : K.lookup f_law = some ⟨oc_law, od_law, .func (PySem.W.fnOf "law" "law" (defArgs s_law) (defBody s_law) (defScope s_law) .none kV_law dc_law pm_law an_law cd_law ct_law), sl_law⟩)
    (xL_C_InvalidTree : K.lookup C_InvalidTree = some (excClassObj nm_C_InvalidTree qn_C_InvalidTree C_InvalidTree N_C_InvalidTree bs_C_InvalidTree [.ref bC_C_InvalidTree, .type "ValueError", .type "Exception", .type "BaseException", .type "object"] true sn_C_InvalidTree sb_C_InvalidTree ab_C_InvalidTree co_C_InvalidTree dd_C_InvalidTree m0_C_InvalidTree m1_C_InvalidTree m2_C_InvalidTree m3_C_InvalidTree m5_C_InvalidTree "ValueError.__new__"))
    (l_aNO : K.lookup aNO = some ⟨.type "dict", none, .dict #[⟨h0_aNO, .str "none" w0_aNO, v0_aNO⟩, ⟨h1_aNO, .str "any" w1_aNO, v1_aNO⟩, ⟨h2_aNO, .str "same" w2_aNO, v2_aNO⟩, ⟨h3_aNO, .str "keep" w3_aNO, v3_aNO⟩, ⟨h4_aNO, .str "drop" w4_aNO, v4_aNO⟩, ⟨h5_aNO, .str "good" w5_aNO, v5_aNO⟩, ⟨h6_aNO, .str "bad" w6_aNO, v6_aNO⟩, ⟨h7_aNO, .str "old" w7_aNO, v7_aNO⟩, ⟨h8_aNO, .str "new" w8_aNO, v8_aNO⟩, ⟨h9_aNO, .str "both" w9_aNO, v9_aNO⟩] sz_aNO, #[]⟩)
    (l_Call_init : K.lookup f_Call_init = some ⟨oc_Call_init, od_Call_init, .func (PySem.W.fnOf "__init__" "Call.__init__" (defArgs s_Call_init) (defBody s_Call_init) (defScope s_Call_init) (.ref dT_Call_init) kV_Call_init dc_Call_init pm_Call_init an_Call_init cd_Call_init ct_Call_init), sl_Call_init⟩)
    (dl_Call_init : K.lookup dT_Call_init = some ⟨.type "tuple", dtD_Call_init, .seq #[.bool false, .ref e_events, .str "old" tk2_Call_init] szD_Call_init, soD_Call_init⟩)
    (l_e_events : K.lookup e_events = some ⟨.type "tuple", dt_e_events, .seq #[] sz_e_events, so_e_events⟩)
    (cc_is_integer : PySem.W.codeIn K cd_is_integer "is_integer" = true)
    (k_is_integer : PySem.W.keepIn K (.ref f_is_integer) = true)
    (cc_InvalidTree_init : PySem.W.codeIn K cd_InvalidTree_init "InvalidTree.__init__" = true)
    (k_InvalidTree_init : PySem.W.keepIn K (.ref f_InvalidTree_init) = true)
    (cc_Wait_init : PySem.W.codeIn K cd_Wait_init "Wait.__init__" = true)
    (k_Wait_init : PySem.W.keepIn K (.ref f_Wait_init) = true)
    (cc_Leave_init : PySem.W.codeIn K cd_Leave_init "Leave.__init__" = true)
    (k_Leave_init : PySem.W.keepIn K (.ref f_Leave_init) = true)
    (cc_Hear_init : PySem.W.codeIn K cd_Hear_init "Hear.__init__" = true)
    (k_Hear_init : PySem.W.keepIn K (.ref f_Hear_init) = true)
    (cc_is_name : PySem.W.codeIn K cd_is_name "is_name" = true)
    (k_is_name : PySem.W.keepIn K (.ref f_is_name) = true)
    (cc_is_sequence : PySem.W.codeIn K cd_is_sequence "is_sequence" = true)
    (k_is_sequence : PySem.W.keepIn K (.ref f_is_sequence) = true)
    (cc_are_events : PySem.W.codeIn K cd_are_events "are_events" = true)
    (k_are_events : PySem.W.keepIn K (.ref f_are_events) = true)
    (cc_Call_len : PySem.W.codeIn K cd_Call_len "Call.__len__" = true)
    (k_Call_len : PySem.W.keepIn K (.ref f_Call_len) = true)
    (cc_call : PySem.W.codeIn K cd_call "_law_call" = true)
    (k_call : PySem.W.keepIn K (.ref f_call) = true)
    (cc_named : PySem.W.codeIn K cd_named "_law_named" = true)
    (k_named : PySem.W.keepIn K (.ref f_named) = true)
    (cc_source : PySem.W.codeIn K cd_source "_law_source" = true)
    (k_source : PySem.W.keepIn K (.ref f_source) = true)
    (cc_draw : PySem.W.codeIn K cd_draw "_law_draw" = true)
    (k_draw : PySem.W.keepIn K (.ref f_draw) = true)
    (cc_pick : PySem.W.codeIn K cd_pick "_law_pick" = true)
    (k_pick : PySem.W.keepIn K (.ref f_pick) = true)
    (cc_tree : PySem.W.codeIn K cd_tree "_law_tree" = true)
    (k_tree : PySem.W.keepIn K (.ref f_tree) = true)
    (cc_shuffled : PySem.W.codeIn K cd_shuffled "_law_shuffled" = true)
    (k_shuffled : PySem.W.keepIn K (.ref f_shuffled) = true)
    (cc_words : PySem.W.codeIn K cd_words "_law_words" = true)
    (k_words : PySem.W.keepIn K (.ref f_words) = true)
    (cc_row : PySem.W.codeIn K cd_row "_law_row" = true)
    (k_row : PySem.W.keepIn K (.ref f_row) = true)
    (cc_book : PySem.W.codeIn K cd_book "_law_book" = true)
    (k_book : PySem.W.keepIn K (.ref f_book) = true)
    (cc_call_words : PySem.W.codeIn K cd_call_words "call_words" = true)
    (k_call_words : PySem.W.keepIn K (.ref f_call_words) = true)
    (cc_Call_str : PySem.W.codeIn K cd_Call_str "Call.__str__" = true)
    (k_Call_str : PySem.W.keepIn K (.ref f_Call_str) = true)
    (cc_Wait_str : PySem.W.codeIn K cd_Wait_str "Wait.__str__" = true)
    (k_Wait_str : PySem.W.keepIn K (.ref f_Wait_str) = true)
    (cc_Leave_str : PySem.W.codeIn K cd_Leave_str "Leave.__str__" = true)
    (k_Leave_str : PySem.W.keepIn K (.ref f_Leave_str) = true)
    (cc_Hear_str : PySem.W.codeIn K cd_Hear_str "Hear.__str__" = true)
    (k_Hear_str : PySem.W.keepIn K (.ref f_Hear_str) = true)
    (cc_text : PySem.W.codeIn K cd_text "_law_text" = true)
    (k_text : PySem.W.keepIn K (.ref f_text) = true)
    (cc_size : PySem.W.codeIn K cd_size "_law_size" = true)
    (k_size : PySem.W.keepIn K (.ref f_size) = true)
    (cc_is_made : PySem.W.codeIn K cd_is_made "_law_is_made" = true)
    (k_is_made : PySem.W.keepIn K (.ref f_is_made) = true)
    (cc_Call_eq : PySem.W.codeIn K cd_Call_eq "Call.__eq__" = true)
    (k_Call_eq : PySem.W.keepIn K (.ref f_Call_eq) = true)
    (cc_Wait_eq : PySem.W.codeIn K cd_Wait_eq "Wait.__eq__" = true)
    (k_Wait_eq : PySem.W.keepIn K (.ref f_Wait_eq) = true)
    (cc_Leave_eq : PySem.W.codeIn K cd_Leave_eq "Leave.__eq__" = true)
    (k_Leave_eq : PySem.W.keepIn K (.ref f_Leave_eq) = true)
    (cc_Hear_eq : PySem.W.codeIn K cd_Hear_eq "Hear.__eq__" = true)
    (k_Hear_eq : PySem.W.keepIn K (.ref f_Hear_eq) = true)
    (cc_law : PySem.W.codeIn K cd_law "law" = true)
    (k_law : PySem.W.keepIn K (.ref f_law) = true)
    (z_isinstance : PySem.W.nsIn K mainGlobals "isinstance" = some none)
    (z_int : PySem.W.nsIn K mainGlobals "int" = some none)
    (z_bool : PySem.W.nsIn K mainGlobals "bool" = some none)
    (sa_C_InvalidTree : PySem.W.findIn K (.ref C_InvalidTree) "__setattr__" = some (some (.builtin "object.__setattr__")))
    (eb_C_InvalidTree : PySem.W.subIn K (.ref C_InvalidTree) (.type "BaseException") = some true)
    (tyC_C_InvalidTree : PySem.W.typeIn K (.ref C_InvalidTree) = some (.type "type"))
    (kc_C_InvalidTree : PySem.W.keepIn K (.ref C_InvalidTree) = true)
    (q_nwTr : PySem.W.findIn K (.ref C_InvalidTree) "word" = some none)
    (q_tTr : PySem.W.typeIn K (.ref f_InvalidTree_init) = some (.type "function"))
    (pg_C_Call : PySem.W.plainGet K C_Call Str.empty = true)
    (hd_C_Call : PySem.W.hasDictIn K C_Call = true)
    (po_C_Call : PySem.W.plainOver K C_Call = true)
    (sa_C_Call : PySem.W.findIn K (.ref C_Call) "__setattr__" = some (some (.builtin "object.__setattr__")))
    (pg_C_Wait : PySem.W.plainGet K C_Wait Str.empty = true)
    (hd_C_Wait : PySem.W.hasDictIn K C_Wait = true)
    (po_C_Wait : PySem.W.plainOver K C_Wait = true)
    (sa_C_Wait : PySem.W.findIn K (.ref C_Wait) "__setattr__" = some (some (.builtin "object.__setattr__")))
    (n_C_Wait_call : PySem.W.findIn K (.ref C_Wait) "call" = some none)
    (mk_C_Wait : PySem.W.makesIn K C_Wait = true)
    (fi_f_Wait_init : PySem.W.isFn K (.ref f_Wait_init) = true)
    (kc_C_Wait : PySem.W.keepIn K (.ref C_Wait) = true)
    (pg_C_Leave : PySem.W.plainGet K C_Leave Str.empty = true)
    (hd_C_Leave : PySem.W.hasDictIn K C_Leave = true)
    (po_C_Leave : PySem.W.plainOver K C_Leave = true)
    (sa_C_Leave : PySem.W.findIn K (.ref C_Leave) "__setattr__" = some (some (.builtin "object.__setattr__")))
    (n_C_Leave_call : PySem.W.findIn K (.ref C_Leave) "call" = some none)
    (mk_C_Leave : PySem.W.makesIn K C_Leave = true)
    (fi_f_Leave_init : PySem.W.isFn K (.ref f_Leave_init) = true)
    (kc_C_Leave : PySem.W.keepIn K (.ref C_Leave) = true)
    (pg_C_Hear : PySem.W.plainGet K C_Hear Str.empty = true)
    (hd_C_Hear : PySem.W.hasDictIn K C_Hear = true)
    (po_C_Hear : PySem.W.plainOver K C_Hear = true)
    (sa_C_Hear : PySem.W.findIn K (.ref C_Hear) "__setattr__" = some (some (.builtin "object.__setattr__")))
    (n_C_Hear_number : PySem.W.findIn K (.ref C_Hear) "number" = some none)
    (mk_C_Hear : PySem.W.makesIn K C_Hear = true)
    (fi_f_Hear_init : PySem.W.isFn K (.ref f_Hear_init) = true)
    (kc_C_Hear : PySem.W.keepIn K (.ref C_Hear) = true)
    (z_len : PySem.W.nsIn K mainGlobals "len" = some none)
    (z_str : PySem.W.nsIn K mainGlobals "str" = some none)
    (z_all : PySem.W.nsIn K mainGlobals "all" = some none)
    (kl_aNO : PySem.W.KeysLit w.params [⟨h0_aNO, .str "none" w0_aNO, v0_aNO⟩, ⟨h1_aNO, .str "any" w1_aNO, v1_aNO⟩, ⟨h2_aNO, .str "same" w2_aNO, v2_aNO⟩, ⟨h3_aNO, .str "keep" w3_aNO, v3_aNO⟩, ⟨h4_aNO, .str "drop" w4_aNO, v4_aNO⟩, ⟨h5_aNO, .str "good" w5_aNO, v5_aNO⟩, ⟨h6_aNO, .str "bad" w6_aNO, v6_aNO⟩, ⟨h7_aNO, .str "old" w7_aNO, v7_aNO⟩, ⟨h8_aNO, .str "new" w8_aNO, v8_aNO⟩, ⟨h9_aNO, .str "both" w9_aNO, v9_aNO⟩])
    (sm_aNO : (aNO == sysModules) = false)
    (z_list : PySem.W.nsIn K mainGlobals "list" = some none)
    (z_tuple : PySem.W.nsIn K mainGlobals "tuple" = some none)
    (ca_C_Wait : PySem.W.findIn K (.ref C_Wait) "__class__" = some (some (.builtin "object.__class__")))
    (cg_ : PySem.W.specialIn K (.builtin "object.__class__") "__get__" = some (some (.builtin "getset_descriptor.__get__")))
    (ck_ : PySem.W.takesIn K (.builtin "object.__class__") = some true)
    (cm_C_Wait : PySem.W.mroIn K C_Wait (.type "object") = some true)
    (ca_C_Leave : PySem.W.findIn K (.ref C_Leave) "__class__" = some (some (.builtin "object.__class__")))
    (cm_C_Leave : PySem.W.mroIn K C_Leave (.type "object") = some true)
    (ca_C_Hear : PySem.W.findIn K (.ref C_Hear) "__class__" = some (some (.builtin "object.__class__")))
    (cm_C_Hear : PySem.W.mroIn K C_Hear (.type "object") = some true)
    (isC_C_Hear : PySem.W.isClsIn K C_Hear = true)
    (tyC_C_Hear : PySem.W.typeIn K (.ref C_Hear) = some (.type "type"))
    (sub_C_Hear_C_Hear : PySem.W.subIn K (.ref C_Hear) (.ref C_Hear) = some true)
    (sub_C_Leave_C_Hear : PySem.W.subIn K (.ref C_Leave) (.ref C_Hear) = some false)
    (ne_C_Leave_C_Hear : C_Leave ≠ C_Hear)
    (isC_C_Leave : PySem.W.isClsIn K C_Leave = true)
    (tyC_C_Leave : PySem.W.typeIn K (.ref C_Leave) = some (.type "type"))
    (sub_C_Leave_C_Leave : PySem.W.subIn K (.ref C_Leave) (.ref C_Leave) = some true)
    (isC_C_Wait : PySem.W.isClsIn K C_Wait = true)
    (tyC_C_Wait : PySem.W.typeIn K (.ref C_Wait) = some (.type "type"))
    (sub_C_Leave_C_Wait : PySem.W.subIn K (.ref C_Leave) (.ref C_Wait) = some false)
    (ne_C_Leave_C_Wait : C_Leave ≠ C_Wait)
    (sub_C_Wait_C_Hear : PySem.W.subIn K (.ref C_Wait) (.ref C_Hear) = some false)
    (ne_C_Wait_C_Hear : C_Wait ≠ C_Hear)
    (sub_C_Wait_C_Leave : PySem.W.subIn K (.ref C_Wait) (.ref C_Leave) = some false)
    (ne_C_Wait_C_Leave : C_Wait ≠ C_Leave)
    (sub_C_Wait_C_Wait : PySem.W.subIn K (.ref C_Wait) (.ref C_Wait) = some true)
    (z_range : PySem.W.nsIn K mainGlobals "range" = some none)
    (z_sum : PySem.W.nsIn K mainGlobals "sum" = some none)
    (n_C_Call_service : PySem.W.findIn K (.ref C_Call) "service" = some none)
    (n_C_Call_kind : PySem.W.findIn K (.ref C_Call) "kind" = some none)
    (n_C_Call_bad : PySem.W.findIn K (.ref C_Call) "bad" = some none)
    (n_C_Call_events : PySem.W.findIn K (.ref C_Call) "events" = some none)
    (n_C_Call_side : PySem.W.findIn K (.ref C_Call) "side" = some none)
    (n_C_Call_inner : PySem.W.findIn K (.ref C_Call) "inner" = some none)
    (n_C_Call__size : PySem.W.findIn K (.ref C_Call) "_size" = some none)
    (q_lf_Call : PySem.W.isFn K (.ref f_Call_len) = true)
    (mk_C_Call : PySem.W.makesIn K C_Call = true)
    (fi_f_Call_init : PySem.W.isFn K (.ref f_Call_init) = true)
    (kc_C_Call : PySem.W.keepIn K (.ref C_Call) = true)
    (cc_Call_init : PySem.W.codeIn K cd_Call_init "Call.__init__" = true)
    (k_Call_init : PySem.W.keepIn K (.ref f_Call_init) = true)
    (ca_C_Call : PySem.W.findIn K (.ref C_Call) "__class__" = some (some (.builtin "object.__class__")))
    (cm_C_Call : PySem.W.mroIn K C_Call (.type "object") = some true)
    (isC_C_Call : PySem.W.isClsIn K C_Call = true)
    (tyC_C_Call : PySem.W.typeIn K (.ref C_Call) = some (.type "type"))
    (sub_C_Call_C_Call : PySem.W.subIn K (.ref C_Call) (.ref C_Call) = some true)
    (sub_C_Call_C_Wait : PySem.W.subIn K (.ref C_Call) (.ref C_Wait) = some false)
    (ne_C_Call_C_Wait : C_Call ≠ C_Wait)
    (sub_C_Call_C_Leave : PySem.W.subIn K (.ref C_Call) (.ref C_Leave) = some false)
    (ne_C_Call_C_Leave : C_Call ≠ C_Leave)
    (sub_C_Call_C_Hear : PySem.W.subIn K (.ref C_Call) (.ref C_Hear) = some false)
    (ne_C_Call_C_Hear : C_Call ≠ C_Hear)
    (sub_C_Wait_C_Call : PySem.W.subIn K (.ref C_Wait) (.ref C_Call) = some false)
    (ne_C_Wait_C_Call : C_Wait ≠ C_Call)
    (sub_C_Leave_C_Call : PySem.W.subIn K (.ref C_Leave) (.ref C_Call) = some false)
    (ne_C_Leave_C_Call : C_Leave ≠ C_Call)
    (sub_C_Hear_C_Call : PySem.W.subIn K (.ref C_Hear) (.ref C_Call) = some false)
    (ne_C_Hear_C_Call : C_Hear ≠ C_Call)
    (sub_C_Hear_C_Wait : PySem.W.subIn K (.ref C_Hear) (.ref C_Wait) = some false)
    (ne_C_Hear_C_Wait : C_Hear ≠ C_Wait)
    (sub_C_Hear_C_Leave : PySem.W.subIn K (.ref C_Hear) (.ref C_Leave) = some false)
    (ne_C_Hear_C_Leave : C_Hear ≠ C_Leave)
    (sub_TNoneType_C_Call : PySem.W.subIn K (.type "NoneType") (.ref C_Call) = some false)
    (sub_TNoneType_C_Wait : PySem.W.subIn K (.type "NoneType") (.ref C_Wait) = some false)
    (sub_TNoneType_C_Leave : PySem.W.subIn K (.type "NoneType") (.ref C_Leave) = some false)
    (sub_TNoneType_C_Hear : PySem.W.subIn K (.type "NoneType") (.ref C_Hear) = some false)
    (sub_Tbool_C_Call : PySem.W.subIn K (.type "bool") (.ref C_Call) = some false)
    (sub_Tbool_C_Wait : PySem.W.subIn K (.type "bool") (.ref C_Wait) = some false)
    (sub_Tbool_C_Leave : PySem.W.subIn K (.type "bool") (.ref C_Leave) = some false)
    (sub_Tbool_C_Hear : PySem.W.subIn K (.type "bool") (.ref C_Hear) = some false)
    (sub_Tint_C_Call : PySem.W.subIn K (.type "int") (.ref C_Call) = some false)
    (sub_Tint_C_Wait : PySem.W.subIn K (.type "int") (.ref C_Wait) = some false)
    (sub_Tint_C_Leave : PySem.W.subIn K (.type "int") (.ref C_Leave) = some false)
    (sub_Tint_C_Hear : PySem.W.subIn K (.type "int") (.ref C_Hear) = some false)
    (sub_Tstr_C_Call : PySem.W.subIn K (.type "str") (.ref C_Call) = some false)
    (sub_Tstr_C_Wait : PySem.W.subIn K (.type "str") (.ref C_Wait) = some false)
    (sub_Tstr_C_Leave : PySem.W.subIn K (.type "str") (.ref C_Leave) = some false)
    (sub_Tstr_C_Hear : PySem.W.subIn K (.type "str") (.ref C_Hear) = some false)
    (sub_Tlist_C_Call : PySem.W.subIn K (.type "list") (.ref C_Call) = some false)
    (sub_Tlist_C_Wait : PySem.W.subIn K (.type "list") (.ref C_Wait) = some false)
    (sub_Tlist_C_Leave : PySem.W.subIn K (.type "list") (.ref C_Leave) = some false)
    (sub_Tlist_C_Hear : PySem.W.subIn K (.type "list") (.ref C_Hear) = some false)
    (sub_Ttuple_C_Call : PySem.W.subIn K (.type "tuple") (.ref C_Call) = some false)
    (sub_Ttuple_C_Wait : PySem.W.subIn K (.type "tuple") (.ref C_Wait) = some false)
    (sub_Ttuple_C_Leave : PySem.W.subIn K (.type "tuple") (.ref C_Leave) = some false)
    (sub_Ttuple_C_Hear : PySem.W.subIn K (.type "tuple") (.ref C_Hear) = some false)
    (sub_C_Call_Tstr : PySem.W.subIn K (.ref C_Call) (.type "str") = some false)
    (sub_C_Call_Tbool : PySem.W.subIn K (.ref C_Call) (.type "bool") = some false)
    (sub_C_Call_Tint : PySem.W.subIn K (.ref C_Call) (.type "int") = some false)
    (sub_C_Call_Tlist : PySem.W.subIn K (.ref C_Call) (.type "list") = some false)
    (sub_C_Call_Ttuple : PySem.W.subIn K (.ref C_Call) (.type "tuple") = some false)
    (sub_C_Wait_Tstr : PySem.W.subIn K (.ref C_Wait) (.type "str") = some false)
    (sub_C_Wait_Tbool : PySem.W.subIn K (.ref C_Wait) (.type "bool") = some false)
    (sub_C_Wait_Tint : PySem.W.subIn K (.ref C_Wait) (.type "int") = some false)
    (sub_C_Wait_Tlist : PySem.W.subIn K (.ref C_Wait) (.type "list") = some false)
    (sub_C_Wait_Ttuple : PySem.W.subIn K (.ref C_Wait) (.type "tuple") = some false)
    (sub_C_Leave_Tstr : PySem.W.subIn K (.ref C_Leave) (.type "str") = some false)
    (sub_C_Leave_Tbool : PySem.W.subIn K (.ref C_Leave) (.type "bool") = some false)
    (sub_C_Leave_Tint : PySem.W.subIn K (.ref C_Leave) (.type "int") = some false)
    (sub_C_Leave_Tlist : PySem.W.subIn K (.ref C_Leave) (.type "list") = some false)
    (sub_C_Leave_Ttuple : PySem.W.subIn K (.ref C_Leave) (.type "tuple") = some false)
    (sub_C_Hear_Tstr : PySem.W.subIn K (.ref C_Hear) (.type "str") = some false)
    (sub_C_Hear_Tbool : PySem.W.subIn K (.ref C_Hear) (.type "bool") = some false)
    (sub_C_Hear_Tint : PySem.W.subIn K (.ref C_Hear) (.type "int") = some false)
    (sub_C_Hear_Tlist : PySem.W.subIn K (.ref C_Hear) (.type "list") = some false)
    (sub_C_Hear_Ttuple : PySem.W.subIn K (.ref C_Hear) (.type "tuple") = some false)
    (z_abs : PySem.W.nsIn K mainGlobals "abs" = some none)
    (z_enumerate : PySem.W.nsIn K mainGlobals "enumerate" = some none)
    (q_sf_Call : PySem.W.isFn K (.ref f_Call_str) = true)
    (q_fm_Call : PySem.W.findIn K (.ref C_Call) "__format__" = some (some (.builtin "object.__format__")))
    (q_fo_Call : PySem.W.subIn K (.ref C_Call) (.type "object") = some true)
    (q_sf_Wait : PySem.W.isFn K (.ref f_Wait_str) = true)
    (q_sf_Leave : PySem.W.isFn K (.ref f_Leave_str) = true)
    (q_sf_Hear : PySem.W.isFn K (.ref f_Hear_str) = true)
    (z_repr : PySem.W.nsIn K mainGlobals "repr" = some none)
    (z_zip : PySem.W.nsIn K mainGlobals "zip" = some none)
    (q_ef_Call : PySem.W.isFn K (.ref f_Call_eq) = true)
    (q_en_Call : PySem.W.findIn K (.ref C_Call) "__ne__" = some (some (.builtin "object.__ne__")))
    (q_eo_Call : PySem.W.subIn K (.ref C_Call) (.type "object") = some true)
    (q_nf_Call_Call : PySem.W.notFirst K C_Call (.ref C_Call) = true)
    (q_ef_Wait : PySem.W.isFn K (.ref f_Wait_eq) = true)
    (q_en_Wait : PySem.W.findIn K (.ref C_Wait) "__ne__" = some (some (.builtin "object.__ne__")))
    (q_eo_Wait : PySem.W.subIn K (.ref C_Wait) (.type "object") = some true)
    (q_ef_Leave : PySem.W.isFn K (.ref f_Leave_eq) = true)
    (q_en_Leave : PySem.W.findIn K (.ref C_Leave) "__ne__" = some (some (.builtin "object.__ne__")))
    (q_eo_Leave : PySem.W.subIn K (.ref C_Leave) (.type "object") = some true)
    (q_ef_Hear : PySem.W.isFn K (.ref f_Hear_eq) = true)
    (q_en_Hear : PySem.W.findIn K (.ref C_Hear) "__ne__" = some (some (.builtin "object.__ne__")))
    (q_eo_Hear : PySem.W.subIn K (.ref C_Hear) (.type "object") = some true)
    (q_nf_Call_str : PySem.W.notFirst K C_Call (.type "str") = true)
    (q_nf_Call_tuple : PySem.W.notFirst K C_Call (.type "tuple") = true)
    (q_nf_Wait_Leave : PySem.W.notFirst K C_Wait (.ref C_Leave) = true)
    (q_nf_Leave_Leave : PySem.W.notFirst K C_Leave (.ref C_Leave) = true)
    (q_nf_Hear_Hear : PySem.W.notFirst K C_Hear (.ref C_Hear) = true)
    (q_nf_Hear_str : PySem.W.notFirst K C_Hear (.type "str") = true)
    : ∃ fd : FuncData, (∀ (s : Shared) (v : Value), BindsTo s fd ⟨[v], []⟩ [("_law_script", v)]) ∧ ∀ base : Heap, K.In base → base.Ns mainGlobals mg → FnTop P w K mg base 25 fa fd ["_law_script"] (spLaw K) := by
  have e := hfa.symm.trans (PySem.W.mg_of X G a_law)
  have e2 : f_law = fa := by
    cases e
    rfl
  subst e2
  have F_is_integer := (fun_mk (st := s_is_integer) l_is_integer cc_is_integer k_is_integer)
  have F_InvalidTree_init := (fun_mk (st := s_InvalidTree_init) l_InvalidTree_init cc_InvalidTree_init k_InvalidTree_init)
  have F_Wait_init := (fun_mk (st := s_Wait_init) l_Wait_init cc_Wait_init k_Wait_init)
  have F_Leave_init := (fun_mk (st := s_Leave_init) l_Leave_init cc_Leave_init k_Leave_init)
  have F_Hear_init := (fun_mk (st := s_Hear_init) l_Hear_init cc_Hear_init k_Hear_init)
  have F_is_name := (fun_mk (st := s_is_name) l_is_name cc_is_name k_is_name)
  have F_is_sequence := (fun_mk (st := s_is_sequence) l_is_sequence cc_is_sequence k_is_sequence)
  have F_are_events := (fun_mk (st := s_are_events) l_are_events cc_are_events k_are_events)
  have F_Call_len := (fun_mk (st := s_Call_len) l_Call_len cc_Call_len k_Call_len)
  have F_call := (fun_mk (st := s_call) l_call cc_call k_call)
  have F_named := (fun_mk (st := s_named) l_named cc_named k_named)
  have F_source := (fun_mk (st := s_source) l_source cc_source k_source)
  have F_draw := (fun_mk (st := s_draw) l_draw cc_draw k_draw)
  have F_pick := (fun_mk (st := s_pick) l_pick cc_pick k_pick)
  have F_tree := (fun_mk (st := s_tree) l_tree cc_tree k_tree)
  have F_shuffled := (fun_mk (st := s_shuffled) l_shuffled cc_shuffled k_shuffled)
  have F_words := (fun_mk (st := s_words) l_words cc_words k_words)
  have F_row := (fun_mk (st := s_row) l_row cc_row k_row)
  have F_book := (fun_mk (st := s_book) l_book cc_book k_book)
  have F_call_words := (fun_mk (st := s_call_words) l_call_words cc_call_words k_call_words)
  have F_Call_str := (fun_mk (st := s_Call_str) l_Call_str cc_Call_str k_Call_str)
  have F_Wait_str := (fun_mk (st := s_Wait_str) l_Wait_str cc_Wait_str k_Wait_str)
  have F_Leave_str := (fun_mk (st := s_Leave_str) l_Leave_str cc_Leave_str k_Leave_str)
  have F_Hear_str := (fun_mk (st := s_Hear_str) l_Hear_str cc_Hear_str k_Hear_str)
  have F_text := (fun_mk (st := s_text) l_text cc_text k_text)
  have F_size := (fun_mk (st := s_size) l_size cc_size k_size)
  have F_is_made := (fun_mk (st := s_is_made) l_is_made cc_is_made k_is_made)
  have F_Call_eq := (fun_mk (st := s_Call_eq) l_Call_eq cc_Call_eq k_Call_eq)
  have F_Wait_eq := (fun_mk (st := s_Wait_eq) l_Wait_eq cc_Wait_eq k_Wait_eq)
  have F_Leave_eq := (fun_mk (st := s_Leave_eq) l_Leave_eq cc_Leave_eq k_Leave_eq)
  have F_Hear_eq := (fun_mk (st := s_Hear_eq) l_Hear_eq cc_Hear_eq k_Hear_eq)
  have F_law := (fun_mk (st := s_law) l_law cc_law k_law)
  have b_is_integer := F_is_integer.binds (ps := P_is_integer) fun _ _ _ _ _ _ us hl => match us, hl with | [_], _ => rfl
  have b_InvalidTree_init := F_InvalidTree_init.binds (ps := P_InvalidTree_init) fun _ _ _ _ _ _ us hl => match us, hl with | [_, _], _ => rfl
  have b_Wait_init := F_Wait_init.binds (ps := P_Wait_init) fun _ _ _ _ _ _ us hl => match us, hl with | [_, _], _ => rfl
  have b_Leave_init := F_Leave_init.binds (ps := P_Leave_init) fun _ _ _ _ _ _ us hl => match us, hl with | [_, _], _ => rfl
  have b_Hear_init := F_Hear_init.binds (ps := P_Hear_init) fun _ _ _ _ _ _ us hl => match us, hl with | [_, _], _ => rfl
  have b_is_name := F_is_name.binds (ps := P_is_name) fun _ _ _ _ _ _ us hl => match us, hl with | [_], _ => rfl
  have b_is_sequence := F_is_sequence.binds (ps := P_is_sequence) fun _ _ _ _ _ _ us hl => match us, hl with | [_], _ => rfl
  have b_are_events := F_are_events.binds (ps := P_are_events) fun _ _ _ _ _ _ us hl => match us, hl with | [_], _ => rfl
  have b_Call_len := F_Call_len.binds (ps := P_Call_len) fun _ _ _ _ _ _ us hl => match us, hl with | [_], _ => rfl
  have b_call := F_call.binds (ps := P_call) fun _ _ _ _ _ _ us hl => match us, hl with | [_], _ => rfl
  have b_named := F_named.binds (ps := P_named) fun _ _ _ _ _ _ us hl => match us, hl with | [_, _], _ => rfl
  have b_source := F_source.binds (ps := P_source) fun _ _ _ _ _ _ us hl => match us, hl with | [_, _], _ => rfl
  have b_draw := F_draw.binds (ps := P_draw) fun _ _ _ _ _ _ us hl => match us, hl with | [_, _], _ => rfl
  have b_pick := F_pick.binds (ps := P_pick) fun _ _ _ _ _ _ us hl => match us, hl with | [_, _], _ => rfl
  have b_tree := F_tree.binds (ps := P_tree) fun _ _ _ _ _ _ us hl => match us, hl with | [_, _, _, _], _ => rfl
  have b_shuffled := F_shuffled.binds (ps := P_shuffled) fun _ _ _ _ _ _ us hl => match us, hl with | [_, _], _ => rfl
  have b_words := F_words.binds (ps := P_words) fun _ _ _ _ _ _ us hl => match us, hl with | [_], _ => rfl
  have b_row := F_row.binds (ps := P_row) fun _ _ _ _ _ _ us hl => match us, hl with | [_, _, _, _], _ => rfl
  have b_book := F_book.binds (ps := P_book) fun _ _ _ _ _ _ us hl => match us, hl with | [_, _, _, _], _ => rfl
  have b_call_words := F_call_words.binds (ps := P_call_words) fun _ _ _ _ _ _ us hl => match us, hl with | [_], _ => rfl
  have b_Call_str := F_Call_str.binds (ps := P_Call_str) fun _ _ _ _ _ _ us hl => match us, hl with | [_], _ => rfl
  have b_Wait_str := F_Wait_str.binds (ps := P_Wait_str) fun _ _ _ _ _ _ us hl => match us, hl with | [_], _ => rfl
  have b_Leave_str := F_Leave_str.binds (ps := P_Leave_str) fun _ _ _ _ _ _ us hl => match us, hl with | [_], _ => rfl
  have b_Hear_str := F_Hear_str.binds (ps := P_Hear_str) fun _ _ _ _ _ _ us hl => match us, hl with | [_], _ => rfl
  have b_text := F_text.binds (ps := P_text) fun _ _ _ _ _ _ us hl => match us, hl with | [_], _ => rfl
  have b_size := F_size.binds (ps := P_size) fun _ _ _ _ _ _ us hl => match us, hl with | [_], _ => rfl
  have b_is_made := F_is_made.binds (ps := P_is_made) fun _ _ _ _ _ _ us hl => match us, hl with | [_, _], _ => rfl
  have b_Call_eq := F_Call_eq.binds (ps := P_Call_eq) fun _ _ _ _ _ _ us hl => match us, hl with | [_, _], _ => rfl
  have b_Wait_eq := F_Wait_eq.binds (ps := P_Wait_eq) fun _ _ _ _ _ _ us hl => match us, hl with | [_, _], _ => rfl
  have b_Leave_eq := F_Leave_eq.binds (ps := P_Leave_eq) fun _ _ _ _ _ _ us hl => match us, hl with | [_, _], _ => rfl
  have b_Hear_eq := F_Hear_eq.binds (ps := P_Hear_eq) fun _ _ _ _ _ _ us hl => match us, hl with | [_, _], _ => rfl
  let T : TxK21 w K mg := {
    z_isinstance := PySem.W.mg_none_of X G z_isinstance
    z_int := PySem.W.mg_none_of X G z_int
    z_bool := PySem.W.mg_none_of X G z_bool
    f_is_integer := f_is_integer
    d_is_integer := _
    F_is_integer := F_is_integer
    m_is_integer := PySem.W.mg_of X G a_is_integer
    b_is_integer := b_is_integer
    C_InvalidTree := C_InvalidTree
    m_InvalidTree := PySem.W.mg_of X G a_InvalidTree
    oxTr := ⟨PySem.MyX.base_val, ⟨_, _, _, _, _, _, _, _, _, _, _, _, _, _, _, xL_C_InvalidTree, PySem.MyX.tail_val1⟩, sa_C_InvalidTree, eb_C_InvalidTree, tyC_C_InvalidTree, kc_C_InvalidTree⟩
    nwTr := q_nwTr
    f_InvalidTree_init := f_InvalidTree_init
    d_InvalidTree_init := _
    iTr := in_f_InvalidTree_init
    tTr := q_tTr
    F_InvalidTree_init := F_InvalidTree_init
    b_InvalidTree_init := b_InvalidTree_init
    C_Call := C_Call
    m_Call := PySem.W.mg_of X G a_Call
    c_Call := ⟨pg_C_Call, hd_C_Call, po_C_Call, sa_C_Call⟩
    C_Wait := C_Wait
    m_Wait := PySem.W.mg_of X G a_Wait
    c_Wait := ⟨pg_C_Wait, hd_C_Wait, po_C_Wait, sa_C_Wait⟩
    n_Wait_call := n_C_Wait_call
    f_Wait_init := f_Wait_init
    d_Wait_init := _
    mk_Wait := ⟨mk_C_Wait, in_f_Wait_init, fi_f_Wait_init, kc_C_Wait⟩
    F_Wait_init := F_Wait_init
    b_Wait_init := b_Wait_init
    C_Leave := C_Leave
    m_Leave := PySem.W.mg_of X G a_Leave
    c_Leave := ⟨pg_C_Leave, hd_C_Leave, po_C_Leave, sa_C_Leave⟩
    n_Leave_call := n_C_Leave_call
    f_Leave_init := f_Leave_init
    d_Leave_init := _
    mk_Leave := ⟨mk_C_Leave, in_f_Leave_init, fi_f_Leave_init, kc_C_Leave⟩
    F_Leave_init := F_Leave_init
    b_Leave_init := b_Leave_init
    C_Hear := C_Hear
    m_Hear := PySem.W.mg_of X G a_Hear
    c_Hear := ⟨pg_C_Hear, hd_C_Hear, po_C_Hear, sa_C_Hear⟩
    n_Hear_number := n_C_Hear_number
    f_Hear_init := f_Hear_init
    d_Hear_init := _
    mk_Hear := ⟨mk_C_Hear, in_f_Hear_init, fi_f_Hear_init, kc_C_Hear⟩
    F_Hear_init := F_Hear_init
    b_Hear_init := b_Hear_init
    z_len := PySem.W.mg_none_of X G z_len
    z_str := PySem.W.mg_none_of X G z_str
    z_all := PySem.W.mg_none_of X G z_all
    aNO := aNO
    m_NO := PySem.W.mg_of X G a_NO_NAMES
    t_NO := noD_mk l_aNO kl_aNO sm_aNO
    f_is_name := f_is_name
    d_is_name := _
    F_is_name := F_is_name
    m_is_name := PySem.W.mg_of X G a_is_name
    b_is_name := b_is_name
    z_list := PySem.W.mg_none_of X G z_list
    z_tuple := PySem.W.mg_none_of X G z_tuple
    f_is_sequence := f_is_sequence
    d_is_sequence := _
    F_is_sequence := F_is_sequence
    m_is_sequence := PySem.W.mg_of X G a_is_sequence
    b_is_sequence := b_is_sequence
    ty_Wait := fun H a dx fs e => .base (.ins e ⟨pg_C_Wait, hd_C_Wait, po_C_Wait, sa_C_Wait⟩ ca_C_Wait cg_ ck_ cm_C_Wait)
    ty_Leave := fun H a dx fs e => .base (.ins e ⟨pg_C_Leave, hd_C_Leave, po_C_Leave, sa_C_Leave⟩ ca_C_Leave cg_ ck_ cm_C_Leave)
    ty_Hear := fun H a dx fs e => .base (.ins e ⟨pg_C_Hear, hd_C_Hear, po_C_Hear, sa_C_Hear⟩ ca_C_Hear cg_ ck_ cm_C_Hear)
    kk_Hear_Hear := kit_yes isC_C_Hear tyC_C_Hear sub_C_Hear_C_Hear
    kk_Leave_Hear := kit_no isC_C_Hear tyC_C_Hear sub_C_Leave_C_Hear ne_C_Leave_C_Hear
    kk_Leave_Leave := kit_yes isC_C_Leave tyC_C_Leave sub_C_Leave_C_Leave
    kk_Leave_Wait := kit_no isC_C_Wait tyC_C_Wait sub_C_Leave_C_Wait ne_C_Leave_C_Wait
    kk_Wait_Hear := kit_no isC_C_Hear tyC_C_Hear sub_C_Wait_C_Hear ne_C_Wait_C_Hear
    kk_Wait_Leave := kit_no isC_C_Leave tyC_C_Leave sub_C_Wait_C_Leave ne_C_Wait_C_Leave
    kk_Wait_Wait := kit_yes isC_C_Wait tyC_C_Wait sub_C_Wait_C_Wait
    f_are_events := f_are_events
    d_are_events := _
    F_are_events := F_are_events
    m_are_events := PySem.W.mg_of X G a_are_events
    b_are_events := b_are_events
    z_range := PySem.W.mg_none_of X G z_range
    z_sum := PySem.W.mg_none_of X G z_sum
    n_Call_service := n_C_Call_service
    n_Call_kind := n_C_Call_kind
    n_Call_bad := n_C_Call_bad
    n_Call_events := n_C_Call_events
    n_Call_side := n_C_Call_side
    n_Call_inner := n_C_Call_inner
    n_Call__size := n_C_Call__size
    f_Call_len := f_Call_len
    d_Call_len := _
    F_Call_len := F_Call_len
    b_Call_len := b_Call_len
    li_Call := q_li_Call
    lf_Call := q_lf_Call
    e_events := e_events
    t_events := fun H => .inr ⟨_, _, _, l_e_events, rfl, rfl, by show 0 ≤ sizeLine; decide, .nil⟩
    f_Call_init := f_Call_init
    d_Call_init := _
    mk_Call := ⟨mk_C_Call, in_f_Call_init, fi_f_Call_init, kc_C_Call⟩
    F_Call_init := ⟨⟨_, _, _, _, _, _, _, _, _, _, rfl, l_Call_init, cc_Call_init, .inr ⟨by simp, _, _, [.bool false, .ref e_events, .str "old" tk2_Call_init], _, rfl, dl_Call_init, rfl, .cons rfl (.cons rfl (.cons ⟨_, rfl⟩ (.nil)))⟩, .inl rfl⟩, k_Call_init⟩
    ty_Call := fun H a dx fs e => .base (.ins e ⟨pg_C_Call, hd_C_Call, po_C_Call, sa_C_Call⟩ ca_C_Call cg_ ck_ cm_C_Call)
    kk_Call_Call := kit_yes isC_C_Call tyC_C_Call sub_C_Call_C_Call
    kk_Call_Wait := kit_no isC_C_Wait tyC_C_Wait sub_C_Call_C_Wait ne_C_Call_C_Wait
    kk_Call_Leave := kit_no isC_C_Leave tyC_C_Leave sub_C_Call_C_Leave ne_C_Call_C_Leave
    kk_Call_Hear := kit_no isC_C_Hear tyC_C_Hear sub_C_Call_C_Hear ne_C_Call_C_Hear
    kk_Wait_Call := kit_no isC_C_Call tyC_C_Call sub_C_Wait_C_Call ne_C_Wait_C_Call
    kk_Leave_Call := kit_no isC_C_Call tyC_C_Call sub_C_Leave_C_Call ne_C_Leave_C_Call
    kk_Hear_Call := kit_no isC_C_Call tyC_C_Call sub_C_Hear_C_Call ne_C_Hear_C_Call
    kk_Hear_Wait := kit_no isC_C_Wait tyC_C_Wait sub_C_Hear_C_Wait ne_C_Hear_C_Wait
    kk_Hear_Leave := kit_no isC_C_Leave tyC_C_Leave sub_C_Hear_C_Leave ne_C_Hear_C_Leave
    kt_NoneType_Call := kit_tyno isC_C_Call tyC_C_Call sub_TNoneType_C_Call
    kt_NoneType_Wait := kit_tyno isC_C_Wait tyC_C_Wait sub_TNoneType_C_Wait
    kt_NoneType_Leave := kit_tyno isC_C_Leave tyC_C_Leave sub_TNoneType_C_Leave
    kt_NoneType_Hear := kit_tyno isC_C_Hear tyC_C_Hear sub_TNoneType_C_Hear
    kt_bool_Call := kit_tyno isC_C_Call tyC_C_Call sub_Tbool_C_Call
    kt_bool_Wait := kit_tyno isC_C_Wait tyC_C_Wait sub_Tbool_C_Wait
    kt_bool_Leave := kit_tyno isC_C_Leave tyC_C_Leave sub_Tbool_C_Leave
    kt_bool_Hear := kit_tyno isC_C_Hear tyC_C_Hear sub_Tbool_C_Hear
    kt_int_Call := kit_tyno isC_C_Call tyC_C_Call sub_Tint_C_Call
    kt_int_Wait := kit_tyno isC_C_Wait tyC_C_Wait sub_Tint_C_Wait
    kt_int_Leave := kit_tyno isC_C_Leave tyC_C_Leave sub_Tint_C_Leave
    kt_int_Hear := kit_tyno isC_C_Hear tyC_C_Hear sub_Tint_C_Hear
    kt_str_Call := kit_tyno isC_C_Call tyC_C_Call sub_Tstr_C_Call
    kt_str_Wait := kit_tyno isC_C_Wait tyC_C_Wait sub_Tstr_C_Wait
    kt_str_Leave := kit_tyno isC_C_Leave tyC_C_Leave sub_Tstr_C_Leave
    kt_str_Hear := kit_tyno isC_C_Hear tyC_C_Hear sub_Tstr_C_Hear
    kt_list_Call := kit_tyno isC_C_Call tyC_C_Call sub_Tlist_C_Call
    kt_list_Wait := kit_tyno isC_C_Wait tyC_C_Wait sub_Tlist_C_Wait
    kt_list_Leave := kit_tyno isC_C_Leave tyC_C_Leave sub_Tlist_C_Leave
    kt_list_Hear := kit_tyno isC_C_Hear tyC_C_Hear sub_Tlist_C_Hear
    kt_tuple_Call := kit_tyno isC_C_Call tyC_C_Call sub_Ttuple_C_Call
    kt_tuple_Wait := kit_tyno isC_C_Wait tyC_C_Wait sub_Ttuple_C_Wait
    kt_tuple_Leave := kit_tyno isC_C_Leave tyC_C_Leave sub_Ttuple_C_Leave
    kt_tuple_Hear := kit_tyno isC_C_Hear tyC_C_Hear sub_Ttuple_C_Hear
    kb_Call_str := kit_refstr sub_C_Call_Tstr
    kb_Call_bool := kit_refbool sub_C_Call_Tbool
    kb_Call_int := kit_refint sub_C_Call_Tint
    kb_Call_list := kit_reflist sub_C_Call_Tlist
    kb_Call_tuple := kit_reftuple sub_C_Call_Ttuple
    kb_Wait_str := kit_refstr sub_C_Wait_Tstr
    kb_Wait_bool := kit_refbool sub_C_Wait_Tbool
    kb_Wait_int := kit_refint sub_C_Wait_Tint
    kb_Wait_list := kit_reflist sub_C_Wait_Tlist
    kb_Wait_tuple := kit_reftuple sub_C_Wait_Ttuple
    kb_Leave_str := kit_refstr sub_C_Leave_Tstr
    kb_Leave_bool := kit_refbool sub_C_Leave_Tbool
    kb_Leave_int := kit_refint sub_C_Leave_Tint
    kb_Leave_list := kit_reflist sub_C_Leave_Tlist
    kb_Leave_tuple := kit_reftuple sub_C_Leave_Ttuple
    kb_Hear_str := kit_refstr sub_C_Hear_Tstr
    kb_Hear_bool := kit_refbool sub_C_Hear_Tbool
    kb_Hear_int := kit_refint sub_C_Hear_Tint
    kb_Hear_list := kit_reflist sub_C_Hear_Tlist
    kb_Hear_tuple := kit_reftuple sub_C_Hear_Ttuple
    f_call := f_call
    d_call := _
    F_call := F_call
    m_call := PySem.W.mg_of X G a__law_call
    b_call := b_call
    f_named := f_named
    d_named := _
    F_named := F_named
    m_named := PySem.W.mg_of X G a__law_named
    b_named := b_named
    z_abs := PySem.W.mg_none_of X G z_abs
    z_enumerate := PySem.W.mg_none_of X G z_enumerate
    f_source := f_source
    d_source := _
    F_source := F_source
    m_source := PySem.W.mg_of X G a__law_source
    b_source := b_source
    f_draw := f_draw
    d_draw := _
    F_draw := F_draw
    m_draw := PySem.W.mg_of X G a__law_draw
    b_draw := b_draw
    f_pick := f_pick
    d_pick := _
    F_pick := F_pick
    m_pick := PySem.W.mg_of X G a__law_pick
    b_pick := b_pick
    f_tree := f_tree
    d_tree := _
    F_tree := F_tree
    m_tree := PySem.W.mg_of X G a__law_tree
    b_tree := b_tree
    f_shuffled := f_shuffled
    d_shuffled := _
    F_shuffled := F_shuffled
    m_shuffled := PySem.W.mg_of X G a__law_shuffled
    b_shuffled := b_shuffled
    f_words := f_words
    d_words := _
    F_words := F_words
    m_words := PySem.W.mg_of X G a__law_words
    b_words := b_words
    f_row := f_row
    d_row := _
    F_row := F_row
    m_row := PySem.W.mg_of X G a__law_row
    b_row := b_row
    f_book := f_book
    d_book := _
    F_book := F_book
    m_book := PySem.W.mg_of X G a__law_book
    b_book := b_book
    f_call_words := f_call_words
    d_call_words := _
    F_call_words := F_call_words
    m_call_words := PySem.W.mg_of X G a_call_words
    b_call_words := b_call_words
    f_Call_str := f_Call_str
    d_Call_str := _
    F_Call_str := F_Call_str
    b_Call_str := b_Call_str
    si_Call := q_si_Call
    sf_Call := q_sf_Call
    fm_Call := q_fm_Call
    fo_Call := q_fo_Call
    f_Wait_str := f_Wait_str
    d_Wait_str := _
    F_Wait_str := F_Wait_str
    b_Wait_str := b_Wait_str
    si_Wait := q_si_Wait
    sf_Wait := q_sf_Wait
    f_Leave_str := f_Leave_str
    d_Leave_str := _
    F_Leave_str := F_Leave_str
    b_Leave_str := b_Leave_str
    si_Leave := q_si_Leave
    sf_Leave := q_sf_Leave
    f_Hear_str := f_Hear_str
    d_Hear_str := _
    F_Hear_str := F_Hear_str
    b_Hear_str := b_Hear_str
    si_Hear := q_si_Hear
    sf_Hear := q_sf_Hear
    f_text := f_text
    d_text := _
    F_text := F_text
    m_text := PySem.W.mg_of X G a__law_text
    b_text := b_text
    f_size := f_size
    d_size := _
    F_size := F_size
    m_size := PySem.W.mg_of X G a__law_size
    b_size := b_size
    z_repr := PySem.W.mg_none_of X G z_repr
    z_zip := PySem.W.mg_none_of X G z_zip
    f_is_made := f_is_made
    d_is_made := _
    F_is_made := F_is_made
    m_is_made := PySem.W.mg_of X G a__law_is_made
    b_is_made := b_is_made
    f_Call_eq := f_Call_eq
    d_Call_eq := _
    F_Call_eq := F_Call_eq
    b_Call_eq := b_Call_eq
    ei_Call := q_ei_Call
    ef_Call := q_ef_Call
    en_Call := q_en_Call
    eo_Call := q_eo_Call
    nf_Call_Call := q_nf_Call_Call
    f_Wait_eq := f_Wait_eq
    d_Wait_eq := _
    F_Wait_eq := F_Wait_eq
    b_Wait_eq := b_Wait_eq
    ei_Wait := q_ei_Wait
    ef_Wait := q_ef_Wait
    en_Wait := q_en_Wait
    eo_Wait := q_eo_Wait
    f_Leave_eq := f_Leave_eq
    d_Leave_eq := _
    F_Leave_eq := F_Leave_eq
    b_Leave_eq := b_Leave_eq
    ei_Leave := q_ei_Leave
    ef_Leave := q_ef_Leave
    en_Leave := q_en_Leave
    eo_Leave := q_eo_Leave
    f_Hear_eq := f_Hear_eq
    d_Hear_eq := _
    F_Hear_eq := F_Hear_eq
    b_Hear_eq := b_Hear_eq
    ei_Hear := q_ei_Hear
    ef_Hear := q_ef_Hear
    en_Hear := q_en_Hear
    eo_Hear := q_eo_Hear
    nf_Call_str := q_nf_Call_str
    nf_Call_tuple := q_nf_Call_tuple
    nf_Wait_Leave := q_nf_Wait_Leave
    nf_Leave_Leave := q_nf_Leave_Leave
    nf_Hear_Hear := q_nf_Hear_Hear
    nf_Hear_str := q_nf_Hear_str
    f_law := f_law
    d_law := _
    F_law := F_law
  }
  exact ⟨PySem.W.fnOf "law" "law" (defArgs s_law) (defBody s_law) (defScope s_law) .none kV_law dc_law pm_law an_law cd_law ct_law, fun s v => .of_eq rfl, fun base _ _ => ok_law21 T⟩
theorem walk {l : PySem.W.OpenLaw} {q : Program} {loose : List Str} {XP : (Str → Option Value) → Heap → Prop} {YP : World → Heap → Prop} {d : DefRec} {K : Params → PySem.W.Frag} (hn : l.most = some 63) (hdf : d.params.defaults = [])
    (hY : ∀ (w : World) (h : Heap), YP w h → (K w.params).In h)
    (F : ∀ (w : World) (mg : Str → Option Value) (fa : Addr) (h : Heap), (K w.params).In h → h.Ns mainGlobals mg → mg d.name = some (.ref fa) →
      ∃ fd : FuncData, (∀ (s : Shared) (u : Value), BindsTo s fd ⟨[u], []⟩ [("_law_script", u)]) ∧ ∀ base : Heap, (K w.params).In base → base.Ns mainGlobals mg → FnTop l.prog w (K w.params) mg base 25 fa fd ["_law_script"] (spLaw (K w.params))) :
    PySem.W.WalkO q loose XP YP l.row.toRowW d [] (fun f vs => PySem.call f vs) :=
  walk_top (n := 63) (k := 25) (y := "_law_script") (sp := fun w => spLaw (K w.params)) hn (by decide) hdf ⟨rfl, by decide, by decide⟩ hY F (fun _ _ a ns hl hS => ⟨a, ns, rfl, hS, hl, fun _ => rfl⟩)
end My
open PySem PySem.W PyProof.Rows
set_option maxRecDepth 100000 in
set_option maxHeartbeats 0 in
theorem PySem.Challenge.cw_wholetraces_k21_trees_made_holds : PySem.Challenge.rw_wholetraces_k21_trees_made.Holds := by
  w_on; o_law; k_head; (case hw => w_witness2)
  k_fill
  refine My.walk (l := PySem.Challenge.rw_wholetraces_k21_trees_made) rfl rfl (fun w h Y => PySem.W.kIn_of Y) ?F
  case F =>
    intro w mg fa h KX G hmg
    refine' My.all_mk KX G hmg ?a_law ?a_is_integer ?a_InvalidTree ?a_Call ?a_Wait ?a_Leave ?a_Hear ?a_NO_NAMES ?a_is_name ?a_is_sequence ?a_are_events ?a__law_call ?a__law_named ?a__law_source ?a__law_draw ?a__law_pick ?a__law_tree ?a__law_shuffled ?a__law_words ?a__law_row ?a__law_book ?a_call_words ?a__law_text ?a__law_size ?a__law_is_made ?in_f_InvalidTree_init ?in_f_Wait_init ?in_f_Leave_init ?in_f_Hear_init ?q_li_Call ?in_f_Call_init ?q_si_Call ?q_si_Wait ?q_si_Leave ?q_si_Hear ?q_ei_Call ?q_ei_Wait ?q_ei_Leave ?q_ei_Hear ?l_is_integer ?l_InvalidTree_init ?l_Wait_init ?l_Leave_init ?l_Hear_init ?l_is_name ?l_is_sequence ?l_are_events ?l_Call_len ?l_call ?l_named ?l_source ?l_draw ?l_pick ?l_tree ?l_shuffled ?l_words ?l_row ?l_book ?l_call_words ?l_Call_str ?l_Wait_str ?l_Leave_str ?l_Hear_str ?l_text ?l_size ?l_is_made ?l_Call_eq ?l_Wait_eq ?l_Leave_eq ?l_Hear_eq ?l_law ?xL_C_InvalidTree ?l_aNO ?l_Call_init ?dl_Call_init ?l_e_events ?cc_is_integer ?k_is_integer ?cc_InvalidTree_init ?k_InvalidTree_init ?cc_Wait_init ?k_Wait_init ?cc_Leave_init ?k_Leave_init ?cc_Hear_init ?k_Hear_init ?cc_is_name ?k_is_name ?cc_is_sequence ?k_is_sequence ?cc_are_events ?k_are_events ?cc_Call_len ?k_Call_len ?cc_call ?k_call ?cc_named ?k_named ?cc_source ?k_source ?cc_draw ?k_draw ?cc_pick ?k_pick ?cc_tree ?k_tree ?cc_shuffled ?k_shuffled ?cc_words ?k_words ?cc_row ?k_row ?cc_book ?k_book ?cc_call_words ?k_call_words ?cc_Call_str ?k_Call_str ?cc_Wait_str ?k_Wait_str ?cc_Leave_str ?k_Leave_str ?cc_Hear_str ?k_Hear_str ?cc_text ?k_text ?cc_size ?k_size ?cc_is_made ?k_is_made ?cc_Call_eq ?k_Call_eq ?cc_Wait_eq ?k_Wait_eq ?cc_Leave_eq ?k_Leave_eq ?cc_Hear_eq ?k_Hear_eq ?cc_law ?k_law ?z_isinstance ?z_int ?z_bool ?sa_C_InvalidTree ?eb_C_InvalidTree ?tyC_C_InvalidTree ?kc_C_InvalidTree ?q_nwTr ?q_tTr ?pg_C_Call ?hd_C_Call ?po_C_Call ?sa_C_Call ?pg_C_Wait ?hd_C_Wait ?po_C_Wait ?sa_C_Wait ?n_C_Wait_call ?mk_C_Wait ?fi_f_Wait_init ?kc_C_Wait ?pg_C_Leave ?hd_C_Leave ?po_C_Leave ?sa_C_Leave ?n_C_Leave_call ?mk_C_Leave ?fi_f_Leave_init ?kc_C_Leave ?pg_C_Hear ?hd_C_Hear ?po_C_Hear ?sa_C_Hear ?n_C_Hear_number ?mk_C_Hear ?fi_f_Hear_init ?kc_C_Hear ?z_len ?z_str ?z_all ?kl_aNO ?sm_aNO ?z_list ?z_tuple ?ca_C_Wait ?cg_ ?ck_ ?cm_C_Wait ?ca_C_Leave ?cm_C_Leave ?ca_C_Hear ?cm_C_Hear ?isC_C_Hear ?tyC_C_Hear ?sub_C_Hear_C_Hear ?sub_C_Leave_C_Hear ?ne_C_Leave_C_Hear ?isC_C_Leave ?tyC_C_Leave ?sub_C_Leave_C_Leave ?isC_C_Wait ?tyC_C_Wait ?sub_C_Leave_C_Wait ?ne_C_Leave_C_Wait ?sub_C_Wait_C_Hear ?ne_C_Wait_C_Hear ?sub_C_Wait_C_Leave ?ne_C_Wait_C_Leave ?sub_C_Wait_C_Wait ?z_range ?z_sum ?n_C_Call_service ?n_C_Call_kind ?n_C_Call_bad ?n_C_Call_events ?n_C_Call_side ?n_C_Call_inner ?n_C_Call__size ?q_lf_Call ?mk_C_Call ?fi_f_Call_init ?kc_C_Call ?cc_Call_init ?k_Call_init ?ca_C_Call ?cm_C_Call ?isC_C_Call ?tyC_C_Call ?sub_C_Call_C_Call ?sub_C_Call_C_Wait ?ne_C_Call_C_Wait ?sub_C_Call_C_Leave ?ne_C_Call_C_Leave ?sub_C_Call_C_Hear ?ne_C_Call_C_Hear ?sub_C_Wait_C_Call ?ne_C_Wait_C_Call ?sub_C_Leave_C_Call ?ne_C_Leave_C_Call ?sub_C_Hear_C_Call ?ne_C_Hear_C_Call ?sub_C_Hear_C_Wait ?ne_C_Hear_C_Wait ?sub_C_Hear_C_Leave ?ne_C_Hear_C_Leave ?sub_TNoneType_C_Call ?sub_TNoneType_C_Wait ?sub_TNoneType_C_Leave ?sub_TNoneType_C_Hear ?sub_Tbool_C_Call ?sub_Tbool_C_Wait ?sub_Tbool_C_Leave ?sub_Tbool_C_Hear ?sub_Tint_C_Call ?sub_Tint_C_Wait ?sub_Tint_C_Leave ?sub_Tint_C_Hear ?sub_Tstr_C_Call ?sub_Tstr_C_Wait ?sub_Tstr_C_Leave ?sub_Tstr_C_Hear ?sub_Tlist_C_Call ?sub_Tlist_C_Wait ?sub_Tlist_C_Leave ?sub_Tlist_C_Hear ?sub_Ttuple_C_Call ?sub_Ttuple_C_Wait ?sub_Ttuple_C_Leave ?sub_Ttuple_C_Hear ?sub_C_Call_Tstr ?sub_C_Call_Tbool ?sub_C_Call_Tint ?sub_C_Call_Tlist ?sub_C_Call_Ttuple ?sub_C_Wait_Tstr ?sub_C_Wait_Tbool ?sub_C_Wait_Tint ?sub_C_Wait_Tlist ?sub_C_Wait_Ttuple ?sub_C_Leave_Tstr ?sub_C_Leave_Tbool ?sub_C_Leave_Tint ?sub_C_Leave_Tlist ?sub_C_Leave_Ttuple ?sub_C_Hear_Tstr ?sub_C_Hear_Tbool ?sub_C_Hear_Tint ?sub_C_Hear_Tlist ?sub_C_Hear_Ttuple ?z_abs ?z_enumerate ?q_sf_Call ?q_fm_Call ?q_fo_Call ?q_sf_Wait ?q_sf_Leave ?q_sf_Hear ?z_repr ?z_zip ?q_ef_Call ?q_en_Call ?q_eo_Call ?q_nf_Call_Call ?q_ef_Wait ?q_en_Wait ?q_eo_Wait ?q_ef_Leave ?q_en_Leave ?q_eo_Leave ?q_ef_Hear ?q_en_Hear ?q_eo_Hear ?q_nf_Call_str ?q_nf_Call_tuple ?q_nf_Wait_Leave ?q_nf_Leave_Leave ?q_nf_Hear_Hear ?q_nf_Hear_str
    (case a_law => k_is)
    (case a_is_integer => k_is)
    (case a_InvalidTree => k_is)
    (case a_Call => k_is)
    (case a_Wait => k_is)
    (case a_Leave => k_is)
    (case a_Hear => k_is)
    (case a_NO_NAMES => k_is)
    (case a_is_name => k_is)
    (case a_is_sequence => k_is)
    (case a_are_events => k_is)
    (case a__law_call => k_is)
    (case a__law_named => k_is)
    (case a__law_source => k_is)
    (case a__law_draw => k_is)
    (case a__law_pick => k_is)
    (case a__law_tree => k_is)
    (case a__law_shuffled => k_is)
    (case a__law_words => k_is)
    (case a__law_row => k_is)
    (case a__law_book => k_is)
    (case a_call_words => k_is)
    (case a__law_text => k_is)
    (case a__law_size => k_is)
    (case a__law_is_made => k_is)
    (case in_f_InvalidTree_init => k_is)
    (case in_f_Wait_init => k_is)
    (case in_f_Leave_init => k_is)
    (case in_f_Hear_init => k_is)
    (case q_li_Call => k_is)
    (case in_f_Call_init => k_is)
    (case q_si_Call => k_is)
    (case q_si_Wait => k_is)
    (case q_si_Leave => k_is)
    (case q_si_Hear => k_is)
    (case q_ei_Call => k_is)
    (case q_ei_Wait => k_is)
    (case q_ei_Leave => k_is)
    (case q_ei_Hear => k_is)
    (case l_is_integer => k_is)
    (case l_InvalidTree_init => k_is)
    (case l_Wait_init => k_is)
    (case l_Leave_init => k_is)
    (case l_Hear_init => k_is)
    (case l_is_name => k_is)
    (case l_is_sequence => k_is)
    (case l_are_events => k_is)
    (case l_Call_len => k_is)
    (case l_call => k_is)
    (case l_named => k_is)
    (case l_source => k_is)
    (case l_draw => k_is)
    (case l_pick => k_is)
    (case l_tree => k_is)
    (case l_shuffled => k_is)
    (case l_words => k_is)
    (case l_row => k_is)
    (case l_book => k_is)
    (case l_call_words => k_is)
    (case l_Call_str => k_is)
    (case l_Wait_str => k_is)
    (case l_Leave_str => k_is)
    (case l_Hear_str => k_is)
    (case l_text => k_is)
    (case l_size => k_is)
    (case l_is_made => k_is)
    (case l_Call_eq => k_is)
    (case l_Wait_eq => k_is)
    (case l_Leave_eq => k_is)
    (case l_Hear_eq => k_is)
    (case l_law => k_is)
    (case xL_C_InvalidTree => k_is)
    (case l_aNO => k_is)
    (case l_Call_init => k_is)
    (case dl_Call_init => k_is)
    (case l_e_events => k_is)
    (case cc_is_integer => k_is)
    (case k_is_integer => k_is)
    (case cc_InvalidTree_init => k_is)
    (case k_InvalidTree_init => k_is)
    (case cc_Wait_init => k_is)
    (case k_Wait_init => k_is)
    (case cc_Leave_init => k_is)
    (case k_Leave_init => k_is)
    (case cc_Hear_init => k_is)
    (case k_Hear_init => k_is)
    (case cc_is_name => k_is)
    (case k_is_name => k_is)
    (case cc_is_sequence => k_is)
    (case k_is_sequence => k_is)
    (case cc_are_events => k_is)
    (case k_are_events => k_is)
    (case cc_Call_len => k_is)
    (case k_Call_len => k_is)
    (case cc_call => k_is)
    (case k_call => k_is)
    (case cc_named => k_is)
    (case k_named => k_is)
    (case cc_source => k_is)
    (case k_source => k_is)
    (case cc_draw => k_is)
    (case k_draw => k_is)
    (case cc_pick => k_is)
    (case k_pick => k_is)
    (case cc_tree => k_is)
    (case k_tree => k_is)
    (case cc_shuffled => k_is)
    (case k_shuffled => k_is)
    (case cc_words => k_is)
    (case k_words => k_is)
    (case cc_row => k_is)
    (case k_row => k_is)
    (case cc_book => k_is)
    (case k_book => k_is)
    (case cc_call_words => k_is)
    (case k_call_words => k_is)
    (case cc_Call_str => k_is)
    (case k_Call_str => k_is)
    (case cc_Wait_str => k_is)
    (case k_Wait_str => k_is)
    (case cc_Leave_str => k_is)
    (case k_Leave_str => k_is)
    (case cc_Hear_str => k_is)
    (case k_Hear_str => k_is)
    (case cc_text => k_is)
    (case k_text => k_is)
    (case cc_size => k_is)
    (case k_size => k_is)
    (case cc_is_made => k_is)
    (case k_is_made => k_is)
    (case cc_Call_eq => k_is)
    (case k_Call_eq => k_is)
    (case cc_Wait_eq => k_is)
    (case k_Wait_eq => k_is)
    (case cc_Leave_eq => k_is)
    (case k_Leave_eq => k_is)
    (case cc_Hear_eq => k_is)
    (case k_Hear_eq => k_is)
    (case cc_law => k_is)
    (case k_law => k_is)
    (case z_isinstance => k_is)
    (case z_int => k_is)
    (case z_bool => k_is)
    (case sa_C_InvalidTree => k_is)
    (case eb_C_InvalidTree => k_is)
    (case tyC_C_InvalidTree => k_is)
    (case kc_C_InvalidTree => k_is)
    (case q_nwTr => k_is)
    (case q_tTr => k_is)
    (case pg_C_Call => k_is)
    (case hd_C_Call => k_is)
    (case po_C_Call => k_is)
    (case sa_C_Call => k_is)
    (case pg_C_Wait => k_is)
    (case hd_C_Wait => k_is)
    (case po_C_Wait => k_is)
    (case sa_C_Wait => k_is)
    (case n_C_Wait_call => k_is)
    (case mk_C_Wait => k_is)
    (case fi_f_Wait_init => k_is)
    (case kc_C_Wait => k_is)
    (case pg_C_Leave => k_is)
    (case hd_C_Leave => k_is)
    (case po_C_Leave => k_is)
    (case sa_C_Leave => k_is)
    (case n_C_Leave_call => k_is)
    (case mk_C_Leave => k_is)
    (case fi_f_Leave_init => k_is)
    (case kc_C_Leave => k_is)
    (case pg_C_Hear => k_is)
    (case hd_C_Hear => k_is)
    (case po_C_Hear => k_is)
    (case sa_C_Hear => k_is)
    (case n_C_Hear_number => k_is)
    (case mk_C_Hear => k_is)
    (case fi_f_Hear_init => k_is)
    (case kc_C_Hear => k_is)
    (case z_len => k_is)
    (case z_str => k_is)
    (case z_all => k_is)
    (case kl_aNO => exact ⟨⟨_, _, rfl, rfl⟩, ⟨_, _, rfl, rfl⟩, ⟨_, _, rfl, rfl⟩, ⟨_, _, rfl, rfl⟩, ⟨_, _, rfl, rfl⟩, ⟨_, _, rfl, rfl⟩, ⟨_, _, rfl, rfl⟩, ⟨_, _, rfl, rfl⟩, ⟨_, _, rfl, rfl⟩, ⟨_, _, rfl, rfl⟩, trivial⟩)
    (case sm_aNO => first | rfl | decide)
    (case z_list => k_is)
    (case z_tuple => k_is)
    (case ca_C_Wait => k_is)
    (case cg_ => k_is)
    (case ck_ => k_is)
    (case cm_C_Wait => k_is)
    (case ca_C_Leave => k_is)
    (case cm_C_Leave => k_is)
    (case ca_C_Hear => k_is)
    (case cm_C_Hear => k_is)
    (case isC_C_Hear => k_is)
    (case tyC_C_Hear => k_is)
    (case sub_C_Hear_C_Hear => first | k_is | rfl)
    (case sub_C_Leave_C_Hear => first | k_is | rfl)
    (case ne_C_Leave_C_Hear => decide)
    (case isC_C_Leave => k_is)
    (case tyC_C_Leave => k_is)
    (case sub_C_Leave_C_Leave => first | k_is | rfl)
    (case isC_C_Wait => k_is)
    (case tyC_C_Wait => k_is)
    (case sub_C_Leave_C_Wait => first | k_is | rfl)
    (case ne_C_Leave_C_Wait => decide)
    (case sub_C_Wait_C_Hear => first | k_is | rfl)
    (case ne_C_Wait_C_Hear => decide)
    (case sub_C_Wait_C_Leave => first | k_is | rfl)
    (case ne_C_Wait_C_Leave => decide)
    (case sub_C_Wait_C_Wait => first | k_is | rfl)
    (case z_range => k_is)
    (case z_sum => k_is)
    (case n_C_Call_service => k_is)
    (case n_C_Call_kind => k_is)
    (case n_C_Call_bad => k_is)
    (case n_C_Call_events => k_is)
    (case n_C_Call_side => k_is)
    (case n_C_Call_inner => k_is)
    (case n_C_Call__size => k_is)
    (case q_lf_Call => k_is)
    (case mk_C_Call => k_is)
    (case fi_f_Call_init => k_is)
    (case kc_C_Call => k_is)
    (case cc_Call_init => k_is)
    (case k_Call_init => k_is)
    (case ca_C_Call => k_is)
    (case cm_C_Call => k_is)
    (case isC_C_Call => k_is)
    (case tyC_C_Call => k_is)
    (case sub_C_Call_C_Call => first | k_is | rfl)
    (case sub_C_Call_C_Wait => first | k_is | rfl)
    (case ne_C_Call_C_Wait => decide)
    (case sub_C_Call_C_Leave => first | k_is | rfl)
    (case ne_C_Call_C_Leave => decide)
    (case sub_C_Call_C_Hear => first | k_is | rfl)
    (case ne_C_Call_C_Hear => decide)
    (case sub_C_Wait_C_Call => first | k_is | rfl)
    (case ne_C_Wait_C_Call => decide)
    (case sub_C_Leave_C_Call => first | k_is | rfl)
    (case ne_C_Leave_C_Call => decide)
    (case sub_C_Hear_C_Call => first | k_is | rfl)
    (case ne_C_Hear_C_Call => decide)
    (case sub_C_Hear_C_Wait => first | k_is | rfl)
    (case ne_C_Hear_C_Wait => decide)
    (case sub_C_Hear_C_Leave => first | k_is | rfl)
    (case ne_C_Hear_C_Leave => decide)
    (case sub_TNoneType_C_Call => first | k_is | rfl)
    (case sub_TNoneType_C_Wait => first | k_is | rfl)
    (case sub_TNoneType_C_Leave => first | k_is | rfl)
    (case sub_TNoneType_C_Hear => first | k_is | rfl)
    (case sub_Tbool_C_Call => first | k_is | rfl)
    (case sub_Tbool_C_Wait => first | k_is | rfl)
    (case sub_Tbool_C_Leave => first | k_is | rfl)
    (case sub_Tbool_C_Hear => first | k_is | rfl)
    (case sub_Tint_C_Call => first | k_is | rfl)
    (case sub_Tint_C_Wait => first | k_is | rfl)
    (case sub_Tint_C_Leave => first | k_is | rfl)
    (case sub_Tint_C_Hear => first | k_is | rfl)
    (case sub_Tstr_C_Call => first | k_is | rfl)
    (case sub_Tstr_C_Wait => first | k_is | rfl)
    (case sub_Tstr_C_Leave => first | k_is | rfl)
    (case sub_Tstr_C_Hear => first | k_is | rfl)
    (case sub_Tlist_C_Call => first | k_is | rfl)
    (case sub_Tlist_C_Wait => first | k_is | rfl)
    (case sub_Tlist_C_Leave => first | k_is | rfl)
    (case sub_Tlist_C_Hear => first | k_is | rfl)
    (case sub_Ttuple_C_Call => first | k_is | rfl)
    (case sub_Ttuple_C_Wait => first | k_is | rfl)
    (case sub_Ttuple_C_Leave => first | k_is | rfl)
    (case sub_Ttuple_C_Hear => first | k_is | rfl)
    (case sub_C_Call_Tstr => first | k_is | rfl)
    (case sub_C_Call_Tbool => first | k_is | rfl)
    (case sub_C_Call_Tint => first | k_is | rfl)
    (case sub_C_Call_Tlist => first | k_is | rfl)
    (case sub_C_Call_Ttuple => first | k_is | rfl)
    (case sub_C_Wait_Tstr => first | k_is | rfl)
    (case sub_C_Wait_Tbool => first | k_is | rfl)
    (case sub_C_Wait_Tint => first | k_is | rfl)
    (case sub_C_Wait_Tlist => first | k_is | rfl)
    (case sub_C_Wait_Ttuple => first | k_is | rfl)
    (case sub_C_Leave_Tstr => first | k_is | rfl)
    (case sub_C_Leave_Tbool => first | k_is | rfl)
    (case sub_C_Leave_Tint => first | k_is | rfl)
    (case sub_C_Leave_Tlist => first | k_is | rfl)
    (case sub_C_Leave_Ttuple => first | k_is | rfl)
    (case sub_C_Hear_Tstr => first | k_is | rfl)
    (case sub_C_Hear_Tbool => first | k_is | rfl)
    (case sub_C_Hear_Tint => first | k_is | rfl)
    (case sub_C_Hear_Tlist => first | k_is | rfl)
    (case sub_C_Hear_Ttuple => first | k_is | rfl)
    (case z_abs => k_is)
    (case z_enumerate => k_is)
    (case q_sf_Call => k_is)
    (case q_fm_Call => k_is)
    (case q_fo_Call => k_is)
    (case q_sf_Wait => k_is)
    (case q_sf_Leave => k_is)
    (case q_sf_Hear => k_is)
    (case z_repr => k_is)
    (case z_zip => k_is)
    (case q_ef_Call => k_is)
    (case q_en_Call => k_is)
    (case q_eo_Call => k_is)
    (case q_nf_Call_Call => k_is)
    (case q_ef_Wait => k_is)
    (case q_en_Wait => k_is)
    (case q_eo_Wait => k_is)
    (case q_ef_Leave => k_is)
    (case q_en_Leave => k_is)
    (case q_eo_Leave => k_is)
    (case q_ef_Hear => k_is)
    (case q_en_Hear => k_is)
    (case q_eo_Hear => k_is)
    (case q_nf_Call_str => k_is)
    (case q_nf_Call_tuple => k_is)
    (case q_nf_Wait_Leave => k_is)
    (case q_nf_Leave_Leave => k_is)
    (case q_nf_Hear_Hear => k_is)
    (case q_nf_Hear_str => k_is)
