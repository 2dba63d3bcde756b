import PyProof.Rows.All
import Wide.All
import OpenK.AllK
import Wide.FinOn
import HandS.ForMost
import HandS.Evl
import HandS.Style
import HandS.Walk
import HandS.IsInst
import HandS.Deep
import HandS.StrMore
import HandS.More
import PySem.Challenge.RW_wholetraces_k22_trees_refused
import HandS.Iter
import KE.GoesEnum
import HandS.List
import HandS.Set
import HandS.SetBool
import HandS.SetFor
import HandS.Strs
import HandS.ExcIs
import HandS.ExcInit
import HandS.ExcField
import KE.KExcInit
import PyProof.ExcBaseAll.LookupError
import PyProof.ExcBaseAll.IndexError
import HandS.ExcValue
import HandS.ExcOwn
import HandS.WordsExc
import PyProof.ListRange
import HandS.Defaults
import HandS.CallSlots
set_option Elab.async false
set_option maxRecDepth 100000
set_option maxHeartbeats 4000000
set_option linter.all false
/-! ## Words of my own that speak of no program -/
namespace My
open PySem L2
/-- the box of draws: three ints -/
def bx (w s c : Int) : HO := .lst [.int w, .int s, .int c]
theorem small_ {n : Nat} (h : n ≤ 1000) : n ≤ sizeLine := Nat.le_of_lt (small1000 h)
theorem at_some {xs : List V} {k : Int} (h0 : 0 ≤ k) (h1 : k < (xs.length : Int)) : ∃ v : V, atI xs k = some v ∧ xs[k.toNat]? = some v := by
  have hk : k.toNat < xs.length := by omega
  have h2 : xs[k.toNat]? = some xs[k.toNat] := List.getElem?_eq_getElem hk
  have h3 := atI_nat h2
  rw [show ((k.toNat : Nat) : Int) = k by omega] at h3
  exact ⟨_, h3, h2⟩
theorem int_at {ns : List Int} {k : Int} (h0 : 0 ≤ k) (h1 : k < (ns.length : Int)) : ∃ z : Int, atI (ns.map V.int) k = some (.int z) := by
  obtain ⟨v, h, e⟩ := at_some (xs := ns.map V.int) h0 (by rw [List.length_map]; exact h1)
  rw [List.getElem?_map] at e
  cases q : ns[k.toNat]? with
  | none => rw [q] at e; cases e
  | some z => rw [q] at e; cases e; exact ⟨z, h⟩
/-! ### the heap grows, the box alone changes -/
structure Gr (b : Addr) (H H' : Hp) : Prop where
  keep : ∀ a o, a ≠ b → H a = some o → H' a = some o
  box : ∃ w s c, H' b = some (bx w s c)
/-- at a, which is not the box, stands o -/
structure At (b : Addr) (H : Hp) (a : Addr) (o : HO) : Prop where
  ne : a ≠ b
  at_ : H a = some o
theorem Gr.refl {b : Addr} {H : Hp} {w s c : Int} (h : H b = some (bx w s c)) : Gr b H H := ⟨fun _ _ _ e => e, w, s, c, h⟩
theorem Gr.trans {b : Addr} {H H1 H2 : Hp} (x : Gr b H H1) (y : Gr b H1 H2) : Gr b H H2 := ⟨fun a o n e => y.keep a o n (x.keep a o n e), y.box⟩
theorem Gr.draw {b : Addr} {H H1 : Hp} (x : Gr b H H1) (w s c : Int) : Gr b H (upd H1 b (bx w s c)) := ⟨fun a o n e => by rw [upd_ne n]; exact x.keep a o n e, w, s, c, upd_same⟩
theorem Gr.ne_new {b p : Addr} {H H1 : Hp} (x : Gr b H H1) (h : H1 p = none) : p ≠ b := fun e => by
  obtain ⟨w, s, c, q⟩ := x.box
  rw [e, q] at h
  cases h
theorem Gr.free {b p : Addr} {H H1 : Hp} (x : Gr b H H1) (h : H1 p = none) : H p = none := by
  cases q : H p with
  | none => rfl
  | some o =>
    rw [x.keep p o (x.ne_new h) q] at h
    cases h
theorem Gr.new {b p : Addr} {H H1 : Hp} (x : Gr b H H1) (h : H1 p = none) (o : HO) : Gr b H (upd H1 p o) := by
  have np := x.ne_new h
  refine ⟨fun a u n e => ?_, ?_⟩
  · rw [upd_ne (ne_of_none (x.keep a u n e) h)]
    exact x.keep a u n e
  · obtain ⟨w, s, c, q⟩ := x.box
    exact ⟨w, s, c, by rw [upd_ne np.symm]; exact q⟩
/-- what H does not know may be changed -/
theorem Gr.mut {b p : Addr} {H H1 : Hp} (x : Gr b H H1) (h : H p = none) (np : p ≠ b) (o : HO) : Gr b H (upd H1 p o) := by
  refine ⟨fun a u n e => ?_, ?_⟩
  · rw [upd_ne (ne_of_none e h)]
    exact x.keep a u n e
  · obtain ⟨w, s, c, q⟩ := x.box
    exact ⟨w, s, c, by rw [upd_ne np.symm]; exact q⟩
theorem At.gr {b a : Addr} {H H' : Hp} {o : HO} (h : At b H a o) (g : Gr b H H') : At b H' a o := ⟨h.ne, g.keep a o h.ne h.at_⟩
theorem At.l {K : PySem.W.Frag} {b a : Addr} {H : Hp} {xs : List V} (h : At b H a (.lst xs)) : SqL K H a xs := SqL.of h.at_
theorem At.t {K : PySem.W.Frag} {b a : Addr} {H : Hp} {xs : List V} (h : At b H a (.tup xs)) : SqT K H a xs := SqT.of h.at_
theorem Gr.at_new {b p : Addr} {H H1 : Hp} (x : Gr b H H1) (h : H1 p = none) (o : HO) : At b (upd H1 p o) p o := ⟨x.ne_new h, upd_same⟩
theorem At.new {b a p : Addr} {H : Hp} {o u : HO} (h : At b H a o) (hp : H p = none) : At b (upd H p u) a o := ⟨h.ne, by rw [upd_ne (ne_of_none h.at_ hp)]; exact h.at_⟩
theorem At.nep {b a p : Addr} {H : Hp} {o : HO} (h : At b H a o) (hp : H p = none) : a ≠ p := ne_of_none h.at_ hp
theorem Gr.of_new {b p : Addr} {H : Hp} {w s c : Int} (hb : H b = some (bx w s c)) (h : H p = none) (o : HO) : Gr b H (upd H p o) := (Gr.refl hb).new h o
theorem At.mk_new {b p : Addr} {H H1 : Hp} (x : Gr b H H1) (h : H1 p = none) (o : HO) : At b (upd H1 p o) p o := ⟨x.ne_new h, upd_same⟩
theorem Same.gr {b : Addr} {H H' : Hp} {w s c : Int} (e : Same H H') (h : H b = some (bx w s c)) : Gr b H H' := ⟨fun a o _ q => e a o q, w, s, c, e _ _ h⟩
theorem same_upd {H : Hp} {p : Addr} (h : H p = none) (o : HO) : Same H (upd H p o) := fun b u q => by rw [upd_ne (ne_of_none q h)]; exact q

/-! ### a list against an empty list -/
section
variable {X : Cx}
def rEqE (K : PySem.W.Frag) (neg : Bool) : R2 := fun x y H Q => ∃ (a q : Addr) (xs : List V), x = .ref a ∧ y = .ref q ∧ SqL K H a xs ∧ SqL K H q [] ∧ Q (.bl (if neg then !xs.isEmpty else xs.isEmpty)) H
theorem op_eqE (hu : X.A.units < cLine) : OpR X (compareOp .Eq) (rEqE X.K false) := by
  intro pins s σ H x y u v Q I rx ry h
  obtain ⟨a, q, xs, rfl, rfl, h1, h2, k⟩ := h
  cases rx
  cases ry
  obtain ⟨is, r, p, _⟩ := I.list h1
  obtain ⟨js, r', p', _⟩ := I.list h2
  cases r'
  cases xs with
  | nil =>
    cases r
    exact SeqAt.RcAt.lists (e := fun _ => true) p.isList p'.isList rfl hu (fun j h1 _ => absurd h1 (by simp)) X.prog X.w X.xe _ ⟨.bl true, H, I, rfl, k⟩
  | cons x xs =>
    cases r with
    | cons r1 r2 => exact SeqAt.RcAt.lists_lengths p.isList p'.isList (by simp) hu X.prog X.w X.xe _ ⟨.bl false, H, I, rfl, k⟩
theorem op_neE (hu : X.A.units < cLine) : OpR X (compareOp .NotEq) (rEqE X.K true) := by
  intro pins s σ H x y u v Q I rx ry h
  obtain ⟨a, q, xs, rfl, rfl, h1, h2, k⟩ := h
  cases rx
  cases ry
  obtain ⟨is, r, p, _⟩ := I.list h1
  obtain ⟨js, r', p', _⟩ := I.list h2
  cases r'
  cases xs with
  | nil =>
    cases r
    exact SeqAt.RcNeAt.lists (e := fun _ => true) p.isList p'.isList rfl hu (fun j h1 _ => absurd h1 (by simp)) X.prog X.w X.xe _ ⟨.bl false, H, I, rfl, k⟩
  | cons x xs =>
    cases r with
    | cons r1 r2 => exact SeqAt.RcNeAt.lists_lengths p.isList p'.isList (by simp) hu X.prog X.w X.xe _ ⟨.bl true, H, I, rfl, k⟩
/-- a text so many times -/
def timesL (x : List Nat) : Nat → List Nat
  | 0 => []
  | n + 1 => x ++ timesL x n
end
end My

/-! ## Further rules of my own: a text so many times -/
namespace My
open PySem L2
theorem timesL_one (x : List Nat) : timesL x 1 = x := by simp [timesL]
theorem fold_times (x : Array Nat) : ∀ (n : Nat) (acc : Array Nat), ((List.replicate n x).foldl (· ++ ·) acc).toList = acc.toList ++ timesL x.toList n
  | 0, acc => by simp [timesL]
  | n + 1, acc => by
    rw [List.replicate_succ, List.foldl_cons, fold_times x n, Array.toList_append, List.append_assoc]
    rfl
theorem timesL_len (x : List Nat) : ∀ n : Nat, (timesL x n).length = n * x.length
  | 0 => by simp [timesL]
  | n + 1 => by
    show (x ++ timesL x n).length = (n + 1) * x.length
    rw [List.length_append, timesL_len x n, Nat.add_mul, Nat.one_mul, Nat.add_comm]
theorem timesL_nil : ∀ n : Nat, timesL [] n = []
  | 0 => rfl
  | n + 1 => by
    show [] ++ timesL [] n = []
    rw [timesL_nil n]
    rfl
section
variable {X : Cx}
theorem op_mul_str : OpR X (binaryOp .Mult) (fun x y H Q => ∃ (z : Str) (n : Int), x = .str z ∧ y = .int n ∧ 0 ≤ n ∧ n ≤ 1000 ∧ z.length ≤ 1000 ∧ Q (.str ⟨(timesL z.cps.toList n.toNat).toArray⟩) H) := by
  intro pins s σ H x y v u Q I rx ry h
  obtain ⟨z, n, rfl, rfl, h0, h1, hz, k⟩ := h
  obtain ⟨t, rfl⟩ := rx
  obtain ⟨t', rfl⟩ := ry
  have hs : z.cps.size ≤ 1000 := hz
  refine PySem.P.mul_str (by rw [decide_eq_false (by omega), decide_eq_false (by omega)]; rfl) (fun h2 _ => ?_) (fun h2 _ => ?_) ?_
  · have h3 : (1000 : Int) ≤ (2 ^ 63 - 1) / n := by
      rw [Int.le_ediv_iff_mul_le (by omega)]
      have : (1000 : Int) * n ≤ 1000000 := by omega
      omega
    omega
  · have h3 : z.length * n.toNat ≤ 1000 * 1000 := Nat.mul_le_mul hz (by omega)
    have h4 : z.length * n.toNat ≤ sizeLine := by rw [sizeLine_eq]; omega
    show decide (z.length * n.toNat > sizeLine) = false
    exact decide_eq_false (by omega)
  · by_cases n0 : n < 1
    · have e : n = 0 := by omega
      subst e
      exact ⟨Nat.zero_le _, .str ⟨#[]⟩, H, I.tok _, ⟨_, rfl⟩, k⟩
    · rw [if_neg n0]
      by_cases e : (n == 1 || z.length == 0) = true
      · rw [if_pos e]
        have q : timesL z.cps.toList n.toNat = z.cps.toList := by
          rcases Bool.or_eq_true_iff.mp e with e | e
          · have e' : n = 1 := by simpa using e
            subst e'
            exact timesL_one _
          · have e' : z.cps.toList = [] := by
              have : z.cps.size = 0 := by simpa [Str.length] using e
              exact List.eq_nil_of_length_eq_zero (by simpa using this)
            rw [e', timesL_nil]
        rw [q] at k
        exact ⟨.str z, H, I, ⟨t, rfl⟩, by simpa using k⟩
      · rw [if_neg e]
        have q : (⟨(List.replicate n.toNat z.cps).foldl (· ++ ·) #[]⟩ : Str) = ⟨(timesL z.cps.toList n.toNat).toArray⟩ := by
          have f := fold_times z.cps n.toNat #[]
          have g : (List.replicate n.toNat z.cps).foldl (· ++ ·) #[] = (timesL z.cps.toList n.toNat).toArray := by
            apply Array.toList_inj.mp
            rw [f]
            simp
          rw [g]
        rw [← q] at k
        refine ⟨?_, .str _, H, I.tok _, ⟨_, rfl⟩, k⟩
        show ((List.replicate n.toNat z.cps).foldl (· ++ ·) #[]).size ≤ sizeLine
        rw [← Array.length_toList, fold_times, List.length_append, timesL_len]
        have h3 : n.toNat * z.cps.toList.length ≤ 1000 * 1000 := Nat.mul_le_mul (by omega) (by simpa using hs)
        rw [sizeLine_eq]
        simpa using (by omega : n.toNat * z.cps.toList.length ≤ 16777216)
end
end My

/-! ## The rules that read the written part, with it named (within a comprehension's block it must not hang on the block) -/
namespace My
open PySem L2
section
variable {X : Cx} {e a b o : Expr} {es : List Expr} {te ta tb to : TE} {t : TA} {f name : Str} {pos cpos p apos : Pos} {id T : String}
theorem pe_fldK (K : PySem.W.Frag) (he : PE X e ta) (hK : X.K = K := by rfl) (hb : attributeBase e f X.env (eval e X.env) = eval e X.env := by rfl) : PE X (.Attribute e f pos) (tFld K ta f) := hK ▸ pe_fld he hb
theorem ix_listK (K : PySem.W.Frag) (hK : X.K = K := by rfl) : IxR X (rIxL K) := hK ▸ ix_list
theorem ix_tupK (K : PySem.W.Frag) (hK : X.K = K := by rfl) : IxR X (rIxT K) := hK ▸ ix_tup
theorem sl_listK (K : PySem.W.Frag) (hK : X.K = K := by rfl) : SlR X (rSlL K) := hK ▸ sl_list
theorem sl_tupK (K : PySem.W.Frag) (hK : X.K = K := by rfl) : SlR X (rSlT K) := hK ▸ sl_tup
def rLenS (K : PySem.W.Frag) : List V → Hp → VK → Prop := fun xs H Q => ∃ p ys, xs = [.ref p] ∧ (SqL K H p ys ∨ SqT K H p ys) ∧ Q (.int ys.length) H
theorem call_lenK (K : PySem.W.Frag) (hK : X.K = K := by rfl) : CallR X (.builtin "len") (rLenS K) := hK ▸ call_len_seq
def rListO (K : PySem.W.Frag) : List V → Hp → VK → Prop := fun xs H Q => ∃ p ys, xs = [.ref p] ∧ (SqL K H p ys ∨ SqT K H p ys) ∧ ∀ l, H l = none → Q (.ref l) (upd H l (.lst ys))
theorem call_listK (K : PySem.W.Frag) (hK : X.K = K := by rfl) : CallR X (.type "list") (rListO K) := hK ▸ call_list_of
def rTupO (K : PySem.W.Frag) : List V → Hp → VK → Prop := fun xs H Q => ∃ p ys, xs = [.ref p] ∧ ((SqL K H p ys ∧ ∀ l, H l = none → Q (.ref l) (upd H l (.tup ys))) ∨ (SqT K H p ys ∧ Q (.ref p) H))
theorem call_tupleK (K : PySem.W.Frag) (hK : X.K = K := by rfl) : CallR X (.type "tuple") (rTupO K) := hK ▸ call_tuple_of
theorem op_inK (K : PySem.W.Frag) (hK : X.K = K := by rfl) : OpR X (compareOp .In) (rIn K false) := hK ▸ op_in_seq
theorem op_notInK (K : PySem.W.Frag) (hK : X.K = K := by rfl) : OpR X (compareOp .NotIn) (rIn K true) := hK ▸ op_notIn_seq
theorem op_eqDK (K : PySem.W.Frag) (hu : X.A.units + 64 < cLine) (hK : X.K = K := by rfl) : OpR X (compareOp .Eq) (rEqD K) := hK ▸ op_eqD hu
theorem op_neDK (K : PySem.W.Frag) (hu : X.A.units + 64 < cLine) (hK : X.K = K := by rfl) : OpR X (compareOp .NotEq) (rNeD K) := hK ▸ op_neD hu
theorem op_eqEK (K : PySem.W.Frag) (hu : X.A.units < cLine) (hK : X.K = K := by rfl) : OpR X (compareOp .Eq) (rEqE K false) := hK ▸ op_eqE hu
theorem op_neEK (K : PySem.W.Frag) (hu : X.A.units < cLine) (hK : X.K = K := by rfl) : OpR X (compareOp .NotEq) (rEqE K true) := hK ▸ op_neE hu
def rJoin (K : PySem.W.Frag) : V → List V → Hp → VK → Prop := fun x xs H Q => ∃ a p, ∃ ys : List Str, x = .str a ∧ xs = [.ref p] ∧ (SqL K H p (ys.map V.str) ∨ SqT K H p (ys.map V.str)) ∧
  (ys.map (·.length)).sum + ys.length * a.length ≤ 16777216 ∧ Q (.str (Txt.join a ys)) H
theorem mt_joinK (K : PySem.W.Frag) (hK : X.K = K := by rfl) : MtR X "str.join" (rJoin K) := hK ▸ mt_join
theorem pi_listK (K : PySem.W.Frag) {tg : Expr} (hl : PE X e te) (hK : X.K = K := by rfl) : PI X tg e (iList K te) := hK ▸ pi_list hl
theorem pi_tupK (K : PySem.W.Frag) {tg : Expr} (hl : PE X e te) (hK : X.K = K := by rfl) : PI X tg e (iTup K te) := hK ▸ pi_tup hl
theorem call_isiV (K : PySem.W.Frag) (hK : X.K = K := by rfl) : CallR X (.builtin "isinstance") (rIsi K) := hK ▸ call_isi
theorem call_isiTV (K : PySem.W.Frag) (hK : X.K = K := by rfl) : CallR X (.builtin "isinstance") (rIsiT K) := hK ▸ call_isiT
theorem cr_allK (K : PySem.W.Frag) (hc : X.calm = true) (hK : X.K = K := by rfl) : CallR X (.builtin "all") (rAll K) := hK ▸ cr_all hc
end
end My

/-! ## Data: values that are nested lists and tuples -/
namespace My
open PySem L2
mutual
theorem Dp.same {K : PySem.W.Frag} {H H' : Hp} (e : Same H H') : ∀ (d : PyData) (v : V), Dp K H v d → Dp K H' v d
  | .none, _, h => by cases h; exact .non
  | .bool b, _, h => by cases h; exact .bl b
  | .int i, _, h => by cases h; exact .int i
  | .str x, _, h => by cases h; exact .str x
  | .list ds, _, h => by
    cases h with
    | lst hs ha => exact .lst (e.seq hs) (DpAll.same e ds _ ha)
  | .tuple ds, _, h => by
    cases h with
    | tup hs ha =>
      refine .tup ?_ (DpAll.same e ds _ ha)
      rcases hs with (hs | ⟨o, hs⟩) | hs
      · exact .inl (.inl (e _ _ hs))
      · exact .inl (.inr ⟨o, e _ _ hs⟩)
      · exact .inr hs
  | .dict _, _, h => by cases h
theorem DpAll.same {K : PySem.W.Frag} {H H' : Hp} (e : Same H H') : ∀ (ds : List PyData) (vs : List V), DpAll K H vs ds → DpAll K H' vs ds
  | [], _, h => by cases h; exact .nil
  | d :: ds, _, h => by
    cases h with
    | cons h1 h2 => exact .cons (Dp.same e d _ h1) (DpAll.same e ds _ h2)
end
theorem seqL_same {K : PySem.W.Frag} {H H' : Hp} (e : Same H H') {a : Addr} {xs : List V} (h : SqL K H a xs) : SqL K H' a xs := e.seq h
theorem seqT_same {K : PySem.W.Frag} {H H' : Hp} (e : Same H H') {a : Addr} {xs : List V} (hs : SqT K H a xs) : SqT K H' a xs := by
  rcases hs with (hs | ⟨o, hs⟩) | hs
  · exact .inl (.inl (e _ _ hs))
  · exact .inl (.inr ⟨o, e _ _ hs⟩)
  · exact .inr hs
theorem tyL {K : PySem.W.Frag} {H : Hp} {a : Addr} {xs : List V} (h : SqL K H a xs) : TyX K H (.ref a) (.type "list") := by
  rcases h with (h | ⟨o, h⟩) | ⟨o, its, n, h, hc, _⟩
  · exact .base (.lst h)
  · exact .base (.frz h)
  · exact .kList h hc
theorem tyT {K : PySem.W.Frag} {H : Hp} {a : Addr} {xs : List V} (h : SqT K H a xs) : TyX K H (.ref a) (.type "tuple") := by
  rcases h with (h | ⟨o, h⟩) | ⟨o, its, n, h, hc, _⟩
  · exact .base (.tup h)
  · exact .fTuple h
  · exact .kTuple h hc
/-- the type of a datum -/
def tyD : PyData → String
  | .none => "NoneType"
  | .bool _ => "bool"
  | .int _ => "int"
  | .str _ => "str"
  | .list _ => "list"
  | .tuple _ => "tuple"
  | .dict _ => "dict"
theorem Dp.ty {K : PySem.W.Frag} {H : Hp} {v : V} {d : PyData} (h : Dp K H v d) : TyX K H v (.type (tyD d)) := by
  cases h with
  | non => exact .base .non
  | bl b => exact .base (.bl b)
  | int i => exact .base (.int i)
  | str x => exact .base (.str x)
  | lst hs _ => exact tyL hs
  | tup hs _ => exact tyT hs
/-- a datum of bounded depth whose text, if it is one, is short -/
structure Dv (K : PySem.W.Frag) (H : Hp) (v : V) (d : PyData) : Prop where
  dp : Dp K H v d
  sh : SeqAt.shaped d = true
  tx : ∀ x, d = .str x → x.length ≤ 2000
theorem Dv.same {K : PySem.W.Frag} {H H' : Hp} {v : V} {d : PyData} (h : Dv K H v d) (e : Same H H') : Dv K H' v d := ⟨Dp.same e d v h.dp, h.sh, h.tx⟩
/-- a short text of code points -/
def okS (x : Str) : Bool := decide (x.length ≤ 2000) && PyData.strOk x
theorem shaped_str {x : Str} (h : PyData.strOk x = true) : SeqAt.shaped (.str x) = true := by
  unfold SeqAt.shaped
  simp [PyData.canLay0, PyData.depth, h]
theorem Dv.str {K : PySem.W.Frag} {H : Hp} {x : Str} (h : okS x = true) : Dv K H (.str x) (.str x) := by
  have h' := Bool.and_eq_true_iff.mp h
  exact ⟨.str x, shaped_str h'.2, fun y e => by cases e; exact of_decide_eq_true h'.1⟩
theorem Dp.all_strs {K : PySem.W.Frag} {H : Hp} : ∀ l : List Str, DpAll K H (l.map V.str) (l.map PyData.str)
  | [] => .nil
  | x :: l => .cons (.str x) (Dp.all_strs l)
/-- a datum as a text among some -/
def txD (l : List Str) : PyData → Bool
  | .str x => l.contains x
  | _ => false
theorem any_strs (l : List Str) (d : PyData) : ((l.map PyData.str).any fun z => PyData.eqv z d) = txD l d := by
  induction l with
  | nil => cases d <;> rfl
  | cons y l ih =>
    rw [List.map_cons, List.any_cons, ih]
    cases d with
    | str x =>
      show (PyData.eqv (.str y) (.str x) || l.contains x) = (y :: l).contains x
      rw [List.contains_cons, show PyData.eqv (.str y) (.str x) = (y == x) from by simp [PyData.eqv], BEq.comm]
    | _ =>
      show (PyData.eqv (.str y) _ || false) = false
      simp [PyData.eqv]
theorem canLay_strs : ∀ l : List Str, (l.all PyData.strOk) = true → PyData.canLayAll0 (l.map PyData.str) = true
  | [], _ => rfl
  | y :: l, h => by
    rw [List.all_cons, Bool.and_eq_true] at h
    have ih := canLay_strs l h.2
    simp [PyData.canLayAll0, PyData.canLay0, h.1, ih]
theorem depth_strs : ∀ l : List Str, PyData.depthAll (l.map PyData.str) = 0
  | [] => by simp [PyData.depthAll]
  | y :: l => by
    have ih := depth_strs l
    simp [PyData.depthAll, PyData.depth, ih]
theorem shaped_strs {l : List Str} (h : (l.all PyData.strOk) = true) : SeqAt.shaped (.tuple (l.map PyData.str)) = true := by
  unfold SeqAt.shaped
  simp [PyData.canLay0, PyData.depth, canLay_strs l h, depth_strs l]
theorem shapedL_strs {l : List Str} (h : (l.all PyData.strOk) = true) : SeqAt.shaped (.list (l.map PyData.str)) = true := by
  unfold SeqAt.shaped
  simp [PyData.canLay0, PyData.depth, canLay_strs l h, depth_strs l]
section
variable {X : Cx}
def rInT (K : PySem.W.Frag) (neg : Bool) : R2 := fun x y H Q => ∃ d ds, Dp K H x d ∧ Dp K H y (.tuple ds) ∧ SeqAt.shaped d = true ∧ SeqAt.shaped (.tuple ds) = true ∧ Q (.bl (if neg then !ds.any fun z => PyData.eqv z d else ds.any fun z => PyData.eqv z d)) H
theorem op_inT (K : PySem.W.Frag) (hu : X.A.units + 65 < cLine) (hK : X.K = K := by rfl) : OpR X (compareOp .In) (rInT K false) := by
  subst hK
  intro pins s σ H x y v u Q I rx ry h
  obtain ⟨d, ds, hd, he, sd, se, q⟩ := h
  obtain ⟨as, r1⟩ := Dp.reads I d x v hd rx
  obtain ⟨bs, r2⟩ := Dp.reads I (.tuple ds) y u he ry
  exact SeqAt.in_tuple_reads r2 r1 (by simpa [PyData.canLay0] using SeqAt.canLay_of_shaped se) (SeqAt.canLay_of_shaped sd) (by have := SeqAt.depth_of_shaped sd; have := Nat.min_le_right (PyData.depthAll ds) d.depth; omega) ⟨.bl _, H, I, rfl, q⟩
theorem op_notInT (K : PySem.W.Frag) (hu : X.A.units + 65 < cLine) (hK : X.K = K := by rfl) : OpR X (compareOp .NotIn) (rInT K true) := by
  subst hK
  intro pins s σ H x y v u Q I rx ry h
  obtain ⟨d, ds, hd, he, sd, se, q⟩ := h
  obtain ⟨as, r1⟩ := Dp.reads I d x v hd rx
  obtain ⟨bs, r2⟩ := Dp.reads I (.tuple ds) y u he ry
  exact SeqAt.notIn_tuple_reads r2 r1 (by simpa [PyData.canLay0] using SeqAt.canLay_of_shaped se) (SeqAt.canLay_of_shaped sd) (by have := SeqAt.depth_of_shaped sd; have := Nat.min_le_right (PyData.depthAll ds) d.depth; omega) ⟨.bl _, H, I, rfl, q⟩
end
theorem room65 {k : Nat} {A : Around} (r : Room k A) : A.units + 65 < cLine := by have := r.un; omega
end My

/-! ## == and != of own instances, str of one -/
namespace PySem.W
open PySem PySem.Spec PySem.Calls PyProof.Rows
section
variable {prog : Program} {w : World} {A : Around} {E : Value → Shared → Prop} {s : Shared} {K : Frag} {x C f : Addr} {ox : Obj} {od : Option Obj} {b tb : Value}
theorem my_boundB {M : Model} {name : Str} {id : String} {args : List Value} {Q : Option Value → Shared → Prop} (Y : K.In s.heap) (J : InstAt s.heap x ox C od) (e : findIn K (.ref C) name = some (some (.builtin id)))
    (bd : ∀ u, bindSpecial (.builtin id) u = pure (.builtin id, [u])) (q : wpAny M A (call (.builtin id) (.ref x :: args)) (fun v => Q (some v)) E s) : wpAny M A (callSpecialIfBound? (.ref x) name args) Q E s := by
  have q' : wpAny M A (call (.builtin id) ([.ref x] ++ args) >>= fun v => pure (some v)) Q E s := wpAny_bind (wpAny_mono q (fun _ _ z => wpAny_pure z) fun _ _ z => z)
  simp only [callSpecialIfBound?, bindSpecialIfBound?, bd]
  refine wpAny_holding (wpAny_bind (wpAny_bind (wpAny_bind (J.type.here ((looks_findIn Y e).here (wpAny_bind (wpAny_askSetting (wpAny_ite ?_))))))))
  split
  · refine wpAny_bind ?_
    rw [bd]
    exact wpAny_pure (wpAny_pure q')
  · refine wpAny_tryCatch (wpAny_bind ?_)
    rw [bd]
    exact wpAny_pure (wpAny_pure q')
theorem my_neBody {Q : Fin → Shared → Prop} (hu : A.units < cLine) (Y : K.In s.heap) (J : InstAt s.heap x ox C od) (e : findIn K (.ref C) "__eq__" = some (some (.ref f))) (g : isFn K (.ref f) = true)
    (q : wpAny (model prog w) A (call (.ref f) [.ref x, b]) (fun v s' => ∃ r, v = .bool r ∧ Q (.done (.ret (.bool (!r)))) s') E s) :
    wpAny (model prog w) A (Builtin.«object.__ne__» ⟨[.ref x, b], []⟩) Q E s := by
  unfold Builtin.«object.__ne__»
  rw [show slotArgs "__ne__" 1 ⟨[.ref x, b], []⟩ = pure (.ref x, [b]) from rfl]
  refine wpAny_bind (wpAny_pure (wpAny_bind (wpAny_cRoomFor hu (wpAny_bind (ifBound_K Y J e g (wpAny_mono q (fun v s' hv => ?_) fun _ _ z => z))))))
  obtain ⟨r, rfl, hq⟩ := hv
  exact wpAny_bind (wpAny_truthy_bool (wpAny_pure hq))
theorem my_neArgs (u v : Value) : argsOk "object.__ne__" ⟨[u, v], []⟩ := PySem.F.cmpArgs_ne u v
/-- a != b where a's class has its own == and object's != -/
theorem my_ne {Q : Value → Shared → Prop} (hu : A.units + 1 < cLine) (Y : K.In s.heap) (J : InstAt s.heap x ox C od) (ty : Looks (model prog w) s.heap (typeOf b) tb) (n : notFirst K C tb = true)
    (e1 : findIn K (.ref C) "__ne__" = some (some (.builtin "object.__ne__"))) (so : subIn K (.ref C) (.type "object") = some true) (e : findIn K (.ref C) "__eq__" = some (some (.ref f))) (g : isFn K (.ref f) = true)
    (q : wpAny (model prog w) A.in1 (call (.ref f) [.ref x, b]) (fun v s' => ∃ r, v = .bool r ∧ Q (.bool (!r)) s') E s) : wpAny (model prog w) A (richCompare .NotEq (.ref x) b) Q E s := by
  have once : wpAny (model prog w) A (tryCompare (.ref x) "__ne__" b) (fun r s' => ∃ v, r = some v ∧ Q v s') E s := by
    unfold tryCompare
    refine wpAny_bind (my_boundB Y J e1 PySem.F.cmp_object.ne.bind (wpAny_call (codeAny_call_builtin PySem.F.cmp_object.ne.plain PySem.F.cmpEntry_ne (check_slot PySem.F.cmpKind_ne PySem.F.cmpSplit_ne (J.type.andThen (looks_subIn Y so)) (my_neArgs _ _) ?_))))
    refine my_neBody (by show A.units + 1 < cLine; exact hu) Y J e g (wpAny_mono q (fun v s' hv => ?_) fun _ _ z => z)
    obtain ⟨r, rfl, hq⟩ := hv
    exact ⟨r, rfl, wpAny_pure ⟨_, rfl, hq⟩⟩
  unfold richCompare
  simp only [oneThing_ref]
  refine wpAny_holding (wpAny_bind (wpAny_cRoomFor (Nat.lt_of_succ_lt hu) ?_))
  refine wpAny_bind (J.type.here (wpAny_bind (ty.here ?_)))
  have last : wpAny (model prog w) A (tryCompare (.ref x) (cmpInfo .NotEq).2.1 b) (fun r s' => ∃ v, r = some v ∧ Q v s') E s := once
  by_cases z : tb = .ref C
  · subst z
    rw [if_neg (by simp)]
    refine wpAny_bind (wpAny_pure ?_)
    simp only [Bool.false_eq_true, if_false]
    exact wpAny_bind (wpAny_mono last (fun r s' h => by
      obtain ⟨v, rfl, hq⟩ := h
      exact wpAny_pure hq) fun _ _ z => z)
  · have e2 : subIn K tb (.ref C) = some false := by
      rcases Bool.or_eq_true_iff.mp n with k | k
      · exact absurd (beq_iff_eq.mp k) z
      · exact beq_iff_eq.mp k
    rw [if_pos (by simp only [bne_iff_ne, ne_eq]; exact fun k => z k.symm)]
    refine wpAny_bind ((looks_subIn Y e2).here ?_)
    simp only [Bool.false_eq_true, if_false]
    exact wpAny_bind (wpAny_mono last (fun r s' h => by
      obtain ⟨v, rfl, hq⟩ := h
      exact wpAny_pure hq) fun _ _ z => z)
end
end PySem.W
namespace My
open PySem L2 PyProof.Rows
/-- what is said of classes with == and str of their own -/
structure OwnEqs (P : Program) (w : World) (K : PySem.W.Frag) (mg : Str → Option Value) (base : Heap) {ι : Type} (cl : ι → Addr) (ok : ι → Prop) (k : Nat) (sp : ι → Sp) : Prop where
  fn : ∀ i, ok i → ∃ (f : Addr) (fd : FuncData) (ps : List Str), FnOk P w K mg base CX0 k f fd ps (sp i) ∧ Binds K fd ps [] ∧ PySem.W.findIn K (.ref (cl i)) "__eq__" = some (some (.ref f)) ∧ PySem.W.isFn K (.ref f) = true ∧
    PySem.W.findIn K (.ref (cl i)) "__ne__" = some (some (.builtin "object.__ne__")) ∧ PySem.W.subIn K (.ref (cl i)) (.type "object") = some true
structure OwnStr (P : Program) (w : World) (K : PySem.W.Frag) (mg : Str → Option Value) (base : Heap) {ι : Type} (cl : ι → Addr) (ok : ι → Prop) (k : Nat) (sp : ι → Sp) : Prop where
  fn : ∀ i, ok i → ∃ (f : Addr) (fd : FuncData) (ps : List Str), FnOk P w K mg base CX0 k f fd ps (sp i) ∧ Binds K fd ps [] ∧ PySem.W.findIn K (.ref (cl i)) "__str__" = some (some (.ref f)) ∧ PySem.W.isFn K (.ref f) = true
section
variable {X : Cx} {pins : List (Addr × Obj)} {σ : L2.St} {H : Hp} {s : Shared}
/-- a call somewhere within an operator -/
theorem run_within {k : Nat} {f : Addr} {fd : FuncData} {ps : List Str} {sp : Sp} {B : Around} {Q : VK} {us : List Value} {vs : List V} (I : Inv X pins σ H s) (eB : Env0 X.prog X.w X.K X.mg X.base B X.stack s H) (F : FnOk X.prog X.w X.K X.mg X.base CX0 k f fd ps sp)
    (hr : Room k B) (hb : Binds X.K fd ps []) (r : Vals vs us) (h : sp vs H Q E0) : wpAny (model X.prog X.w) B (call (.ref f) us) (EP X pins σ Q) X.xe s := by
  have ln : us.length = ps.length := r.length ▸ F.len _ _ _ _ h
  have r0 : Vals (vs ++ []) (us ++ []) := r.append .nil
  rw [List.append_nil, List.append_nil] at r0
  have bt := hb s us I.kIn (by rw [List.append_nil]; exact ln)
  rw [List.append_nil] at bt
  refine wpAny_call (codeAny_mono (F.run B X.stack s H ⟨us, []⟩ us vs Q E0 hr eB bt r0 h) fun q s' hq => ?_)
  match q, hq with
  | .error e, hq => exact pass0 pins σ H s e s' I hq
  | .ok (.ret u), hq => exact I.after hq
def rEqO (K : PySem.W.Frag) {ι : Type} (cl : ι → Addr) (ok : ι → Prop) (sp : ι → Sp) (neg : Bool) : R2 := fun x y H Q => ∃ (a : Addr) (i : ι) (dx : Addr) (fs : List (Str × V)) (t : Value), x = .ref a ∧ ok i ∧ H a = some (.ins (cl i) dx fs) ∧ TyX K H y t ∧ PySem.W.notFirst K (cl i) t = true ∧
  sp i [x, y] H (fun v H' => ∃ b, v = .bl b ∧ Q (.bl (if neg then !b else b)) H') E0
theorem ty_looks {x : V} {u t : Value} (I : Inv X pins σ H s) (rx : RelV x u) (ty : TyX X.K H x t) (M : Model) : PySem.W.Looks M s.heap (typeOf u) t := by
  obtain ⟨P, k, p, _⟩ := kit_of I rx ty
  exact k.ty M s.heap I.kIn p
theorem op_eqO (K : PySem.W.Frag) {ι : Type} {cl : ι → Addr} {ok : ι → Prop} {k : Nat} {sp : ι → Sp} (G : OwnEqs X.prog X.w K X.mg X.base cl ok k sp) (hr : Room k X.A) (hK : X.K = K := by rfl) : OpR X (compareOp .Eq) (rEqO K cl ok sp false) := by
  subst hK
  intro pins s σ H x y v u Q I rx ry h
  obtain ⟨a, i, dx, fs, t, rfl, hC, ha, ty, nf, hs⟩ := h
  obtain rfl : v = Value.ref a := rx
  obtain ⟨f, fd, ps, F, hb, e, g, _, _⟩ := G.fn i hC
  obtain ⟨mA, O, _, _, _, _⟩ := ins_get I.hok ha
  obtain ⟨od, J, _⟩ := O.look
  obtain ⟨m, fr⟩ := I.fr
  have r2 : Vals [.ref a, y] [Value.ref a, u] := .cons rfl (.cons ry .nil)
  have q := run_within I I.env0 F hr hb r2 hs
  show wpAny (model X.prog X.w) X.A (richCompare .Eq (.ref a) u) (EP X pins σ Q) X.xe s
  refine PySem.W.cmp_K (op := .Eq) (by have := hr.un; omega) fr I.ok.mod.kin J (ty_looks I ry ty _) nf e g (wpAny_mono q (fun z s' hz => ?_) fun _ _ z => z)
  obtain ⟨v, H', I', r, b, rfl, q⟩ := hz
  obtain rfl : z = Value.bool b := r
  exact ⟨.bl b, H', I', rfl, q⟩
theorem op_neO (K : PySem.W.Frag) {ι : Type} {cl : ι → Addr} {ok : ι → Prop} {k : Nat} {sp : ι → Sp} (G : OwnEqs X.prog X.w K X.mg X.base cl ok k sp) (hr : Room (k + 1) X.A) (hK : X.K = K := by rfl) : OpR X (compareOp .NotEq) (rEqO K cl ok sp true) := by
  subst hK
  intro pins s σ H x y v u Q I rx ry h
  obtain ⟨a, i, dx, fs, t, rfl, hC, ha, ty, nf, hs⟩ := h
  obtain rfl : v = Value.ref a := rx
  obtain ⟨f, fd, ps, F, hb, e, g, e1, so⟩ := G.fn i hC
  obtain ⟨mA, O, _, _, _, _⟩ := ins_get I.hok ha
  obtain ⟨od, J, _⟩ := O.look
  have r2 : Vals [.ref a, y] [Value.ref a, u] := .cons rfl (.cons ry .nil)
  have q := run_within I I.env0.in1 F hr.in1 hb r2 hs
  refine PySem.W.my_ne (by have := hr.un; omega) I.kIn J (ty_looks I ry ty _) nf e1 so e g (wpAny_mono q (fun z s' hz => ?_) fun _ _ z => z)
  obtain ⟨v, H', I', r, b, rfl, q⟩ := hz
  obtain rfl : z = Value.bool b := r
  exact ⟨b, rfl, .bl (!b), H', I', rfl, q⟩
def rStrO {ι : Type} (cl : ι → Addr) (ok : ι → Prop) (sp : ι → Sp) : List V → Hp → VK → Prop := fun xs H Q => ∃ (a : Addr) (i : ι) (dx : Addr) (fs : List (Str × V)), xs = [.ref a] ∧ ok i ∧ H a = some (.ins (cl i) dx fs) ∧ sp i [.ref a] H (fun v H' => ∃ y, v = .str y ∧ Q (.str y) H') E0
/-- str(x) by its own __str__ -/
theorem call_strO (K : PySem.W.Frag) {ι : Type} {cl : ι → Addr} {ok : ι → Prop} {k : Nat} {sp : ι → Sp} (G : OwnStr X.prog X.w K X.mg X.base cl ok k sp) (hr : Room (k + 2) X.A) (hK : X.K = K := by rfl) : CallR X (.type "str") (rStrO cl ok sp) := by
  subst hK
  intro pins s σ H xs us Q I r h
  obtain ⟨a, i, dx, fs, rfl, hC, ha, hs⟩ := h
  rw [Vals.ref1 r]
  obtain ⟨f, fd, ps, F, hb, e, g⟩ := G.fn i hC
  obtain ⟨mA, O, _, _, _, _⟩ := ins_get I.hok ha
  obtain ⟨od, J, _⟩ := O.look
  have r2 : Vals [.ref a] [Value.ref a] := .cons rfl .nil
  have q := run_within I I.env0.in1.in1 F hr.in1.in1 hb r2 hs
  refine PySem.W.kso_call (by have := hr.in1.in1.un; omega) I.kIn J e g (wpAny_mono q (fun z s' hz => ?_) fun _ _ z => z)
  obtain ⟨v, H', I', r, y, rfl, q⟩ := hz
  obtain ⟨t, rfl⟩ : ∃ t, z = Value.str y t := r
  exact ⟨.str y, H', I', ⟨t, rfl⟩, q⟩
end
end My

/-! ## A list or a tuple walked alike -/
namespace My
open PySem PySem.Spec PyProof.Rows L2
/-- a list or a tuple of xs at a -/
def SqA (K : PySem.W.Frag) (H : Hp) (a : Addr) (xs : List V) : Prop := SqL K H a xs ∨ SqT K H a xs
theorem SqA.same {K : PySem.W.Frag} {H H' : Hp} {a : Addr} {xs : List V} (h : SqA K H a xs) (e : Same H H') : SqA K H' a xs := h.elim (fun z => .inl (seqL_same e z)) (fun z => .inr (seqT_same e z))
/-- what is walked is a list or a tuple: J its turns, while G stands -/
def iSeq (K : PySem.W.Frag) (tl : TE) : TI := fun σ H R => tl σ H fun x H1 => ∃ (a : Addr) (xs : List V), x = .ref a ∧ SqA K H1 a xs ∧
  ∀ (J : It) (G : Hp → Prop), G H1 → (∀ H H', Same H H' → G H → G H') → Walk J xs.length G (YAt xs) → R J H1
section
variable {X : Cx} {tg : Expr}
theorem pi_seq {l : Expr} {tl : TE} (hl : PE X l tl) : PI X tg l (iSeq X.K tl) := by
  constructor
  intro pins s σ H R I h
  refine thn (hl.run pins s σ H _ I h) ?_
  rintro v s1 ⟨x, H1, I1, r1, a, xs, rfl, hq, k⟩
  cases r1
  have new : ∀ {o : Obj} (b : Addr), b ∈ [s1.heap.objs.size] → FpOk X pins H1 b := fun {o} b hb => by
    rw [List.mem_singleton.mp hb]
    exact I1.fpOk (Nat.le_refl _) (I1.hok.fresh (Nat.le_refl _))
  rcases hq with hq | hq
  · obtain ⟨its, rv, p, _⟩ := I1.list hq
    refine wpAny_pyIter_list p.isList ⟨s1.heap.objs.size, [s1.heap.objs.size], _, Itl X.K a, H1, rfl, ?_, turn_list a _, ?_, new (o := default), ?_⟩
    · exact I1.kept (t' := s1.toks) fun b o e => Heap.get?_push_of_some _ e
    · exact ⟨_, Heap.get?_push_size _ rfl, rfl, rfl⟩
    · exact k _ (fun H => SqL X.K H a xs) hq (fun H H' e z => seqL_same e z) walk_list
  · obtain ⟨its, rv, p, _⟩ := I1.tuple hq
    have p' : s1.heap.IsTuple a its.toArray := p
    refine wpAny_pyIter_tuple p' ⟨s1.heap.objs.size, [s1.heap.objs.size], _, Itt X.K a, H1, rfl, ?_, turn_tuple a _, ?_, new (o := default), ?_⟩
    · exact I1.kept (t' := s1.toks) fun b o e => Heap.get?_push_of_some _ e
    · exact ⟨_, Heap.get?_push_size _ rfl, rfl, rfl⟩
    · exact k _ (fun H => SqT X.K H a xs) hq (fun H H' e z => seqT_same e z) walk_tup
theorem pi_seqK (K : PySem.W.Frag) {l : Expr} {tl : TE} (hl : PE X l tl) (hK : X.K = K := by rfl) : PI X tg l (iSeq K tl) := hK ▸ pi_seq hl
end
end My

/-! ## enumerate(v), v a list or a tuple -/
namespace PySem
set_option maxHeartbeats 1000000 in
theorem my_meets_enumerate {v : Value} {o : Obj} {H : Heap → Prop} (B : Begins v o H) :
    Meets (Builtin.«enumerate.__new__» ⟨[.type "enumerate", v], []⟩) (fun _ R s => H s.heap ∧
      R (.ok (.ret (.ref (s.heap.push o).objs.size))) { s with heap := (s.heap.push o).push { cls := .type "enumerate", data := .fields #[.none, .bool false, .ref s.heap.objs.size, rawInt 0, .none, .none] } }) :=
  .of_wp fun prog w A R s h => by
    obtain ⟨hp, g, d, tk, os⟩ := s; obtain ⟨h1, h⟩ := h
    have hsub := sub_enumerate
    have q1 : ∀ {A' : Around} {E : Value → Shared → Prop} {Q : Value → Shared → Prop}, Q (.ref hp.objs.size) ⟨hp.push o, g, d, tk, os⟩ → wpAny (model prog w) A' (pyIter v) Q E ⟨hp, g, d, tk, os⟩ :=
      fun q => B.iter prog w _ _ ⟨hp, g, d, tk, os⟩ _ h1 q
    wp_walk using q1
    refine wpAny_stack_any fun st => wpAny_pure ?_
    split
    · rename_i c _ _ _ _ _
      cases (c == Value.type "enumerate")
      · wp_walk using q1
        exact ⟨_, rfl, h⟩
      · wp_walk using q1
        exact ⟨_, rfl, h⟩
    · wp_walk using q1
      exact ⟨_, rfl, h⟩
theorem my_call_enumerate {prog : Program} {w : World} {A : Around} {E : Value → Shared → Prop} {s : Shared} {v : Value} {o : Obj} {H : Heap → Prop} {Q : Value → Shared → Prop} (B : Begins v o H) (h1 : H s.heap)
    (h : ∀ h', IsEnum h' (s.heap.objs.size + 1) s.heap.objs.size 0 .none → h'.get? s.heap.objs.size = some o → h'.objs.size = s.heap.objs.size + 2 →
      (∀ b o, s.heap.get? b = some o → h'.get? b = some o) → Q (.ref (s.heap.objs.size + 1)) { s with heap := h' }) :
    wpAny (model prog w) A (call (.type "enumerate") [v]) Q E s := by
  refine callType_new F.called_enumerate (by decide) (F.typeCall_enumerate_1 _) (F.newCall_enumerate_1 _) (fun obj => F.args_object_init_2 obj _) F.entry_enumerate_new (my_meets_enumerate B) ⟨h1, ?_⟩
  have hz : (s.heap.push o).objs.size = s.heap.objs.size + 1 := Heap.size_push ..
  show _ ∧ _
  rw [hz]
  have he : IsEnum ((s.heap.push o).push { cls := .type "enumerate", data := .fields #[.none, .bool false, .ref s.heap.objs.size, rawInt 0, .none, .none] }) (s.heap.objs.size + 1) s.heap.objs.size 0 .none := by
    have := Heap.get?_push_size (s.heap.push o) (o := { cls := .type "enumerate", data := .fields #[.none, .bool false, .ref s.heap.objs.size, rawInt 0, .none, .none] }) rfl
    rw [hz] at this; exact this
  refine ⟨⟨_, he, rfl⟩, h _ he (Heap.get?_push_of_some _ (Heap.get?_push_size _ B.free)) (by rw [Heap.size_push, hz]) fun b o x => Heap.get?_push_of_some _ (Heap.get?_push_of_some _ x)⟩
end PySem
namespace My
open PySem PySem.Spec PyProof.Rows L2
/-- the tuple at a as it stands at each turn, each item in a new pair -/
def IteT (K : PySem.W.Frag) (a : Addr) : It :=
  ⟨fun i H => ∃ (xs : List V) (x : V), SqT K H a xs ∧ xs[i]? = some x, fun i H v H' => ∃ T x, v = .ref T ∧ H T = none ∧ H' = upd H T (.tup [.int (i : Nat), x]) ∧ ∀ xs, SqT K H a xs → xs[i]? = some x, fun i H => ∃ xs : List V, SqT K H a xs ∧ xs.length ≤ i⟩
theorem turn_enumT {P : Program} {w : World} {K : PySem.W.Frag} {elts : List Expr} {kk : Nat} {tpos : Pos} (a e it : Addr) :
    Turn P w K (.Tuple elts kk tpos) (IteT K a) [e, it] e (fun i h => (∃ old, IsEnum h e it ((i : Nat) : Int) old) ∧ h.IsTupleIter it a i ∧ e ≠ it) where
  mem := by simp
  obj := fun i h st b hb => by
    obtain ⟨⟨old, he⟩, ⟨o, ho, hc, hd⟩, _⟩ := st
    have e' : b = e ∨ b = it := by simpa using hb
    rcases e' with z | z
    · rw [z]; exact ⟨_, he, fun v q => nomatch q⟩
    · rw [z]; exact ⟨o, ho, fun v q => by rw [hd] at q; cases q⟩
  keep := fun i h h' st k => let ⟨⟨old, he⟩, hi, hne⟩ := st; ⟨⟨old, k e (by simp) _ he⟩, hi.at fun o q => k it (by simp) o q, hne⟩
  item := by
    intro X hP hw hK hc i pins s σ H E I hf st hg
    subst hP hw hK
    obtain ⟨⟨old, he⟩, hit, hne⟩ := st
    obtain ⟨xs, x, hq, hx⟩ := hg
    obtain ⟨its, rv, p, hz⟩ := I.tuple hq
    have pT : s.heap.IsTuple a its.toArray := p
    obtain ⟨u, hu, ru⟩ := rv.get hx
    have hel : e < s.heap.objs.size := Heap.lt_size he
    have hil : it < s.heap.objs.size := by obtain ⟨_, q, _⟩ := hit; exact Heap.lt_size q
    have hai : a ≠ it := fun z => by
      obtain ⟨o1, e1, c1, d1⟩ := hit
      obtain ⟨o2, e2, c2, n2, d2⟩ := pT
      rw [z, e1] at e2
      cases e2
      rw [d1] at d2
      cases d2
    have hae : e ≠ a := fun z => by
      obtain ⟨o2, e2, c2, n2, d2⟩ := pT
      rw [← z] at e2
      have he' : s.heap.get? e = _ := he
      rw [he'] at e2
      cases e2
      cases d2
    have hef : e ∉ [it, a] := fun z => by
      rcases List.mem_cons.mp z with z | z
      · exact hne z
      · exact hae (List.mem_singleton.mp z)
    have hi : i < its.toArray.size := by
      have := (List.getElem?_eq_some_iff.mp hu).1
      simpa using this
    refine wpAny_pyNext_enum_itemD (Draws.tuple (A := X.A.in1) (I.ok.hd hc) it a hai its.toArray) he ⟨hit, pT⟩ hi hne hef fun x' h' tk hP ho hit' hT hsz hk => ?_
    have ex : x' = u := by
      have h1 : its.toArray[i]? = some x' := hP
      rw [List.getElem?_toArray, hu] at h1
      exact (Option.some.inj h1).symm
    subst ex
    refine ⟨_, rfl, wpAny_letOwnedTupleGo_enum (s := { s with heap := h', toks := tk + 1 }) ho fun h'' he' sb => ?_⟩
    have hT2 : h''.get? s.heap.objs.size = some { cls := .type "tuple", data := .seq #[.int i tk, x'] } := (sb.2 _ (Nat.ne_of_gt hel)).trans hT
    have new : ObjOk X.prog X.w (upd H s.heap.objs.size (.tup [.int (i : Nat), x])) h'' s.heap.objs.size (.tup [.int (i : Nat), x]) :=
      ⟨by show 2 ≤ sizeLine; decide, [.int i tk, x'], .cons ⟨_, rfl⟩ (.cons ru .nil), ⟨_, hT2, rfl, _, rfl⟩⟩
    have I1 : Inv X pins σ (upd H s.heap.objs.size (.tup [.int (i : Nat), x])) { s with heap := h'', toks := tk + 1 } :=
      I.turnedNew (ch := [e, it]) (fun b ob hb q => (sb.2 b (fun z => hb (by simp [z]))).trans (hk b ob (fun z => hb (by simp [z])) (fun z => hb (by simp [z])) q)) hf (Nat.le_refl _) new
    refine ⟨.ref s.heap.objs.size, _, I1, rfl, ⟨_, x, rfl, I.hok.fresh (Nat.le_refl _), rfl, fun ys hy => by rw [I.tuple_inj hy hq]; exact hx⟩, ⟨⟨x', ?_⟩, hit'.1.at fun o q => (sb.2 it (Ne.symm hne)).trans q, hne⟩, fun b hb => ?_⟩
    · have e1 : ((i + 1 : Nat) : Int) = (i : Int) + 1 := by omega
      rw [e1]; exact he'
    · have hb' : b < s.heap.objs.size := by
        have e' : b = e ∨ b = it := by simpa using hb
        rcases e' with z | z
        · rw [z]; exact hel
        · rw [z]; exact hil
      rw [upd_ne (Nat.ne_of_lt hb')]
      exact (hf b hb).1
  done := by
    intro X hP hw hK hc i pins s σ H E I hf st hg
    subst hP hw hK
    obtain ⟨⟨old, he⟩, hit, hne⟩ := st
    obtain ⟨xs, hq, hx⟩ := hg
    obtain ⟨its, rv, p, hz⟩ := I.tuple hq
    have pT : s.heap.IsTuple a its.toArray := p
    obtain ⟨f0, f1, f2, f3, f4, f5⟩ := hf it (by simp)
    have hl := rv.length
    have D : Draws X.prog X.w X.A.in1 it [it, a] 0 (fun _ _ => True) (fun j h => j = 0 ∧ h.IsTupleIter it a i ∧ h.IsTuple a its.toArray) := {
      live := fun _ _ st => let ⟨o, ho, _⟩ := st.2.1; ⟨o, ho⟩
      frame := fun _ _ _ st hk => ⟨st.1, st.2.1.at fun o e => hk it (by simp) o e, st.2.2.at fun o e => hk a (by simp) o e⟩
      item := fun j s Q E hj => absurd hj (Nat.not_lt_zero _)
      done := fun s Q E st hE => wpAny_nextOf_tuple_end (I.ok.hd hc) st.2.1 st.2.2 (by simp; omega) hE }
    exact wpAny_pyNext_enum_endD D he ⟨rfl, hit, pT⟩ fun h' eb => ⟨rfl, I.turned (t' := s.toks) (fun b o hb q => eb b o hb q) f0 f1 f3 f4 f5⟩
  self := fun A i s Q E st h => let ⟨⟨_, he⟩, _⟩ := st; wpAny_pyIter_enum he h
theorem walk_enumT {K : PySem.W.Frag} {a : Addr} {xs : List V} : Walk (IteT K a) xs.length (fun H => SqT K H a xs) (YPair (fun i => some (.int (i : Nat))) (fun i => xs[i]?)) := by
  refine ⟨fun i _ hi q => ⟨xs, xs[i], q, by simp [hi]⟩, fun _ q => ⟨xs, q, Nat.le_refl _⟩, fun i H v H' _ q y => ?_⟩
  obtain ⟨T, x, h1, h2, h3, h4⟩ := y
  exact ⟨T, .int (i : Nat), x, h1, h2, h3, rfl, h4 xs q⟩
def iEnumA (K : PySem.W.Frag) (ta : TA) : TI := fun σ H R => ta σ H fun vs H1 => ∃ (a : Addr) (xs : List V), vs = [.ref a] ∧ SqA K H1 a xs ∧
  ∀ (J : It) (G : Hp → Prop), G H1 → (∀ H H', Same H H' → G H → G H') → Walk J xs.length G (YPair (fun i => some (.int (i : Nat))) (fun i => xs[i]?)) → R J H1
theorem pi_enumA {X : Cx} (K : PySem.W.Frag) {e : Expr} {ta : TA} {p pos tpos : Pos} {elts : List Expr} {kk : Nat} (hg : Gl X "enumerate") (hm : X.mg "enumerate" = none) (ha : PA X [e] ta) (hK : X.K = K := by rfl) (hs : starEach [e] X.env = [(false, eval e X.env)] := by rfl) :
    PI X (.Tuple elts kk tpos) (.Call (.Name "enumerate" p) [e] [] pos) (iEnumA K ta) := by
  subst hK
  refine ⟨fun pins s σ H R I h => ?_⟩
  refine Call_ (ld_blt I hg hm boot_enumerate (PyProof.Rows.callWith_type1 (thn (ha.run pos pins s σ H _ I h) fun us s1 ⟨vs, H1, I1, r1, q1⟩ => ?_) hs rfl))
  obtain ⟨a, xs, ex, hq, q⟩ := q1
  subst ex
  cases r1 with
  | cons r rr =>
    cases rr
    cases r
    have fresh : ∀ b, b ∈ [s1.heap.objs.size + 1, s1.heap.objs.size] → FpOk X pins H1 b := fun b hb => by
      have e' : b = s1.heap.objs.size + 1 ∨ b = s1.heap.objs.size := by simpa using hb
      have hle : s1.heap.objs.size ≤ b := by
        rcases e' with z | z
        · rw [z]; exact Nat.le_add_right _ _
        · rw [z]; exact Nat.le_refl _
      exact I1.fpOk hle (I1.hok.fresh hle)
    rcases hq with hq | hq
    · obtain ⟨its, rv, p', hz⟩ := I1.list hq
      refine call_enumerate_list p'.isList fun h' he hit hsz hk => wpAny_pyIter_enum he ?_
      have I2 : Inv X pins σ H1 { s1 with heap := h' } := I1.kept (t' := s1.toks) hk
      exact ⟨s1.heap.objs.size + 1, [s1.heap.objs.size + 1, s1.heap.objs.size], _, _, H1, rfl, I2, turn_enum a (s1.heap.objs.size + 1) s1.heap.objs.size, ⟨⟨.none, he⟩, hit, Nat.succ_ne_self _⟩, fresh, q _ (fun H => SqL X.K H a xs) hq (fun H H' e z => seqL_same e z) walk_enum⟩
    · obtain ⟨its, rv, p', hz⟩ := I1.tuple hq
      have pT : s1.heap.IsTuple a its.toArray := p'
      refine my_call_enumerate (begins_tuple a its.toArray) pT fun h' he hit hsz hk => wpAny_pyIter_enum he ?_
      have I2 : Inv X pins σ H1 { s1 with heap := h' } := I1.kept (t' := s1.toks) hk
      exact ⟨s1.heap.objs.size + 1, [s1.heap.objs.size + 1, s1.heap.objs.size], _, _, H1, rfl, I2, turn_enumT a (s1.heap.objs.size + 1) s1.heap.objs.size, ⟨⟨.none, he⟩, ⟨_, hit, rfl, rfl⟩, Nat.succ_ne_self _⟩, fresh, q _ (fun H => SqT X.K H a xs) hq (fun H H' e z => seqT_same e z) walk_enumT⟩
end My

/-! ## xs[::-1], a list -/
namespace My
open PySem PySem.Spec PyProof.Rows L2
theorem range_back (n : Nat) : sliceRange ((n : Int) - 1) (-1) (-1) = (List.range n).map fun k => n - 1 - k := by
  unfold sliceRange
  cases n with
  | zero => rfl
  | succ m =>
    have h : ¬ ((-1 : Int) > 0) := by decide
    have h2 : ((m + 1 : Nat) : Int) - 1 > -1 := by omega
    have e : (((m + 1 : Nat) : Int) - 1 - (-1) - (-1) - 1) / (- (-1)) = ((m + 1 : Nat) : Int) := by
      rw [show (- (-1 : Int)) = 1 from rfl, Int.ediv_one]
      omega
    simp only [if_neg h, if_pos h2, e, Int.toNat_natCast]
    apply List.map_congr_left
    intro k hk
    have := List.mem_range.mp hk
    omega
theorem pick_back {α : Type} (xs : List α) : ∀ k : Nat, k ≤ xs.length → ((List.range k).map fun j => xs.length - 1 - j).filterMap (xs[·]?) = xs.reverse.take k
  | 0, _ => rfl
  | k + 1, h => by
    rw [List.range_succ, List.map_append, List.filterMap_append, pick_back xs k (by omega), List.take_add_one]
    congr 1
    have e : xs.reverse[k]? = xs[xs.length - 1 - k]? := List.getElem?_reverse (by omega)
    rw [e]
    simp only [List.map_cons, List.map_nil]
    cases h : xs[xs.length - 1 - k]? <;> simp [h]
theorem slice_back (its : List Value) : slicePick its.toArray none none (some (-1)) = its.reverse.toArray := by
  have e : sliceBounds none none (some (-1)) its.toArray.size = ((its.length : Int) - 1, -1, -1) := by
    simp [sliceBounds]
  unfold slicePick
  rw [e, range_back]
  have f : (fun k : Nat => its.toArray[k]?) = fun k : Nat => its[k]? := by funext k; simp
  show (List.filterMap (fun x => its.toArray[x]?) _).toArray = _
  rw [f, pick_back its its.length (Nat.le_refl _), List.take_of_length_le (by simp)]
def tRev (K : PySem.W.Frag) (te ts : TE) : TE := fun σ H Q => te σ H fun x H1 => ts σ H1 fun y H2 => y = .int (-1) ∧ ∃ a xs, x = .ref a ∧ SqL K H2 a xs ∧ ∀ p, H2 p = none → Q (.ref p) (upd H2 p (.lst xs.reverse))
theorem vals_back : ∀ {vs : List V} {us : List Value}, Vals vs us → Vals vs.reverse us.reverse
  | _, _, .nil => .nil
  | _, _, .cons r t => by
    rw [List.reverse_cons, List.reverse_cons]
    exact (vals_back t).append (.cons r .nil)
section
variable {X : Cx} {e st : Expr} {te ts : TE} {pos p2 : Pos}
theorem pe_rev (K : PySem.W.Frag) (he : PE X e te) (hs : PE X st ts) (hK : X.K = K := by rfl) : PE X (.Subscript e (.Slice none none (some st) p2) pos) (tRev K te ts) := by
  subst hK
  refine ⟨fun pins s σ H Q I h => ?_⟩
  refine Subscript_ (thn (he.run pins s σ H _ I h) fun v s1 ⟨x, H1, I1, r1, q1⟩ => ?_)
  refine wpAny_Slice ?_
  rw [evalPart_none]
  refine wpAny_pure ?_
  refine wpAny_pure ?_
  rw [evalPart_some]
  refine thn (hs.run pins s1 σ H1 _ I1 q1) fun vs s3 ⟨y, H3, I3, r3, ey, a, xs, ex, hx, q3⟩ => ?_
  subst ey ex
  obtain ⟨t, rfl⟩ := r3
  cases r1
  have I4 : Inv X pins σ H3 { s3 with heap := s3.heap.push { cls := .type "slice", data := .fields #[.none, .none, .int (-1) t] } } := I3.kept (t' := s3.toks) fun b ob q => Heap.get?_push_of_some _ q
  obtain ⟨its, r, ht, hz⟩ := I4.list hx
  have hlen := r.length
  have hg : wpAny (model X.prog X.w) X.A (getItem (.ref a) (.ref s3.heap.objs.size)) (EP X pins σ Q) X.xe { s3 with heap := s3.heap.push { cls := .type "slice", data := .fields #[.none, .none, .int (-1) t] } } := by
    refine wpAny_getItem_list_slice ht.isList (Heap.IsSliceOf.new ..) .none .none (.int (-1) t) (by decide) ?_ (by rw [List.size_toArray] <;> omega)
    rw [slice_back]
    refine ⟨.ref _, _, I4.laid (t' := s3.toks) (o := .lst xs.reverse) (fun b ob q => Heap.get?_push_of_some _ q) (Nat.le_refl _) ?_, rfl, q3 _ (I4.hok.fresh (Nat.le_refl _))⟩
    exact ⟨by rw [List.length_reverse]; exact hz, _, 0, vals_back r, Heap.get?_push_size _ rfl⟩
  show wpAny (model X.prog X.w) X.A (subscriptTail e (.Slice none none (some st) p2) (.ref a) (.ref s3.heap.objs.size)) (EP X pins σ Q) X.xe { s3 with heap := s3.heap.push { cls := .type "slice", data := .fields #[.none, .none, .int (-1) t] } }
  exact tail_any (ops := [.ref a, .ref s3.heap.objs.size]) ht.isList.typeIs slot_list_getitem.lookup hg (by with_unfolding_all rfl)
end
end My

/-! ## The deal of draws (laws of stages 2 and 3): its source, a draw, a pick -/
namespace My
open PySem PySem.Spec PyProof.Rows L2
def top (i : Nat) : Stmt := PySem.Challenge.pw_wholetraces_k22_trees_refused.main.body.getD i (.Pass ⟨0, 0, 0, 0⟩)
abbrev s_source : Stmt := top 18
abbrev N_source : List Str := ["_law_script", "_law_base", "_law_cells", "_law_cell", "_law_stirred", "_law_at"]
abbrev P_source : List Str := ["_law_script", "_law_base"]
theorem sc_source : FnScope N_source P_source (defScope s_source) := ⟨rfl, rfl, rfl, by decide +kernel, rfl, by decide +kernel, by decide +kernel⟩
abbrev s_draw : Stmt := top 19
abbrev N_draw : List Str := ["_law_deal", "_law_wide", "_law_great", "_law_cell"]
abbrev P_draw : List Str := ["_law_deal", "_law_wide"]
theorem sc_draw : FnScope N_draw P_draw (defScope s_draw) := ⟨rfl, rfl, rfl, by decide +kernel, rfl, by decide +kernel, by decide +kernel⟩
abbrev s_pick : Stmt := top 20
abbrev N_pick : List Str := ["_law_deal", "_law_some"]
abbrev P_pick : List Str := ["_law_deal", "_law_some"]
theorem sc_pick : FnScope N_pick P_pick (defScope s_pick) := ⟨rfl, rfl, rfl, by decide +kernel, rfl, by decide +kernel, by decide +kernel⟩
structure TxDeal (w : World) (K : PySem.W.Frag) (mg : Str → Option Value) where
  z_len : mg "len" = none
  z_int : mg "int" = none
  z_abs : mg "abs" = none
  z_enumerate : mg "enumerate" = none
  f_source : Addr
  d_source : FuncData
  F_source : Fun K "_law_source" "_law_source" s_source f_source d_source
  m_source : mg "_law_source" = some (.ref f_source)
  b_source : Binds K d_source P_source []
  f_draw : Addr
  d_draw : FuncData
  F_draw : Fun K "_law_draw" "_law_draw" s_draw f_draw d_draw
  m_draw : mg "_law_draw" = some (.ref f_draw)
  b_draw : Binds K d_draw P_draw []
  f_pick : Addr
  d_pick : FuncData
  F_pick : Fun K "_law_pick" "_law_pick" s_pick f_pick d_pick
  m_pick : mg "_law_pick" = some (.ref f_pick)
  b_pick : Binds K d_pick P_pick []
/-- the deal: its dict at d, the great cells in the list at g -/
structure DealAt (H : Hp) (d g : Addr) (ns : List Int) (s : Int) : Prop where
  ne : d ≠ g
  s0 : 0 ≤ s
  s1 : s < 2147483647
  dict : H d = some (.dK [(Sum.inr "great", .ref g), (Sum.inr "stirred", .int s)])
  great : H g = some (.lst (ns.map V.int))
  pos : ∀ n ∈ ns, 0 ≤ n
  few : ns.length ≤ 60
def KeepD (d g : Addr) (H H' : Hp) : Prop := ∀ a o, a ≠ d → a ≠ g → H a = some o → H' a = some o
def spDraw : Sp := fun vs H Q _ => ∃ (d g : Addr) (ns : List Int) (s m : Int), vs = [.ref d, .int m] ∧ DealAt H d g ns s ∧ 0 < m ∧ m < 1073741824 ∧
  ∀ (v s' : Int) (ns' : List Int) (H' : Hp), 0 ≤ v → v < m → KeepD d g H H' → DealAt H' d g ns' s' → Q (.int v) H'
def tRestD (K : PySem.W.Frag) : TS := (tSeq (tIfS (tTest (tOp (rEqE K true) (tVar 2) (tLst tNil))) (tSeq (tAsg (tBM0 K "list" rPop (tVar 2)) (gName 3)) (tSeq (tDrop (tBM K "list" rAppend (tVar 2) (tCons (tOp (rI CDiv fun i j => V.int (i / j)) (tVar 3) (tVar 1)) tNil))) (tRet (tOp (rI (fun x j => 0 < j) fun i j => V.int (i % j)) (tCB (fun xs H Q => (∃ i, xs = [V.int i] ∧ Q (V.int i) H) ∨ ∃ k, xs = [V.bl k] ∧ Q (V.int (if k = true then 1 else 0)) H) (tCons (tVar 3) tNil)) (tVar 1))))) tNext) (tSeq (sDPut (tVar 0) (tC (V.str (Str.ofString "stirred"))) (tOp (rI (fun x j => 0 < j) fun i j => V.int (i % j)) (tCB (fun xs H Q => (∃ i, xs = [V.int i] ∧ Q (V.int i) H) ∨ ∃ k, xs = [V.bl k] ∧ Q (V.int (if k = true then 1 else 0)) H) (tCons (tOp (rI0 fun i j => V.int (i + j)) (tOp (rI CMul fun i j => V.int (i * j)) (tDGet (tVar 0) (tC (V.str (Str.ofString "stirred")))) (tC (V.int 69621))) (tC (V.int 23))) tNil)) (tC (V.int 2147483647)))) (tRet (tOp (rI (fun x j => 0 < j) fun i j => V.int (i % j)) (tCB (fun xs H Q => (∃ i, xs = [V.int i] ∧ Q (V.int i) H) ∨ ∃ k, xs = [V.bl k] ∧ Q (V.int (if k = true then 1 else 0)) H) (tCons (tOp (rI CDiv fun i j => V.int (i / j)) (tDGet (tVar 0) (tC (V.str (Str.ofString "stirred")))) (tC (V.int 32))) tNil)) (tVar 1)))))
theorem DealAt.new {H : Hp} {d g : Addr} {ns : List Int} {s : Int} (D : DealAt H d g ns s) {e : Addr} (he : H e = none) (o : HO) : DealAt (upd H e o) d g ns s :=
  ⟨D.ne, D.s0, D.s1, by rw [upd_ne (ne_of_none D.dict he)]; exact D.dict, by rw [upd_ne (ne_of_none D.great he)]; exact D.great, D.pos, D.few⟩
theorem KeepD.new {d g : Addr} {H H1 : Hp} (k : KeepD d g H H1) {e : Addr} (he : H1 e = none) (o : HO) : KeepD d g H (upd H1 e o) := fun a u h1 h2 h => by
  have z := k a u h1 h2 h
  rw [upd_ne (ne_of_none z he)]
  exact z
theorem KeepD.at_g {d g : Addr} {H H1 : Hp} (k : KeepD d g H H1) (o : HO) : KeepD d g H (upd H1 g o) := fun a u h1 h2 h => by
  rw [upd_ne h2]
  exact k a u h1 h2 h
theorem KeepD.at_d {d g : Addr} {H H1 : Hp} (k : KeepD d g H H1) (o : HO) : KeepD d g H (upd H1 d o) := fun a u h1 h2 h => by
  rw [upd_ne h1]
  exact k a u h1 h2 h
theorem DealAt.put {H : Hp} {d g : Addr} {ns : List Int} {s : Int} (D : DealAt H d g ns s) {ms : List Int} (pos : ∀ n ∈ ms, 0 ≤ n) (few : ms.length ≤ 60) : DealAt (upd H g (.lst (ms.map V.int))) d g ms s :=
  ⟨D.ne, D.s0, D.s1, by rw [upd_ne D.ne]; exact D.dict, upd_same, pos, few⟩
theorem DealAt.stir {H : Hp} {d g : Addr} {ns : List Int} {s : Int} (D : DealAt H d g ns s) {t : Int} (t0 : 0 ≤ t) (t1 : t < 2147483647) : DealAt (upd H d (.dK [(Sum.inr "great", .ref g), (Sum.inr "stirred", .int t)])) d g ns t :=
  ⟨D.ne, t0, t1, upd_same, by rw [upd_ne D.ne.symm]; exact D.great, D.pos, D.few⟩
theorem ok_tRestD {K : PySem.W.Frag} {D : Ends} {d g : Addr} {ns : List Int} {s m : Int} {H0 H : Hp} (DA : DealAt H d g ns s) (k : KeepD d g H0 H) (m0 : 0 < m) (m1 : m < 1073741824)
    (q : ∀ (v s' : Int) (ns' : List Int) (H' : Hp), 0 ≤ v → v < m → KeepD d g H0 H' → DealAt H' d g ns' s' → D.rt (.int v) H') : tRestD K D [some (.ref d), some (.int m), some (.ref g), none] H := by
  refine ⟨_, rfl, Nat.zero_le _, fun e he => ⟨g, e, ns.map V.int, rfl, rfl, SqL.of (DA.new he _).great, SqL.of upd_same, _, rfl, ?_⟩⟩
  have D2 := DA.new he (.lst [])
  have k2 := k.new he (.lst [])
  generalize upd H e (.lst []) = H2 at D2 k2
  rcases List.eq_nil_or_concat ns with hn | ⟨ms, y, hn⟩
  · subst hn
    refine iteF ?_
    refine ⟨_, rfl, d, .int s, rfl, .inl ⟨_, Sum.inr "stirred", Rd.of D2.dict, rfl, rfl⟩, _, _, rfl, rfl, .inr (by decide), _, _, rfl, rfl, .inl ⟨_, rfl, _, _, rfl, rfl, (by show (0 : Int) < 2147483647; decide), ?_⟩⟩
    have t0 : 0 ≤ (s * 69621 + 23) % 2147483647 := Int.emod_nonneg _ (by decide)
    have t1 : (s * 69621 + 23) % 2147483647 < 2147483647 := Int.emod_lt_of_pos _ (by decide)
    have D3 := D2.stir t0 t1
    have k3 := k2.at_d (.dK [(Sum.inr "great", .ref g), (Sum.inr "stirred", .int ((s * 69621 + 23) % 2147483647))])
    have ep : putK [((Sum.inr "great" : Key), V.ref g), (Sum.inr "stirred", V.int s)] (Sum.inr "stirred") (V.int ((s * 69621 + 23) % 2147483647)) = [((Sum.inr "great" : Key), V.ref g), (Sum.inr "stirred", V.int ((s * 69621 + 23) % 2147483647))] := rfl
    refine ⟨_, rfl, d, _, rfl, .inl ⟨_, Sum.inr "stirred", D2.dict, rfl, by show 2 < sizeLine; decide, congrArg (fun z => upd H2 d (.dK z)) ep.symm⟩, ?_⟩
    refine ⟨_, rfl, d, .int ((s * 69621 + 23) % 2147483647), rfl, .inl ⟨_, Sum.inr "stirred", Rd.of upd_same, rfl, rfl⟩, _, _, rfl, rfl, ⟨by decide, by decide⟩, .inl ⟨_, rfl, _, rfl, _, _, rfl, rfl, m0, ?_⟩⟩
    exact q _ _ [] _ (Int.emod_nonneg _ (by omega)) (Int.emod_lt_of_pos _ m0) k3 D3
  · rw [List.concat_eq_append] at hn
    subst hn
    have h1 : (List.map V.int (ms ++ [y])).isEmpty = false := by simp
    refine ite2 (fun _ => ?_) (fun c => (c (by simp)).elim)
    have last : ((ms ++ [y]).map V.int)[((ms ++ [y]).map V.int).length - 1]? = some (.int y) := by simp
    refine ⟨_, rfl, .inl ⟨rfl, _, SqL.of D2.great⟩, g, _, .int y, rfl, rfl, D2.great, last, ?_⟩
    have dl : ((ms ++ [y]).map V.int).dropLast = ms.map V.int := by simp
    rw [dl]
    have pm : ∀ n ∈ ms, 0 ≤ n := fun n hn => D2.pos n (List.mem_append_left _ hn)
    have py : 0 ≤ y := D2.pos y (by simp)
    have few : ms.length ≤ 59 := by have := D2.few; rw [List.length_append] at this; exact Nat.le_of_succ_le_succ this
    have D3 := D2.put pm (by omega)
    have k3 := k2.at_g (.lst (ms.map V.int))
    refine ⟨_, rfl, .inl ⟨rfl, _, SqL.of upd_same⟩, _, rfl, _, rfl, _, _, rfl, rfl, ⟨m0, m1⟩, g, _, .int (y / m), rfl, rfl, upd_same, by rw [List.length_map]; exact small1000 (by omega), ?_⟩
    have e4 : ms.map V.int ++ [V.int (y / m)] = (ms ++ [y / m]).map V.int := by simp
    rw [e4]
    have D4 := D3.put (ms := ms ++ [y / m]) (fun n hn => by
      rcases List.mem_append.mp hn with z | z
      · exact pm n z
      · rw [List.mem_singleton.mp z]
        exact Int.ediv_nonneg py (by omega)) (by rw [List.length_append]; show ms.length + 1 ≤ 60; omega)
    have k4 := k3.at_g (.lst ((ms ++ [y / m]).map V.int))
    refine ⟨_, rfl, .inl ⟨_, rfl, _, rfl, _, _, rfl, rfl, m0, ?_⟩⟩
    exact q _ s _ _ (Int.emod_nonneg _ (by omega)) (Int.emod_lt_of_pos _ m0) k4 D4
section
variable {P : Program} {w : World} {K : PySem.W.Frag} {mg : Str → Option Value} {base : Heap}
theorem ok_draw (T : TxDeal w K mg) : FnOk P w K mg base CX0 1 T.f_draw T.d_draw P_draw spDraw := by
  refine T.F_draw.ok sc_draw (fun vs H Q E h => ?_) (fun cdv A outer s H vs Q E hr h => ?_)
  · obtain ⟨d, g, ns, s, m, rfl, _⟩ := h
    rfl
  obtain ⟨d, g, ns, s, m, rfl, D, m0, m1, q⟩ := h
  refine ⟨_, (pss_cons (ps_set (i := 2) sc_draw.nd rfl (Or.inl rfl) (pe_dget (hu_of hr) (pv 0) pe_str (fun _ _ => rfl)))
      (pss_cons (ps_while PassesOwn.never (PW.pt (pw_and (pt_cmpR (op_neEK K hr.units0) (pv 2) (pe_lst pa_nil) (nomark _)) (pw_and1 (pt_cmpR op_eq (pe_ix (ix_listK K) (pv 2) (pe_un un_neg pe_int) (fun _ _ => rfl)) pe_int (nomark _))))) (pss_one (ps_expr (pe_bm0 PySem.F.plainAttrs_list PySem.F.slot_list_pop PySem.F.type_list_pop mt_pop (pv 2)))))
      (pss_cons (ps_if (pt_cmpR (op_neEK K hr.units0) (pv 2) (pe_lst pa_nil) (nomark _)) (pss_cons (ps_set (i := 3) sc_draw.nd rfl (Or.inl rfl) (pe_bm0 PySem.F.plainAttrs_list PySem.F.slot_list_pop PySem.F.type_list_pop mt_pop (pv 2)))
      (pss_cons (ps_expr (pe_bm PySem.F.plainAttrs_list PySem.F.slot_list_append PySem.F.type_list_append mt_append (pv 2) (pa_cons (pe_op op_fdiv (pv 3) (pv 1)) pa_nil)))
      (pss_one (ps_ret (pe_op op_mod (pe_callTy call_int1 (by rfl) T.z_int (by decide +kernel) (pa_cons (pv 3) pa_nil)) (pv 1)))))) pss_nil)
      (pss_cons (ps_dput (hu_of hr) (pv 0) pe_str (pe_op op_mod (pe_callTy call_int1 (by rfl) T.z_int (by decide +kernel) (pa_cons (pe_op op_add (pe_op op_mul (pe_dget (hu_of hr) (pv 0) pe_str (fun _ _ => rfl)) pe_int) pe_int) pa_nil)) pe_int) rfl)
      (pss_one (ps_ret (pe_op op_mod (pe_callTy call_int1 (by rfl) T.z_int (by decide +kernel) (pa_cons (pe_op op_fdiv (pe_dget (hu_of hr) (pv 0) pe_str (fun _ _ => rfl)) pe_int) pa_nil)) (pv 1)))))))), ?_⟩
  refine ⟨_, rfl, d, .ref g, rfl, .inl ⟨_, Sum.inr "great", Rd.of D.dict, rfl, rfl⟩, ?_⟩
  refine while_by (fun σ H' => ∃ ms : List Int, σ = [some (.ref d), some (.int m), some (.ref g), none] ∧ KeepD d g H H' ∧ DealAt H' d g ms s) (fun σ H' => match H' g with | some (.lst ls) => ls.length | _ => 0) ⟨ns, rfl, fun _ _ _ _ e => e, D⟩ ?_ ?_
  · rintro σ H1 ⟨ms, rfl, k1, D1⟩
    refine ⟨_, rfl, Nat.zero_le _, fun e he => ⟨g, e, ms.map V.int, rfl, rfl, SqL.of (D1.new he _).great, SqL.of upd_same, _, rfl, ?_⟩⟩
    have D2 := D1.new he (.lst [])
    have k2 := k1.new he (.lst [])
    have hm : (match H1 g with | some (.lst ls) => ls.length | _ => 0) = ms.length := by rw [D1.great]; exact List.length_map _
    generalize upd H1 e (.lst []) = H2 at D2 k2
    rcases List.eq_nil_or_concat ms with hn | ⟨ls, y, hn⟩
    · subst hn
      refine iteF ?_
      exact ok_tRestD D2 k2 m0 m1 q
    · rw [List.concat_eq_append] at hn
      subst hn
      have h1 : (List.map V.int (ls ++ [y])).isEmpty = false := by simp
      refine ite2 (fun _ => ?_) (fun c => (c (by simp)).elim)
      have last : ((ls ++ [y]).map V.int)[((ls ++ [y]).map V.int).length - 1]? = some (.int y) := by simp
      have at1 : atI ((ls ++ [y]).map V.int) (-1) = some (.int y) := by rw [List.map_append]; exact atI_last _ _
      refine ⟨_, rfl, _, rfl, g, _, -1, .int y, rfl, rfl, SqL.of D2.great, at1, rfl, _, rfl, ?_⟩
      refine ite2 (fun c => ?_) (fun c => ?_)
      · refine ⟨_, rfl, .inl ⟨rfl, _, SqL.of D2.great⟩, g, _, .int y, rfl, rfl, D2.great, last, ?_⟩
        have dl : ((ls ++ [y]).map V.int).dropLast = ls.map V.int := by simp
        rw [dl]
        have D3 := D2.put (ms := ls) (fun n hn => D2.pos n (List.mem_append_left _ hn)) (by have := D2.few; rw [List.length_append] at this; omega)
        refine ⟨⟨ls, rfl, k2.at_g _, D3⟩, ?_⟩
        rw [hm, upd_same, List.length_append]
        show (List.map V.int ls).length < _
        rw [List.length_map]
        exact Nat.lt_succ_self _
      · exact ok_tRestD D2 k2 m0 m1 q
  · rintro σ H1 Q1 Q2 imp ⟨v, hv, h0, h⟩
    refine ⟨v, hv, h0, fun e he => ?_⟩
    obtain ⟨a', q', xs', e1, e2, e3, e4, k, e5, h5⟩ := h e he
    refine ⟨a', q', xs', e1, e2, e3, e4, k, e5, ?_⟩
    refine ite2 (fun c => ?_) (fun c => ?_)
    · rw [if_pos c] at h5
      obtain ⟨x1, y1, x2, y2, p, xs, i, w1, f1, f2, f3, f4, sc, b, eb, h6⟩ := h5
      exact ⟨x1, y1, x2, y2, p, xs, i, w1, f1, f2, f3, f4, sc, b, eb, imp _ _ h6⟩
    · rw [if_neg c] at h5
      exact imp _ _ h5
def spDPick : Sp := fun vs H Q _ => ∃ (d g a : Addr) (ns : List Int) (s : Int) (xs : List V), vs = [.ref d, .ref a] ∧ DealAt H d g ns s ∧ a ≠ d ∧ a ≠ g ∧ H a = some (.lst xs) ∧ xs ≠ [] ∧ xs.length ≤ 1000 ∧
  ∀ (x : V) (s' : Int) (ns' : List Int) (H' : Hp), x ∈ xs → KeepD d g H H' → DealAt H' d g ns' s' → Q x H'
theorem ok_dpick (T : TxDeal w K mg) : FnOk P w K mg base CX0 2 T.f_pick T.d_pick P_pick spDPick := by
  have G_draw := ok_draw (P := P) (w := w) (base := base) T
  refine T.F_pick.ok sc_pick (fun vs H Q E h => ?_) (fun cdv A outer s H vs Q E hr h => ?_)
  · obtain ⟨d, g, a, ns, s, xs, rfl, _⟩ := h
    rfl
  obtain ⟨d, g, a, ns, s, xs, rfl, D, ad, ag, ha, ne, few, q⟩ := h
  refine ⟨_, (pss_one (ps_ret (pe_ix (ix_listK K) (pv 1) (pe_call G_draw (hr.mono (by decide)) (by rfl) T.m_draw T.F_draw.kp T.b_draw .nil pass0 (pa_cons (pv 0) (pa_cons (pe_callB (call_lenK K) (by rfl) T.z_len (by decide +kernel) (pa_cons (pv 1) pa_nil)) pa_nil))) (fun _ _ => rfl)))), ?_⟩
  have l0 : 0 < xs.length := List.length_pos_iff.mpr ne
  refine ⟨_, rfl, _, rfl, _, rfl, _, _, rfl, .inl (SqL.of ha), d, g, ns, s, _, rfl, D, by omega, by omega, fun v s' ns' H' v0 v1 k D' => ?_⟩
  obtain ⟨x, h1, h2⟩ := at_some (xs := xs) v0 v1
  exact ⟨a, xs, v, x, rfl, rfl, SqL.of (k a _ ad ag ha), h1, q x s' ns' H' (List.mem_of_getElem? h2) k D'⟩
def absI (z : Int) : Int := if z < 0 then -z else z
theorem absI_pos (z : Int) : 0 ≤ absI z := by unfold absI; split <;> omega
theorem cut60 (ns : List Int) (k : Nat) : ∃ cs : List Int, cutV (ns.map V.int) (some (k : Int)) (some 60) = cs.map V.int ∧ cs.length ≤ 60 := by
  refine ⟨(ns.drop (HT.sIx (ns.map V.int).length 0 (some (k : Int)))).take (HT.sIx (ns.map V.int).length (ns.map V.int).length (some 60) - HT.sIx (ns.map V.int).length 0 (some (k : Int))), ?_, ?_⟩
  · unfold cutV
    rw [List.map_take, List.map_drop]
  · rw [List.length_take]
    have h : HT.sIx (ns.map V.int).length (ns.map V.int).length (some 60) = min 60 (ns.map V.int).length := HT.sIx_nat _ _ 60
    rw [h]
    omega
def spSource (K : PySem.W.Frag) : Sp := fun vs H Q _ => ∃ (a : Addr) (ns : List Int) (k : Nat), vs = [.ref a, .int (k : Int)] ∧ SqL K H a (ns.map V.int) ∧ ns.length ≤ 63 ∧ k ≤ 60 ∧
  ∀ (d g : Addr) (gs : List Int) (s : Int) (H' : Hp), Same H H' → H d = none → H g = none → DealAt H' d g gs s → Q (.ref d) H'
theorem ok_source (T : TxDeal w K mg) : FnOk P w K mg base CX0 1 T.f_source T.d_source P_source (spSource K) := by
  refine T.F_source.ok sc_source (fun vs H Q E h => ?_) (fun cdv A outer s H vs Q E hr h => ?_)
  · obtain ⟨a, ns, k, rfl, _⟩ := h
    rfl
  obtain ⟨a, ns, k, rfl, hS, n63, k60, q⟩ := h
  refine ⟨_, (pss_cons (ps_setLc (i := 2) (own := [("_law_cell", 3)]) (g := gName 3) (by rfl) sc_source.nd rfl rfl (sw_true rfl rfl rfl (by decide +kernel)) (pi_listK K (pe_slice (sl_listK K) (pv 0) (po_some (pv 1)) (po_some pe_int))) (blkOk_by (own := [("_law_cell", 3)]) (N := N_source) (sc := defScope s_source) (by decide +kernel)) (fun _ _ _ _ _ => (pg_name (i := 3) sc_source.nd rfl (Or.inl rfl))) (fun _ _ _ _ _ => pts_nil) (fun _ _ _ _ _ => (pe_callB call_abs (by rfl) T.z_abs (by decide +kernel) (pa_cons (pe_callTy call_int1 (by rfl) T.z_int (by decide +kernel) (pa_cons (pv 3) pa_nil)) pa_nil))))
      (pss_cons (ps_set (i := 4) sc_source.nd rfl (Or.inl rfl) (pe_op op_add pe_int (pe_op op_mul pe_int (pv 1))))
      (pss_cons (ps_for PassesOwn.never rfl (pi_enumA K (by rfl) T.z_enumerate (pa_cons (pv 2) pa_nil)) (pg_tup rfl (pgs_cons (pg_name (i := 5) sc_source.nd rfl (Or.inl rfl)) (pgs_cons (pg_name (i := 3) sc_source.nd rfl (Or.inl rfl)) pgs_nil))) (pss_one (ps_set (i := 4) sc_source.nd rfl (Or.inl rfl) (pe_op op_mod (pe_callTy call_int1 (by rfl) T.z_int (by decide +kernel) (pa_cons (pe_op op_add (pe_op op_mul (pe_op op_add (pe_op op_add (pv 4) (pv 5)) pe_int) pe_int) (pe_op op_mod (pe_callTy call_int1 (by rfl) T.z_int (by decide +kernel) (pa_cons (pv 3) pa_nil)) pe_int)) pa_nil)) pe_int))))
      (pss_one (ps_ret (pe_disp (pps_cons pe_str (pe_rev K (pe_lc (own := [("_law_cell", 3)]) (g := gName 3) (by rfl) sc_source.nd (pi_listK K (pv 2)) (blkOk_by (own := [("_law_cell", 3)]) (N := N_source) (sc := defScope s_source) (by decide +kernel)) (fun _ _ _ _ _ => (pg_name (i := 3) sc_source.nd rfl (Or.inl rfl))) (fun _ _ _ _ _ => pts_one (by exact (pt_cmpR op_ge (pv 3) (pe_op op_pow pe_int pe_int) (nomark _)))) (fun _ _ _ _ _ => (pv 3))) (pe_un un_neg pe_int)) (pps_cons pe_str (pv 4) pps_nil)) rfl rfl (fun h => nomatch h) (Nat.le_of_ble_eq_true rfl))))))), ?_⟩
  obtain ⟨cs, ecs, c60⟩ := cut60 ns k
  refine ⟨_, rfl, _, rfl, _, rfl, _, rfl, a, ns.map V.int, rfl, hS, fun p hp => ?_⟩
  have u1 := same_upd hp (.lst (cutV (ns.map V.int) (some (k : Int)) (some 60)))
  rw [ecs] at u1 ⊢
  have h1 := upd_same (H := H) (a := p) (o := .lst (cs.map V.int))
  generalize upd H p (.lst (cs.map V.int)) = H1 at u1 h1
  refine ⟨p, rfl, ⟨_, SqL.of h1⟩, fun D hD => ?_⟩
  have dh : H D = none := u1.free hD
  refine lc_list (K := K) (a := p) (xs := cs.map V.int) (fun i H' => Same H1 H' ∧ H' D = some (.lst (((cs.take i).map absI).map V.int))) ⟨same_upd hD _, upd_same⟩ (fun i H' _ h => SqL.of (h.1 _ _ h1)) ?_ ?_
  · rintro i x H3 hx ⟨s3, h3⟩
    rw [List.getElem?_map] at hx
    obtain ⟨z, hz, rfl⟩ : ∃ z, cs[i]? = some z ∧ V.int z = x := by
      cases e : cs[i]? with
      | none => rw [e] at hx; cases hx
      | some z => rw [e] at hx; cases hx; exact ⟨z, rfl, rfl⟩
    refine ⟨rfl, _, rfl, .inl ⟨_, rfl, _, rfl, _, h3, small1000 (by rw [List.length_map, List.length_map, List.length_take]; omega), fun c o e => ?_, ?_⟩⟩
    · rw [upd_ne (ne_of_none e hD)]
      exact s3 _ _ e
    · rw [upd_same, List.take_add_one, hz, List.map_append, List.map_append]
      rfl
  rintro H3 ⟨s3, h3⟩
  rw [List.length_map, List.take_length] at h3
  have as60 : (cs.map absI).length ≤ 60 := by rw [List.length_map]; exact c60
  have apos : ∀ n ∈ cs.map absI, 0 ≤ n := fun n hn => by
    obtain ⟨z, _, rfl⟩ := List.mem_map.mp hn
    exact absI_pos z
  generalize cs.map absI = as at h3 as60 apos
  refine ⟨_, rfl, _, _, rfl, rfl, .inl (by decide), _, _, rfl, rfl, ?_⟩
  have t0 : 0 ≤ 52711477 + 31 * (k : Int) := by omega
  have t1 : 52711477 + 31 * (k : Int) < 2147483647 := by omega
  refine ⟨_, rfl, D, as.map V.int, rfl, .inl (SqL.of h3), fun J G g0 gm wk => for_it wk (fun i σ H' => (∃ (v3 v5 : Option V) (t : Int), σ = [some (.ref a), some (.int (k : Int)), some (.ref D), v3, some (.int t), v5] ∧ 0 ≤ t ∧ t < 2147483647) ∧ Same H3 H') ⟨⟨_, _, _, rfl, t0, t1⟩, Same.refl _⟩ (fun i σ H' _ h => gm _ _ h.2 g0) ?_ ?_⟩
  · rintro i x σ H4 H5 hi ⟨⟨v3, v5, t, rfl, _, _⟩, s4⟩ ⟨tq, x1, x2, rfl, htq, rfl, hx1, hx2⟩
    cases hx1
    have hx2 : (as.map V.int)[i]? = some x2 := hx2
    rw [List.getElem?_map] at hx2
    obtain ⟨z, hz, rfl⟩ : ∃ z, as[i]? = some z ∧ V.int z = x2 := by
      cases e : as[i]? with
      | none => rw [e] at hx2; cases hx2
      | some z => rw [e] at hx2; cases hx2; exact ⟨z, rfl, rfl⟩
    have s5 := s4.trans (same_upd htq (.tup [.int (i : Int), .int z]))
    refine ⟨tq, _, rfl, SqT.of upd_same, rfl, _, _, rfl, _, _, rfl, rfl, ?_⟩
    refine ⟨_, rfl, _, rfl, _, _, rfl, rfl, _, _, rfl, rfl, _, _, rfl, rfl, .inr (by decide), _, rfl, .inl ⟨_, rfl, _, _, rfl, rfl, (by show (0 : Int) < 2147483563; decide), _, _, rfl, rfl, .inl ⟨_, rfl, _, _, rfl, rfl, (by show (0 : Int) < 2147483647; decide), ?_⟩⟩⟩
    exact ⟨⟨_, _, _, rfl, Int.emod_nonneg _ (by decide), Int.emod_lt_of_pos _ (by decide)⟩, s5⟩
  rintro σ H4 ⟨⟨v3, v5, t, rfl, q0, q1⟩, s4⟩
  refine fun d hd => ?_
  have u5 := same_upd hd (.dK [])
  have hd5 := upd_same (H := H4) (a := d) (o := .dK [])
  have h5 : upd H4 d (.dK []) D = some (.lst (as.map V.int)) := u5 _ _ (s4 _ _ h3)
  have dn : H d = none := ((u1.trans s3).trans s4).free hd
  have su := ((u1.trans s3).trans s4).trans u5
  generalize upd H4 d (.dK []) = H5 at u5 hd5 h5 su
  refine ⟨_, rfl, D, rfl, ⟨_, SqL.of h5⟩, fun e he => ?_⟩
  have en : H e = none := su.free he
  refine lc_list (K := K) (a := D) (xs := as.map V.int) (fun i H' => Same H5 H' ∧ ∃ gs : List Int, H' e = some (.lst (gs.map V.int)) ∧ gs.length ≤ i ∧ ∀ n ∈ gs, 0 ≤ n) ⟨same_upd he _, [], upd_same, Nat.le_refl _, fun _ z => nomatch z⟩ (fun i H' _ h => SqL.of (h.1 _ _ h5)) ?_ ?_
  · rintro i x H6 hx ⟨s6, gs, h6, gl, gp⟩
    rw [List.getElem?_map] at hx
    obtain ⟨z, hz, rfl⟩ : ∃ z, as[i]? = some z ∧ V.int z = x := by
      cases e : as[i]? with
      | none => rw [e] at hx; cases hx
      | some z => rw [e] at hx; cases hx; exact ⟨z, rfl, rfl⟩
    have il := (List.getElem?_eq_some_iff.mp hz).1
    refine ⟨rfl, _, rfl, _, _, rfl, rfl, ⟨by decide, by decide, by decide⟩, _, _, rfl, rfl, _, rfl, ?_⟩
    refine ite2 (fun c => ?_) (fun c => ?_)
    · refine ⟨_, rfl, _, h6, small1000 (by rw [List.length_map]; omega), fun b o q => ?_, gs ++ [z], ?_, by rw [List.length_append]; exact Nat.succ_le_succ gl, fun n hn => ?_⟩
      · rw [upd_ne (ne_of_none q he)]
        exact s6 _ _ q
      · rw [upd_same, List.map_append]
        rfl
      · rcases List.mem_append.mp hn with y | y
        · exact gp n y
        · rw [List.mem_singleton.mp y]
          exact apos z (List.mem_of_getElem? hz)
    · exact ⟨s6, gs, h6, Nat.le_succ_of_le gl, gp⟩
  rintro H6 ⟨s6, gs, h6, gl, gp⟩
  rw [List.length_map] at gl
  refine ⟨_, rfl, rfl, e, gs.map V.int, rfl, SqL.of h6, fun g hg => ?_⟩
  have u7 := same_upd hg (.lst (gs.map V.int).reverse)
  have h7 := upd_same (H := H6) (a := g) (o := .lst (gs.map V.int).reverse)
  have s7 := s6.trans u7
  have gn : H g = none := (su.trans s6).free hg
  have dg : d ≠ g := ne_of_none (s6 _ _ hd5) hg
  generalize upd H6 g (.lst (gs.map V.int).reverse) = H7 at u7 h7 s7
  refine ⟨_, rfl, s7 _ _ hd5, [(Sum.inr "great", .ref g), (Sum.inr "stirred", .int t)], rfl, by show 2 ≤ 15; decide, ?_⟩
  refine q d g gs.reverse t _ (fun b o h => ?_) dn gn ⟨dg, q0, q1, upd_same, ?_, fun n hn => gp n (List.mem_reverse.mp hn), by rw [List.length_reverse]; omega⟩
  · rw [upd_ne (ne_of_none h dn)]
    exact s7 _ _ (su _ _ h)
  · rw [upd_ne dg.symm, h7, List.map_reverse]
end
end My

/-! ## Names: what a name is (for a law that draws none by _law_names) -/
namespace My
open PySem L2
/-- the words that are no names -/
def BAR : List Str := ["none", "any", "same", "keep", "drop", "good", "bad", "old", "new", "both"]
def ABC : Str := "abcdefghijklmnopqrstuvwxyz"
/-- a name: one to four small letters, none of those words -/
def isNm (x : Str) : Bool := decide (1 ≤ x.length) && decide (x.length ≤ 4) && !(BAR.contains x) && x.cps.toList.all fun c => decide (c ∈ ABC.cps.toList)
theorem isNm_len {x : Str} (h : isNm x = true) : 1 ≤ x.length ∧ x.length ≤ 4 := by
  unfold isNm at h
  simp only [Bool.and_eq_true, decide_eq_true_eq] at h
  exact h.1.1
end My

/-! ## The program: what is a name -/
namespace My
open PySem L2
abbrev s_is_name : Stmt := top 3
abbrev N_is_name : List Str := ["value"]
abbrev P_is_name : List Str := ["value"]
theorem sc_is_name : FnScope N_is_name P_is_name (defScope s_is_name) := ⟨rfl, rfl, rfl, by decide +kernel, rfl, by decide +kernel, by decide +kernel⟩
/-- a text, or a thing that is none -/
inductive AnyV (K : PySem.W.Frag) (H : Hp) : V → Prop where
  | str (x : Str) (h : x.length ≤ 2000) : AnyV K H (.str x)
  | oth {v : V} {t : Value} (n : ∀ x, v ≠ .str x) (ty : TyX K H v t) (k : PySem.W.kitOne K t (.type "str") = some false) : AnyV K H v
def nmV : V → Bool
  | .str x => isNm x
  | _ => false
def nmD : PyData → Bool
  | .str x => isNm x
  | _ => false
/-- the dict whose keys are the words that are no names -/
structure NoD (w : World) (K : PySem.W.Frag) (a : Addr) : Prop where
  ex : ∃ es n, KDict K w a es n
  has : ∀ z : Str, ∃ r, PySem.W.nsIn K a z = some r ∧ r.isSome = BAR.contains z
structure TxCheck (w : World) (K : PySem.W.Frag) (mg : Str → Option Value) where
  z_len : mg "len" = none
  z_isinstance : mg "isinstance" = none
  z_str : mg "str" = none
  z_all : mg "all" = none
  aNO : Addr
  m_NO : mg "NO_NAMES" = some (.ref aNO)
  t_NO : NoD w K aNO
  f_is_name : Addr
  d_is_name : FuncData
  F_is_name : Fun K "is_name" "is_name" s_is_name f_is_name d_is_name
  m_is_name : mg "is_name" = some (.ref f_is_name)
  b_is_name : Binds K d_is_name P_is_name []
def spIsName (K : PySem.W.Frag) : Sp := fun vs H Q _ => ∃ v : V, vs = [v] ∧ AnyV K H v ∧ ∀ H', Same H H' → Q (.bl (nmV v)) H'
theorem inV_strs (x : Str) : ∀ l : List Str, inV (.str x) (l.map V.str) = l.contains x
  | [] => rfl
  | y :: l => by
    have h := inV_strs x l
    show (y == x || inV (.str x) (l.map V.str)) = (y :: l).contains x
    rw [h, List.contains_cons, BEq.comm]
theorem Dv.any {K : PySem.W.Frag} {H : Hp} {v : V} {d : PyData} (h : Dv K H v d) : AnyV K H v := by
  have t := Dp.ty h.dp
  cases h.dp with
  | str x => exact .str x (h.tx x rfl)
  | non => exact .oth (fun _ e => by cases e) t (kit_ty (by decide +kernel))
  | bl b => exact .oth (fun _ e => by cases e) t (kit_ty (show kitB "bool" "str" = some false by decide +kernel))
  | int i => exact .oth (fun _ e => by cases e) t (kit_ty (show kitB "int" "str" = some false by decide +kernel))
  | lst _ _ => exact .oth (fun _ e => by cases e) t (kit_ty (show kitB "list" "str" = some false by decide +kernel))
  | tup _ _ => exact .oth (fun _ e => by cases e) t (kit_ty (show kitB "tuple" "str" = some false by decide +kernel))
theorem Dv.nm {K : PySem.W.Frag} {H : Hp} {v : V} {d : PyData} (h : Dv K H v d) : nmV v = nmD d := by
  cases h.dp <;> rfl
/-- of the signs below 128 the small letters are those that are letters and lower -/
theorem abcC_is : ∀ c < 128, decide (c ∈ ABC.cps.toList) = (PySem.Unicode.isAlpha c && PySem.Unicode.isLower c) := by decide +kernel
theorem lowC_only : ∀ c < 128, PySem.Unicode.isAlpha c = true → (PySem.Unicode.isLower c = !(PySem.Unicode.isUpper c || PySem.Unicode.isTitle c)) := by decide +kernel
theorem abcC_lt : ∀ c ∈ ABC.cps.toList, c < 128 := by decide +kernel
theorem isNm_is (x : Str) : isNm x = (decide (1 ≤ x.length) && decide (x.length ≤ 4) && Txt.isascii x && (Txt.isalpha x && (Txt.islower x && !(BAR.contains x)))) := by
  by_cases h1 : 1 ≤ x.length
  · have e : (x.cps.toList.all fun c => decide (c ∈ ABC.cps.toList)) = (Txt.isascii x && (Txt.isalpha x && Txt.islower x)) := by
      rw [Bool.eq_iff_iff]
      simp only [Txt.isascii, Txt.isalpha, Txt.islower, ← Array.all_toList, ← Array.any_toList, Bool.and_eq_true, List.all_eq_true, List.any_eq_true, decide_eq_true_eq, Bool.not_eq_true', ← Bool.not_eq_true, not_exists, not_and]
      constructor
      · intro h
        have hh : ∀ c ∈ x.cps.toList, c < 128 ∧ PySem.Unicode.isAlpha c = true ∧ PySem.Unicode.isLower c = true := fun c hc => by
          have l := abcC_lt c (h c hc)
          have q := abcC_is c l
          rw [decide_eq_true (h c hc)] at q
          have q2 := Bool.and_eq_true_iff.mp q.symm
          exact ⟨l, q2.1, q2.2⟩
        refine ⟨fun c hc => (hh c hc).1, ⟨by omega, fun c hc => (hh c hc).2.1⟩, ?_, fun c hc => ?_⟩
        · have hz : 0 < x.cps.toList.length := by
            have : x.cps.size = x.length := rfl
            simp
            omega
          obtain ⟨c, hc⟩ := List.exists_mem_of_length_pos hz
          exact ⟨c, hc, (hh c hc).2.2⟩
        · obtain ⟨l, q1, q2⟩ := hh c hc
          have q3 := lowC_only c l q1
          rw [q2] at q3
          intro z
          rw [z] at q3
          cases q3
      · rintro ⟨h2, ⟨_, h3⟩, _, h4⟩ c hc
        have l := h2 c hc
        have q1 := h3 c hc
        have q3 := lowC_only c l q1
        have q4 : (PySem.Unicode.isUpper c || PySem.Unicode.isTitle c) = false := by simpa using h4 c hc
        rw [q4] at q3
        have q := abcC_is c l
        rw [q1, q3] at q
        exact of_decide_eq_true q
    unfold isNm
    rw [e]
    simp only [Bool.and_assoc]
    cases decide (1 ≤ x.length) <;> cases decide (x.length ≤ 4) <;> cases BAR.contains x <;> cases Txt.isascii x <;> cases Txt.isalpha x <;> cases Txt.islower x <;> rfl
  · unfold isNm
    rw [decide_eq_false h1]
    rfl
section
variable {P : Program} {w : World} {K : PySem.W.Frag} {mg : Str → Option Value} {base : Heap}
theorem ok_is_name (T : TxCheck w K mg) : FnOk P w K mg base CX0 1 T.f_is_name T.d_is_name P_is_name (spIsName K) := by
  refine T.F_is_name.ok sc_is_name (fun vs H Q E h => ?_) (fun cdv A outer s H vs Q E hr h => ?_)
  · obtain ⟨v, rfl, _⟩ := h
    rfl
  obtain ⟨v, rfl, hv, q⟩ := h
  obtain ⟨es, nn, D⟩ := T.t_NO.ex
  refine ⟨_, (pss_cons (ps_if (PW.pt (pw_or (pt_not (pt_val (pe_callB (call_isiV K) (by rfl) T.z_isinstance (by decide +kernel) (pa_cons (pv 0) (pa_cons (pe_bltn (v := .ty "str") (by rfl) T.z_str (by decide +kernel) rfl) pa_nil))))) (pw_or (pt_not (pt_chain op_le op_le pe_int (pe_callB call_len_str (by rfl) T.z_len (by decide +kernel) (pa_cons (pv 0) pa_nil)) pe_int)) (pw_or1 (pt_not (pt_val (pe_bm0 PySem.F.plainAttrs_str PySem.F.slot_str_isascii PySem.F.type_str_isascii mt_isascii (pv 0)))))))) (pss_one (ps_ret pe_bl)) pss_nil)
      (pss_one (ps_ret (pe_and (pe_bm0 PySem.F.plainAttrs_str PySem.F.slot_str_isalpha PySem.F.type_str_isalpha mt_isalpha (pv 0)) (pe_and (pe_bm0 PySem.F.plainAttrs_str PySem.F.slot_str_islower PySem.F.type_str_islower mt_islower (pv 0)) (pe_one (pe_cmpR (op_notIn_kd D) (pv 0) (pe_glob (v := .ref T.aNO) (by rfl) T.m_NO rfl) (by rfl)))))))), ?_⟩
  cases hv with
  | oth n ty k =>
    have e : nmV v = false := by cases v <;> first | rfl | exact absurd rfl (n _)
    refine ⟨_, rfl, v, .ty "str", _, _, _, rfl, .ty _, ty, k, _, rfl, ?_⟩
    have r := q H (Same.refl H)
    rw [e] at r
    exact r
  | str x hx =>
    have hz : x.length ≤ sizeLine := by rw [sizeLine_eq]; omega
    have no : isNm x = false → Q (.bl false) H := fun e => by
      have r := q H (Same.refl H)
      rwa [show nmV (.str x) = false from e] at r
    refine ⟨_, rfl, .str x, .ty "str", _, _, true, rfl, .ty _, .base (.str x), kit_ty (by decide +kernel), _, rfl, ?_⟩
    refine ⟨_, rfl, x, rfl, hz, _, _, rfl, rfl, _, rfl, ?_⟩
    refine ite2 (fun c => ?_) (fun c => ?_)
    · have h1 : (1 : Int) ≤ (x.length : Int) := of_decide_eq_true c
      refine ⟨_, _, rfl, rfl, _, rfl, ?_⟩
      refine ite2 (fun c => ?_) (fun c => ?_)
      · have h4 : ¬ (x.length : Int) ≤ 4 := of_decide_eq_false (by simpa using c)
        exact no (by unfold isNm; rw [show decide (x.length ≤ 4) = false from decide_eq_false (by omega)]; simp)
      · have h4 : (x.length : Int) ≤ 4 := of_decide_eq_true (by simpa using c)
        refine ⟨_, rfl, rfl, x, rfl, rfl, trivial, _, rfl, ?_⟩
        refine ite2 (fun c => ?_) (fun c => ?_)
        · have ha : Txt.isascii x = false := by simpa using c
          exact no (by rw [isNm_is, ha]; simp)
        · have ha : Txt.isascii x = true := by simpa using c
          have yes : isNm x = (Txt.isalpha x && (Txt.islower x && !(BAR.contains x))) := by
            rw [isNm_is, ha, decide_eq_true (show 1 ≤ x.length by omega), decide_eq_true (show x.length ≤ 4 by omega)]
            rfl
          refine ⟨_, rfl, rfl, x, rfl, rfl, trivial, _, rfl, ?_⟩
          refine ite2 (fun c => ?_) (fun c => ?_)
          · refine ⟨_, rfl, rfl, x, rfl, rfl, trivial, _, rfl, ?_⟩
            refine ite2 (fun c2 => ?_) (fun c2 => ?_)
            · obtain ⟨r, hr1, hr2⟩ := T.t_NO.has x
              refine ⟨_, rfl, x, r, rfl, rfl, hr1, ?_⟩
              have z := q H (Same.refl H)
              rw [show nmV (.str x) = isNm x from rfl, yes, c, c2] at z
              rw [hr2]
              exact z
            · exact no (by rw [yes, Bool.eq_false_iff.mpr c2]; simp)
          · exact no (by rw [yes, Bool.eq_false_iff.mpr c]; simp)
    · have h1 : ¬ (1 : Int) ≤ (x.length : Int) := of_decide_eq_false (Bool.eq_false_iff.mpr c)
      refine ⟨_, rfl, ?_⟩
      exact no (by unfold isNm; rw [show decide (1 ≤ x.length) = false from decide_eq_false (by omega)]; simp)
end
end My
namespace My
open PySem L2
inductive KeyStrs : List DictEntry → List Str → Prop where
  | nil : KeyStrs [] []
  | cons {h : Int} {k : Str} {t : Tok} {v : Value} {es : List DictEntry} {ks : List Str} (r : KeyStrs es ks) : KeyStrs (⟨h, .str k t, v⟩ :: es) (k :: ks)
theorem KeyStrs.find {es : List DictEntry} {ks : List Str} (r : KeyStrs es ks) (z : Str) : (es.find? fun e => e.key.isStr z).isSome = ks.contains z ∧ (es.any fun e => e.refKey) = false := by
  induction r with
  | nil => exact ⟨rfl, rfl⟩
  | @cons h k t v es ks r ih =>
    refine ⟨?_, ?_⟩
    · rw [List.find?_cons, List.contains_cons]
      have e : (Value.str k t).isStr z = (z == k) := by
        show (k == z) = (z == k)
        exact BEq.comm
      show (match (Value.str k t).isStr z with | true => some _ | false => _).isSome = _
      rw [e]
      cases z == k with
      | true => rfl
      | false => exact ih.1
    · rw [List.any_cons, ih.2]
      rfl
theorem noD_mk {w : World} {K : PySem.W.Frag} {a : Addr} {es : List DictEntry} {n : Nat} (l : K.lookup a = some ⟨.type "dict", none, .dict es.toArray n, #[]⟩) (kl : PySem.W.KeysLit w.params es) (sm : (a == sysModules) = false) (ks : KeyStrs es BAR := by exact .cons (.cons (.cons (.cons (.cons (.cons (.cons (.cons (.cons (.cons .nil)))))))))) : NoD w K a := by
  refine ⟨⟨es.toArray, n, l, kl, sm⟩, fun z => ?_⟩
  obtain ⟨h1, h2⟩ := ks.find z
  unfold PySem.W.nsIn
  rw [l]
  show ∃ r, (match es.find? fun e => e.key.isStr z with | some e => some (some e.val) | none => if (es.any fun e => e.refKey) = true then none else some none) = some r ∧ _
  cases q : es.find? fun e => e.key.isStr z with
  | some e =>
    rw [q] at h1
    exact ⟨some e.val, rfl, h1⟩
  | none =>
    rw [q] at h1
    rw [h2]
    exact ⟨none, rfl, h1⟩
end My

/-! ## Sets of texts -/
namespace My
open PySem PySem.Spec PyProof.Rows L2
theorem is_txt0 {P : Program} {w : World} (k : Str) (u : Tok) : (PySem.strKind P w).is k (.str k u) = true := by
  show Value.isStrOf k (.str k u) = true
  unfold Value.isStrOf
  exact beq_self_eq_true _
/-- the text of an entry of a set -/
def txtOf (e : Int × Value) : Str := match e.2 with
  | .str k _ => k
  | _ => Str.empty
/-- at a: a set whose members are the texts l, each once; it can be walked -/
structure TSet (P : Program) (w : World) (h : Heap) (a : Addr) (l : List Str) : Prop where
  ob : ∃ (o : Obj) (es : Array (Int × Value)) (ep : Nat) (t : SetTable), h.get? a = some o ∧ o.ExactSet ∧ o.data = .set es ep t ∧ ElemsOf (PySem.strKind P w) es.toList ∧ (es.toList.map txtOf).Perm l ∧
    es.size < scanBound ∧ t.fits es.size = true ∧ Ris t.place.toList ∧ (w.params.followText "set-order" = true ∨ t.led = true)
  nd : l.Nodup
section
variable {P : Program} {w : World} {h h' : Heap} {a : Addr} {l : List Str}
theorem TSet.at (R : TSet P w h a l) (k : ∀ o, h.get? a = some o → h'.get? a = some o) : TSet P w h' a l := by
  obtain ⟨⟨o, es, ep, t, ho, r⟩, nd⟩ := R
  exact ⟨⟨o, es, ep, t, k o ho, r⟩, nd⟩
theorem TSet.there (R : TSet P w h a l) : ∃ o, h.get? a = some o := by
  obtain ⟨⟨o, _, _, _, ho, _⟩, _⟩ := R
  exact ⟨o, ho⟩
theorem is_txt {k : Str} {e : Int × Value} (el : (∃ k, (PySem.strKind P w).is k e.2 = true ∧ e.1 = (PySem.strKind P w).hash k) ∧ e.2.scannable = true) : (PySem.strKind P w).is k e.2 = true ↔ txtOf e = k := by
  obtain ⟨⟨k2, h1, _⟩, _⟩ := el
  obtain ⟨t, e2⟩ := Value.isStrOf_shape h1
  have e3 : txtOf e = k2 := by unfold txtOf; rw [e2]
  rw [e3]
  constructor
  · intro z
    exact (PySem.strKind P w).inj _ _ _ h1 z
  · intro z
    rw [← z]
    exact h1
theorem mem_txt {es : List (Int × Value)} (el : ElemsOf (PySem.strKind P w) es) (k : Str) : k ∈ es.map txtOf ↔ ∃ e ∈ es, (PySem.strKind P w).is k e.2 = true := by
  rw [List.mem_map]
  exact ⟨fun ⟨e, he, z⟩ => ⟨e, he, (is_txt (el e he)).mpr z⟩, fun ⟨e, he, z⟩ => ⟨e, he, (is_txt (el e he)).mp z⟩⟩
variable {A : Around} {E : Value → Shared → Prop} {s : Shared}
set_option maxHeartbeats 400000 in
/-- the table grows, or stays -/
theorem tset_tail {g : Bool → Sem Unit} (hg : ∀ (b : Bool) (s₁ : Shared) (Q' : Unit → Shared → Prop), Q' () s₁ → wpAny (model P w) A (g b) Q' E s₁) {o : Obj} {es es1 : Array (Int × Value)} {ep : Nat} {t t2 : SetTable} {l1 : List Str} (ho : s.heap.get? a = some o) (ex : o.ExactSet) (hd : o.data = .set es ep t)
    (el : ElemsOf (PySem.strKind P w) es1.toList) (pm : (es1.toList.map txtOf).Perm l1) (nd : l1.Nodup) (few : es1.size < scanBound) (fit : t2.fits es1.size = true) (ri : Ris t2.place.toList) (le : w.params.followText "set-order" = true ∨ t2.led = true)
    {old : Bool} {R : Option Bool → Shared → Prop} (q : ∀ h', Heap.SameBut a s.heap h' → TSet P w h' a l1 → R (some true) { s with heap := h' }) :
    wpAny (model P w) A (do
        storeSet a es1 t2
        if (!old && t2.tooFull) = true then do
            g (relayAll t2 es1 (SetTable.grown es1.size)).2.2
            storeSet a (relayAll t2 es1 (SetTable.grown es1.size)).1 (relayAll t2 es1 (SetTable.grown es1.size)).2.1
            pure (some true)
          else pure (some true)) R E s := by
  have first := PpSet.storeB_at (es' := es1) (t' := t2) ho hd
  have same := Heap.SameBut.update s.heap a (Obj.putSet es1 t2)
  refine wpAny_bind (wpAny_storeSet_of ho hd ?_ (fits_of_scanBound few))
  split
  · have p3 := relayAll_perm t2 es1 (SetTable.grown es1.size)
    have f3 := relayAll_fits t2 es1 (SetTable.grown es1.size)
    have r3 := relayAll_ris t2 es1 (SetTable.grown es1.size)
    have l3 := relayAll_led t2 es1 (SetTable.grown es1.size)
    generalize relayAll t2 es1 (SetTable.grown es1.size) = Z at p3 f3 r3 l3 ⊢
    obtain ⟨es3, t3, gave⟩ := Z
    dsimp only at p3 f3 r3 l3 ⊢
    have n3 : es3.size = es1.size := by rw [← Array.length_toList, p3.length_eq, Array.length_toList]
    refine wpAny_bind (hg _ _ _ (wpAny_bind (wpAny_storeSet_of first rfl ?_ (fits_of_scanBound (by rw [n3]; exact few)))))
    refine wpAny_pure (q _ (same.trans (Heap.SameBut.update _ a _)) ⟨⟨_, es3, _, t3, PpSet.storeB_at first rfl, ex, rfl, fun e he => el e (p3.mem_iff.mp he), (p3.map txtOf).trans pm, by rw [n3]; exact few, f3, r3, le.imp id fun z => by rw [l3]; exact z⟩, nd⟩)
  · exact wpAny_pure (q _ same ⟨⟨_, es1, _, t2, first, ex, rfl, el, pm, few, fit, ri, le⟩, nd⟩)
set_option maxHeartbeats 400000 in
theorem tset_put {k : Str} {tk : Tok} {Q : Bool → Shared → Prop} (R : TSet P w s.heap a l) (room : l.length + 1 < scanBound)
    (q : ∀ h', Heap.SameBut a s.heap h' → TSet P w h' a (if k ∈ l then l else k :: l) → Q (!decide (k ∈ l)) { s with heap := h' }) :
    wpAny (model P w) A (setAddHashed a (.str k tk) ((PySem.strKind P w).hash k)) Q E s := by
  obtain ⟨⟨o, es, ep, t, ho, ex, hd, el, pm, few, fit, ri, le⟩, nd⟩ := R
  have key : (PySem.strKind P w).is k (.str k tk) = true := is_txt0 k tk
  have sc : (Value.str k tk).scannable = true := rfl
  have cnt : es.size = l.length := by
    have e := pm.length_eq
    rwa [List.length_map, Array.length_toList] at e
  unfold setAddHashed setAddHashedIn
  refine wpAny_holding (wpAny_bind (wpAny_setState_of ho hd fit ?_))
  dsimp only
  rw [byScan_of sc few el]
  simp only [↓reduceIte]
  unfold setAddByScan
  refine wpAny_bind (wpAny_bind (wpAny_rule (wpAny_bind (wpAny_setScan_of key ho hd fit el ?_))))
  cases fi : List.findIdx? (fun e => (PySem.strKind P w).is k e.2) es.toList with
  | some j =>
    dsimp only
    obtain ⟨hj, pj, _⟩ := List.findIdx?_eq_some_iff_getElem.mp fi
    have inl : k ∈ l := pm.mem_iff.mp ((mem_txt el k).mpr ⟨_, List.getElem_mem hj, pj⟩)
    refine wpAny_pure (wpAny_pure ?_)
    have z := q s.heap (Heap.SameBut.refl a s.heap) (by
      rw [if_pos inl]
      exact ⟨⟨o, es, ep, t, ho, ex, hd, el, pm, few, fit, ri, le⟩, nd⟩)
    rw [decide_eq_true inl] at z
    exact z
  | none =>
    dsimp only
    have out : k ∉ l := fun z => by
      obtain ⟨e, he, c⟩ := (mem_txt el k).mp (pm.mem_iff.mpr z)
      have c2 := List.findIdx?_eq_none_iff.mp fi e he
      rw [c] at c2
      cases c2
    have gave : ∀ (b : Bool) {s₁ : Shared} {Q' : Unit → Shared → Prop}, Q' () s₁ → wpAny (model P w) A (match b with | true => rule "set.scan.the-table-gave-way" | false => pure ()) Q' E s₁ := fun b s₁ Q' z => by
      cases b
      · exact wpAny_pure z
      · exact wpAny_rule z
    have p1 := layNew_perm t es ((PySem.strKind P w).hash k) (.str k tk)
    have f1 := layNew_fits t es ((PySem.strKind P w).hash k) (.str k tk)
    have r1 := layNew_ris t es ((PySem.strKind P w).hash k) (.str k tk) ri
    have l1 := layNew_led t es ((PySem.strKind P w).hash k) (.str k tk)
    generalize layNew t es ((PySem.strKind P w).hash k) (.str k tk) = Z at p1 f1 r1 l1 ⊢
    obtain ⟨es1, t1, old, way⟩ := Z
    dsimp only at p1 f1 r1 l1 ⊢
    rw [Array.toList_push] at p1
    have pc := p1.trans (List.perm_append_singleton _ _)
    have el1 : ElemsOf (PySem.strKind P w) es1.toList := fun e he => by
      rcases List.mem_cons.mp (pc.mem_iff.mp he) with z | z
      · rw [z]
        exact ⟨⟨k, key, rfl⟩, rfl⟩
      · exact el e z
    have pm1 : (es1.toList.map txtOf).Perm (k :: l) := (pc.map txtOf).trans (pm.cons k)
    have n1 : es1.size = l.length + 1 := by
      have e := pm1.length_eq
      rwa [List.length_map, Array.length_toList, List.length_cons] at e
    have few1 : es1.size < scanBound := by rw [n1]; exact room
    have le1 : w.params.followText "set-order" = true ∨ t1.led = true := le.imp id fun z => by rw [l1]; exact z
    have nd1 : (k :: l).Nodup := List.nodup_cons.mpr ⟨out, nd⟩
    have fin : ∀ h', Heap.SameBut a s.heap h' → TSet P w h' a (k :: l) → Q true { s with heap := h' } := fun h' sb r => by
      have z := q h' sb (by rw [if_neg out]; exact r)
      rw [decide_eq_false out] at z
      exact z
    refine wpAny_bind (gave _ ?_)
    split
    · refine wpAny_bind ?_
      rw [hashByValue_scannable 8 sc]
      refine wpAny_pure ?_
      refine tset_tail (fun b s₁ Q' z => by cases b <;> first | exact wpAny_pure z | exact wpAny_rule z) ho ex hd el1 pm1 nd1 few1 ?_ ?_ ?_ ?_
      · first | (split <;> first | exact f1 | exact SetTable.fits_plain_off f1) | exact f1
      · first | (split <;> exact r1) | exact r1
      · first | (split <;> exact le1) | exact le1
      · intro h' sb r
        dsimp only
        exact wpAny_pure (fin h' sb r)
    · refine wpAny_bind (wpAny_pure ?_)
      simp only [↓reduceIte]
      refine tset_tail (fun b s₁ Q' z => by cases b <;> first | exact wpAny_pure z | exact wpAny_rule z) ho ex hd el1 pm1 nd1 few1 f1 r1 le1 ?_
      intro h' sb r
      dsimp only
      exact wpAny_pure (fin h' sb r)
set_option maxHeartbeats 400000 in
/-- found.add(text) -/
theorem tset_add {k : Str} {tk : Tok} {Q : Value → Shared → Prop} (R : TSet P w s.heap a l) (room : l.length + 1 < scanBound)
    (q : ∀ h', Heap.SameBut a s.heap h' → TSet P w h' a (if k ∈ l then l else k :: l) → Q .none { s with heap := h', toks := s.toks + 1 }) : wpAny (model P w) A (call (.builtin "set.add") [.ref a, .str k tk]) Q E s := by
  have ty : s.TypeIs (.ref a) "set" := by
    obtain ⟨⟨o, es, ep, t, ho, ex, _⟩, _⟩ := R
    exact ⟨o, ho, ex.1⟩
  refine wpAny_call_entry F.slot_set_add ty F.entry_set_add ?_ (F.args_set_add_2 _ _)
  unfold Builtin.«set.add» Builtin.Frozenset.oneOther
  simp only [List.isEmpty_nil, bind_assoc]
  unfold Builtin.Frozenset.addrOf setAdd
  refine wpAny_bind (wpAny_pure ?_)
  try dsimp only
  refine wpAny_bind (wpAny_pure ?_)
  try dsimp only
  refine wpAny_bind (wpAny_holding (wpAny_bind ((PySem.strKind P w).pyHash (is_txt0 k tk) ?_)))
  refine tset_put (s := { s with toks := s.toks + 1 }) R room fun h' sb r => ?_
  exact wpAny_pure ⟨_, rfl, q h' sb r⟩
/-- an empty one -/
theorem tset_new {h : Heap} : TSet P w (h.push { cls := .type "set", dict := none, data := .set #[] 0 (.fresh 0 0 (!w.params.followText "set-order")) }) h.objs.size [] := by
  refine ⟨⟨_, #[], 0, _, Heap.get?_push_size _ rfl, ⟨rfl, rfl, rfl⟩, rfl, (fun e he => by simp at he), .refl _, by decide, by rfl, List.Pairwise.nil, ?_⟩, List.nodup_nil⟩
  show _ ∨ (!w.params.followText "set-order") = true
  cases w.params.followText "set-order"
  · exact .inr rfl
  · exact .inl rfl
def tx : Value → Str
  | .str k _ => k
  | _ => Str.empty
theorem strs_are : ∀ vs : List Value, (∀ v ∈ vs, ∃ k t, v = .str k t) → StrsAre vs (vs.map tx)
  | [], _ => .nil
  | v :: vs, h => by
    obtain ⟨k, t, e⟩ := h v List.mem_cons_self
    have r := strs_are vs fun u hu => h u (List.mem_cons_of_mem _ hu)
    subst e
    exact .cons k t r
set_option maxHeartbeats 400000 in
theorem tset_sorted {Q : Value → Shared → Prop} (R : TSet P w s.heap a l) (hh : A.handled = none) (few : l.length < 64)
    (q : ∀ (s' : Shared) (p : Addr) (out : Array Value) (c : Nat) (ys : List Str), (∀ b o, s.heap.get? b = some o → s'.heap.get? b = some o) → s'.gens = s.gens → s'.os = s.os → s.heap.objs.size ≤ p → s'.heap.get? p = some (seqObj "list" out c) → StrsAre out.toList ys → ys.Perm l → sortedS ys = true → Q (.ref p) s') :
    wpAny (model P w) A (call (.builtin "sorted") [.ref a]) Q E s := by
  obtain ⟨⟨o, es, ep, t, ho, ex, hd, el, pm, fw, fit, ri, le⟩, nd⟩ := R
  refine Calls.call_function_entry kind_sorted plain_sorted entry_sorted (args_sorted1 _) ?_
  unfold Builtin.«sorted»
  refine wpAny_bind (m := checkCount "sorted" 1 1 _) (wpAny_pure (wpAny_bind (collect_set (A := A.in1) hh ⟨o, ho, ex.1, hd⟩ fit fw ri le fun s1 vs k1 sz g1 o1 p1 => ?_)))
  have e1 : es.toList.map txtOf = (es.toList.map (·.2)).map tx := by rw [List.map_map]; rfl
  have p2 : (vs.map tx).Perm l := (p1.map tx).trans (e1 ▸ pm)
  have all : StrsAre vs (vs.map tx) := strs_are vs fun v hv => by
    obtain ⟨e, he, z⟩ := List.mem_map.mp (p1.mem_iff.mp hv)
    obtain ⟨⟨k, i1, _⟩, _⟩ := el e he
    obtain ⟨tk, i2⟩ := Value.isStrOf_shape i1
    exact ⟨k, tk, by rw [← z]; exact i2⟩
  have n1 : vs.length = l.length := by
    have z := p2.length_eq
    rwa [List.length_map] at z
  refine wpAny_bind (wpAny_newList ?_ (by rw [n1, sizeLine_eq]; omega))
  have hoL : (s1.heap.push (seqObj "list" vs.toArray 0)).get? s1.heap.objs.size = some (seqObj "list" vs.toArray 0) := Heap.get?_push_size _ rfl
  refine wpAny_bind (wpAny_holding (wpAny_call_entry PyProof.Rows.slot_list_sort ⟨_, hoL, rfl⟩ PyProof.Rows.entry_list_sort
    (list_sort_treeK strKind_oneLt hoL all.keysOf (fun v₁ v₂ rest e => keyKind_strs (by rw [← e]; exact all)) (by rw [n1]; exact few) fun st' hp hs => ?_) (PyProof.Rows.args_list_sort _)))
  obtain ⟨ys, y1, y2, y3⟩ := sorted_out_str all hp hs
  obtain ⟨c, hc⟩ := PyProof.Rows.sortedHeap_at (vs := vs) (out := (arrOf st').map (·.2)) hoL
  refine ⟨_, rfl, wpAny_pure ⟨_, rfl, q _ s1.heap.objs.size _ c ys (fun b u e => ?_) g1 o1 sz hc y1 (y2.trans p2) y3⟩⟩
  have z := k1 b u e
  have lt := Heap.lt_size z
  show (PyProof.Rows.sortedHeap (s1.heap.push (seqObj "list" vs.toArray 0)) s1.heap.objs.size vs _).get? b = some u
  rw [PyProof.Rows.sortedHeap_old (Nat.ne_of_lt lt) (by rw [size_push']; exact Nat.lt_succ_of_lt lt)]
  exact Heap.get?_push_of_some _ z
/-- a set of texts, tracked -/
def TSetO (P : Program) (w : World) (a : Addr) (l : List Str) : HO := .ext fun h => TSet P w h a l
theorem tsetO_ok {H : Hp} {h : Heap} (R : TSet P w h a l) : ObjOk P w H h a (TSetO P w a l) := ⟨R, R.there, fun _ _ z k => TSet.at z k⟩
end
section
variable {X : Cx}
theorem tset_get {pins : List (Addr × Obj)} {σ : L2.St} {H : Hp} {s : Shared} {a : Addr} {l : List Str} (I : Inv X pins σ H s) (ha : H a = some (TSetO X.prog X.w a l)) : TSet X.prog X.w s.heap a l := (I.hok a _ ha).1
def rSortedTS (P : Program) (w : World) : List V → Hp → VK → Prop := fun xs H Q => ∃ (a : Addr) (l : List Str), xs = [.ref a] ∧ H a = some (TSetO P w a l) ∧ l.length < 64 ∧
  ∀ (ys : List Str) (p : Addr), ys.Perm l → l.Nodup → sortedS ys = true → H p = none → Q (.ref p) (upd H p (.lst (ys.map V.str)))
set_option maxHeartbeats 400000 in
/-- sorted(a set of texts) -/
theorem cr_sortedTS (hc : X.calm = true) : CallR X (.builtin "sorted") (rSortedTS X.prog X.w) := by
  intro pins s σ H xs us Q I r h
  obtain ⟨a, l, rfl, ha, few, q⟩ := h
  have R := tset_get I ha
  rw [Vals.ref1 r]
  refine tset_sorted R (I.ok.hd hc) few fun s' p out c ys keep gens os hp hp2 st pm so => ?_
  have fr : H p = none := I.hok.fresh hp
  have ln : (ys.map V.str).length ≤ sizeLine := by rw [List.length_map, pm.length_eq, sizeLine_eq]; omega
  have J : Inv X pins σ (upd H p (.lst (ys.map V.str))) { s with heap := s'.heap, gens := s'.gens, drawn := s'.drawn, toks := s'.toks } :=
    I.call (ch := []) (Un.laid keep hp fr) (I.hok.laid keep hp ⟨ln, out.toList, c, vals_of_strs st, hp2⟩) (by rw [gens]; exact I.bare) (fun _ z => nomatch z)
  have e : s' = { s with heap := s'.heap, gens := s'.gens, drawn := s'.drawn, toks := s'.toks } := by
    cases s'
    cases s
    cases os
    rfl
  rw [e]
  exact ⟨.ref p, _, J, rfl, q ys p pm R.nd so fr⟩
end
end My

/-! ## set(xs) of texts, however many; len of it -/
namespace My
open PySem PySem.Spec PyProof.Rows L2
section
variable {P : Program} {w : World} {A : Around} {s : Shared}
/-- the loop of set.update over texts: l the members so far -/
theorem texts_loop {R : Result → Shared → Prop} {I S : Addr} {fp wr : List Addr} {G : Array GenState → Array GenState → Prop} {n : Nat} {Pv : Nat → Value → Prop} {St : Nat → Shared → Prop} {xs : List Str} (W : WalksS P w A.in1 I fp wr G n Pv St) (out : S ∉ fp) (ln : xs.length = n) (few : n ≤ 1000)
    (are : ∀ i v, Pv i v → ∃ k t, xs[i]? = some k ∧ v = .str k t) : ∀ (m i : Nat) (s : Shared) (l : List Str), m + i = n → St i s → TSet P w s.heap S l → l.length ≤ i → (∀ y, y ∈ l ↔ y ∈ xs.take i) →
      (∀ (s' : Shared) (l' : List Str), Moved (S :: wr) G s s' → TSet P w s'.heap S l' → l'.length ≤ n → (∀ y, y ∈ l' ↔ y ∈ xs) → R (.ok (.ret .none)) s') →
      codeAny (model P w) A (.builtin "set.update.loop" ⟨[.ref S, .ref I], []⟩) R s := by
  have outw : S ∉ wr := fun z => out (W.sub _ z)
  have into : ∀ b ∈ wr, b ∈ S :: wr := fun b hb => List.mem_cons_of_mem _ hb
  intro m
  induction m with
  | zero =>
    intro i s l e st R0 few_ mem q
    obtain rfl : i = n := by omega
    refine codeAny_builtin PyProof.Rows.F.entry_set_update_loop ?_
    rw [Around.under_plainId PyProof.Rows.F.plain_set_update_loop _]
    refine wpAny_bind (m := pyNext (.ref I)) (W.done s _ _ st fun s1 mv => ?_)
    refine wpAny_pure (q s1 l (mv.mono into) (R0.at fun o e => mv.heap S o outw e) few_ fun y => ?_)
    rw [mem, List.take_of_length_le (Nat.le_of_eq ln)]
  | succ m ih =>
    intro i s l e st R0 few_ mem q
    have lt : i < n := by omega
    refine codeAny_builtin PyProof.Rows.F.entry_set_update_loop ?_
    rw [Around.under_plainId PyProof.Rows.F.plain_set_update_loop _]
    refine wpAny_bind (m := pyNext (.ref I)) (W.item i s _ _ lt st fun v s1 hv st1 mv => ?_)
    obtain ⟨k, t, hk, rfl⟩ := are i v hv
    have R1 : TSet P w s1.heap S l := R0.at fun o e => mv.heap S o outw e
    refine wpAny_bind (m := holding [Value.str k t] (setAdd S (.str k t))) (wpAny_holding ?_)
    unfold setAdd
    refine wpAny_holding (wpAny_bind ((PySem.strKind P w).pyHash (is_txt0 k t) ?_))
    refine tset_put (s := { s1 with toks := s1.toks + 1 }) R1 (by show l.length + 1 < 4096; omega) fun h2 sb R2 => ?_
    have apart : ∀ b, b ∈ fp → b ≠ S := fun b hb z => out (z ▸ hb)
    refine wpAny_pure ⟨plainId_quiet PyProof.Rows.F.plain_set_update_loop _, ih (i + 1) _ _ (by omega) (W.frame _ s1 _ _ st1 (Nat.le_succ _) fun b hb o e => (sb.2 b (apart b hb)).trans e) R2 ?_ ?_ fun s3 l3 mv3 => q s3 l3 (Moved.trans W.gtrans ((mv.mono into).then_heap (Nat.le_succ _) fun b o nb e => (sb.2 b fun z => nb (z ▸ List.mem_cons_self)).trans e) mv3)⟩
    · split
      · omega
      · simp only [List.length_cons]
        omega
    · intro y
      have tk : y ∈ xs.take (i + 1) ↔ y ∈ xs.take i ∨ y = k := by
        rw [List.take_add_one, hk, List.mem_append]
        simp
      rw [tk, ← mem]
      split
      · rename_i inl
        exact ⟨.inl, fun z => z.elim id fun e => e ▸ inl⟩
      · rw [List.mem_cons]
        exact Or.comm
/-- the empty set as it is made; an iterator over what stands at l -/
abbrev eSet (w : World) : Obj := { cls := .type "set", dict := none, data := .set #[] 0 (.fresh 0 0 (!w.params.followText "set-order")) }
abbrev eIter (T : String) (l : Addr) : Obj := { cls := .type T, data := .fields #[.ref l, .int 0 0] }
/-- what is asked of a list or a tuple at l -/
structure Seqs (P : Program) (w : World) (h : Heap) (l : Addr) (T it : String) (items : Array Value) : Prop where
  ob : ∃ (d : Option Addr) (n : Nat) (sl : Array (Option Value)), h.get? l = some { cls := .type T, dict := d, data := .seq items n, slots := sl }
  n1 : isSubtype (.type T) (.type "set") = pure false
  n2 : isSubtype (.type T) (.type "frozenset") = pure false
  n3 : (Value.type T == Value.type "dict") = false
  start : ∀ (A' : Around) (s1 : Shared) (Q : Value → Shared → Prop) (E : Value → Shared → Prop), (∃ (d : Option Addr) (n : Nat) (sl : Array (Option Value)), s1.heap.get? l = some { cls := .type T, dict := d, data := .seq items n, slots := sl }) →
    Q (.ref s1.heap.objs.size) { s1 with heap := s1.heap.push (eIter it l) } → wpAny (model P w) A' (pyIter (.ref l)) Q E s1
  walk : ∀ (A' : Around) (I : Addr), A'.handled = none → l ≠ I → ∃ St : Nat → Heap → Prop, Walks P w A' I [I, l] [I] items.size (fun i v => items[i]? = some v) St ∧
    ∀ h2 : Heap, h2.get? I = some (eIter it l) → (∃ (d : Option Addr) (n : Nat) (sl : Array (Option Value)), h2.get? l = some { cls := .type T, dict := d, data := .seq items n, slots := sl }) → St 0 h2
set_option maxHeartbeats 3200000 in
theorem set_of {l : Addr} {T it : String} {items : Array Value} {xs : List Str} {Q : Value → Shared → Prop} {E : Value → Shared → Prop} (hh : A.handled = none) (sq : Seqs P w s.heap l T it items) (hi : StrsAre items.toList xs) (few : xs.length ≤ 1000)
    (q : ∀ (h' : Heap) (tk : Nat) (m : List Str), TSet P w h' s.heap.objs.size m → m.length ≤ xs.length → (∀ y, y ∈ m ↔ y ∈ xs) → (∀ b o, s.heap.get? b = some o → h'.get? b = some o) → Q (.ref s.heap.objs.size) { s with heap := h', toks := tk }) :
    wpAny (model P w) A (call (.type "set") [.ref l]) Q E s := by
  obtain ⟨⟨od, nl, osl, hol⟩, hs1, hs2, hs3, start, walk⟩ := sq
  have size : items.size = xs.length := by rw [← Array.length_toList]; exact StrsAre.len_eq hi
  obtain ⟨c, tl, hmro⟩ := PySem.F.called_set.mro
  have made := PySem.F.called_set.made
  have subs := PySem.F.called_set.sub
  refine wpAny_call (codeAny_of_tree ?_)
  show wpAny _ _ (callAny (.type "set") ⟨[.ref l], []⟩) _ _ _
  refine wpAny_pure ⟨Code.quiet_builtin _ (by decide +kernel), codeAny_builtin PySem.F.entry_type_call ?_⟩
  rw [Around.under_plain (weight_type_call_type "set" [.ref l] []) rfl]
  have a1 := PySem.F.called_set.notType
  have a2 := PySem.F.called_set.canCreate
  have a3 := PySem.F.typeCall_set_1 (.ref l)
  repeat (any_goals (first | assumption | wp_step))
  let Done : Value → Shared → Prop := fun r s2 => r = .none ∧ ∃ (h' : Heap) (tk : Nat) (m : List Str), s2 = { s with heap := h', toks := tk } ∧ TSet P w h' s.heap.objs.size m ∧ m.length ≤ xs.length ∧ (∀ y, y ∈ m ↔ y ∈ xs) ∧ ∀ b o, s.heap.get? b = some o → h'.get? b = some o
  refine codeAny_mono (code_set_led1 (.ref l) (E := E) (Q₁ := fun obj s1 => obj = .ref s.heap.objs.size ∧ s1 = { s with heap := s.heap.push (eSet w) }) ⟨rfl, rfl⟩) fun r s1 hr => ?_
  match r, hr with
  | .error e, hr => exact hr
  | .ok .next, hr => exact False.elim hr
  | .ok .brk, hr => exact False.elim hr
  | .ok .cont, hr => exact False.elim hr
  | .ok (.ret obj), hr =>
    obtain ⟨rfl, rfl⟩ := hr
    have atS : (s.heap.push (eSet w)).get? s.heap.objs.size = some (eSet w) := Heap.get?_push_size _ rfl
    have tyS : Shared.TypeIs { s with heap := s.heap.push (eSet w) } (.ref s.heap.objs.size) "set" := ⟨_, atS, rfl⟩
    have b1 := PySem.F.called_set.init.lookup
    have b2 := PySem.F.called_set.init.bind (.ref s.heap.objs.size)
    repeat (any_goals (first | assumption | wp_step))
    refine codeAny_mono (codeAny_call_builtin (R := wants Done E) PySem.F.called_set.init.plain PySem.F.entry_set_init (check_set_init_1 tyS ?_)) fun r2 s2 hr2 => ?_
    · have hol' : (s.heap.push (eSet w)).get? l = some { cls := .type T, dict := od, data := .seq items nl, slots := osl } := Heap.get?_push_of_some _ hol
      unfold Builtin.«set.__init__» noKeywords Builtin.Frozenset.updateFrom
      generalize iters : pyIter = PI
      wp_walk
      subst iters
      refine start _ _ _ _ ⟨_, _, _, hol'⟩ ?_
      refine wpAny_bind (wpAny_runValue ?_)
      have lS : l < s.heap.objs.size := Heap.lt_size hol
      have sz1 : (s.heap.push (eSet w)).objs.size = s.heap.objs.size + 1 := Heap.size_push ..
      have lI : l ≠ (s.heap.push (eSet w)).objs.size := by rw [sz1]; exact Nat.ne_of_lt (Nat.lt_succ_of_lt lS)
      have free : s.heap.objs.size ∉ [(s.heap.push (eSet w)).objs.size, l] := by
        rw [sz1]
        intro z
        rcases List.mem_cons.mp z with z | z
        · exact Nat.ne_of_lt (Nat.lt_succ_self _) z
        · exact Nat.ne_of_gt lS (List.mem_singleton.mp z)
      obtain ⟨St, W, st0⟩ := walk A.in1.in1.in1 (s.heap.push (eSet w)).objs.size (by simp [hh]) lI
      have are : ∀ (i : Nat) (v : Value), items[i]? = some v → ∃ k t, xs[i]? = some k ∧ v = .str k t := fun i v hv => by
        obtain ⟨t, e⟩ := SS.strs_at hi i v (by rw [Array.getElem?_toList]; exact hv)
        have il : i < xs.length := by rw [← size]; exact (Array.getElem?_eq_some_iff.mp hv).1
        refine ⟨xs[i], t, List.getElem?_eq_getElem il, ?_⟩
        rw [e, List.getD_eq_getElem?_getD, List.getElem?_eq_getElem il]
        rfl
      have hol2 : ((s.heap.push (eSet w)).push (eIter it l)).get? l = some { cls := .type T, dict := od, data := .seq items nl, slots := osl } := Heap.get?_push_of_some _ hol'
      refine texts_loop W.toS free size.symm (by omega) are items.size 0 _ [] (by omega) (st0 _ (Heap.get?_push_size _ rfl) ⟨_, _, _, hol2⟩) ((tset_new (h := s.heap)).at fun o e => Heap.get?_push_of_some _ e) (Nat.le_refl _) (fun y => by simp) ?_
      rintro ⟨h', g', d', tk', os'⟩ m mv R few' mem
      obtain rfl : g' = s.gens := mv.gens
      obtain rfl : d' = s.drawn := mv.drawn
      obtain rfl : os' = s.os := mv.os
      refine wpAny_pure (wpAny_pure ⟨rfl, h', tk', m, rfl, R, by omega, mem, fun b o e => ?_⟩)
      have bs := Heap.lt_size e
      refine mv.heap b o (fun z => ?_) (Heap.get?_push_of_some _ (Heap.get?_push_of_some _ e))
      rcases List.mem_cons.mp z with z | z
      · exact Nat.ne_of_lt bs z
      · rw [List.mem_singleton.mp z, sz1] at bs
        exact absurd bs (Nat.not_lt.mpr (Nat.le_succ _))
    · match r2, hr2 with
      | .error e, hr2 => exact hr2
      | .ok .next, hr2 => exact False.elim hr2
      | .ok .brk, hr2 => exact False.elim hr2
      | .ok .cont, hr2 => exact False.elim hr2
      | .ok (.ret r3), hr2 =>
        obtain ⟨rfl, h', tk, m, rfl, R, few', mem, keep⟩ := hr2
        repeat (any_goals (first | assumption | wp_step))
        exact q h' tk m R few' mem keep
end
end My

/-! ## What is a sequence: any values -/
namespace My
open PySem PySem.Spec PyProof.Rows L2
abbrev s_is_sequence : Stmt := top 4
abbrev N_is_sequence : List Str := ["value"]
abbrev P_is_sequence : List Str := ["value"]
theorem sc_is_sequence : FnScope N_is_sequence P_is_sequence (defScope s_is_sequence) := ⟨rfl, rfl, rfl, by decide +kernel, rfl, by decide +kernel, by decide +kernel⟩
structure TxSeq0 (w : World) (K : PySem.W.Frag) (mg : Str → Option Value) extends TxCheck w K mg where
  z_list : mg "list" = none
  z_tuple : mg "tuple" = none
  f_is_sequence : Addr
  d_is_sequence : FuncData
  F_is_sequence : Fun K "is_sequence" "is_sequence" s_is_sequence f_is_sequence d_is_sequence
  m_is_sequence : mg "is_sequence" = some (.ref f_is_sequence)
  b_is_sequence : Binds K d_is_sequence P_is_sequence []
/-- what isinstance(v, (list, tuple)) answers -/
def SeqV (K : PySem.W.Frag) (H : Hp) (v : V) (b : Bool) : Prop := ∃ t, TyX K H v t ∧ PySem.W.kitAny K t [.type "list", .type "tuple"] = some b
def spIsSeq (K : PySem.W.Frag) : Sp := fun vs H Q _ => ∃ (v : V) (b : Bool), vs = [v] ∧ SeqV K H v b ∧ ∀ H', Same H H' → Q (.bl b) H'
theorem tyx_keep {K : PySem.W.Frag} {H H' : Hp} (e : Same H H') {v : V} {t : Value} (h : TyX K H v t) : TyX K H' v t := by
  cases h with
  | base b =>
    cases b with
    | non => exact .base .non
    | bl x => exact .base (.bl x)
    | int i => exact .base (.int i)
    | str x => exact .base (.str x)
    | flt x => exact .base (.flt x)
    | lst h => exact .base (.lst (e _ _ h))
    | frz h => exact .base (.frz (e _ _ h))
    | tup h => exact .base (.tup (e _ _ h))
    | dK h => exact .base (.dK (e _ _ h))
    | dT h => exact .base (.dT (e _ _ h))
    | ins h c1 c2 c3 c4 c5 => exact .base (.ins (e _ _ h) c1 c2 c3 c4 c5)
  | byt b => exact .byt b
  | set h => exact .set (e _ _ h)
  | kList h c => exact .kList h c
  | kTuple h c => exact .kTuple h c
  | kDict h c => exact .kDict h c
  | fTuple h => exact .fTuple (e _ _ h)
  | fDict h => exact .fDict (e _ _ h)
theorem AnyV.same {K : PySem.W.Frag} {H H' : Hp} {v : V} (h : AnyV K H v) (e : Same H H') : AnyV K H' v := by
  cases h with
  | str x hx => exact .str x hx
  | oth n ty k => exact .oth n (tyx_keep e ty) k
theorem SeqV.same {K : PySem.W.Frag} {H H' : Hp} {v : V} {b : Bool} (h : SeqV K H v b) (e : Same H H') : SeqV K H' v b := by
  obtain ⟨t, ty, k⟩ := h
  exact ⟨t, tyx_keep e ty, k⟩
theorem kit_lt {K : PySem.W.Frag} : PySem.W.kitAny K (.type "list") [.type "list", .type "tuple"] = some true := kitAny_cons (b := true) (kit_ty (show kitB "list" "list" = some true by decide +kernel)) (fun z => nomatch z) (fun _ => rfl)
theorem kit_tt {K : PySem.W.Frag} : PySem.W.kitAny K (.type "tuple") [.type "list", .type "tuple"] = some true :=
  kitAny_cons (b := false) (kit_ty (show kitB "tuple" "list" = some false by decide +kernel)) (fun _ => kitAny_cons (b := true) (kit_ty (show kitB "tuple" "tuple" = some true by decide +kernel)) (fun z => nomatch z) (fun _ => rfl)) (fun z => nomatch z)
theorem SqA.seqV {K : PySem.W.Frag} {H : Hp} {a : Addr} {xs : List V} (h : SqA K H a xs) : SeqV K H (.ref a) true := by
  rcases h with h | h
  · exact ⟨_, tyL h, kit_lt⟩
  · exact ⟨_, tyT h, kit_tt⟩
/-- all but what stands at p stays -/
def Kp (p : Addr) (H H' : Hp) : Prop := ∀ b u, b ≠ p → H b = some u → H' b = some u
theorem Kp.refl {p : Addr} {H : Hp} : Kp p H H := fun _ _ _ e => e
theorem Kp.same {p : Addr} {H H1 H2 : Hp} (k : Kp p H H1) (e : Same H1 H2) : Kp p H H2 := fun b u n z => e _ _ (k b u n z)
theorem Kp.put {p : Addr} {H H1 : Hp} (k : Kp p H H1) (o : HO) : Kp p H (upd H1 p o) := fun b u n z => by rw [upd_ne n]; exact k b u n z
theorem Kp.trans {p : Addr} {H H1 H2 : Hp} (x : Kp p H H1) (y : Kp p H1 H2) : Kp p H H2 := fun b u n z => y b u n (x b u n z)
theorem ins_ne {p b : Addr} {H : Hp} {C dx : Addr} {fs : List (Str × V)} {o : HO} (hp : H p = some (.ins C dx fs)) (hb : H b = some o) (n : ∀ C dx fs, o ≠ .ins C dx fs) : b ≠ p := fun e => by
  rw [e, hp] at hb
  exact n _ _ _ (Option.some.inj hb).symm
theorem SqA.kp {K : PySem.W.Frag} {p a : Addr} {H H' : Hp} {C dx : Addr} {fs : List (Str × V)} {xs : List V} (h : SqA K H a xs) (hp : H p = some (.ins C dx fs)) (k : Kp p H H') : SqA K H' a xs := by
  rcases h with ((h | ⟨o, h⟩) | h) | ((h | ⟨o, h⟩) | h)
  · exact .inl (.inl (.inl (k _ _ (ins_ne hp h (fun _ _ _ z => by cases z)) h)))
  · exact .inl (.inl (.inr ⟨o, k _ _ (ins_ne hp h (fun _ _ _ z => by cases z)) h⟩))
  · exact .inl (.inr h)
  · exact .inr (.inl (.inl (k _ _ (ins_ne hp h (fun _ _ _ z => by cases z)) h)))
  · exact .inr (.inl (.inr ⟨o, k _ _ (ins_ne hp h (fun _ _ _ z => by cases z)) h⟩))
  · exact .inr (.inr h)
theorem sqT_kp {K : PySem.W.Frag} {p a : Addr} {H H' : Hp} {C dx : Addr} {fs : List (Str × V)} {xs : List V} (h : SqT K H a xs) (hp : H p = some (.ins C dx fs)) (k : Kp p H H') : SqT K H' a xs := by
  rcases h with (h | ⟨o, h⟩) | h
  · exact .inl (.inl (k _ _ (ins_ne hp h (fun _ _ _ z => by cases z)) h))
  · exact .inl (.inr ⟨o, k _ _ (ins_ne hp h (fun _ _ _ z => by cases z)) h⟩)
  · exact .inr h
theorem tuple_of {K : PySem.W.Frag} {H : Hp} {a : Addr} {xs : List V} {Q : VK} (h : SqA K H a xs) (q : ∀ t H', Same H H' → SqT K H' t xs → Q (.ref t) H') : rTupO K [.ref a] H Q := by
  rcases h with h | h
  · exact ⟨a, xs, rfl, .inl ⟨h, fun l hl => q l _ (same_upd hl _) (SqT.of upd_same)⟩⟩
  · exact ⟨a, xs, rfl, .inr ⟨h, q a H (Same.refl H) h⟩⟩
section
variable {P : Program} {w : World} {K : PySem.W.Frag} {mg : Str → Option Value} {base : Heap}
theorem ok_is_sequence (T : TxSeq0 w K mg) : FnOk P w K mg base CX0 1 T.f_is_sequence T.d_is_sequence P_is_sequence (spIsSeq K) := by
  refine T.F_is_sequence.ok sc_is_sequence (fun vs H Q E h => ?_) (fun cdv A outer s H vs Q E hr h => ?_)
  · obtain ⟨v, b, rfl, _⟩ := h
    rfl
  obtain ⟨v, b, rfl, hS, q⟩ := h
  refine ⟨_, (pss_one (ps_ret (pe_callB (call_isiTV K) (by rfl) T.z_isinstance (by decide +kernel) (pa_cons (pv 0) (pa_cons (pe_tup (pa_cons (pe_bltn (v := .ty "list") (by rfl) T.z_list (by decide +kernel) rfl) (pa_cons (pe_bltn (v := .ty "tuple") (by rfl) T.z_tuple (by decide +kernel) rfl) pa_nil))) pa_nil))))), ?_⟩
  refine ⟨_, rfl, by show 2 ≤ sizeLine; decide, fun tp htp => ?_⟩
  have y := same_upd htp (.tup [.ty "list", .ty "tuple"])
  obtain ⟨t, ty, k⟩ := hS.same y
  exact ⟨v, tp, _, t, _, b, rfl, upd_same, .cons (.ty _) (.cons (.ty _) .nil), ty, k, q _ y⟩
end
end My

/-! ## isinstance of a caught error that has a dict of its own -/
namespace PySem.W
open PySem PySem.Spec PySem.Calls PyProof.Rows
section
variable {prog : Program} {w : World} {A : Around} {E : Value → Shared → Prop} {s : Shared} {K : Frag} {x D : Addr} {ox dd : Obj}
theorem my_classD {Q : Option Value → Shared → Prop} (c1 : findIn K (.ref D) "__getattribute__" = some (some (.builtin "BaseException.__getattribute__"))) (c2 : findIn K (.ref D) "__getattr__" = some none)
    (c3 : subIn K (.ref D) (.type "BaseException") = some true) (c4 : hasDictIn K D = true) (c5 : findIn K (.ref D) "__class__" = some (some (.builtin "object.__class__")))
    (c6 : specialIn K (.builtin "object.__class__") "__get__" = some (some (.builtin "getset_descriptor.__get__"))) (c7 : takesIn K (.builtin "object.__class__") = some true) (c8 : mroIn K D (.type "object") = some true)
    (Y : K.In s.heap) (J : InstAt s.heap x ox D (some dd)) (q : Q (some (.ref D)) { s with toks := s.toks + 1 }) : wpAny (model prog w) A (getAttr? (.ref x) "__class__") Q E s := by
  have fo : findObj K D (some dd) "__class__" = some (.bind (.builtin "getset_descriptor.__get__") (.builtin "object.__class__")) := findObj_data (by obtain ⟨cd, e, _⟩ := any_some c4; rw [e]; rfl) c5 c6 c7
  obtain ⟨hh, gg, dr, tt, oo⟩ := s
  have M0 := J.type (M := model prog w); have M1 := looks_findIn (M := model prog w) Y c1; have M2 := looks_findIn (M := model prog w) Y c2; have M3 := looks_find (M := model prog w) Y J fo
  have isb : Looks (model prog w) hh (isInstance (.ref x) (.type "BaseException")) true := M0.andThen (looks_subIn Y c3)
  have n2 : (Value.builtin "BaseException.__getattribute__" == Value.builtin "object.__getattribute__") = false := by decide +kernel
  have n1 : (onTheHeap (Value.ref D) && Value.builtin "BaseException.__getattribute__" == Value.builtin "object.__getattribute__") = false := by rw [n2]; rfl
  unfold getAttr? getAttrBy? getAttrBy; refine wpAny_bind (wpAny_mkText (wpAny_bind (wpAny_attempt (wpAny_holding (wpAny_bind (M0.at (wpAny_bind (M1.at ?_))))))))
  show wpAny _ _ (if (onTheHeap (Value.ref D) && Value.builtin "BaseException.__getattribute__" == Value.builtin "object.__getattribute__") = true then _ else _) _ _ _; rw [n1, if_neg Bool.false_ne_true]
  unfold getAttrByItsOwn hookBefore; refine wpAny_bind ?_; rw [if_pos (show onTheHeap (Value.ref D) = true from rfl)]; refine M2.at ?_
  refine wpAny_bind (wpAny_attempt (wpAny_holding ?_)); unfold callGetattribute; rw [show (false && onTheHeap (Value.builtin "BaseException.__getattribute__")) = false from rfl, if_neg Bool.false_ne_true]
  unfold boundAndCalled; rw [PySem.F.excAttr_ValueError.ga.bind (.ref x)]; refine wpAny_bind (wpAny_pure ?_)
  show wpAny _ _ (call (.builtin "BaseException.__getattribute__") [.ref x, .str "__class__" tt]) _ _ _
  refine wpAny_call (codeAny_call_builtin PySem.F.excAttr_ValueError.ga.plain PySem.F.entry_bexc_ga (@check_slot (model prog w) _ _ ⟨hh, gg, dr, tt + 1, oo⟩ "BaseException.__getattribute__" "BaseException" "__getattribute__" (.ref x) [.str "__class__" tt] [] _ (by decide +kernel) (by decide +kernel) isb (PySem.F.args_bexc_ga (.ref x) (.str "__class__" tt)) ?_))
  unfold Builtin.«object.__getattribute__»; refine wpAny_bind (wpAny_of_eq (a := ((Value.ref x : Value), [Value.str "__class__" tt])) (by first | rfl | (simp only [slotArgs]; rfl)) (wpAny_bind (wpAny_pure (wpAny_bind (M0.at (wpAny_bind (M3.at ?_)))))))
  show wpAny _ _ (holding [Value.builtin "object.__class__"] (call (.builtin "getset_descriptor.__get__") [.builtin "object.__class__", .ref x, .ref D]) >>= ret) _ _ _
  refine wpAny_bind (wpAny_holding (wpAny_call (class_get (s := ⟨hh, gg, dr, tt + 1, oo⟩) (ox := ox) (od := some dd) Y J c8 (wpAny_pure ?_))))
  show wpAny _ _ (handedOut (.ref D)) _ _ _; rw [handedOut_of (v := .ref D) rfl]
  first | exact wpAny_pure (wpAny_pure q) | exact wpAny_pure q | exact wpAny_pure (wpAny_bind (wpAny_pure (wpAny_pure q)))
theorem my_kitD (c1 : findIn K (.ref D) "__getattribute__" = some (some (.builtin "BaseException.__getattribute__"))) (c2 : findIn K (.ref D) "__getattr__" = some none)
    (c3 : subIn K (.ref D) (.type "BaseException") = some true) (c4 : hasDictIn K D = true) (c5 : findIn K (.ref D) "__class__" = some (some (.builtin "object.__class__")))
    (c6 : specialIn K (.builtin "object.__class__") "__get__" = some (some (.builtin "getset_descriptor.__get__"))) (c7 : takesIn K (.builtin "object.__class__") = some true) (c8 : mroIn K D (.type "object") = some true) :
    KitX K (.ref x) (.ref D) (fun h => InstAt h x ox D (some dd)) where
  ty := fun _ _ _ J => J.type
  it := fun _ _ Y _ => by
    obtain ⟨cd, e, _⟩ := any_some c4; unfold clsIn at e
    split at e
    · rename_i a1 a2 a3 a4 e2
      intro A2 Q2 E2 s2 k q; unfold isType loadHead; exact wpAny_bind (wpAny_loadPart (k _ _ (Y _ _ e2)) (wpAny_pure q))
    · cases e
  ne := (handS_kitx_exc (x := x) (ox := ox) c1 c2 c3 c4 c5 c6 c7 c8).ne
  ca := fun Y J k => my_classD c1 c2 c3 c4 c5 c6 c7 c8 Y J k
end
end PySem.W
namespace My
open PySem L2
/-- isinstance(e, c), e the error that the suite holds, with its own dict -/
def rIsD (K : PySem.W.Frag) (a : Addr) (cls : Value) (d : Option Addr) : List V → Hp → VK → Prop := fun xs H Q => ∃ (D dd : Addr) (fs : List (Str × V)) (c : V) (cv : Value) (b : Bool), xs = [.ref a, c] ∧ cls = .ref D ∧ d = some dd ∧ H dd = some (.xd fs) ∧ ExcC K D ∧ (∀ u, RelV c u → u = cv) ∧
  PySem.W.kitOne K (.ref D) cv = some b ∧ Q (.bl b) H
theorem call_isD {X : Cx} {a : Addr} {cls : Value} {d : Option Addr} {oe : Obj} {pn : List (Addr × Obj)} (hz : Zc cls d oe) (hf : ∃ vs, oe.data = .fields vs) : CallR (X.suite a ((a, oe) :: pn)) (.builtin "isinstance") (rIsD X.K a cls d) := by
  intro pins s σ H xs us Q I r h
  obtain ⟨D, dd, fs, c, cv, b, rfl, e1, e2, hd, C, hcv, e, q⟩ := h
  subst e1 e2
  cases r with
  | cons rx rr =>
  cases rr with
  | cons rt rr =>
  cases rr
  cases rx
  have ec := hcv _ rt
  subst ec
  obtain ⟨hget, _⟩ := I.pin (a, oe) (List.mem_append_left _ List.mem_cons_self)
  obtain ⟨mA, hns, hr⟩ := I.hok dd _ hd
  obtain ⟨od, ho, hl⟩ := lookIn_ns hns
  obtain ⟨vs, hv⟩ := hf
  have J : PySem.W.InstAt s.heap a oe D (some od) := ⟨hget, hz.1, by unfold PySem.W.notCls; rw [hv] <;> rfl, by rw [hz.2]; exact ho⟩
  exact PySem.W.kia_one (PySem.W.my_kitD C.hg C.hk C.hs C.hd C.ha C.hn C.ht C.hm) I.kIn J e (fun z => nomatch z) fun tk => ⟨.bl b, H, I.tok tk, rfl, q⟩
end My

/-! ## Errors over any built-in error that keep what they were made with -/
namespace PySem.MyX
open PySem PySem.W PySem.Calls PyProof.Rows PySem.HandSPX Builtin.ObjectAttr
section
variable {M : Model} {prog : Program} {w : World} {A : Around} {E : Value → Shared → Prop} {R : Result → Shared → Prop} {h : Heap} {g : Array GenState} {d : Drawn} {t : Nat} {os : OsState}
variable {nm q : Str} {C N : Addr} {bs bm bmB : List Value} {hdct : Bool} {sn : List Str} {sub : List Value} {ab : Bool} {col : Option Bool} {dd : Option Addr} {k0 k1 k2 k3 k5 : Option Value} {B nid iid : String}
/-- the built-in B makes an instance of an own class that has B among its bases, however far off: its call is let through -/
theorem let_make (F : ExcBaseFacts B nid iid bmB) (cB : bm.contains (.type B) = true) {args : List Value} {Q : Unit → Shared → Prop}
    (c : h.get? C = some (excClassObj nm q C N bs bm hdct sn sub ab col dd k0 k1 k2 k3 k5 nid)) (done : Q () ⟨h, g, d, t, os⟩) : wpAny M A (checkBuiltinCall nid ⟨.ref C :: args, []⟩) Q E ⟨h, g, d, t, os⟩ := by
  have has : (Value.ref C :: bm).contains (.type B) = true := by rw [List.contains_cons, cB, Bool.or_true]
  have far := F.noStar; simp only [checkBuiltinCall, F.newKind, F.newSplit, F.newRow]
  repeat (first | refine wpAny_loadPart_at c ?_ | (refine wpAny_isSubtype_exc c ?_; rw [has]) | refine wpAny_staticBase_exc c ?_ | refine wpAny_madeBy_exc c ?_ | simp only [bne_self_eq_false, Bool.false_eq_true, if_false] | wp_step)
  exact done
/-- the instance and its arguments are laid -/
theorem laid_make (F : ExcBaseFacts B nid iid bmB) (cB : bm.contains (.type B) = true) (nA : bm.contains (.type "AttributeError") = false) (nN : bm.contains (.type "NameError") = false) {args : List Value}
    (c : h.get? C = some (excClassObj nm q C N bs bm hdct sn sub ab col dd k0 k1 k2 k3 k5 nid)) (len : args.length ≤ sizeLine)
    (done : R (.ok (.ret (.ref (h.objs.size + 1)))) ⟨(h.push (W.kdv_tup args)).push (excO C h.objs.size), g, d, t, os⟩) : codeAny (model prog w) A (.builtin nid ⟨.ref C :: args, []⟩) R ⟨h, g, d, t, os⟩ := by
  have far := F.ends
  have has : (Value.ref C :: bm).contains (.type B) = true := by rw [List.contains_cons, cB, Bool.or_true]
  have noA : (Value.ref C :: bm).contains (.type "AttributeError") = false := by rw [List.contains_cons, nA]; rfl
  have noN : (Value.ref C :: bm).contains (.type "NameError") = false := by rw [List.contains_cons, nN]; rfl
  refine codeAny_builtinAt F.entry ?_; unfold Builtin.«BaseException.__new__»; refine wpAt_bind ?_
  show wpAt _ _ _ (stack >>= _) _ _ _; refine wpAt_bind (wpAt_stack fun p below => wpAt_of_wpAny ?_)
  wp_walk; refine wpAt_of_wpAny ?_; rw [F.owner]
  repeat (first | with_reducible refine wpAny_madeHere_exc F.canon c ?_ | with_reducible refine wpAny_loadPart_at c ?_ | (with_reducible refine wpAny_isSubtype_exc c ?_; first | rw [has] | rw [noA] | rw [noN]) | wp_step)
  show R _ _; rw [Heap.size_push]; exact done
/-- C(..) for such a class: the instance is laid, then its own __init__ runs -/
theorem made_then (F : ExcBaseFacts B nid iid bmB) (cB : bm.contains (.type B) = true) (nA : bm.contains (.type "AttributeError") = false) (nN : bm.contains (.type "NameError") = false) {args : List Value} {fI : Addr} {Q : Fin → Shared → Prop}
    (c : h.get? C = some (excClassObj nm q C N bs bm hdct sn sub ab col dd k0 k1 k2 k3 k5 nid)) (hi : W.Looks (model prog w) h (typeLookup (.ref C) "__init__") (some (.ref fI)))
    (hb : ∀ self, W.Looks (model prog w) h (bindSpecial (.ref fI) self) (.ref fI, [self])) (len : args.length ≤ sizeLine)
    (go : codeAny (model prog w) A (.call (.ref fI) ⟨.ref (h.objs.size + 1) :: args, []⟩) (fun r s' => match r with | .ok (.ret v) => v = .none ∧ Q (.done (.ret (.ref (h.objs.size + 1)))) s' | .ok _ => False | .error e => E e s')
      ⟨(h.push (W.kdv_tup args)).push (excO C h.objs.size), g, d, t, os⟩) : wpAny (model prog w) A (Builtin.«type.__call__» ⟨.ref C :: args, []⟩) Q E ⟨h, g, d, t, os⟩ := by
  repeat (first | with_reducible refine wpAny_loadPart_at c ?_ | with_reducible refine wpAny_madeBy_exc c ?_ | wp_step)
  refine codeAny_call_builtin_code (Code.quiet_builtin _ F.quiet) (let_make F cB c (laid_make F cB nA nN c len ?_))
  show wpAny _ _ _ _ _ _
  have kp : ∀ b o, h.get? b = some o → ((h.push (W.kdv_tup args)).push (excO C h.objs.size)).get? b = some o := fun b o z => Heap.get?_push_of_some _ (Heap.get?_push_of_some _ z)
  have c1 := kp _ _ c; have i1 := hi.keeps kp; have b1 := (hb (.ref (h.objs.size + 1))).keeps kp
  have new : ((h.push (W.kdv_tup args)).push (excO C h.objs.size)).get? (h.objs.size + 1) = some (excO C h.objs.size) := by heap_get
  have own : (Value.ref C :: bm).contains (.ref C) = true := by simp
  unfold isInstance; repeat (first | with_reducible refine wpAny_loadPart_at new ?_ | (with_reducible refine wpAny_isSubtype_exc c1 ?_; rw [own]) | wp_step)
  show wpAny _ _ (typeLookup (.ref C) _) _ _ _; refine i1.at (wpAny_holding (wpAny_bind (b1.at (wpAny_bind (wpAny_call (codeAny_mono go fun r s' z => ?_))))))
  rcases r with e | (v | _ | _ | _) <;> first | exact z | exact False.elim z | (obtain ⟨rfl, z⟩ := z; first | exact wpAny_pure (wpAny_pure z) | (wp_walk; exact z))
theorem call_made (F : ExcBaseFacts B nid iid bmB) (cB : bm.contains (.type B) = true) (nA : bm.contains (.type "AttributeError") = false) (nN : bm.contains (.type "NameError") = false) {args : List Value} {fI : Addr}
    (c : h.get? C = some (excClassObj nm q C N bs bm hdct sn sub ab col dd k0 k1 k2 k3 k5 nid)) (hi : W.Looks (model prog w) h (typeLookup (.ref C) "__init__") (some (.ref fI)))
    (hb : ∀ self, W.Looks (model prog w) h (bindSpecial (.ref fI) self) (.ref fI, [self])) (len : args.length ≤ sizeLine)
    (go : codeAny (model prog w) (A.under (.builtin "type.__call__" ⟨.ref C :: args, []⟩)) (.call (.ref fI) ⟨.ref (h.objs.size + 1) :: args, []⟩) (W.InitBack (h.objs.size + 1) R) ⟨(h.push (W.kdv_tup args)).push (excO C h.objs.size), g, d, t, os⟩) :
    codeAny (model prog w) A (.call (.ref C) ⟨args, []⟩) R ⟨h, g, d, t, os⟩ := by
  have a1 := tc_lookup; have a2 := tc_bind (.ref C); have a3 : (⟨h, g, d, t, os⟩ : Shared).TypeIs (.ref C) "type" := ⟨_, c, rfl⟩
  refine codeAny_of_tree ?_; show wpAny _ _ (callAny (.ref C) _) _ _ _
  repeat (any_goals (first | assumption | with_reducible refine wpAny_loadPart_at c ?_ | wp_step))
  refine ⟨rfl, codeAny_call_builtin_at (Code.quiet_builtin _ (by decide +kernel)) entry_typeCall (wpAny_check_type_call_sub c (made_then F cB nA nN c hi hb len (codeAny_mono go fun r s' z => ?_)))⟩
  rcases r with e | (v | _ | _ | _)
  all_goals exact z
/-- self.name = v, the first store into an error: its dict is made -/
theorem first_store {K : W.Frag} {name : Str} {tk : Tok} {v : Value} {x : Addr} {fv : Array Value} {cd : ClassData} (Y : K.In h) (hx : h.get? x = some { cls := .ref C, data := .fields fv }) (hcd : W.clsIn K C = some cd)
    (ne : cd.mro.isEmpty = false) (ob : cd.mro.contains (.type "object") = true) (pass : refuseLoop (.ref x) "__setattr__" cd.mro = pure ()) (hd : cd.hasDict = true) (no : W.findIn K (.ref C) name = some none)
    (go : ∀ h' tk' dx, (∀ b o, b ≠ x → h.get? b = some o → h'.get? b = some o) → h.objs.size ≤ dx → dx ≠ x → h'.get? x = some { cls := .ref C, dict := some dx, data := .fields fv } →
      h'.Ns1 dx (fun y => if y = name then some v else none) → R (.ok (.ret .none)) ⟨h', g, d, tk', os⟩) : codeAny (model prog w) A (.call (.builtin "object.__setattr__") ⟨[.ref x, .str name tk, v], []⟩) R ⟨h, g, d, t, os⟩ := by
  have S := F.store_object; have J : W.InstAt h x { cls := .ref C, data := .fields fv } C none := ⟨hx, rfl, rfl, trivial⟩
  have new : x ≠ h.objs.size := Nat.ne_of_lt (Heap.lt_size hx)
  have top : W.Looks (model prog w) h (isInstance (.ref x) (.type "object")) true := J.type.andThen (W.looks_mroIn Y (by unfold W.mroIn; rw [hcd, Option.bind_some, if_neg (by rw [ne]; decide), ob]))
  have lm : W.Looks (model prog w) h (mroOf (.ref C)) cd.mro := (W.looks_clsIn Y hcd).andThen .now
  have l0 : W.Looks (model prog w) h (storeTaker? none) none := .now; have lc : W.Looks (model prog w) h (classData C) cd := W.looks_clsIn Y hcd
  refine codeAny_call_builtin S.slot.plain S.entry (@W.check_slot (model prog w) _ _ ⟨h, g, d, t, os⟩ "object.__setattr__" "object" "__setattr__" (.ref x) [.str name tk, v] [] _ S.kind S.split top (S.args (.ref x) (.str name tk) v) ?_)
  rw [W.osa_eq, refuse_eq]; refine wpAny_bind (wpAny_bind (J.type.at (wpAny_bind (lm.at ?_)))); rw [pass]
  refine wpAny_pure (wpAny_bind (J.type.at (wpAny_bind ((W.looks_findIn Y no).at (wpAny_bind (l0.at ?_)))))); show wpAny _ _ (storeInOwnDict (.ref x) (.ref C) (.str name tk) name v false) _ _ _
  obtain ⟨n1, n2, n3, n4, n5, n6, n7, n8, n9, n10, n11⟩ := cd; dsimp only at hd; subst hd; unfold storeInOwnDict ownDictForStores
  repeat (first | with_reducible refine store_in_new ?_ ?_ | with_reducible refine wpAny_loadPart_at hx ?_ | with_reducible refine lc.at ?_ | wp_step)
  · exact ⟨_, #[], _, (Heap.get?_update_ne _ _ _ _ new.symm).trans (Heap.get?_push_at rfl rfl), rfl, fun e he => absurd he (by simp), fun _ => rfl⟩
  intro h' tk' ns sb
  have hx1 : (h.push { cls := .type "dict", data := .dict #[] }).get? x = some { cls := .ref C, data := .fields fv } := Heap.get?_push_of_some _ hx
  refine go h' tk' h.objs.size (fun b o nb ho => (sb.2 b (Nat.ne_of_lt (Heap.lt_size ho))).trans ((Heap.get?_update_ne _ _ _ _ nb).trans (Heap.get?_push_of_some _ ho))) (Nat.le_refl _) new.symm ?_ ns
  exact (sb.2 x new).trans (Heap.get?_update_self _ hx1 rfl)
end
/-- what is wanted of the built-in error that own ones derive from: nid makes them, tail is its mro -/
structure BaseOf (nid : String) (tail : List Value) : Prop where
  ex : ∃ B iid bmB, ExcBaseFacts B nid iid bmB ∧ tail.contains (.type B) = true
  noA : tail.contains (.type "AttributeError") = false
  noN : tail.contains (.type "NameError") = false
  obj : tail.contains (.type "object") = true
  pass : ∀ self, refuseLoop self "__setattr__" tail = pure ()
abbrev tailVal : List Value := [.type "ValueError", .type "Exception", .type "BaseException", .type "object"]
abbrev tailIdx : List Value := [.type "IndexError", .type "LookupError", .type "Exception", .type "BaseException", .type "object"]
abbrev tailKey : List Value := [.type "KeyError", .type "LookupError", .type "Exception", .type "BaseException", .type "object"]
theorem tail_val1 {c : Addr} : PySem.W.excTail tailVal (.ref c :: tailVal) = true := by
  show PySem.W.excTail tailVal tailVal = true
  decide +kernel
theorem tail_idx0 : PySem.W.excTail tailIdx tailIdx = true := by decide +kernel
theorem tail_key0 : PySem.W.excTail tailKey tailKey = true := by decide +kernel
theorem base_val : BaseOf "ValueError.__new__" tailVal := ⟨⟨_, _, _, F.excBase_ValueError, by decide +kernel⟩, by decide +kernel, by decide +kernel, by decide +kernel, fun self => by kernel_rfl⟩
theorem base_idx : BaseOf "IndexError.__new__" tailIdx := ⟨⟨_, _, _, F.excBase_IndexError, by decide +kernel⟩, by decide +kernel, by decide +kernel, by decide +kernel, fun self => by kernel_rfl⟩
theorem base_key : BaseOf "LookupError.__new__" tailKey := ⟨⟨_, _, _, F.excBase_LookupError, by decide +kernel⟩, by decide +kernel, by decide +kernel, by decide +kernel, fun self => by kernel_rfl⟩
end PySem.MyX
namespace My
open PySem PySem.Spec PyProof.Rows L2 PySem.MyX
/-- what the written part says of an own error with an __init__ over a built-in one -/
structure OexB (K : PySem.W.Frag) (C : Addr) (nid : String) (tail : List Value) : Prop where
  base : BaseOf nid tail
  cls : ∃ nm q N bs bm sn sub ab col dd k0 k1 k2 k3 k5, K.lookup C = some (excClassObj nm q C N bs bm true sn sub ab col dd k0 k1 k2 k3 k5 nid) ∧ PySem.W.excTail tail bm = true
  sa : PySem.W.findIn K (.ref C) "__setattr__" = some (some (.builtin "object.__setattr__"))
  exC : PySem.W.subIn K (.ref C) (.type "BaseException") = some true
  tyC : PySem.W.typeIn K (.ref C) = some (.type "type")
  kC : PySem.W.keepIn K (.ref C) = true
section
variable {X : Cx} {pins : List (Addr × Obj)} {σ : L2.St} {H : Hp} {s : Shared} {a C dx : Addr} {f : Str} {y : V} {u : Value} {Q : Unit → Shared → Prop} {E : Value → Shared → Prop} {A : Around} {nid : String} {tail : List Value}
/-- self.f = y, the first store -/
theorem stored_new (T : OexB X.K C nid tail) (I : Inv X pins σ H s) (e : H a = some (exo a C none)) (no : PySem.W.findIn X.K (.ref C) f = some none) (ry : RelV y u)
    (go : ∀ dx s', H dx = none → dx ≠ a → Inv X pins σ (upd (upd H dx (exd dx [(f, y)])) a (exo a C (some dx))) s' → Q () s') : wpAny (model X.prog X.w) A (setAttr (.ref a) f u) Q E s := by
  obtain ⟨nm, q, N, bs, bm, sn, sub, ab, col, dd, k0, k1, k2, k3, k5, hC, hbm⟩ := T.cls
  have cl : PySem.W.clsIn X.K C = some { name := nm, bases := bs, mro := .ref C :: bm, ns := N, qualname := q, hasDict := true, slotNames := sn, subclasses := sub, abstract := ab, collection := col, hasDel := false } := by unfold PySem.W.clsIn; rw [hC] <;> rfl
  obtain ⟨t1, ho⟩ := exo_at I.hok e
  obtain ⟨hp, g, d, t, os⟩ := s
  have ps : refuseLoop (.ref a) "__setattr__" (Value.ref C :: bm) = pure () := by rw [refuseLoop_ref]; exact PySem.W.excTail_pass _ (T.base.pass _) bm hbm
  have ob : (Value.ref C :: bm).contains (.type "object") = true := by rw [List.contains_cons, PySem.W.excTail_contains "object" bm hbm, T.base.obj, Bool.or_true]
  refine PySem.W.set_plain I.kIn (ox := { cls := .ref C, dict := none, data := .fields #[.ref t1, .none, .none, .none, .bool false, .none] }) (od := none) ⟨ho, rfl, rfl, trivial⟩ T.sa (first_store I.kIn ho cl rfl ob ps rfl no fun h' tk' dx k dn dne hx hn => ?_)
  have free : H dx = none := I.hok.fresh dn
  have nd : ∀ {b : Addr} {o : Obj}, hp.get? b = some o → b ≠ dx := fun {b o} z => Nat.ne_of_lt (Nat.lt_of_lt_of_le (Heap.lt_size z) dn)
  have na : ∀ {b : Addr}, H b = none → b ≠ a := fun {b} n z => by rw [z, e] at n; cases n
  have U : Un X.fs [] H (upd (upd H dx (exd dx [(f, y)])) a (exo a C (some dx))) hp h' := {
    keep := fun b o z n _ _ => k b o (na n) z
    slot := fun b o z n _ _ => ⟨o.slots, k b o (na n) z⟩
    free := fun b o z n _ => by rw [upd_ne (na n), upd_ne (nd z)]; exact n
    there := fun b o z _ => (Classical.em (b = a)).elim (fun hb => ⟨_, (congrArg h'.get? hb).trans hx⟩) fun hb => ⟨o, k b o hb z⟩
    tups := fun b xs z => by rw [upd_ne (at_ne e z exo_tup), upd_ne (ne_of_none z free)]; exact z
    frzs := fun b o v z => by rw [upd_ne (at_ne e z exo_frz), upd_ne (ne_of_none z free)]; exact z
    tbls := fun b ps z => ⟨#[], by rw [upd_ne (at_ne e z exo_tbl), upd_ne (ne_of_none z free), z]; simp⟩ }
  refine go dx _ free dne (I.un (t' := tk') U fun b o z => ?_)
  by_cases hb : b = a
  · subst hb; rw [upd_same] at z; cases z; exact exo_ok hx
  rw [upd_ne hb] at z
  by_cases hd : b = dx
  · subst hd; rw [upd_same] at z; cases z; exact exd_ok hn (relO_put (fs := []) ry fun g => True.intro)
  rw [upd_ne hd] at z
  refine (I.hok b o z).stay (fun c v hc y => k c v (hc.elim (fun w => by rw [w]; exact hb) fun w => at_ne e w exo_own) y) (fun c hc => by rw [upd_ne (at_ne e hc exo_own), upd_ne (ne_of_none hc free)]; exact hc) (fun c xs hc => ?_)
  rw [upd_ne (at_ne e hc exo_tup), upd_ne (ne_of_none hc free)]; exact hc
/-- self.f = e, the first store into an error that is being made -/
def tOsB (K : PySem.W.Frag) (f : Str) (to te : TE) : TS := fun D σ H => te σ H fun y H1 => to σ H1 fun x H2 => ∃ (a C : Addr) (nid : String) (tail : List Value), x = .ref a ∧ OexB K C nid tail ∧ PySem.W.findIn K (.ref C) f = some none ∧ H2 a = some (exo a C none) ∧
  ∀ dx, H2 dx = none → dx ≠ a → D.nx σ (upd (upd H2 dx (exd dx [(f, y)])) a (exo a C (some dx)))
theorem ps_osB {o e : Expr} {to te : TE} {p' pos : Pos} (ho : PE X o to) (he : PE X e te) (hs : swapsWith e (some (.Attribute o f p')) pos.line X.env = pure false := by rfl) : PS X (.Assign [.Attribute o f p'] e pos) (tOsB X.K f to te) := by
  refine ⟨fun pins s σ H D I h => plainObj_wpAny_Assign_Attribute (thn (he.run pins s σ H _ I h) fun v s1 ⟨y, H1, I1, r1, q1⟩ => thn (ho.run pins s1 σ H1 _ I1 q1) fun u s2 ⟨x, H2, I2, r2, a, C, nid, tail, ex, T, no, ea, q⟩ => ?_) hs⟩
  subst ex
  obtain rfl : u = Value.ref a := r2
  exact stored_new T I2 ea no r1 fun dx s' n ne J => ⟨σ, _, J, q dx n ne⟩
end
end My

/-! ## An own error made: to be raised, or kept as a value; what it is and keeps -/
namespace My
open PySem PySem.Spec PyProof.Rows L2 PySem.MyX
section
variable {X : Cx} {e o : Expr} {es : List Expr} {ta : TA} {to te : TE} {p pos : Pos} {pins : List (Addr × Obj)} {σ : L2.St} {H1 : Hp}
theorem run_exB {CX : CXT} {C fI : Addr} {k : Nat} {fd : FuncData} {ps : List Str} {sp : Sp} {ds us : List Value} {dvs vs : List V} {nid : String} {tail : List Value} {J : Hp → Prop} {G : Value → Shared → Prop} {hp : Heap} {g : Array GenState} {dr : Drawn} {tk : Nat} {os : OsState}
    (T : OexB X.K C nid tail) (iC : PySem.W.findIn X.K (.ref C) "__init__" = some (some (.ref fI))) (tI : PySem.W.typeIn X.K (.ref fI) = some (.type "function")) (F1 : FnOk X.prog X.w X.K X.mg X.base CX k fI fd ps sp) (hr : Room (k + 1) X.A) (hb : Binds X.K fd ps ds) (hd : Vals dvs ds)
    (hx : Passes CX X (fun _ _ _ => False)) (I1 : Inv X pins σ H1 ⟨hp, g, dr, tk, os⟩) (r1 : Vals vs us) (len : vs.length ≤ 1000)
    (q1 : sp (.ref (hp.objs.size + 1) :: (vs ++ dvs)) (upd H1 (hp.objs.size + 1) (exo (hp.objs.size + 1) C none)) (fun v H2 => v = .non ∧ J H2) (fun _ _ _ => False))
    (fin : ∀ H2 h2 g2 d2 t2, Inv X pins σ (upd H1 (hp.objs.size + 1) (exo (hp.objs.size + 1) C none)) ⟨(hp.push (PySem.W.kdv_tup us)).push (PySem.HandSPX.excO C hp.objs.size), g, dr, tk, os⟩ →
      Un (frs X.stack) [] (upd H1 (hp.objs.size + 1) (exo (hp.objs.size + 1) C none)) H2 ((hp.push (PySem.W.kdv_tup us)).push (PySem.HandSPX.excO C hp.objs.size)) h2 → HOk X.prog X.w H2 h2 → AllBare g2 → J H2 → G (.ref (hp.objs.size + 1)) ⟨h2, g2, d2, t2, os⟩) :
    wpAny (model X.prog X.w) X.A (call (.ref C) us) G X.xe ⟨hp, g, dr, tk, os⟩ := by
  obtain ⟨nm, q, N, bs, bm, sn, sub, ab, col, dd, k0, k1, k2, k3, k5, hC, hbm⟩ := T.cls
  obtain ⟨B, iid, bmB, FB, cB⟩ := T.base.ex
  have has : ∀ Y : String, bm.contains (.type Y) = tail.contains (.type Y) := fun Y => PySem.W.excTail_contains Y bm hbm
  have sz : hp.objs.size ≤ hp.objs.size + 1 := Nat.le_succ _
  have kk : ∀ b o, hp.get? b = some o → ((hp.push (PySem.W.kdv_tup us)).push (PySem.HandSPX.excO C hp.objs.size)).get? b = some o := fun b o z => Heap.get?_push_of_some _ (Heap.get?_push_of_some _ z)
  have new : ((hp.push (PySem.W.kdv_tup us)).push (PySem.HandSPX.excO C hp.objs.size)).get? (hp.objs.size + 1) = some (PySem.HandSPX.excO C hp.objs.size) := by heap_get
  have I2 : Inv X pins σ (upd H1 (hp.objs.size + 1) (exo (hp.objs.size + 1) C none)) ⟨(hp.push (PySem.W.kdv_tup us)).push (PySem.HandSPX.excO C hp.objs.size), g, dr, tk, os⟩ := I1.laid (t' := tk) (a := hp.objs.size + 1) (o := exo (hp.objs.size + 1) C none) kk sz (exo_ok new)
  have r2 : Vals (V.ref (hp.objs.size + 1) :: (vs ++ dvs)) (Value.ref (hp.objs.size + 1) :: (us ++ ds)) := .cons rfl (r1.append hd)
  have hl : (Value.ref (hp.objs.size + 1) :: us ++ ds).length = ps.length := r2.length.symm.trans (F1.len _ _ _ _ q1)
  have hus : us.length ≤ sizeLine := by rw [← Paired.length r1, sizeLine_eq]; omega
  refine wpAny_call (call_made FB ((has B).trans cB) ((has _).trans T.base.noA) ((has _).trans T.base.noN) (I1.kIn _ _ hC) (PySem.W.looks_findIn I1.kIn iC) (fun self => PySem.W.bind_fn I1.kIn self tI) hus
    (codeAny_mono (F1.run _ X.stack _ _ ⟨Value.ref (hp.objs.size + 1) :: us, []⟩ (Value.ref (hp.objs.size + 1) :: (us ++ ds)) _ _ (fun _ _ _ => False) (hr.make C us []) (I2.env0.make C us []) (hb _ (Value.ref (hp.objs.size + 1) :: us) I2.kIn hl) r2 q1) fun r s' z => ?_))
  cases r with
  | error er => exact hx pins σ _ _ er s' I2 z
  | ok fl =>
    cases fl with
    | ret u =>
      obtain ⟨v, H2, os2, bare2, un2, hok2, rv, ev, j⟩ := z
      subst ev
      obtain ⟨h2, g2, d2, t2, os'⟩ := s'
      cases os2
      exact ⟨rv, fin H2 h2 g2 d2 t2 I2 un2 hok2 bare2 j⟩
    | next => exact False.elim z
    | brk => exact False.elim z
    | cont => exact False.elim z
/-- C(e, ..) to be raised -/
theorem pmk_oexB {CX : CXT} {x : Str} {C fI : Addr} {k : Nat} {fd : FuncData} {ps : List Str} {sp : Sp} {ds : List Value} {dvs : List V} {nid : String} {tail : List Value} (T : OexB X.K C nid tail) (iC : PySem.W.findIn X.K (.ref C) "__init__" = some (some (.ref fI))) (tI : PySem.W.typeIn X.K (.ref fI) = some (.type "function"))
    (F1 : FnOk X.prog X.w X.K X.mg X.base CX k fI fd ps sp) (hr : Room (k + 1) X.A) (hb : Binds X.K fd ps ds) (hd : Vals dvs ds) (hx : Passes CX X (fun _ _ _ => False)) (hg : Gl X x) (hm : X.mg x = some (.ref C)) (ha : PA X (e :: es) ta)
    (hdb : (x == ("__debug__" : Str)) = false := by decide) (he : starEach (e :: es) X.env = (false, eval e X.env) :: starEach es X.env := by rfl) (hpl : (backTo pos (starEach es X.env)).any (·.1) = false := by rfl) : PMk X (.Call (.Name x p) (e :: es) [] pos) (tMkO C sp dvs ta) := by
  intro pins s σ H Q I h
  refine wpAny_Call_Name_kw (ld_glob I hg hm (PySem.W.callWith_K (h₀ := X.base) I.ok.mod.kin T.kC (thn (ha.run pos pins s σ H _ I h) fun us s1 ⟨vs, H1, I1, r1, len, q1⟩ => ⟨I1.kIn, ?_⟩) he hpl) hdb)
  obtain ⟨hp, g, dr, tk, os⟩ := s1
  have kk : ∀ b o, hp.get? b = some o → ((hp.push (PySem.W.kdv_tup us)).push (PySem.HandSPX.excO C hp.objs.size)).get? b = some o := fun b o z => Heap.get?_push_of_some _ (Heap.get?_push_of_some _ z)
  refine run_exB T iC tI F1 hr hb hd hx I1 r1 len (J := fun H2 => ∃ (d : Addr) (fs : List (Str × V)), H2 (hp.objs.size + 1) = some (exo (hp.objs.size + 1) C (some d)) ∧ H2 d = some (exd d fs) ∧ H1 d = none ∧ Q (.ref C) (some d) (upd (del H2 (hp.objs.size + 1)) d (.xd fs)))
    (q1 _ (I1.hok.fresh (Nat.le_succ _))) fun H2 h2 g2 d2 t2 I2 un hok bare ⟨d, fs, ea, ed, hd1, q⟩ => ?_
  exact mk_end (raises_own T.exC T.tyC) I1 (Nat.le_succ _) kk un hok rfl bare ea ed hd1 q
/-- C(e, ..) as a value: the error stands with the dict that its __init__ made -/
def tMkV (C : Addr) (sp : Sp) (dvs : List V) (ta : TA) : TE := fun σ H Q => ta σ H fun vs H1 => vs.length ≤ 1000 ∧ ∀ a, H1 a = none → sp (.ref a :: (vs ++ dvs)) (upd H1 a (exo a C none)) (fun v H2 => v = .non ∧ Q (.ref a) H2) (fun _ _ _ => False)
theorem pe_oexB {CX : CXT} {x : Str} {C fI : Addr} {k : Nat} {fd : FuncData} {ps : List Str} {sp : Sp} {ds : List Value} {dvs : List V} {nid : String} {tail : List Value} (T : OexB X.K C nid tail) (iC : PySem.W.findIn X.K (.ref C) "__init__" = some (some (.ref fI))) (tI : PySem.W.typeIn X.K (.ref fI) = some (.type "function"))
    (F1 : FnOk X.prog X.w X.K X.mg X.base CX k fI fd ps sp) (hr : Room (k + 1) X.A) (hb : Binds X.K fd ps ds) (hd : Vals dvs ds) (hx : Passes CX X (fun _ _ _ => False)) (hg : Gl X x) (hm : X.mg x = some (.ref C)) (ha : PA X (e :: es) ta)
    (hdb : (x == ("__debug__" : Str)) = false := by decide) (he : starEach (e :: es) X.env = (false, eval e X.env) :: starEach es X.env := by rfl) (hpl : (backTo pos (starEach es X.env)).any (·.1) = false := by rfl) : PE X (.Call (.Name x p) (e :: es) [] pos) (tMkV C sp dvs ta) := by
  refine ⟨fun pins s σ H Q I h => ?_⟩
  refine wpAny_Call_Name_kw (ld_glob I hg hm (PySem.W.callWith_K (h₀ := X.base) I.ok.mod.kin T.kC (thn (ha.run pos pins s σ H _ I h) fun us s1 ⟨vs, H1, I1, r1, len, q1⟩ => ⟨I1.kIn, ?_⟩) he hpl) hdb)
  obtain ⟨hp, g, dr, tk, os⟩ := s1
  refine run_exB T iC tI F1 hr hb hd hx I1 r1 len (J := fun H2 => Q (.ref (hp.objs.size + 1)) H2) (q1 _ (I1.hok.fresh (Nat.le_succ _))) fun H2 h2 g2 d2 t2 I2 un hok bare q => ?_
  exact ⟨.ref (hp.objs.size + 1), H2, I2.call' (ch := []) rfl un hok bare (fun b z => absurd z (by simp)), rfl, q⟩
/-- an error that stands as a value, with its dict: what isinstance tells of it -/
def rIsV (K : PySem.W.Frag) : List V → Hp → VK → Prop := fun xs H Q => ∃ (a D : Addr) (dd : Option Addr) (c : V) (cv : Value) (b : Bool), xs = [.ref a, c] ∧ H a = some (exo a D dd) ∧ (∀ d, dd = some d → ∃ fs, H d = some (exd d fs)) ∧ ExcC K D ∧ (∀ u, RelV c u → u = cv) ∧ PySem.W.kitOne K (.ref D) cv = some b ∧ Q (.bl b) H
theorem call_isX : CallR X (.builtin "isinstance") (rIsV X.K) := by
  intro pins s σ H xs us Q I r h
  obtain ⟨a, D, dd, c, cv, b, rfl, ha, hdd, C, hcv, e, q⟩ := h
  obtain ⟨u1, u2, rfl, r1, r2⟩ := vals2 r
  obtain rfl : u1 = Value.ref a := r1
  have ec := hcv _ r2
  subst ec
  obtain ⟨t1, ho⟩ := exo_at I.hok ha
  have fin : ∀ tk, EP X pins σ Q (.bool b) { s with toks := tk } := fun tk => ⟨.bl b, H, I.tok tk, rfl, q⟩
  cases dd with
  | none => exact PySem.W.kia_one (PySem.W.handS_kitx_exc C.hg C.hk C.hs C.hd C.ha C.hn C.ht C.hm) I.kIn (⟨ho, rfl, rfl, trivial⟩ : PySem.W.InstAt s.heap a _ D none) e (fun z => nomatch z) fin
  | some d =>
    obtain ⟨fs, hd⟩ := hdd d rfl
    obtain ⟨mA, hns, hr⟩ := exd_at I.hok hd
    obtain ⟨od, hod, hl⟩ := lookIn_ns hns
    exact PySem.W.kia_one (PySem.W.my_kitD C.hg C.hk C.hs C.hd C.ha C.hn C.ht C.hm) I.kIn (⟨ho, rfl, rfl, hod⟩ : PySem.W.InstAt s.heap a _ D (some od)) e (fun z => nomatch z) fin
/-- o.f, o an error that stands as a value -/
def tXv (K : PySem.W.Frag) (f : Str) (te : TE) : TE := fun σ H Q => te σ H fun x H1 => ∃ (a D d : Addr) (fs : List (Str × V)) (v : V), x = .ref a ∧ H1 a = some (exo a D (some d)) ∧ H1 d = some (exd d fs) ∧ XfC K D ∧ PySem.W.findIn K (.ref D) f = some none ∧ fs.lookup f = some v ∧ Q v H1
theorem pe_xv {n : Str} (he : PE X e te) (hb : attributeBase e n X.env (eval e X.env) = eval e X.env := by rfl) : PE X (.Attribute e n pos) (tXv X.K n te) := by
  refine ⟨fun pins s σ H Q I h => ?_⟩
  refine attr_of hb (thn (he.run pins s σ H _ I h) fun u s1 ⟨x, H1, I1, rx, a, D, d, fs, v, ex, ha, hd, T, no, l, q⟩ => ?_)
  subst ex
  obtain rfl : u = Value.ref a := rx
  obtain ⟨t1, ho⟩ := exo_at I1.hok ha
  obtain ⟨mA, hns, hr⟩ := exd_at I1.hok hd
  obtain ⟨od, hod, hl⟩ := lookIn_ns hns
  obtain ⟨u, hu, ru⟩ := RelO.some_of (v := v) (o := mA n) (by rw [← l]; exact hr n)
  exact HandSPX.exc_get I1.kIn (⟨ho, rfl, rfl, hod⟩ : PySem.W.InstAt s1.heap a _ D (some od)) T.ga T.gg T.exC (PySem.W.findObj_own T.hdC no rfl (by rw [hl, hu])) (handed_of ru) ⟨v, H1, I1.tok _, ru, q⟩
/-- C(), an own error without an __init__ of its own -/
def tExc0 (C : Addr) : TE := fun _ H Q => ∀ a, H a = none → Q (.ref a) (upd H a (exo a C none))
theorem pe_exc0 {C : Addr} {bmB : List Value} {B nid iid : String} {x : Str} (F : ExcBaseFacts B nid iid bmB) (q : PySem.W.excIn X.K C bmB nid = true) (gC : X.mg x = some (.ref C)) (kC : PySem.W.keepIn X.K (.ref C) = true) (hg : Gl X x) (hdb : (x == ("__debug__" : Str)) = false := by decide) : PE X (.Call (.Name x p) [] [] pos) (tExc0 C) := by
  refine ⟨fun pins s σ H Q I h => wpAny_Call_Name_kw (ld_glob I hg gC (PySem.W.callWith_K0 I.kIn kC ?_) hdb)⟩
  obtain ⟨bm, N, nm, qn, bs, hdct, sn, sub, ab, col, dd, k0, k1, k2, k3, k5, mN, hC, hN, hni, T⟩ := exc_obj I.kIn q
  refine wpAny_call_exc_subT F T hC hN hni (fun h' e hm => ?_) (Nat.zero_le _)
  obtain ⟨t, he, _⟩ := hm.there
  have free := I.hok.gone hm.new
  exact ⟨.ref e, _, I.laidN hm.keeps hm.new free (exo_ok he), rfl, h e free⟩
end
end My

/-! ## An error's __init__ that keeps its argument; its raising -/
namespace My
open PySem PySem.Spec PyProof.Rows L2 PySem.MyX
/-- an error's __init__ that keeps its argument by this name -/
def spXAt (C : Addr) (f : Str) : Sp := fun vs H Q _ => ∃ (a : Addr) (y : V), vs = [.ref a, y] ∧ H a = some (exo a C none) ∧ ∀ dx, H dx = none → dx ≠ a → Q .non (upd (upd H dx (exd dx [(f, y)])) a (exo a C (some dx)))
/-- raise X(y), X's own __init__ keeping y -/
theorem mk_at {C : Addr} {f : Str} {σ : L2.St} {H H1 : Hp} {y : V} {ta : TA} {Q : XK} (h : ∀ R : List V → Hp → Prop, R [y] H1 → ta σ H R) (q : ∀ (d : Addr) (H' : Hp), Same H1 H' → H1 d = none → H' d = some (.xd [(f, y)]) → Q (.ref C) (some d) H') : tMkO C (spXAt C f) [] ta σ H Q := by
  refine h _ ⟨by show 1 ≤ 1000; decide, fun a na => ⟨a, y, rfl, upd_same, fun dx h1 h2 => ⟨rfl, dx, [(f, y)], upd_same, ?_, ?_, ?_⟩⟩⟩
  · rw [upd_ne h2, upd_same]
  · rw [upd_ne h2] at h1
    exact h1
  · rw [upd_ne h2] at h1
    refine q dx _ (fun b u e => ?_) h1 upd_same
    have hb : b ≠ a := ne_of_none e na
    have hd : b ≠ dx := ne_of_none e h1
    rw [upd_ne hd, del_ne hb, upd_ne hb, upd_ne hd, upd_ne hb]
    exact e
end My

/-! ## What stands stays while an instance is made -/
namespace My
open PySem L2
theorem same_made {H H' : Hp} {p dx : Addr} {o o2 : HO} (np : H p = none) (nd : H dx = none) (k : ∀ b u, (upd (upd H dx o) p o2) b = some u → b ≠ p → H' b = some u) : Same H H' := fun b u e => by
  have n1 := ne_of_none e np
  exact k b u (by rw [upd_ne n1, upd_ne (ne_of_none e nd)]; exact e) n1
theorem made_same {H : Hp} {p dx : Addr} {o o2 : HO} (np : H p = none) (nd : H dx = none) : Same H (upd (upd H dx o) p o2) := fun b u e => by
  rw [upd_ne (ne_of_none e np), upd_ne (ne_of_none e nd)]
  exact e
end My

/-! ## Waits, leaves and hears made: any values -/
namespace My
open PySem PySem.Spec PyProof.Rows L2 PySem.MyX
abbrev s_is_integer : Stmt := top 2
abbrev N_is_integer : List Str := ["value"]
abbrev P_is_integer : List Str := ["value"]
theorem sc_is_integer : FnScope N_is_integer P_is_integer (defScope s_is_integer) := ⟨rfl, rfl, rfl, by decide +kernel, rfl, by decide +kernel, by decide +kernel⟩
abbrev s_InvalidTree_init : Stmt := inClass (top 9) 0
abbrev N_InvalidTree_init : List Str := ["self", "word"]
abbrev P_InvalidTree_init : List Str := ["self", "word"]
theorem sc_InvalidTree_init : FnScope N_InvalidTree_init P_InvalidTree_init (defScope s_InvalidTree_init) := ⟨rfl, rfl, rfl, by decide +kernel, rfl, by decide +kernel, by decide +kernel⟩
abbrev s_Wait_init : Stmt := inClass (top 14) 0
abbrev N_Wait_init : List Str := ["self", "call"]
abbrev P_Wait_init : List Str := ["self", "call"]
theorem sc_Wait_init : FnScope N_Wait_init P_Wait_init (defScope s_Wait_init) := ⟨rfl, rfl, rfl, by decide +kernel, rfl, by decide +kernel, by decide +kernel⟩
abbrev s_Leave_init : Stmt := inClass (top 15) 0
abbrev N_Leave_init : List Str := ["self", "call"]
abbrev P_Leave_init : List Str := ["self", "call"]
theorem sc_Leave_init : FnScope N_Leave_init P_Leave_init (defScope s_Leave_init) := ⟨rfl, rfl, rfl, by decide +kernel, rfl, by decide +kernel, by decide +kernel⟩
abbrev s_Hear_init : Stmt := inClass (top 16) 0
abbrev N_Hear_init : List Str := ["self", "number"]
abbrev P_Hear_init : List Str := ["self", "number"]
theorem sc_Hear_init : FnScope N_Hear_init P_Hear_init (defScope s_Hear_init) := ⟨rfl, rfl, rfl, by decide +kernel, rfl, by decide +kernel, by decide +kernel⟩
structure TxTrees0 (w : World) (K : PySem.W.Frag) (mg : Str → Option Value) where
  z_isinstance : mg "isinstance" = none
  z_int : mg "int" = none
  z_bool : mg "bool" = none
  f_is_integer : Addr
  d_is_integer : FuncData
  F_is_integer : Fun K "is_integer" "is_integer" s_is_integer f_is_integer d_is_integer
  m_is_integer : mg "is_integer" = some (.ref f_is_integer)
  b_is_integer : Binds K d_is_integer P_is_integer []
  C_InvalidTree : Addr
  m_InvalidTree : mg "InvalidTree" = some (.ref C_InvalidTree)
  oxTr : OexB K C_InvalidTree "ValueError.__new__" tailVal
  nwTr : PySem.W.findIn K (.ref C_InvalidTree) "word" = some none
  f_InvalidTree_init : Addr
  d_InvalidTree_init : FuncData
  iTr : PySem.W.findIn K (.ref C_InvalidTree) "__init__" = some (some (.ref f_InvalidTree_init))
  tTr : PySem.W.typeIn K (.ref f_InvalidTree_init) = some (.type "function")
  F_InvalidTree_init : Fun K "__init__" "InvalidTree.__init__" s_InvalidTree_init f_InvalidTree_init d_InvalidTree_init
  b_InvalidTree_init : Binds K d_InvalidTree_init P_InvalidTree_init []
  C_Call : Addr
  m_Call : mg "Call" = some (.ref C_Call)
  c_Call : Cls K C_Call
  C_Wait : Addr
  m_Wait : mg "Wait" = some (.ref C_Wait)
  c_Wait : Cls K C_Wait
  n_Wait_call : NoAttr K C_Wait "call"
  f_Wait_init : Addr
  d_Wait_init : FuncData
  mk_Wait : Mk K C_Wait f_Wait_init
  F_Wait_init : Fun K "__init__" "Wait.__init__" s_Wait_init f_Wait_init d_Wait_init
  b_Wait_init : Binds K d_Wait_init P_Wait_init []
  C_Leave : Addr
  m_Leave : mg "Leave" = some (.ref C_Leave)
  c_Leave : Cls K C_Leave
  n_Leave_call : NoAttr K C_Leave "call"
  f_Leave_init : Addr
  d_Leave_init : FuncData
  mk_Leave : Mk K C_Leave f_Leave_init
  F_Leave_init : Fun K "__init__" "Leave.__init__" s_Leave_init f_Leave_init d_Leave_init
  b_Leave_init : Binds K d_Leave_init P_Leave_init []
  C_Hear : Addr
  m_Hear : mg "Hear" = some (.ref C_Hear)
  c_Hear : Cls K C_Hear
  n_Hear_number : NoAttr K C_Hear "number"
  f_Hear_init : Addr
  d_Hear_init : FuncData
  mk_Hear : Mk K C_Hear f_Hear_init
  F_Hear_init : Fun K "__init__" "Hear.__init__" s_Hear_init f_Hear_init d_Hear_init
  b_Hear_init : Binds K d_Hear_init P_Hear_init []
/-- what isinstance(v, C) answers -/
def OfC (K : PySem.W.Frag) (H : Hp) (v : V) (C : Value) (b : Bool) : Prop := ∃ t, TyX K H v t ∧ PySem.W.kitOne K t C = some b
theorem OfC.same {K : PySem.W.Frag} {H H' : Hp} {v : V} {C : Value} {b : Bool} (h : OfC K H v C b) (e : Same H H') : OfC K H' v C b := by
  obtain ⟨t, ty, k⟩ := h
  exact ⟨t, tyx_keep e ty, k⟩
def spIsIntG (K : PySem.W.Frag) : Sp := fun us H Q _ => ∃ (v : V) (b1 b2 : Bool), us = [v] ∧ OfC K H v (.type "int") b1 ∧ OfC K H v (.type "bool") b2 ∧ Q (.bl (b1 && !b2)) H
/-- Wait(v), Leave(v): v is a call or not -/
def spHolder {w : World} {K : PySem.W.Frag} {mg : Str → Option Value} (T : TxTrees0 w K mg) (C : Addr) : Sp := fun us H Q E => ∃ (p dx : Addr) (v : V) (b : Bool), us = [.ref p, v] ∧ H p = some (.ins C dx []) ∧ OfC K H v (.ref T.C_Call) b ∧
  (b = true → ∀ H', H' p = some (.ins C dx [("call", v)]) → (∀ c u, H c = some u → c ≠ p → H' c = some u) → Q .non H') ∧
  (b = false → ∀ d H', Same H H' → H d = none → H' d = some (.xd [("word", .str "call")]) → E (.ref T.C_InvalidTree) (some d) H')
def spHear {w : World} {K : PySem.W.Frag} {mg : Str → Option Value} (T : TxTrees0 w K mg) : Sp := fun us H Q E => ∃ (p dx : Addr) (v : V) (b1 b2 : Bool), us = [.ref p, v] ∧ H p = some (.ins T.C_Hear dx []) ∧ OfC K H v (.type "int") b1 ∧ OfC K H v (.type "bool") b2 ∧
  (∀ i : Int, (b1 && !b2) = true → v = .int i → 0 ≤ i → ∀ H', H' p = some (.ins T.C_Hear dx [("number", v)]) → (∀ c u, H c = some u → c ≠ p → H' c = some u) → Q .non H') ∧
  ((b1 && !b2) = true → ∃ i : Int, v = .int i) ∧
  ((b1 && !b2) = false ∨ (∃ i : Int, v = .int i ∧ i < 0) → ∀ d H', Same H H' → H d = none → H' d = some (.xd [("word", .str "number")]) → E (.ref T.C_InvalidTree) (some d) H')
section
variable {P : Program} {w : World} {K : PySem.W.Frag} {mg : Str → Option Value} {base : Heap}
theorem ok_xtr (T : TxTrees0 w K mg) : FnOk P w K mg base CX0 1 T.f_InvalidTree_init T.d_InvalidTree_init P_InvalidTree_init (spXAt T.C_InvalidTree "word") := by
  refine T.F_InvalidTree_init.ok sc_InvalidTree_init (fun vs H Q E h => ?_) (fun cdv A outer s H vs Q E hr h => ?_)
  · obtain ⟨a, y, rfl, _⟩ := h
    rfl
  obtain ⟨a, y, rfl, ha, q⟩ := h
  refine ⟨_, (pss_one (ps_osB (pv 0) (pv 1))), ?_⟩
  exact ⟨_, rfl, _, rfl, a, T.C_InvalidTree, _, _, rfl, T.oxTr, T.nwTr, ha, fun dx h1 h2 => q dx h1 h2⟩
theorem ok_is_integerG (T : TxTrees0 w K mg) : FnOk P w K mg base CX0 1 T.f_is_integer T.d_is_integer P_is_integer (spIsIntG K) := by
  refine T.F_is_integer.ok sc_is_integer (fun vs H Q E h => ?_) (fun cdv A outer s H vs Q E hr h => ?_)
  · obtain ⟨v, b1, b2, rfl, _⟩ := h
    rfl
  obtain ⟨v, b1, b2, rfl, ⟨t1, y1, k1⟩, ⟨t2, y2, k2⟩, q⟩ := h
  refine ⟨_, (pss_one (ps_ret (pe_and (pe_callB (call_isiV K) (by rfl) T.z_isinstance (by decide +kernel) (pa_cons (pv 0) (pa_cons (pe_bltn (v := .ty "int") (by rfl) T.z_int (by decide +kernel) rfl) pa_nil))) (pe_one (pe_not (pe_callB (call_isiV K) (by rfl) T.z_isinstance (by decide +kernel) (pa_cons (pv 0) (pa_cons (pe_bltn (v := .ty "bool") (by rfl) T.z_bool (by decide +kernel) rfl) pa_nil)))))))), ?_⟩
  refine ⟨_, rfl, v, .ty "int", t1, _, b1, rfl, .ty _, y1, k1, _, rfl, ?_⟩
  cases b1 with
  | false => exact iteF q
  | true =>
    refine iteT ?_
    exact ⟨_, rfl, v, .ty "bool", t2, _, b2, rfl, .ty _, y2, k2, _, rfl, by cases b2 <;> exact q⟩
theorem ok_Wait_init (T : TxTrees0 w K mg) : FnOk P w K mg base (L2.CX P w) 3 T.f_Wait_init T.d_Wait_init P_Wait_init (spHolder T T.C_Wait) := by
  have G_InvalidTree_init := ok_xtr (P := P) (w := w) (base := base) T
  refine T.F_Wait_init.okX sc_Wait_init (fun vs H Q E h => ?_) (fun cdv A outer s H vs Q E hr h => ?_)
  · obtain ⟨p, dx, v, b, rfl, _⟩ := h
    rfl
  obtain ⟨p, dx, v, b, rfl, hp, ⟨t, ty, k⟩, q, qe⟩ := h
  refine ⟨_, (pss_cons (ps_if (pt_not (pt_val (pe_callB (call_isiV K) (by rfl) T.z_isinstance (by decide +kernel) (pa_cons (pv 1) (pa_cons (pe_glob (v := .ref T.C_Call) (by rfl) T.m_Call rfl) pa_nil))))) (pss_one (ps_raise rfl (takes_of rfl rfl rfl rfl) (pmk_oexB T.oxTr T.iTr T.tTr G_InvalidTree_init (hr.mono (by decide)) T.b_InvalidTree_init .nil pass0 (by rfl) T.m_InvalidTree (pa_cons pe_str pa_nil)))) pss_nil)
      (pss_one (ps_fld (pv 0) (pv 1) rfl))), ?_⟩
  refine ⟨_, rfl, v, .ref T.C_Call, t, _, b, rfl, .own _, ty, k, _, rfl, ?_⟩
  cases b with
  | false =>
    refine iteT ?_
    exact mk_at (fun R r => by exact r) (qe rfl)
  | true =>
    refine iteF ?_
    refine ⟨_, rfl, _, rfl, p, T.C_Wait, dx, _, rfl, hp, T.c_Wait, T.n_Wait_call, (by show 0 < 1000; decide), ?_⟩
    exact q rfl _ upd_same fun c u e nc => by rw [upd_ne nc]; exact e
theorem ok_Leave_init (T : TxTrees0 w K mg) : FnOk P w K mg base (L2.CX P w) 3 T.f_Leave_init T.d_Leave_init P_Leave_init (spHolder T T.C_Leave) := by
  have G_InvalidTree_init := ok_xtr (P := P) (w := w) (base := base) T
  refine T.F_Leave_init.okX sc_Leave_init (fun vs H Q E h => ?_) (fun cdv A outer s H vs Q E hr h => ?_)
  · obtain ⟨p, dx, v, b, rfl, _⟩ := h
    rfl
  obtain ⟨p, dx, v, b, rfl, hp, ⟨t, ty, k⟩, q, qe⟩ := h
  refine ⟨_, (pss_cons (ps_if (pt_not (pt_val (pe_callB (call_isiV K) (by rfl) T.z_isinstance (by decide +kernel) (pa_cons (pv 1) (pa_cons (pe_glob (v := .ref T.C_Call) (by rfl) T.m_Call rfl) pa_nil))))) (pss_one (ps_raise rfl (takes_of rfl rfl rfl rfl) (pmk_oexB T.oxTr T.iTr T.tTr G_InvalidTree_init (hr.mono (by decide)) T.b_InvalidTree_init .nil pass0 (by rfl) T.m_InvalidTree (pa_cons pe_str pa_nil)))) pss_nil)
      (pss_one (ps_fld (pv 0) (pv 1) rfl))), ?_⟩
  refine ⟨_, rfl, v, .ref T.C_Call, t, _, b, rfl, .own _, ty, k, _, rfl, ?_⟩
  cases b with
  | false =>
    refine iteT ?_
    exact mk_at (fun R r => by exact r) (qe rfl)
  | true =>
    refine iteF ?_
    refine ⟨_, rfl, _, rfl, p, T.C_Leave, dx, _, rfl, hp, T.c_Leave, T.n_Leave_call, (by show 0 < 1000; decide), ?_⟩
    exact q rfl _ upd_same fun c u e nc => by rw [upd_ne nc]; exact e
theorem ok_Hear_init (T : TxTrees0 w K mg) : FnOk P w K mg base (L2.CX P w) 3 T.f_Hear_init T.d_Hear_init P_Hear_init (spHear T) := by
  have G_InvalidTree_init := ok_xtr (P := P) (w := w) (base := base) T
  have G_is_integer := ok_is_integerG (P := P) (w := w) (base := base) T
  refine T.F_Hear_init.okX sc_Hear_init (fun vs H Q E h => ?_) (fun cdv A outer s H vs Q E hr h => ?_)
  · obtain ⟨p, dx, v, b1, b2, rfl, _⟩ := h
    rfl
  obtain ⟨p, dx, v, b1, b2, rfl, hp, o1, o2, q, qi, qe⟩ := h
  refine ⟨_, (pss_cons (ps_if (PW.pt (pw_or (pt_not (pt_val (pe_call G_is_integer (hr.mono (by decide)) (by rfl) T.m_is_integer T.F_is_integer.kp T.b_is_integer .nil pass0 (pa_cons (pv 1) pa_nil)))) (pw_or1 (pt_cmpR op_lt (pv 1) pe_int (nomark _))))) (pss_one (ps_raise rfl (takes_of rfl rfl rfl rfl) (pmk_oexB T.oxTr T.iTr T.tTr G_InvalidTree_init (hr.mono (by decide)) T.b_InvalidTree_init .nil pass0 (by rfl) T.m_InvalidTree (pa_cons pe_str pa_nil)))) pss_nil)
      (pss_one (ps_fld (pv 0) (pv 1) rfl))), ?_⟩
  refine ⟨_, rfl, v, b1, b2, rfl, o1, o2, _, rfl, ?_⟩
  cases e : (b1 && !b2) with
  | false =>
    refine iteT ?_
    refine iteT ?_
    exact mk_at (fun R r => by exact r) (qe (.inl e))
  | true =>
    refine iteF ?_
    obtain ⟨i, rfl⟩ := qi e
    refine ⟨_, rfl, _, _, rfl, rfl, _, rfl, ?_⟩
    refine ite2 (fun c => ?_) (fun c => ?_)
    · exact mk_at (fun R r => by exact r) (qe (.inr ⟨i, rfl, of_decide_eq_true c⟩))
    · refine ⟨_, rfl, _, rfl, p, T.C_Hear, dx, _, rfl, hp, T.c_Hear, T.n_Hear_number, (by show 0 < 1000; decide), ?_⟩
      exact q i e rfl (by have : ¬ i < 0 := fun z => c (decide_eq_true z); omega) _ upd_same fun c u e nc => by rw [upd_ne nc]; exact e
end
end My

/-! ## Are these events -/
namespace My
open PySem PySem.Spec PyProof.Rows L2
abbrev s_are_events : Stmt := top 11
abbrev N_are_events : List Str := ["value", "left", "heard", "event"]
abbrev P_are_events : List Str := ["value"]
theorem sc_are_events : FnScope N_are_events P_are_events (defScope s_are_events) := ⟨rfl, rfl, rfl, by decide +kernel, rfl, by decide +kernel, by decide +kernel⟩
def iTwo (K : PySem.W.Frag) (te : TE) : TI := fun σ H R => iList K te σ H R ∨ iTup K te σ H R
theorem pi_two {X : Cx} {te : TE} {e : Expr} (K : PySem.W.Frag) {tg : Expr} (hl : PE X e te) (hK : X.K = K := by rfl) : PI X tg e (iTwo K te) :=
  ⟨fun pins s σ H R I h => h.elim ((pi_listK K (tg := tg) hl hK).run pins s σ H R I) ((pi_tupK K (tg := tg) hl hK).run pins s σ H R I)⟩
structure TxEvents (w : World) (K : PySem.W.Frag) (mg : Str → Option Value) extends TxTrees0 w K mg, TxSeq0 w K mg where
  ty_Wait : ∀ (H : Hp) (a dx : Addr) (fs : List (Str × V)), H a = some (.ins C_Wait dx fs) → TyX K H (.ref a) (.ref C_Wait)
  ty_Leave : ∀ (H : Hp) (a dx : Addr) (fs : List (Str × V)), H a = some (.ins C_Leave dx fs) → TyX K H (.ref a) (.ref C_Leave)
  ty_Hear : ∀ (H : Hp) (a dx : Addr) (fs : List (Str × V)), H a = some (.ins C_Hear dx fs) → TyX K H (.ref a) (.ref C_Hear)
  kk_Hear_Hear : PySem.W.kitOne K (.ref C_Hear) (.ref C_Hear) = some true
  kk_Leave_Hear : PySem.W.kitOne K (.ref C_Leave) (.ref C_Hear) = some false
  kk_Leave_Leave : PySem.W.kitOne K (.ref C_Leave) (.ref C_Leave) = some true
  kk_Leave_Wait : PySem.W.kitOne K (.ref C_Leave) (.ref C_Wait) = some false
  kk_Wait_Hear : PySem.W.kitOne K (.ref C_Wait) (.ref C_Hear) = some false
  kk_Wait_Leave : PySem.W.kitOne K (.ref C_Wait) (.ref C_Leave) = some false
  kk_Wait_Wait : PySem.W.kitOne K (.ref C_Wait) (.ref C_Wait) = some true
  f_are_events : Addr
  d_are_events : FuncData
  F_are_events : Fun K "are_events" "are_events" s_are_events f_are_events d_are_events
  m_are_events : mg "are_events" = some (.ref f_are_events)
  b_are_events : Binds K d_are_events P_are_events []
/-- what an item may be -/
inductive Ek where
  | wait (c : Addr)
  | leave (c : Addr)
  | hear (n : Int)
  | odd
inductive EkAt {w : World} {K : PySem.W.Frag} {mg : Str → Option Value} (T : TxTrees0 w K mg) (H : Hp) : V → Ek → Prop
  | wait {a dx c : Addr} (h : H a = some (.ins T.C_Wait dx [("call", .ref c)])) : EkAt T H (.ref a) (.wait c)
  | leave {a dx c : Addr} (h : H a = some (.ins T.C_Leave dx [("call", .ref c)])) : EkAt T H (.ref a) (.leave c)
  | hear {a dx : Addr} {n : Int} (h : H a = some (.ins T.C_Hear dx [("number", .int n)])) : EkAt T H (.ref a) (.hear n)
  | odd {v : V} (h1 : OfC K H v (.ref T.C_Hear) false) (h2 : OfC K H v (.ref T.C_Leave) false) (h3 : OfC K H v (.ref T.C_Wait) false) : EkAt T H v .odd
theorem EkAt.same {w : World} {K : PySem.W.Frag} {mg : Str → Option Value} {T : TxTrees0 w K mg} {H H' : Hp} {v : V} {k : Ek} (h : EkAt T H v k) (e : Same H H') : EkAt T H' v k := by
  cases h with
  | wait h => exact .wait (e _ _ h)
  | leave h => exact .leave (e _ _ h)
  | hear h => exact .hear (e _ _ h)
  | odd h1 h2 h3 => exact .odd (h1.same e) (h2.same e) (h3.same e)
/-- one item more: how many are left, which were heard; none where it may not stand -/
def evStep : Ek → Int × List Int → Option (Int × List Int)
  | .wait _, s => some s
  | .leave _, (l, hs) => some (l + 1, hs)
  | .hear n, (l, hs) => if l ≤ n ∨ n ∈ hs then none else some (l, hs ++ [n])
  | .odd, _ => none
def evRun : List Ek → Int × List Int → Option (Int × List Int)
  | [], s => some s
  | e :: es, s => (evStep e s).bind (evRun es)
def evOk (es : List Ek) : Bool := (evRun es (0, [])).isSome
theorem evRun_snoc (e : Ek) : ∀ (es : List Ek) (s : Int × List Int), evRun (es ++ [e]) s = (evRun es s).bind (evStep e)
  | [], s => by
    show (evStep e s).bind (fun t => some t) = evStep e s
    cases evStep e s <;> rfl
  | f :: es, s => by
    show (evStep f s).bind (evRun (es ++ [e])) = ((evStep f s).bind (evRun es)).bind (evStep e)
    cases evStep f s with
    | none => rfl
    | some t => exact evRun_snoc e es t
theorem evRun_app : ∀ (es fs : List Ek) (s : Int × List Int), evRun (es ++ fs) s = (evRun es s).bind (evRun fs)
  | [], fs, s => rfl
  | f :: es, fs, s => by
    show (evStep f s).bind (evRun (es ++ fs)) = ((evStep f s).bind (evRun es)).bind (evRun fs)
    cases evStep f s with
    | none => rfl
    | some t => exact evRun_app es fs t
theorem evRun_at {es : List Ek} {i : Nat} {e : Ek} (h : es[i]? = some e) (s : Int × List Int) : evRun (es.take (i + 1)) s = (evRun (es.take i) s).bind (evStep e) := by
  rw [List.take_add_one, h]
  exact evRun_snoc e _ s
theorem evOk_bad {es : List Ek} {i : Nat} {e : Ek} {s : Int × List Int} (h : es[i]? = some e) (r : evRun (es.take i) (0, []) = some s) (b : evStep e s = none) : evOk es = false := by
  unfold evOk
  have z := evRun_app (es.take (i + 1)) (es.drop (i + 1)) (0, [])
  rw [List.take_append_drop, evRun_at h, r] at z
  rw [z]
  show ((evStep e s).bind _).isSome = false
  rw [b]
  rfl
def hdK (hs : List Int) : List (Key × V) := hs.map fun n => (Sum.inl n, V.bl true)
theorem hd_none {n : Int} : ∀ {hs : List Int}, n ∉ hs → valV (hdK hs) (Sum.inl n : Key) = none
  | [], _ => rfl
  | m :: hs, h => by
    have a : ¬ (Sum.inl m : Key) = Sum.inl n := fun e => h (by injection e with e; rw [e]; exact List.mem_cons_self)
    exact (valV_neg (p := ((Sum.inl m : Key), V.bl true)) a).trans (hd_none fun z => h (List.mem_cons_of_mem _ z))
theorem hd_some {n : Int} : ∀ {hs : List Int}, n ∈ hs → valV (hdK hs) (Sum.inl n : Key) = some (.bl true)
  | m :: hs, h => by
    by_cases e : m = n
    · exact valV_pos (p := ((Sum.inl m : Key), V.bl true)) (by rw [e])
    · have a : ¬ (Sum.inl m : Key) = Sum.inl n := fun z => e (by injection z)
      exact (valV_neg (p := ((Sum.inl m : Key), V.bl true)) a).trans (hd_some (by rcases List.mem_cons.mp h with z | z; exact absurd z.symm e; exact z))
theorem pair_at {α β : Type} {R : α → β → Prop} : ∀ {xs : List α} {ys : List β} {i : Nat} {x : α}, Paired R xs ys → xs[i]? = some x → ∃ y, ys[i]? = some y ∧ R x y
  | _, _, _, _, .nil, e => by simp at e
  | _, _, 0, _, .cons r _, e => by simp at e; subst e; exact ⟨_, rfl, r⟩
  | _, _, i + 1, x, .cons _ t, e => by
    simp at e
    obtain ⟨y, h1, h2⟩ := pair_at t e
    exact ⟨y, by simpa using h1, h2⟩
theorem pair_len2 {α β : Type} {R : α → β → Prop} : ∀ {xs : List α} {ys : List β}, Paired R xs ys → xs.length = ys.length
  | _, _, .nil => rfl
  | _, _, .cons _ t => congrArg Nat.succ (pair_len2 t)
inductive EventsV {w : World} {K : PySem.W.Frag} {mg : Str → Option Value} (T : TxTrees0 w K mg) (H : Hp) : V → Bool → Prop
  | no {v : V} (h : SeqV K H v false) : EventsV T H v false
  | seq {a : Addr} {xs : List V} {es : List Ek} (h : SqA K H a xs) (p : Paired (EkAt T H) xs es) (n : xs.length ≤ 500) : EventsV T H (.ref a) (evOk es)
def evBody {w : World} {K : PySem.W.Frag} {mg : Str → Option Value} (T : TxEvents w K mg) : TS := (tIfS (tB (tCB (rIsi K) (tCons (tVar 3) (tCons (tC (V.ref T.C_Hear)) tNil)))) (tSeq (tIfS (tOr (tTest (tOp (rI0 fun i j => V.bl (decide (j ≤ i))) (tFld K (tVar 3) (Str.ofString "number")) (tVar 1))) (tB (tDIn (tFld K (tVar 3) (Str.ofString "number")) (tVar 2)))) (tRet (tC (V.bl false))) tNext) (sDPut (tVar 2) (tFld K (tVar 3) (Str.ofString "number")) (tC (V.bl true)))) (tIfS (tB (tCB (rIsi K) (tCons (tVar 3) (tCons (tC (V.ref T.C_Leave)) tNil)))) (tAug 1 (tC (V.int 1)) (rI0 fun i j => V.int (i + j))) (tIfS (tNot (tB (tCB (rIsi K) (tCons (tVar 3) (tCons (tC (V.ref T.C_Wait)) tNil))))) (tRet (tC (V.bl false))) tNext)))
section
variable {w : World} {K : PySem.W.Frag} {mg : Str → Option Value}
theorem ok_evBody (T : TxEvents w K mg) {D : Ends} {d : Addr} {v0 : Option V} {l : Int} {hs : List Int} {H H4 : Hp} {xs : List V} {es : List Ek} {i : Nat} {x : V} (e : Paired (EkAt T.toTxTrees0 H) xs es) (n : xs.length ≤ 500) (hx : xs[i]? = some x) (dn : H d = none)
    (er : evRun (es.take i) (0, []) = some (l, hs)) (hl : hs.length ≤ i) (h3 : H4 d = some (.dK (hdK hs))) (s3 : Same H H4) (q : ∀ H', Same H H' → evOk es = false → D.rt (.bl false) H')
    (hn : ∀ l' hs' H', evRun (es.take (i + 1)) (0, []) = some (l', hs') → hs'.length ≤ i + 1 → H' d = some (.dK (hdK hs')) → Same H H' → D.nx [v0, some (.int l'), some (.ref d), some x] H') :
    evBody T D [v0, some (.int l), some (.ref d), some x] H4 := by
  obtain ⟨k, hk, ea⟩ := pair_at e hx
  have ea := ea.same s3
  have il := (List.getElem?_eq_some_iff.mp hx).1
  cases ea with
  | odd o1 o2 o3 =>
    obtain ⟨t1, y1, k1⟩ := o1
    obtain ⟨t2, y2, k2⟩ := o2
    obtain ⟨t3, y3, k3⟩ := o3
    refine ⟨_, rfl, x, .ref T.C_Hear, t1, _, false, rfl, .own _, y1, k1, _, rfl, iteF ?_⟩
    refine ⟨_, rfl, x, .ref T.C_Leave, t2, _, false, rfl, .own _, y2, k2, _, rfl, iteF ?_⟩
    refine ⟨_, rfl, x, .ref T.C_Wait, t3, _, false, rfl, .own _, y3, k3, _, rfl, iteT ?_⟩
    exact q _ s3 (evOk_bad hk er rfl)
  | @leave b dx c hb =>
    refine ⟨_, rfl, .ref b, .ref T.C_Hear, .ref T.C_Leave, _, false, rfl, .own _, T.ty_Leave _ _ _ _ hb, T.kk_Leave_Hear, _, rfl, iteF ?_⟩
    refine ⟨_, rfl, .ref b, .ref T.C_Leave, .ref T.C_Leave, _, true, rfl, .own _, T.ty_Leave _ _ _ _ hb, T.kk_Leave_Leave, _, rfl, iteT ?_⟩
    refine ⟨_, rfl, _, _, rfl, rfl, ?_⟩
    exact hn (l + 1) hs _ (by rw [evRun_at hk, er]; rfl) (Nat.le_succ_of_le hl) h3 s3
  | @wait b dx c hb =>
    refine ⟨_, rfl, .ref b, .ref T.C_Hear, .ref T.C_Wait, _, false, rfl, .own _, T.ty_Wait _ _ _ _ hb, T.kk_Wait_Hear, _, rfl, iteF ?_⟩
    refine ⟨_, rfl, .ref b, .ref T.C_Leave, .ref T.C_Wait, _, false, rfl, .own _, T.ty_Wait _ _ _ _ hb, T.kk_Wait_Leave, _, rfl, iteF ?_⟩
    refine ⟨_, rfl, .ref b, .ref T.C_Wait, .ref T.C_Wait, _, true, rfl, .own _, T.ty_Wait _ _ _ _ hb, T.kk_Wait_Wait, _, rfl, iteF ?_⟩
    exact hn l hs _ (by rw [evRun_at hk, er]; rfl) (Nat.le_succ_of_le hl) h3 s3
  | @hear b dx n hb =>
    refine ⟨_, rfl, .ref b, .ref T.C_Hear, .ref T.C_Hear, _, true, rfl, .own _, T.ty_Hear _ _ _ _ hb, T.kk_Hear_Hear, _, rfl, iteT ?_⟩
    refine ⟨_, rfl, b, T.C_Hear, dx, _, _, rfl, hb, T.c_Hear, T.n_Hear_number, rfl, _, rfl, _, _, rfl, rfl, _, rfl, ?_⟩
    have bad : (l ≤ n ∨ n ∈ hs) → D.rt (.bl false) H4 := fun z => by
      exact q _ s3 (evOk_bad hk er (if_pos z))
    refine ite2 (fun c => ?_) (fun c => ?_)
    · exact iteT (bad (.inl (of_decide_eq_true c)))
    · by_cases mem : n ∈ hs
      · refine ⟨_, rfl, b, T.C_Hear, dx, _, _, rfl, hb, T.c_Hear, T.n_Hear_number, rfl, _, rfl, d, some (.bl true), rfl, .inl ⟨_, Sum.inl n, Rd.of h3, rfl, (hd_some mem).symm⟩, _, rfl, ?_⟩
        exact iteT (bad (.inr mem))
      · refine ⟨_, rfl, b, T.C_Hear, dx, _, _, rfl, hb, T.c_Hear, T.n_Hear_number, rfl, _, rfl, d, none, rfl, .inl ⟨_, Sum.inl n, Rd.of h3, rfl, (hd_none mem).symm⟩, _, rfl, ?_⟩
        refine iteF ?_
        have hlen : (hdK hs).length = hs.length := List.length_map _
        refine ⟨_, rfl, _, rfl, b, T.C_Hear, dx, _, _, rfl, hb, T.c_Hear, T.n_Hear_number, rfl, d, _, rfl, .inl ⟨_, Sum.inl n, h3, rfl, by rw [hlen]; exact small1000 (by omega), rfl⟩, ?_⟩
        refine hn l (hs ++ [n]) _ (by rw [evRun_at hk, er]; exact if_neg fun z => z.elim (fun y => c (decide_eq_true y)) mem) (by rw [List.length_append]; exact Nat.succ_le_succ hl) ?_ (fun b o z => by rw [upd_ne (ne_of_none z dn)]; exact s3 _ _ z)
        rw [upd_same, putK_new _ (hd_none mem)]
        exact congrArg (fun z => some (HO.dK z)) (by unfold hdK; rw [List.map_append]; rfl)
end
def spEvents {w : World} {K : PySem.W.Frag} {mg : Str → Option Value} (T : TxTrees0 w K mg) : Sp := fun us H Q _ => ∃ (v : V) (b : Bool), us = [v] ∧ EventsV T H v b ∧ ∀ H', Same H H' → Q (.bl b) H'
section
variable {P : Program} {w : World} {K : PySem.W.Frag} {mg : Str → Option Value} {base : Heap}
theorem ok_are_events (T : TxEvents w K mg) : FnOk P w K mg base CX0 2 T.f_are_events T.d_are_events P_are_events (spEvents T.toTxTrees0) := by
  have G_is_sequence := ok_is_sequence (P := P) (w := w) (base := base) T.toTxSeq0
  refine T.F_are_events.ok sc_are_events (fun vs H Q E h => ?_) (fun cdv A outer s H vs Q E hr h => ?_)
  · obtain ⟨v, b, rfl, _⟩ := h
    rfl
  obtain ⟨v, b, rfl, hv, q⟩ := h
  refine ⟨_, (pss_cons (ps_if (pt_not (pt_val (pe_call G_is_sequence (hr.mono (by decide)) (by rfl) T.m_is_sequence T.F_is_sequence.kp T.b_is_sequence .nil pass0 (pa_cons (pv 0) pa_nil)))) (pss_one (ps_ret pe_bl)) pss_nil)
      (pss_cons (ps_set (i := 1) sc_are_events.nd rfl (Or.inl rfl) pe_int)
      (pss_cons (ps_set (i := 2) sc_are_events.nd rfl (Or.inl rfl) pe_dnewK)
      (pss_cons (ps_for PassesOwn.never rfl (pi_two K (pv 0)) (pg_name (i := 3) sc_are_events.nd rfl (Or.inl rfl)) (pss_one (ps_if (pt_val (pe_callB (call_isiV K) (by rfl) T.z_isinstance (by decide +kernel) (pa_cons (pv 3) (pa_cons (pe_glob (v := .ref T.C_Hear) (by rfl) T.m_Hear rfl) pa_nil)))) (pss_cons (ps_if (PW.pt (pw_or (pt_cmpR op_ge (pe_fldK K (pv 3)) (pv 1) (nomark _)) (pw_or1 (pt_cmp (pc_din (hu_of hr) (pe_fldK K (pv 3)) (pv 2)))))) (pss_one (ps_ret pe_bl)) pss_nil)
      (pss_one (ps_dput (hu_of hr) (pv 2) (pe_fldK K (pv 3)) pe_bl rfl))) (pss_one (ps_if (pt_val (pe_callB (call_isiV K) (by rfl) T.z_isinstance (by decide +kernel) (pa_cons (pv 3) (pa_cons (pe_glob (v := .ref T.C_Leave) (by rfl) T.m_Leave rfl) pa_nil)))) (pss_one (ps_aug (i := 1) sc_are_events.nd rfl (Or.inl rfl) pe_int iop_add)) (pss_one (ps_if (pt_not (pt_val (pe_callB (call_isiV K) (by rfl) T.z_isinstance (by decide +kernel) (pa_cons (pv 3) (pa_cons (pe_glob (v := .ref T.C_Wait) (by rfl) T.m_Wait rfl) pa_nil))))) (pss_one (ps_ret pe_bl)) pss_nil)))))))
      (pss_one (ps_ret pe_bl)))))), ?_⟩
  cases hv with
  | no h =>
    refine ⟨_, rfl, v, false, rfl, h, fun H1 s1 => ⟨_, rfl, ?_⟩⟩
    exact iteT (q H1 s1)
  | @seq a xs es h e n =>
    refine ⟨_, rfl, .ref a, true, rfl, h.seqV, fun H1 s1 => ⟨_, rfl, ?_⟩⟩
    refine iteF ?_
    refine fun d hd => ?_
    have u2 := same_upd hd (.dK [])
    have hd2 := upd_same (H := H1) (a := d) (o := .dK [])
    have s2 := s1.trans u2
    have dn : H d = none := s1.free hd
    generalize upd H1 d (.dK []) = H2 at u2 hd2 s2
    have fin : ∀ σ H3, (∃ (v3 : Option V) (l : Int) (hs : List Int), σ = [some (.ref a), some (.int l), some (.ref d), v3] ∧ evRun (es.take xs.length) (0, []) = some (l, hs) ∧ hs.length ≤ xs.length ∧ H3 d = some (.dK (hdK hs)) ∧ Same H H3) → Q (.bl true) H3 := fun σ H3 ⟨v3, l, hs, _, er, hl, h3, s3⟩ => by
      have ok : evOk es = true := by
        unfold evOk
        rw [pair_len2 e, List.take_length] at er
        rw [er]
        rfl
      rw [ok] at q
      exact q _ s3
    have bad : ∀ H', Same H H' → evOk es = false → Q (.bl false) H' := fun H' s ok => by
      rw [ok] at q
      exact q _ s
    rcases id h with hL | hT
    · refine .inl ⟨_, rfl, a, rfl, ⟨_, s2.seq hL⟩, for_list (K := K) (a := a) (xs := xs) (fun i σ H' => ∃ (v3 : Option V) (l : Int) (hs : List Int), σ = [some (.ref a), some (.int l), some (.ref d), v3] ∧ evRun (es.take i) (0, []) = some (l, hs) ∧ hs.length ≤ i ∧ H' d = some (.dK (hdK hs)) ∧ Same H H') ⟨_, 0, [], rfl, rfl, Nat.le_refl _, hd2, s2⟩ (fun i σ H' _ h => by obtain ⟨_, _, _, _, _, _, _, s⟩ := h; exact s.seq hL) ?_ fin⟩
      rintro i x σ H4 hx ⟨v3, l, hs, rfl, er, hl, h3, s3⟩
      exact ok_evBody T e n hx dn er hl h3 s3 bad fun l' hs' H' e1 e2 e3 e4 => ⟨_, l', hs', rfl, e1, e2, e3, e4⟩
    · refine .inr ⟨_, rfl, a, rfl, ⟨_, seqT_same s2 hT⟩, for_tup (K := K) (a := a) (xs := xs) (fun i σ H' => ∃ (v3 : Option V) (l : Int) (hs : List Int), σ = [some (.ref a), some (.int l), some (.ref d), v3] ∧ evRun (es.take i) (0, []) = some (l, hs) ∧ hs.length ≤ i ∧ H' d = some (.dK (hdK hs)) ∧ Same H H') ⟨_, 0, [], rfl, rfl, Nat.le_refl _, hd2, s2⟩ (fun i σ H' _ h => by obtain ⟨_, _, _, _, _, _, _, s⟩ := h; exact seqT_same s hT) ?_ fin⟩
      rintro i x σ H4 hx ⟨v3, l, hs, rfl, er, hl, h3, s3⟩
      exact ok_evBody T e n hx dn er hl h3 s3 bad fun l' hs' H' e1 e2 e3 e4 => ⟨_, l', hs', rfl, e1, e2, e3, e4⟩
end
end My

/-! ## len(range(e)) -/
namespace My
open PySem PySem.Spec PyProof.Rows L2
def tLenRng (ta : TA) : TE := fun σ H Q => ta σ H fun vs H1 => ∃ n : Nat, vs = [.int (n : Int)] ∧ n ≤ 16777216 ∧ Q (.int (n : Int)) H1
section
variable {X : Cx} {a : Expr} {ta : TA} {p p2 pos pos2 : Pos}
theorem pe_lenRng (hg : Gl X "len") (hm : X.mg "len" = none) (hg2 : Gl X "range") (hm2 : X.mg "range" = none) (ha : PA X [a] ta) (hs : starEach [a] X.env = [(false, eval a X.env)] := by rfl)
    (hs2 : starEach [.Call (.Name "range" p2) [a] [] pos2] X.env = [(false, eval (.Call (.Name "range" p2) [a] [] pos2) X.env)] := by rfl) : PE X (.Call (.Name "len" p) [.Call (.Name "range" p2) [a] [] pos2] [] pos) (tLenRng ta) := by
  refine ⟨fun pins s σ H Q I h => ?_⟩
  refine Call_ (ld_blt I hg hm boot_len ?_)
  rw [hs2]
  refine PySem.callWith_builtin1 ?_
  refine Call_ (ld_blt I hg2 hm2 boot_range (PyProof.Rows.callWith_type1 (thn (ha.run pos2 pins s σ H _ I h) fun us s1 ⟨vs, H1, I1, r1, n, ev, hn, q⟩ => ?_) hs rfl))
  subst ev
  cases r1 with
  | cons r rr =>
  cases rr
  obtain ⟨t, rfl⟩ := r
  refine call_range_1 ?_
  refine call_len_range (n := n) (IsRange.new ..) ?_ (by omega) ?_
  · rw [rangeSize_one]
    split <;> omega
  exact ⟨.int (n : Int), H1, (I1.kept (t' := _) fun b o e => Heap.get?_push_of_some _ e), ⟨_, rfl⟩, q⟩
end
end My

/-! ## len by an own __len__ -/
namespace My
open PySem L2 PyProof.Rows
structure OwnLen (P : Program) (w : World) (K : PySem.W.Frag) (mg : Str → Option Value) (base : Heap) {ι : Type} (cl : ι → Addr) (ok : ι → Prop) (k : Nat) (sp : ι → Sp) : Prop where
  fn : ∀ i, ok i → ∃ (f : Addr) (fd : FuncData) (ps : List Str), FnOk P w K mg base CX0 k f fd ps (sp i) ∧ Binds K fd ps [] ∧ PySem.W.findIn K (.ref (cl i)) "__len__" = some (some (.ref f)) ∧ PySem.W.isFn K (.ref f) = true
section
variable {X : Cx}
def rLenO {ι : Type} (cl : ι → Addr) (ok : ι → Prop) (sp : ι → Sp) : List V → Hp → VK → Prop := fun xs H Q => ∃ (a : Addr) (i : ι) (dx : Addr) (fs : List (Str × V)), xs = [.ref a] ∧ ok i ∧ H a = some (.ins (cl i) dx fs) ∧ sp i [.ref a] H (fun v H' => ∃ n : Nat, v = .int (n : Int) ∧ n ≤ 1000 ∧ Q (.int (n : Int)) H') E0
/-- len(x) by its own __len__ -/
theorem call_lenO (K : PySem.W.Frag) {ι : Type} {cl : ι → Addr} {ok : ι → Prop} {k : Nat} {sp : ι → Sp} (G : OwnLen X.prog X.w K X.mg X.base cl ok k sp) (hr : Room (k + 1) X.A) (hK : X.K = K := by rfl) : CallR X (.builtin "len") (rLenO cl ok sp) := by
  subst hK
  intro pins s σ H xs us Q I r h
  obtain ⟨a, i, dx, fs, rfl, hC, ha, hs⟩ := h
  rw [Vals.ref1 r]
  obtain ⟨f, fd, ps, F, hb, e, g⟩ := G.fn i hC
  obtain ⟨mA, O, _, _, _, _⟩ := ins_get I.hok ha
  obtain ⟨od, J, _⟩ := O.look
  obtain ⟨m, fr⟩ := I.fr
  have r2 : Vals [.ref a] [Value.ref a] := .cons rfl .nil
  have q := run_within I I.env0.in1 F hr.in1 hb r2 hs
  refine PySem.W.len_K fr I.ok.mod.kin J e g (wpAny_mono q (fun z s' hz => ?_) fun _ _ z => z)
  obtain ⟨v, H', I', r, n, rfl, hn, q⟩ := hz
  obtain ⟨t, rfl⟩ : ∃ t, z = Value.int n t := r
  refine ⟨⟨Int.natCast_nonneg n, by omega⟩, .int n, H', I'.tok _, ⟨_, rfl⟩, q⟩
end
end My

/-! ## Calls made: any values -/
namespace My
open PySem PySem.Spec PyProof.Rows L2 PySem.MyX
abbrev s_Call_len : Stmt := inClass (top 13) 1
abbrev N_Call_len : List Str := ["self"]
abbrev P_Call_len : List Str := ["self"]
theorem sc_Call_len : FnScope N_Call_len P_Call_len (defScope s_Call_len) := ⟨rfl, rfl, rfl, by decide +kernel, rfl, by decide +kernel, by decide +kernel⟩
abbrev s_Call_init : Stmt := inClass (top 13) 0
abbrev N_Call_init : List Str := ["self", "service", "kind", "bad", "events", "side", "event", "call"]
abbrev P_Call_init : List Str := ["self", "service", "kind", "bad", "events", "side"]
theorem sc_Call_init : FnScope N_Call_init P_Call_init (defScope s_Call_init) := ⟨rfl, rfl, rfl, by decide +kernel, rfl, by decide +kernel, by decide +kernel⟩
structure TxCalls (w : World) (K : PySem.W.Frag) (mg : Str → Option Value) extends TxEvents w K mg where
  z_range : mg "range" = none
  z_sum : mg "sum" = none
  n_Call_service : NoAttr K C_Call "service"
  n_Call_kind : NoAttr K C_Call "kind"
  n_Call_bad : NoAttr K C_Call "bad"
  n_Call_events : NoAttr K C_Call "events"
  n_Call_side : NoAttr K C_Call "side"
  n_Call_inner : NoAttr K C_Call "inner"
  n_Call__size : NoAttr K C_Call "_size"
  f_Call_len : Addr
  d_Call_len : FuncData
  F_Call_len : Fun K "__len__" "Call.__len__" s_Call_len f_Call_len d_Call_len
  b_Call_len : Binds K d_Call_len P_Call_len []
  li_Call : PySem.W.findIn K (.ref C_Call) "__len__" = some (some (.ref f_Call_len))
  lf_Call : PySem.W.isFn K (.ref f_Call_len) = true
  e_events : Addr
  t_events : ∀ H : Hp, SqT K H e_events []
  f_Call_init : Addr
  d_Call_init : FuncData
  mk_Call : Mk K C_Call f_Call_init
  F_Call_init : FunD K "__init__" "Call.__init__" (defArgs s_Call_init) (defBody s_Call_init) (defScope s_Call_init) [.bl false, .ref e_events, .str "old"] [] f_Call_init d_Call_init
/-- a call of this size -/
structure CallS {w : World} {K : PySem.W.Frag} {mg : Str → Option Value} (T : TxTrees0 w K mg) (H : Hp) (c : Addr) (n : Nat) : Prop where
  ex : ∃ dx fs, H c = some (.ins T.C_Call dx fs) ∧ fs.lookup ("_size" : Str) = some (.int (n : Int))
  few : n ≤ 1000
def spCallLen {w : World} {K : PySem.W.Frag} {mg : Str → Option Value} (T : TxTrees0 w K mg) : Unit → Sp := fun _ us H Q _ => ∃ (c : Addr) (n : Nat), us = [.ref c] ∧ CallS T H c n ∧ Q (.int (n : Int)) H
section
variable {P : Program} {w : World} {K : PySem.W.Frag} {mg : Str → Option Value} {base : Heap}
theorem ok_Call_len (T : TxCalls w K mg) : FnOk P w K mg base CX0 1 T.f_Call_len T.d_Call_len P_Call_len (spCallLen T.toTxTrees0 ()) := by
  refine T.F_Call_len.ok sc_Call_len (fun vs H Q E h => ?_) (fun cdv A outer s H vs Q E hr h => ?_)
  · obtain ⟨c, n, rfl, _⟩ := h
    rfl
  obtain ⟨c, n, rfl, ⟨⟨dx, fs, hc, hl⟩, few⟩, q⟩ := h
  refine ⟨_, (pss_one (ps_ret (pe_lenRng (by rfl) T.z_len (by rfl) T.z_range (pa_cons (pe_fldK K (pv 0)) pa_nil)))), ?_⟩
  exact ⟨_, rfl, c, T.C_Call, dx, fs, _, rfl, hc, T.c_Call, T.n_Call__size, hl, n, rfl, by omega, q⟩
theorem len_call (T : TxCalls w K mg) : OwnLen P w K mg base (fun _ : Unit => T.C_Call) (fun _ => True) 1 (spCallLen T.toTxTrees0) := ⟨fun _ _ => ⟨_, _, _, ok_Call_len T, T.b_Call_len, T.li_Call, T.lf_Call⟩⟩
end
end My

/-! ## A call is made, or refused: any values -/
namespace My
open PySem PySem.Spec PyProof.Rows L2 PySem.MyX
/-- what tuple(xs) asks -/
structure TupS (K : PySem.W.Frag) (vs : List V) (H : Hp) (Q : VK) : Prop where
  ex : ∃ (a : Addr) (xs : List V), vs = [.ref a] ∧ SqA K H a xs ∧ ∀ t H', Same H H' → SqT K H' t xs → Q (.ref t) H'
theorem call_tupS {X : Cx} (K : PySem.W.Frag) (hK : X.K = K := by rfl) : CallR X (.type "tuple") (TupS K) := by
  subst hK
  intro pins s σ H xs us Q I r h
  obtain ⟨a, ys, rfl, hq, q⟩ := h.ex
  exact call_tuple_of pins s σ H _ us Q I r (tuple_of hq q)
theorem bnot1 {b : Bool} (h : (!b) = true) : b = false := by simpa using h
theorem bnot2 {b : Bool} (h : ¬ (!b) = true) : b = true := by simpa using h
theorem ek_same {w : World} {K : PySem.W.Frag} {mg : Str → Option Value} {T : TxTrees0 w K mg} {H H' : Hp} (e : Same H H') : ∀ {xs : List V} {es : List Ek}, Paired (EkAt T H) xs es → Paired (EkAt T H') xs es
  | _, _, .nil => .nil
  | _, _, .cons h t => .cons (h.same e) (ek_same e t)
theorem EventsV.same {w : World} {K : PySem.W.Frag} {mg : Str → Option Value} {T : TxTrees0 w K mg} {H H' : Hp} {v : V} {b : Bool} (h : EventsV T H v b) (e : Same H H') : EventsV T H' v b := by
  cases h with
  | no h => exact .no (h.same e)
  | seq h p n => exact .seq (h.same e) (ek_same e p) n
def inSides (d : PyData) : Bool := (([("old" : Str), "new"]).map PyData.str).any fun z => PyData.eqv z d
/-- the word of the first wrong argument -/
def wrCall (b1 b2 b3 b4 b5 : Bool) : Option Str := if b1 = false then some "service" else if b2 = false then some "kind" else if b3 = false then some "bad" else if b4 = false then some "events" else if b5 = false then some "side" else none
def innerE : Ek → Option Addr
  | .wait c => some c
  | .leave c => some c
  | _ => none
def innerOf (es : List Ek) : List Addr := es.filterMap innerE
def spCallInit {w : World} {K : PySem.W.Frag} {mg : Str → Option Value} (T : TxTrees0 w K mg) : Sp := fun us H Q E => ∃ (p dx : Addr) (sv kd bd ev sd : V) (b3 b4 : Bool) (d : PyData), us = [.ref p, sv, kd, bd, ev, sd] ∧ H p = some (.ins T.C_Call dx []) ∧ AnyV K H sv ∧ AnyV K H kd ∧ OfC K H bd (.type "bool") b3 ∧ EventsV T H ev b4 ∧
  Dp K H sd d ∧ SeqAt.shaped d = true ∧
  (∀ wd a H', wrCall (nmV sv) (nmV kd) b3 b4 (inSides d) = some wd → Same H H' → H a = none → H' a = some (.xd [("word", .str wd)]) → E (.ref T.C_InvalidTree) (some a) H') ∧
  (wrCall (nmV sv) (nmV kd) b3 b4 (inSides d) = none → ∃ (a : Addr) (xs : List V) (es : List Ek) (ns : List Nat), ev = .ref a ∧ SqA K H a xs ∧ Paired (EkAt T H) xs es ∧ xs.length ≤ 500 ∧ (∀ e ∈ es, e ≠ .odd) ∧ Paired (CallS T H) (innerOf es) ns ∧ ns.sum ≤ 900 ∧
    ∀ (H' : Hp) (te ti : Addr), (∀ b u, H b = some u → b ≠ p → H' b = some u) → H' p = some (.ins T.C_Call dx [("service", sv), ("kind", kd), ("bad", bd), ("events", .ref te), ("side", sd), ("inner", .ref ti), ("_size", .int (1 + (ns.sum : Int)))]) → SqT K H' te xs → SqT K H' ti ((innerOf es).map V.ref) → Q .non H')
theorem EkAt.kp {w : World} {K : PySem.W.Frag} {mg : Str → Option Value} {T : TxTrees0 w K mg} {H H' : Hp} {p C dx : Addr} {v : V} {k : Ek} (h : EkAt T H v k) (n : k ≠ .odd) (hp : H p = some (.ins C dx [])) (kp : Kp p H H') : EkAt T H' v k := by
  cases h with
  | wait h => exact .wait (kp _ _ (fun z => by rw [z, hp] at h; cases h) h)
  | leave h => exact .leave (kp _ _ (fun z => by rw [z, hp] at h; cases h) h)
  | hear h => exact .hear (kp _ _ (fun z => by rw [z, hp] at h; cases h) h)
  | odd => exact absurd rfl n
theorem ek_kp {w : World} {K : PySem.W.Frag} {mg : Str → Option Value} {T : TxTrees0 w K mg} {H H' : Hp} {p C dx : Addr} (hp : H p = some (.ins C dx [])) (kp : Kp p H H') : ∀ {xs : List V} {es : List Ek}, Paired (EkAt T H) xs es → (∀ e ∈ es, e ≠ .odd) → Paired (EkAt T H') xs es
  | _, _, .nil, _ => .nil
  | _, _, .cons h t, no => .cons (h.kp (no _ List.mem_cons_self) hp kp) (ek_kp hp kp t fun e he => no e (List.mem_cons_of_mem _ he))
theorem CallS.kp {w : World} {K : PySem.W.Frag} {mg : Str → Option Value} {T : TxTrees0 w K mg} {H H' : Hp} {p C dx c : Addr} {n : Nat} (h : CallS T H c n) (hp : H p = some (.ins C dx [])) (kp : Kp p H H') : CallS T H' c n := by
  obtain ⟨dx2, fs, h1, h2⟩ := h.ex
  exact ⟨⟨dx2, fs, kp _ _ (fun z => by rw [z, hp] at h1; cases h1; cases h2) h1, h2⟩, h.few⟩
theorem CallS.same {w : World} {K : PySem.W.Frag} {mg : Str → Option Value} {T : TxTrees0 w K mg} {H H' : Hp} {c : Addr} {n : Nat} (h : CallS T H c n) (s : Same H H') : CallS T H' c n := by
  obtain ⟨dx2, fs, h1, h2⟩ := h.ex
  exact ⟨⟨dx2, fs, s _ _ h1, h2⟩, h.few⟩
theorem paired_kp {α β : Type} {R S : α → β → Prop} (f : ∀ a b, R a b → S a b) : ∀ {xs : List α} {ys : List β}, Paired R xs ys → Paired S xs ys
  | _, _, .nil => .nil
  | _, _, .cons h t => .cons (f _ _ h) (paired_kp f t)
theorem innerOf_at {es : List Ek} {i : Nat} {e : Ek} (h : es[i]? = some e) : innerOf (es.take (i + 1)) = innerOf (es.take i) ++ (innerE e).toList := by
  unfold innerOf
  rw [List.take_add_one, h, List.filterMap_append]
  congr 1
theorem innerOf_len (es : List Ek) : (innerOf es).length ≤ es.length := List.length_filterMap_le _ _
theorem sum_int : ∀ ns : List Nat, (ns.map fun n : Nat => (n : Int)).sum = ((ns.sum : Nat) : Int)
  | [] => rfl
  | n :: t => by
    rw [List.map_cons, List.sum_cons, List.sum_cons, sum_int t]
    omega
def tInner {w : World} {K : PySem.W.Frag} {mg : Str → Option Value} (T : TxCalls w K mg) : TE := tLc (iTwo K (tVar 4)) (gName 6) (tNot (tB (tCB (rIsi K) (tCons (tVar 6) (tCons (tC (V.ref T.C_Hear)) tNil))))) (tFld K (tVar 6) (Str.ofString "call")) (List.map (fun x => x.snd) [(Str.ofString "event", 6)])
def tSizes {w : World} {K : PySem.W.Frag} {mg : Str → Option Value} (T : TxCalls w K mg) : TE := tLc (iTup K (tFld K (tVar 0) (Str.ofString "inner"))) (gName 7) tYes (tCB (rLenO (fun x => T.C_Call) (fun x => True) (spCallLen T.toTxTrees0)) (tCons (tVar 7) tNil)) (List.map (fun x => x.snd) [(Str.ofString "call", 7)])
section
variable {w : World} {K : PySem.W.Frag} {mg : Str → Option Value}
theorem ok_tInner (T : TxCalls w K mg) {v0 v1 v2 v3 v5 v6 v7 : Option V} {a : Addr} {H : Hp} {xs : List V} {es : List Ek} {Q : VK} (hA : SqA K H a xs) (pe : Paired (EkAt T.toTxTrees0 H) xs es) (no : ∀ e ∈ es, e ≠ .odd) (n500 : xs.length ≤ 500)
    (q : ∀ D H', Same H H' → H' D = some (.lst ((innerOf es).map V.ref)) → Q (.ref D) H') : tInner T [v0, v1, v2, v3, some (.ref a), v5, v6, v7] H Q := by
  have step : ∀ (D : Addr), H D = none → ∀ (i : Nat) (x : V) (H1 : Hp), xs[i]? = some x → (Same H H1 ∧ H1 D = some (.lst ((innerOf (es.take i)).map V.ref))) → gName 6 x (wipe [v0, v1, v2, v3, some (.ref a), v5, v6, v7] [6]) H1 fun σ2 H2 => wipe σ2 [6] = wipe [v0, v1, v2, v3, some (.ref a), v5, v6, v7] [6] ∧ (tNot (tB (tCB (rIsi K) (tCons (tVar 6) (tCons (tC (V.ref T.C_Hear)) tNil))))) σ2 H2 fun b H3 =>
      if b = true then (tFld K (tVar 6) (Str.ofString "call")) σ2 H3 fun y H4 => ∃ acc, H4 D = some (.lst acc) ∧ acc.length < sizeLine ∧ (Same H (upd H4 D (.lst (acc ++ [y]))) ∧ upd H4 D (.lst (acc ++ [y])) D = some (.lst ((innerOf (es.take (i + 1))).map V.ref))) else (Same H H3 ∧ H3 D = some (.lst ((innerOf (es.take (i + 1))).map V.ref))) := by
    rintro D hD i x H1 hx ⟨s1, d1⟩
    obtain ⟨k, hk, ea⟩ := pair_at pe hx
    have nk := no k (List.mem_of_getElem? hk)
    have ea := ea.same s1
    have il := (List.getElem?_eq_some_iff.mp hx).1
    have few : ((innerOf (es.take i)).map V.ref).length < sizeLine := small1000 (by
      rw [List.length_map]
      exact Nat.le_trans (innerOf_len _) (by rw [List.length_take]; omega))
    have tk := innerOf_at hk
    refine ⟨rfl, ?_⟩
    cases ea with
    | odd => exact absurd rfl nk
    | @hear b dx n hb =>
      refine ⟨_, rfl, .ref b, .ref T.C_Hear, .ref T.C_Hear, _, true, rfl, .own _, T.ty_Hear _ _ _ _ hb, T.kk_Hear_Hear, _, rfl, iteF ⟨s1, ?_⟩⟩
      rw [tk, d1]
      exact congrArg (fun z => some (HO.lst (z.map V.ref))) (List.append_nil _).symm
    | @wait b dx c hb =>
      refine ⟨_, rfl, .ref b, .ref T.C_Hear, .ref T.C_Wait, _, false, rfl, .own _, T.ty_Wait _ _ _ _ hb, T.kk_Wait_Hear, _, rfl, iteT ?_⟩
      refine ⟨_, rfl, b, T.C_Wait, dx, _, _, rfl, hb, T.c_Wait, T.n_Wait_call, rfl, _, d1, few, fun e u z => ?_, ?_⟩
      · rw [upd_ne (ne_of_none z hD)]; exact s1 _ _ z
      · rw [upd_same, tk, List.map_append]; rfl
    | @leave b dx c hb =>
      refine ⟨_, rfl, .ref b, .ref T.C_Hear, .ref T.C_Leave, _, false, rfl, .own _, T.ty_Leave _ _ _ _ hb, T.kk_Leave_Hear, _, rfl, iteT ?_⟩
      refine ⟨_, rfl, b, T.C_Leave, dx, _, _, rfl, hb, T.c_Leave, T.n_Leave_call, rfl, _, d1, few, fun e u z => ?_, ?_⟩
      · rw [upd_ne (ne_of_none z hD)]; exact s1 _ _ z
      · rw [upd_same, tk, List.map_append]; rfl
  have fin : ∀ (D : Addr) (H1 : Hp), (Same H H1 ∧ H1 D = some (.lst ((innerOf (es.take xs.length)).map V.ref))) → Q (.ref D) H1 := fun D H1 ⟨s1, d1⟩ => q D H1 s1 (by rw [pair_len2 pe, List.take_length] at d1; exact d1)
  rcases hA with hL | hT
  · exact .inl ⟨_, rfl, a, rfl, ⟨_, hL⟩, fun D hD => lc_list (K := K) (a := a) (xs := xs) (fun i H' => Same H H' ∧ H' D = some (.lst ((innerOf (es.take i)).map V.ref))) ⟨same_upd hD _, upd_same⟩ (fun i H' _ h => h.1.seq hL) (step D hD) (fin D)⟩
  · exact .inr ⟨_, rfl, a, rfl, ⟨_, hT⟩, fun D hD => lc_tup (K := K) (a := a) (xs := xs) (fun i H' => Same H H' ∧ H' D = some (.lst ((innerOf (es.take i)).map V.ref))) ⟨same_upd hD _, upd_same⟩ (fun i H' _ h => seqT_same h.1 hT) (step D hD) (fin D)⟩
theorem ok_tSizes (T : TxCalls w K mg) {v1 v2 v3 v4 v5 v6 v7 : Option V} {p dx ti : Addr} {fs : List (Str × V)} {H : Hp} {cs : List Addr} {ns : List Nat} {Q : VK} (hp : H p = some (.ins T.C_Call dx fs)) (hl : fs.lookup ("inner" : Str) = some (.ref ti)) (ht : SqT K H ti (cs.map V.ref)) (pc : Paired (CallS T.toTxTrees0 H) cs ns) (few : cs.length ≤ 500)
    (q : ∀ D H', Same H H' → H' D = some (.lst ((ns.map fun n : Nat => (n : Int)).map V.int)) → Q (.ref D) H') : tSizes T [some (.ref p), v1, v2, v3, v4, v5, v6, v7] H Q := by
  refine ⟨_, rfl, p, T.C_Call, dx, _, _, rfl, hp, T.c_Call, T.n_Call_inner, hl, ti, rfl, ⟨_, ht⟩, fun D hD => ?_⟩
  have ln := pair_len2 pc
  refine lc_tup (K := K) (a := ti) (xs := cs.map V.ref) (fun i H' => Same H H' ∧ H' D = some (.lst (((ns.take i).map fun n : Nat => (n : Int)).map V.int))) ⟨same_upd hD _, upd_same⟩ (fun i H' _ h => seqT_same h.1 ht) ?_ ?_
  · rintro i x H1 hx ⟨s1, d1⟩
    rw [List.getElem?_map] at hx
    obtain ⟨c, hc, rfl⟩ : ∃ c, cs[i]? = some c ∧ V.ref c = x := by
      cases e : cs[i]? with
      | none => rw [e] at hx; cases hx
      | some z => rw [e] at hx; cases hx; exact ⟨z, rfl, rfl⟩
    obtain ⟨n, hn, cS⟩ := pair_at pc hc
    have cS := cS.same s1
    obtain ⟨dx2, fs2, g1, g2⟩ := cS.ex
    refine ⟨rfl, ?_⟩
    refine ⟨_, rfl, c, (), dx2, fs2, rfl, trivial, g1, c, n, rfl, cS, n, rfl, cS.few, _, d1, small1000 (by rw [List.length_map, List.length_map, List.length_take]; omega), fun e u z => ?_, ?_⟩
    · rw [upd_ne (ne_of_none z hD)]; exact s1 _ _ z
    · rw [upd_same, List.take_add_one, hn, List.map_append, List.map_append]; rfl
  · rintro H1 ⟨s1, d1⟩
    rw [List.length_map, ln, List.take_length] at d1
    exact q D H1 s1 d1
end
def callEnd {w : World} {K : PySem.W.Frag} {mg : Str → Option Value} (T : TxCalls w K mg) : TS := tSeq (sFld K (tVar 0) (tCB (TupS K) (tCons (tInner T) tNil)) (Str.ofString "inner")) (sFld K (tVar 0) (tOp (rI0 fun i j => V.int (i + j)) (tC (V.int 1)) (tCB (rSum K) (tCons (tSizes T) tNil))) (Str.ofString "_size"))
theorem CallS.kpF {w : World} {K : PySem.W.Frag} {mg : Str → Option Value} {T : TxTrees0 w K mg} {H H' : Hp} {p C dx c : Addr} {fs : List (Str × V)} {n : Nat} (h : CallS T H c n) (hp : H p = some (.ins C dx fs)) (hs : fs.lookup ("_size" : Str) = none) (kp : Kp p H H') : CallS T H' c n := by
  obtain ⟨dx2, fs2, h1, h2⟩ := h.ex
  exact ⟨⟨dx2, fs2, kp _ _ (fun z => by rw [z, hp] at h1; cases h1; rw [hs] at h2; cases h2) h1, h2⟩, h.few⟩
@[irreducible] def qInner {w : World} {K : PySem.W.Frag} {mg : Str → Option Value} (T : TxCalls w K mg) : TE := tInner T
@[irreducible] def qSizes {w : World} {K : PySem.W.Frag} {mg : Str → Option Value} (T : TxCalls w K mg) : TE := tSizes T
theorem qInner_eq {w : World} {K : PySem.W.Frag} {mg : Str → Option Value} {T : TxCalls w K mg} : tInner T = qInner T := by unfold qInner; rfl
theorem qSizes_eq {w : World} {K : PySem.W.Frag} {mg : Str → Option Value} {T : TxCalls w K mg} : tSizes T = qSizes T := by unfold qSizes; rfl
theorem ok_qInner {w : World} {K : PySem.W.Frag} {mg : Str → Option Value} (T : TxCalls w K mg) {v0 v1 v2 v3 v5 v6 v7 : Option V} {a : Addr} {H : Hp} {xs : List V} {es : List Ek} {Q : VK} (hA : SqA K H a xs) (pe : Paired (EkAt T.toTxTrees0 H) xs es) (no : ∀ e ∈ es, e ≠ .odd) (n500 : xs.length ≤ 500)
    (q : ∀ D H', Same H H' → H' D = some (.lst ((innerOf es).map V.ref)) → Q (.ref D) H') : qInner T [v0, v1, v2, v3, some (.ref a), v5, v6, v7] H Q := by
  unfold qInner
  exact ok_tInner T hA pe no n500 q
theorem ok_qSizes {w : World} {K : PySem.W.Frag} {mg : Str → Option Value} (T : TxCalls w K mg) {v1 v2 v3 v4 v5 v6 v7 : Option V} {p dx ti : Addr} {fs : List (Str × V)} {H : Hp} {cs : List Addr} {ns : List Nat} {Q : VK} (hp : H p = some (.ins T.C_Call dx fs)) (hl : fs.lookup ("inner" : Str) = some (.ref ti)) (ht : SqT K H ti (cs.map V.ref)) (pc : Paired (CallS T.toTxTrees0 H) cs ns) (few : cs.length ≤ 500)
    (q : ∀ D H', Same H H' → H' D = some (.lst ((ns.map fun n : Nat => (n : Int)).map V.int)) → Q (.ref D) H') : qSizes T [some (.ref p), v1, v2, v3, v4, v5, v6, v7] H Q := by
  unfold qSizes
  exact ok_tSizes T hp hl ht pc few q
theorem ok_callEnd {w : World} {K : PySem.W.Frag} {mg : Str → Option Value} (T : TxCalls w K mg) {D : Ends} {v1 v2 v3 v5 v6 v7 : Option V} {a p dx te : Addr} {sv kd bd sd : V} {H : Hp} {xs : List V} {es : List Ek} {ns : List Nat} (hA : SqA K H a xs) (pe : Paired (EkAt T.toTxTrees0 H) xs es) (no : ∀ e ∈ es, e ≠ .odd) (n500 : xs.length ≤ 500)
    (hI : Paired (CallS T.toTxTrees0 H) (innerOf es) ns) (hp : H p = some (.ins T.C_Call dx [("service", sv), ("kind", kd), ("bad", bd), ("events", .ref te), ("side", sd)]))
    (q : ∀ ti HB, Kp p H HB → HB p = some (.ins T.C_Call dx [("service", sv), ("kind", kd), ("bad", bd), ("events", .ref te), ("side", sd), ("inner", .ref ti), ("_size", .int (1 + (ns.sum : Int)))]) → SqT K HB ti ((innerOf es).map V.ref) → D.nx [some (.ref p), v1, v2, v3, some (.ref a), v5, v6, v7] HB) :
    callEnd T D [some (.ref p), v1, v2, v3, some (.ref a), v5, v6, v7] H := by
  unfold callEnd
  rw [qInner_eq, qSizes_eq]
  have lim : (innerOf es).length ≤ 500 := Nat.le_trans (innerOf_len es) (by rw [← pair_len2 pe]; exact n500)
  refine ok_qInner T hA pe no n500 fun D H8 s8 hD8 => ?_
  refine ⟨D, _, rfl, .inl (SqL.of hD8), fun ti H10 s10 hti => ?_⟩
  have s9 := s8.trans s10
  refine ⟨_, rfl, p, T.C_Call, dx, _, rfl, s9 _ _ hp, T.c_Call, T.n_Call_inner, (by show 5 < 1000; decide), ?_⟩
  have kA : Kp p H (upd H10 p (.ins T.C_Call dx [("service", sv), ("kind", kd), ("bad", bd), ("events", .ref te), ("side", sd), ("inner", .ref ti)])) := fun b u nb e => by rw [upd_ne nb]; exact s9 _ _ e
  have zA := upd_same (H := H10) (a := p) (o := .ins T.C_Call dx [("service", sv), ("kind", kd), ("bad", bd), ("events", .ref te), ("side", sd), ("inner", .ref ti)])
  have keep : Kp p H10 (upd H10 p (.ins T.C_Call dx [("service", sv), ("kind", kd), ("bad", bd), ("events", .ref te), ("side", sd), ("inner", .ref ti)])) := fun b u nb e => by rw [upd_ne nb]; exact e
  have tiA := sqT_kp hti (s9 _ _ hp) keep
  have ez2 : putF (Str.ofString "inner") (V.ref ti) ([("service", sv), ("kind", kd), ("bad", bd), ("events", .ref te), ("side", sd)] : List (Str × V)) = ([("service", sv), ("kind", kd), ("bad", bd), ("events", .ref te), ("side", sd), ("inner", .ref ti)] : List (Str × V)) := rfl
  rw [ez2]
  generalize upd H10 p (.ins T.C_Call dx [("service", sv), ("kind", kd), ("bad", bd), ("events", .ref te), ("side", sd), ("inner", .ref ti)]) = HA at kA zA tiA ⊢
  refine ok_qSizes T zA rfl tiA (paired_kp (fun _ _ z => CallS.kpF z hp rfl kA) hI) lim fun D2 HB sB hD2 => ?_
  refine ⟨D2, _, rfl, SqL.of hD2, _, _, rfl, rfl, ?_⟩
  refine ⟨_, rfl, p, T.C_Call, dx, _, rfl, sB _ _ zA, T.c_Call, T.n_Call__size, (by show 6 < 1000; decide), ?_⟩
  rw [sum_int]
  have keepB : Kp p HB (upd HB p (.ins T.C_Call dx [("service", sv), ("kind", kd), ("bad", bd), ("events", .ref te), ("side", sd), ("inner", .ref ti), ("_size", .int (1 + (ns.sum : Int)))])) := fun b u nb e => by rw [upd_ne nb]; exact e
  exact q ti _ (fun b u nb e => keepB b u nb (sB _ _ (kA b u nb e))) upd_same (sqT_kp (seqT_same sB tiA) (sB _ _ zA) keepB)
section
variable {P : Program} {w : World} {K : PySem.W.Frag} {mg : Str → Option Value} {base : Heap}
theorem ok_Call_init (T : TxCalls w K mg) : FnOk P w K mg base (L2.CX P w) 5 T.f_Call_init T.d_Call_init P_Call_init (spCallInit T.toTxTrees0) := by
  have G_InvalidTree_init := ok_xtr (P := P) (w := w) (base := base) T.toTxTrees0
  have G_is_name := ok_is_name (P := P) (w := w) (base := base) T.toTxEvents.toTxSeq0.toTxCheck
  have G_are_events := ok_are_events (P := P) (w := w) (base := base) T.toTxEvents
  have G_clen := len_call (P := P) (w := w) (base := base) T
  refine T.F_Call_init.ok sc_Call_init (fun vs H Q E h => ?_) (fun cdv A outer s H vs Q E hr h => ?_)
  · obtain ⟨p, dx, sv, kd, bd, ev, sd, b3, b4, d, rfl, _⟩ := h
    rfl
  obtain ⟨p, dx, sv, kd, bd, ev, sd, b3, b4, d, rfl, hp, h1, h2, h3, h4, h5, sh, qe, q⟩ := h
  refine ⟨_, (pss_cons (ps_if (pt_not (pt_val (pe_call G_is_name (hr.mono (by decide)) (by rfl) T.m_is_name T.F_is_name.kp T.b_is_name .nil pass0 (pa_cons (pv 1) pa_nil)))) (pss_one (ps_raise rfl (takes_of rfl rfl rfl rfl) (pmk_oexB T.oxTr T.iTr T.tTr G_InvalidTree_init (hr.mono (by decide)) T.b_InvalidTree_init .nil pass0 (by rfl) T.m_InvalidTree (pa_cons pe_str pa_nil)))) pss_nil)
      (pss_cons (ps_if (pt_not (pt_val (pe_call G_is_name (hr.mono (by decide)) (by rfl) T.m_is_name T.F_is_name.kp T.b_is_name .nil pass0 (pa_cons (pv 2) pa_nil)))) (pss_one (ps_raise rfl (takes_of rfl rfl rfl rfl) (pmk_oexB T.oxTr T.iTr T.tTr G_InvalidTree_init (hr.mono (by decide)) T.b_InvalidTree_init .nil pass0 (by rfl) T.m_InvalidTree (pa_cons pe_str pa_nil)))) pss_nil)
      (pss_cons (ps_if (pt_not (pt_val (pe_callB (call_isiV K) (by rfl) T.z_isinstance (by decide +kernel) (pa_cons (pv 3) (pa_cons (pe_bltn (v := .ty "bool") (by rfl) T.z_bool (by decide +kernel) rfl) pa_nil))))) (pss_one (ps_raise rfl (takes_of rfl rfl rfl rfl) (pmk_oexB T.oxTr T.iTr T.tTr G_InvalidTree_init (hr.mono (by decide)) T.b_InvalidTree_init .nil pass0 (by rfl) T.m_InvalidTree (pa_cons pe_str pa_nil)))) pss_nil)
      (pss_cons (ps_if (pt_not (pt_val (pe_call G_are_events (hr.mono (by decide)) (by rfl) T.m_are_events T.F_are_events.kp T.b_are_events .nil pass0 (pa_cons (pv 4) pa_nil)))) (pss_one (ps_raise rfl (takes_of rfl rfl rfl rfl) (pmk_oexB T.oxTr T.iTr T.tTr G_InvalidTree_init (hr.mono (by decide)) T.b_InvalidTree_init .nil pass0 (by rfl) T.m_InvalidTree (pa_cons pe_str pa_nil)))) pss_nil)
      (pss_cons (ps_if (pt_cmpR (op_notInT K (room65 hr)) (pv 5) (pe_tup (pa_cons pe_str (pa_cons pe_str pa_nil))) (by rfl)) (pss_one (ps_raise rfl (takes_of rfl rfl rfl rfl) (pmk_oexB T.oxTr T.iTr T.tTr G_InvalidTree_init (hr.mono (by decide)) T.b_InvalidTree_init .nil pass0 (by rfl) T.m_InvalidTree (pa_cons pe_str pa_nil)))) pss_nil)
      (pss_cons (ps_fld (pv 0) (pv 1) rfl)
      (pss_cons (ps_fld (pv 0) (pv 2) rfl)
      (pss_cons (ps_fld (pv 0) (pv 3) rfl)
      (pss_cons (ps_fld (pv 0) (pe_callTy (call_tupS K) (by rfl) T.z_tuple (by decide +kernel) (pa_cons (pv 4) pa_nil)) rfl)
      (pss_cons (ps_fld (pv 0) (pv 5) rfl)
      (pss_cons (ps_fld (pv 0) (pe_callTy (call_tupS K) (by rfl) T.z_tuple (by decide +kernel) (pa_cons (pe_lc (own := [("event", 6)]) (g := gName 6) (by rfl) sc_Call_init.nd (pi_two K (pv 4)) (blkOk_by (own := [("event", 6)]) (N := N_Call_init) (sc := defScope s_Call_init) (by decide +kernel)) (fun _ _ _ _ _ => (pg_name (i := 6) sc_Call_init.nd rfl (Or.inl rfl))) (fun _ _ _ _ _ => pts_one (by exact (pt_not (pt_val (pe_callB (call_isiV K) (by rfl) T.z_isinstance (by decide +kernel) (pa_cons (pv 6) (pa_cons (pe_glob (v := .ref T.C_Hear) (by rfl) T.m_Hear rfl) pa_nil))))))) (fun _ _ _ _ _ => (pe_fldK K (pv 6)))) pa_nil)) rfl)
      (pss_one (ps_fld (pv 0) (pe_op op_add pe_int (pe_callB (cr_sum (by rfl)) (by rfl) T.z_sum (by decide +kernel) (pa_cons (pe_lc (own := [("call", 7)]) (g := gName 7) (by rfl) sc_Call_init.nd (pi_tupK K (pe_fldK K (pv 0))) (blkOk_by (own := [("call", 7)]) (N := N_Call_init) (sc := defScope s_Call_init) (by decide +kernel)) (fun _ _ _ _ _ => (pg_name (i := 7) sc_Call_init.nd rfl (Or.inl rfl))) (fun _ _ _ _ _ => pts_nil) (fun _ _ _ _ _ => (pe_callB (call_lenO K G_clen (hr.mono (by decide))) (by rfl) T.z_len (by decide +kernel) (pa_cons (pv 7) pa_nil)))) pa_nil))) rfl))))))))))))), ?_⟩
  refine ⟨_, rfl, sv, rfl, h1, fun H1 s1 => ⟨_, rfl, ?_⟩⟩
  refine ite2 (fun c1 => ?_) (fun c1 => ?_)
  · exact mk_at (fun R r => by exact r) fun a H' s' n' e' => qe _ a H' (if_pos (bnot1 c1)) (s1.trans s') (s1.free n') e'
  have c1 := bnot2 c1
  refine ⟨_, rfl, kd, rfl, h2.same s1, fun H2 s2 => ⟨_, rfl, ?_⟩⟩
  have s2 := s1.trans s2
  refine ite2 (fun c2 => ?_) (fun c2 => ?_)
  · exact mk_at (fun R r => by exact r) fun a H' s' n' e' => qe _ a H' ((if_neg (by rw [c1]; decide)).trans (if_pos (bnot1 c2))) (s2.trans s') (s2.free n') e'
  have c2 := bnot2 c2
  obtain ⟨t3, y3, k3⟩ := h3.same s2
  refine ⟨_, rfl, bd, .ty "bool", t3, _, b3, rfl, .ty _, y3, k3, _, rfl, ?_⟩
  refine ite2 (fun c3 => ?_) (fun c3 => ?_)
  · exact mk_at (fun R r => by exact r) fun a H' s' n' e' => qe _ a H' ((if_neg (by rw [c1]; decide)).trans ((if_neg (by rw [c2]; decide)).trans (if_pos (bnot1 c3)))) (s2.trans s') (s2.free n') e'
  have c3 := bnot2 c3
  refine ⟨_, rfl, ev, b4, rfl, h4.same s2, fun H4 s4 => ⟨_, rfl, ?_⟩⟩
  have s4 := s2.trans s4
  refine ite2 (fun c4 => ?_) (fun c4 => ?_)
  · exact mk_at (fun R r => by exact r) fun a H' s' n' e' => qe _ a H' ((if_neg (by rw [c1]; decide)).trans ((if_neg (by rw [c2]; decide)).trans ((if_neg (by rw [c3]; decide)).trans (if_pos (bnot1 c4))))) (s4.trans s') (s4.free n') e'
  have c4 := bnot2 c4
  refine ⟨_, rfl, by show 2 ≤ sizeLine; decide, fun t5 ht5 => ⟨d, ([("old" : Str), "new"]).map PyData.str, Dp.same (s4.trans (same_upd ht5 _)) d sd h5, .tup (SqT.of upd_same) (Dp.all_strs [("old" : Str), "new"]), sh, shaped_strs (by decide +kernel), _, rfl, ?_⟩⟩
  have s5 := s4.trans (same_upd ht5 (.tup (([("old" : Str), "new"]).map V.str)))
  refine ite2 (fun c5 => ?_) (fun c5 => ?_)
  · exact mk_at (fun R r => by exact r) fun a H' s' n' e' => qe _ a H' ((if_neg (by rw [c1]; decide)).trans ((if_neg (by rw [c2]; decide)).trans ((if_neg (by rw [c3]; decide)).trans ((if_neg (by rw [c4]; decide)).trans (if_pos (bnot1 c5)))))) (s5.trans s') (s5.free n') e'
  have c5 : inSides d = true := bnot2 c5
  obtain ⟨a, xs, es, ns, rfl, hS, hE, n500, no, hI, n900, q⟩ := q (by unfold wrCall; rw [c1, c2, c3, c4, c5]; decide)
  have s5 : Same H (upd H4 t5 (.tup [.str (Str.ofString "old"), .str (Str.ofString "new")])) := s5
  have hp5 := s5 _ _ hp
  generalize upd H4 t5 (.tup [.str (Str.ofString "old"), .str (Str.ofString "new")]) = H5 at s5 hp5
  refine ⟨_, rfl, _, rfl, p, T.C_Call, dx, _, rfl, hp5, T.c_Call, T.n_Call_service, (by show 0 < 1000; decide), ?_⟩
  refine ⟨_, rfl, _, rfl, p, T.C_Call, dx, _, rfl, upd_same, T.c_Call, T.n_Call_kind, (by show 1 < 1000; decide), ?_⟩
  refine ⟨_, rfl, _, rfl, p, T.C_Call, dx, _, rfl, upd_same, T.c_Call, T.n_Call_bad, (by show 2 < 1000; decide), ?_⟩
  rw [upd_upd, upd_upd]
  have k6 : Kp p H (upd H5 p (.ins T.C_Call dx [("service", sv), ("kind", kd), ("bad", bd)])) := fun b u nb e => by rw [upd_ne nb]; exact s5 _ _ e
  have hp6 : upd H5 p (.ins T.C_Call dx [("service", sv), ("kind", kd), ("bad", bd)]) p = some (.ins T.C_Call dx [("service", sv), ("kind", kd), ("bad", bd)]) := upd_same
  refine ⟨_, rfl, ⟨a, xs, rfl, hS.kp hp k6, fun te H7 s7 ht7 => ?_⟩⟩
  have k7 := k6.same s7
  refine ⟨_, rfl, p, T.C_Call, dx, _, rfl, s7 _ _ hp6, T.c_Call, T.n_Call_events, (by show 3 < 1000; decide), ?_⟩
  refine ⟨_, rfl, _, rfl, p, T.C_Call, dx, _, rfl, upd_same, T.c_Call, T.n_Call_side, (by show 4 < 1000; decide), ?_⟩
  rw [upd_upd]
  have ha9 := hS.kp hp k7
  have z9 := upd_same (H := H7) (a := p) (o := .ins T.C_Call dx [("service", sv), ("kind", kd), ("bad", bd), ("events", .ref te), ("side", sd)])
  have k9 : Kp p H (upd H7 p (.ins T.C_Call dx [("service", sv), ("kind", kd), ("bad", bd), ("events", .ref te), ("side", sd)])) := fun b u nb e => by rw [upd_ne nb]; exact k7 b u nb e
  have te9 : SqT K (upd H7 p (.ins T.C_Call dx [("service", sv), ("kind", kd), ("bad", bd), ("events", .ref te), ("side", sd)])) te xs := sqT_kp ht7 (s7 _ _ hp6) fun b u nb e => by rw [upd_ne nb]; exact e
  have ez : putF (Str.ofString "side") sd (putF (Str.ofString "events") (V.ref te) [(Str.ofString "service", sv), (Str.ofString "kind", kd), (Str.ofString "bad", bd)]) = ([("service", sv), ("kind", kd), ("bad", bd), ("events", .ref te), ("side", sd)] : List (Str × V)) := rfl
  rw [ez]
  generalize upd H7 p (.ins T.C_Call dx [("service", sv), ("kind", kd), ("bad", bd), ("events", .ref te), ("side", sd)]) = H9 at z9 k9 te9 ⊢
  have lim : (innerOf es).length ≤ 500 := Nat.le_trans (innerOf_len es) (by rw [← pair_len2 hE]; exact n500)
  refine ok_callEnd T (v1 := some sv) (v2 := some kd) (v3 := some bd) (v5 := some sd) (v6 := none) (v7 := none) (hS.kp hp k9) (ek_kp hp k9 hE no) no n500 (paired_kp (fun _ _ z => CallS.kp z hp k9) hI) z9 fun ti HB sB zB tiB => ?_
  exact q _ te ti (fun b u e nb => sB b u nb (k9 b u nb e)) zB (sqT_kp te9 z9 sB) tiB
end
end My

/-! ## Things that a law makes: texts, numbers, calls, waits, leaves, hears, lists and tuples of them -/
namespace My
open PySem PySem.Spec PyProof.Rows L2 PySem.MyX
/-! library terms, not to be unfolded -/
@[irreducible] def qLst (ta : TA) : TE := tLst ta
@[irreducible] def qLc (wi : TI) (g : TG) (tt : TT) (te : TE) (vs : List Nat) : TE := tLc wi g tt te vs
@[irreducible] def qMake (C : Addr) (sp : Sp) (dvs : List V) (E : XK) (t : TA) : TE := tMake C sp dvs E t
theorem qLst_eq : @tLst = @qLst := by
  funext ta
  unfold qLst
  rfl
theorem qLc_eq : @tLc = @qLc := by
  funext wi g tt te vs
  unfold qLc
  rfl
theorem qMake_eq : @tMake = @qMake := by
  funext C sp dvs E t
  unfold qMake
  rfl
/-- what a thing is -/
inductive TD where
  | non
  | bl (b : Bool)
  | int (i : Int)
  | str (s : Str)
  | call
  | wait
  | leave
  | hear (n : Int)
  | lst (ts : List TD)
  | tup (ts : List TD)
/-- what stands at addresses of this kind stays, dicts aside -/
def KV (g : Addr → Prop) (H H' : Hp) : Prop := ∀ a o, g a → (∀ k, o ≠ .dK k) → H a = some o → H' a = some o
theorem KV.refl (g : Addr → Prop) (H : Hp) : KV g H H := fun _ _ _ _ h => h
theorem KV.trans {g : Addr → Prop} {H1 H2 H3 : Hp} (x : KV g H1 H2) (y : KV g H2 H3) : KV g H1 H3 := fun a o n m h => y a o n m (x a o n m h)
theorem KV.of_same {g : Addr → Prop} {H H' : Hp} (s : Same H H') : KV g H H' := fun a o _ _ h => s a o h
theorem KV.of_keepD {g : Addr → Prop} {d e : Addr} {H H' : Hp} {kvs : List (Key × V)} (hg : ∀ a, g a → a ≠ e) (hd : H d = some (.dK kvs)) (k : KeepD d e H H') : KV g H H' := fun a o n m h => k a o (fun z => by rw [z, hd] at h; exact m _ (Option.some.inj h).symm) (hg a n) h
theorem KV.put {g : Addr → Prop} {R : Addr} {H : Hp} {kvs : List (Key × V)} (hR : H R = some (.dK kvs)) (o' : HO) : KV g H (upd H R o') := fun a o _ m h => by
  rw [upd_ne (fun z => by rw [z, hR] at h; exact m _ (Option.some.inj h).symm)]
  exact h
section
variable {w : World} {K : PySem.W.Frag} {mg : Str → Option Value}
/-- a call of one alone -/
structure One (T : TxTrees0 w K mg) (g : Addr → Prop) (H : Hp) (c : Addr) : Prop where
  ex : ∃ dx fs, H c = some (.ins T.C_Call dx fs) ∧ fs.lookup ("_size" : Str) = some (.int 1)
  ne : g c
mutual
inductive Th (T : TxTrees0 w K mg) (g : Addr → Prop) (H : Hp) : V → TD → Prop
  | non : Th T g H .non .non
  | bl (b : Bool) : Th T g H (.bl b) (.bl b)
  | int (i : Int) : Th T g H (.int i) (.int i)
  | str (s : Str) : Th T g H (.str s) (.str s)
  | call {c : Addr} (h : One T g H c) : Th T g H (.ref c) .call
  | wait {a dx c : Addr} (n : g a) (h : H a = some (.ins T.C_Wait dx [("call", .ref c)])) (hc : One T g H c) : Th T g H (.ref a) .wait
  | leave {a dx c : Addr} (n : g a) (h : H a = some (.ins T.C_Leave dx [("call", .ref c)])) (hc : One T g H c) : Th T g H (.ref a) .leave
  | hear {a dx : Addr} {i : Int} (n : g a) (h : H a = some (.ins T.C_Hear dx [("number", .int i)])) : Th T g H (.ref a) (.hear i)
  | lst {a : Addr} {xs : List V} {ts : List TD} (n : g a) (h : H a = some (.lst xs)) (t : ThAll T g H xs ts) : Th T g H (.ref a) (.lst ts)
  | tup {a : Addr} {xs : List V} {ts : List TD} (n : g a) (h : H a = some (.tup xs)) (t : ThAll T g H xs ts) : Th T g H (.ref a) (.tup ts)
inductive ThAll (T : TxTrees0 w K mg) (g : Addr → Prop) (H : Hp) : List V → List TD → Prop
  | nil : ThAll T g H [] []
  | cons {v : V} {t : TD} {vs : List V} {ts : List TD} (h : Th T g H v t) (r : ThAll T g H vs ts) : ThAll T g H (v :: vs) (t :: ts)
end
theorem One.kv {T : TxTrees0 w K mg} {g : Addr → Prop} {H H' : Hp} {c : Addr} (h : One T g H c) (k : KV g H H') : One T g H' c := by
  obtain ⟨⟨dx, fs, h1, h2⟩, n⟩ := h
  exact ⟨⟨dx, fs, k _ _ n (fun _ z => nomatch z) h1, h2⟩, n⟩
mutual
theorem Th.kv {T : TxTrees0 w K mg} {g : Addr → Prop} {H H' : Hp} (k : KV g H H') : ∀ (t : TD) (v : V), Th T g H v t → Th T g H' v t
  | .non, _, h => by cases h; exact .non
  | .bl _, _, h => by cases h; exact .bl _
  | .int _, _, h => by cases h; exact .int _
  | .str _, _, h => by cases h; exact .str _
  | .call, _, h => by cases h with | call h => exact .call (h.kv k)
  | .wait, _, h => by cases h with | wait n h hc => exact .wait n (k _ _ n (fun _ z => nomatch z) h) (hc.kv k)
  | .leave, _, h => by cases h with | leave n h hc => exact .leave n (k _ _ n (fun _ z => nomatch z) h) (hc.kv k)
  | .hear _, _, h => by cases h with | hear n h => exact .hear n (k _ _ n (fun _ z => nomatch z) h)
  | .lst ts, _, h => by cases h with | lst n h t => exact .lst n (k _ _ n (fun _ z => nomatch z) h) (ThAll.kv k ts _ t)
  | .tup ts, _, h => by cases h with | tup n h t => exact .tup n (k _ _ n (fun _ z => nomatch z) h) (ThAll.kv k ts _ t)
theorem ThAll.kv {T : TxTrees0 w K mg} {g : Addr → Prop} {H H' : Hp} (k : KV g H H') : ∀ (ts : List TD) (vs : List V), ThAll T g H vs ts → ThAll T g H' vs ts
  | [], _, h => by cases h; exact .nil
  | t :: ts, _, h => by cases h with | cons h r => exact .cons (Th.kv k t _ h) (ThAll.kv k ts _ r)
end
theorem One.imp {T : TxTrees0 w K mg} {g g2 : Addr → Prop} {H : Hp} {c : Addr} (i : ∀ a o, H a = some o → g a → g2 a) (h : One T g H c) : One T g2 H c := by
  obtain ⟨⟨dx, fs, h1, h2⟩, n⟩ := h
  exact ⟨⟨dx, fs, h1, h2⟩, i _ _ h1 n⟩
mutual
theorem Th.imp {T : TxTrees0 w K mg} {g g2 : Addr → Prop} {H : Hp} (i : ∀ a o, H a = some o → g a → g2 a) : ∀ (t : TD) (v : V), Th T g H v t → Th T g2 H v t
  | .non, _, h => by cases h; exact .non
  | .bl _, _, h => by cases h; exact .bl _
  | .int _, _, h => by cases h; exact .int _
  | .str _, _, h => by cases h; exact .str _
  | .call, _, h => by cases h with | call h => exact .call (One.imp i h)
  | .wait, _, h => by cases h with | wait n h hc => exact .wait (i _ _ h n) h (One.imp i hc)
  | .leave, _, h => by cases h with | leave n h hc => exact .leave (i _ _ h n) h (One.imp i hc)
  | .hear _, _, h => by cases h with | hear n h => exact .hear (i _ _ h n) h
  | .lst ts, _, h => by cases h with | lst n h t => exact .lst (i _ _ h n) h (ThAll.imp i ts _ t)
  | .tup ts, _, h => by cases h with | tup n h t => exact .tup (i _ _ h n) h (ThAll.imp i ts _ t)
theorem ThAll.imp {T : TxTrees0 w K mg} {g g2 : Addr → Prop} {H : Hp} (i : ∀ a o, H a = some o → g a → g2 a) : ∀ (ts : List TD) (vs : List V), ThAll T g H vs ts → ThAll T g2 H vs ts
  | [], _, h => by cases h; exact .nil
  | t :: ts, _, h => by cases h with | cons h r => exact .cons (Th.imp i t _ h) (ThAll.imp i ts _ r)
end
theorem Th.same {T : TxTrees0 w K mg} {g : Addr → Prop} {H H' : Hp} {t : TD} {v : V} (h : Th T g H v t) (s : Same H H') : Th T g H' v t := Th.kv (KV.of_same s) t v h
theorem ThAll.same {T : TxTrees0 w K mg} {g : Addr → Prop} {H H' : Hp} {ts : List TD} {vs : List V} (h : ThAll T g H vs ts) (s : Same H H') : ThAll T g H' vs ts := ThAll.kv (KV.of_same s) ts vs h
theorem ThAll.len {T : TxTrees0 w K mg} {g : Addr → Prop} {H : Hp} : ∀ {ts : List TD} {vs : List V}, ThAll T g H vs ts → vs.length = ts.length
  | _, _, .nil => rfl
  | _, _, .cons _ r => congrArg Nat.succ r.len
theorem ThAll.app {T : TxTrees0 w K mg} {g : Addr → Prop} {H : Hp} : ∀ {ts us : List TD} {vs ws : List V}, ThAll T g H vs ts → ThAll T g H ws us → ThAll T g H (vs ++ ws) (ts ++ us)
  | _, _, _, _, .nil, r => r
  | _, _, _, _, .cons h t, r => .cons h (t.app r)
theorem ThAll.mem {T : TxTrees0 w K mg} {g : Addr → Prop} {H : Hp} : ∀ {ts : List TD} {vs : List V} {v : V}, ThAll T g H vs ts → v ∈ vs → ∃ t, t ∈ ts ∧ Th T g H v t
  | _, _, _, .cons h r, m => by
    rcases List.mem_cons.mp m with rfl | m
    · exact ⟨_, List.mem_cons_self, h⟩
    · obtain ⟨t, h1, h2⟩ := r.mem m
      exact ⟨t, List.mem_cons_of_mem _ h1, h2⟩
/-! ### making them -/
/-- where calls stand at slots 2 and 3 -/
structure B22 (T : TxTrees0 w K mg) (g : Addr → Prop) (σ : L2.St) (H : Hp) : Prop where
  one : ∃ c : Addr, σ[2]? = some (some (.ref c)) ∧ One T g H c
  two : ∃ c : Addr, σ[3]? = some (some (.ref c)) ∧ One T g H c
  gr : ∀ p, H p = none → g p
theorem B22.same {T : TxTrees0 w K mg} {g : Addr → Prop} {σ : L2.St} {H H' : Hp} (h : B22 T g σ H) (s : Same H H') : B22 T g σ H' := by
  obtain ⟨c, h1, h2⟩ := h.one
  obtain ⟨e, h3, h4⟩ := h.two
  exact ⟨⟨c, h1, h2.kv (KV.of_same s)⟩, ⟨e, h3, h4.kv (KV.of_same s)⟩, fun p hp => h.gr p (s.free hp)⟩
structure MkT (T : TxTrees0 w K mg) (g : Addr → Prop) (te : TE) (t : TD) : Prop where
  run : ∀ {σ : L2.St} {H : Hp} {Q : VK}, B22 T g σ H → (∀ v H', Same H H' → Th T g H' v t → Q v H') → te σ H Q
structure MkA (T : TxTrees0 w K mg) (g : Addr → Prop) (ta : TA) (ts : List TD) : Prop where
  run : ∀ {σ : L2.St} {H : Hp} {Q : List V → Hp → Prop}, B22 T g σ H → (∀ vs H', Same H H' → ThAll T g H' vs ts → Q vs H') → ta σ H Q
variable {T : TxTrees0 w K mg} {g : Addr → Prop}
theorem mkNon : MkT T g (tC .non) .non := ⟨fun _ q => q _ _ (Same.refl _) .non⟩
theorem mkBl (b : Bool) : MkT T g (tC (.bl b)) (.bl b) := ⟨fun _ q => q _ _ (Same.refl _) (.bl b)⟩
theorem mkInt (i : Int) : MkT T g (tC (.int i)) (.int i) := ⟨fun _ q => q _ _ (Same.refl _) (.int i)⟩
theorem mkStr (s : Str) : MkT T g (tC (.str s)) (.str s) := ⟨fun _ q => q _ _ (Same.refl _) (.str s)⟩
theorem mkOne : MkT T g (tVar 2) .call := ⟨fun b q => by
  obtain ⟨c, h1, h2⟩ := b.one
  exact ⟨_, h1, q _ _ (Same.refl _) (.call h2)⟩⟩
theorem mkNil : MkA T g tNil [] := ⟨fun _ q => q _ _ (Same.refl _) .nil⟩
theorem MkT.cons {te : TE} {ta : TA} {t : TD} {ts : List TD} (h : MkT T g te t) (r : MkA T g ta ts) : MkA T g (tCons te ta) (t :: ts) := ⟨fun b q => h.run b fun v H1 s1 t1 => r.run (b.same s1) fun vs H2 s2 t2 => q _ _ (s1.trans s2) (.cons (t1.same s2) t2)⟩
theorem MkA.lst {ta : TA} {ts : List TD} (h : MkA T g ta ts) (n : ts.length ≤ 1000) : MkT T g (qLst ta) (.lst ts) := qLst_eq ▸ ⟨fun b q => h.run b fun vs H1 s1 t1 => ⟨by rw [t1.len, sizeLine_eq]; omega, fun p hp => by
  exact q _ _ (s1.trans (same_upd hp _)) (.lst ((b.same s1).gr p hp) upd_same (t1.same (same_upd hp _)))⟩⟩
theorem MkA.tup {ta : TA} {ts : List TD} (h : MkA T g ta ts) (n : ts.length ≤ 1000) : MkT T g (tTup ta) (.tup ts) := ⟨fun b q => h.run b fun vs H1 s1 t1 => ⟨by rw [t1.len, sizeLine_eq]; omega, fun p hp => by
  exact q _ _ (s1.trans (same_upd hp _)) (.tup ((b.same s1).gr p hp) upd_same (t1.same (same_upd hp _)))⟩⟩
end
end My

/-! ## What things are asked: isinstance, names, events -/
namespace My
open PySem PySem.Spec PyProof.Rows L2 PySem.MyX
structure TxThings (w : World) (K : PySem.W.Frag) (mg : Str → Option Value) extends TxCalls w K mg where
  ty_Call : ∀ (H : Hp) (a dx : Addr) (fs : List (Str × V)), H a = some (.ins C_Call dx fs) → TyX K H (.ref a) (.ref C_Call)
  kk_Call_Call : PySem.W.kitOne K (.ref C_Call) (.ref C_Call) = some true
  kk_Call_Wait : PySem.W.kitOne K (.ref C_Call) (.ref C_Wait) = some false
  kk_Call_Leave : PySem.W.kitOne K (.ref C_Call) (.ref C_Leave) = some false
  kk_Call_Hear : PySem.W.kitOne K (.ref C_Call) (.ref C_Hear) = some false
  kk_Wait_Call : PySem.W.kitOne K (.ref C_Wait) (.ref C_Call) = some false
  kk_Leave_Call : PySem.W.kitOne K (.ref C_Leave) (.ref C_Call) = some false
  kk_Hear_Call : PySem.W.kitOne K (.ref C_Hear) (.ref C_Call) = some false
  kk_Hear_Wait : PySem.W.kitOne K (.ref C_Hear) (.ref C_Wait) = some false
  kk_Hear_Leave : PySem.W.kitOne K (.ref C_Hear) (.ref C_Leave) = some false
  kt_NoneType_Call : PySem.W.kitOne K (.type "NoneType") (.ref C_Call) = some false
  kt_NoneType_Wait : PySem.W.kitOne K (.type "NoneType") (.ref C_Wait) = some false
  kt_NoneType_Leave : PySem.W.kitOne K (.type "NoneType") (.ref C_Leave) = some false
  kt_NoneType_Hear : PySem.W.kitOne K (.type "NoneType") (.ref C_Hear) = some false
  kt_bool_Call : PySem.W.kitOne K (.type "bool") (.ref C_Call) = some false
  kt_bool_Wait : PySem.W.kitOne K (.type "bool") (.ref C_Wait) = some false
  kt_bool_Leave : PySem.W.kitOne K (.type "bool") (.ref C_Leave) = some false
  kt_bool_Hear : PySem.W.kitOne K (.type "bool") (.ref C_Hear) = some false
  kt_int_Call : PySem.W.kitOne K (.type "int") (.ref C_Call) = some false
  kt_int_Wait : PySem.W.kitOne K (.type "int") (.ref C_Wait) = some false
  kt_int_Leave : PySem.W.kitOne K (.type "int") (.ref C_Leave) = some false
  kt_int_Hear : PySem.W.kitOne K (.type "int") (.ref C_Hear) = some false
  kt_str_Call : PySem.W.kitOne K (.type "str") (.ref C_Call) = some false
  kt_str_Wait : PySem.W.kitOne K (.type "str") (.ref C_Wait) = some false
  kt_str_Leave : PySem.W.kitOne K (.type "str") (.ref C_Leave) = some false
  kt_str_Hear : PySem.W.kitOne K (.type "str") (.ref C_Hear) = some false
  kt_list_Call : PySem.W.kitOne K (.type "list") (.ref C_Call) = some false
  kt_list_Wait : PySem.W.kitOne K (.type "list") (.ref C_Wait) = some false
  kt_list_Leave : PySem.W.kitOne K (.type "list") (.ref C_Leave) = some false
  kt_list_Hear : PySem.W.kitOne K (.type "list") (.ref C_Hear) = some false
  kt_tuple_Call : PySem.W.kitOne K (.type "tuple") (.ref C_Call) = some false
  kt_tuple_Wait : PySem.W.kitOne K (.type "tuple") (.ref C_Wait) = some false
  kt_tuple_Leave : PySem.W.kitOne K (.type "tuple") (.ref C_Leave) = some false
  kt_tuple_Hear : PySem.W.kitOne K (.type "tuple") (.ref C_Hear) = some false
  kb_Call_str : PySem.W.kitOne K (.ref C_Call) (.type "str") = some false
  kb_Call_bool : PySem.W.kitOne K (.ref C_Call) (.type "bool") = some false
  kb_Call_int : PySem.W.kitOne K (.ref C_Call) (.type "int") = some false
  kb_Call_list : PySem.W.kitOne K (.ref C_Call) (.type "list") = some false
  kb_Call_tuple : PySem.W.kitOne K (.ref C_Call) (.type "tuple") = some false
  kb_Wait_str : PySem.W.kitOne K (.ref C_Wait) (.type "str") = some false
  kb_Wait_bool : PySem.W.kitOne K (.ref C_Wait) (.type "bool") = some false
  kb_Wait_int : PySem.W.kitOne K (.ref C_Wait) (.type "int") = some false
  kb_Wait_list : PySem.W.kitOne K (.ref C_Wait) (.type "list") = some false
  kb_Wait_tuple : PySem.W.kitOne K (.ref C_Wait) (.type "tuple") = some false
  kb_Leave_str : PySem.W.kitOne K (.ref C_Leave) (.type "str") = some false
  kb_Leave_bool : PySem.W.kitOne K (.ref C_Leave) (.type "bool") = some false
  kb_Leave_int : PySem.W.kitOne K (.ref C_Leave) (.type "int") = some false
  kb_Leave_list : PySem.W.kitOne K (.ref C_Leave) (.type "list") = some false
  kb_Leave_tuple : PySem.W.kitOne K (.ref C_Leave) (.type "tuple") = some false
  kb_Hear_str : PySem.W.kitOne K (.ref C_Hear) (.type "str") = some false
  kb_Hear_bool : PySem.W.kitOne K (.ref C_Hear) (.type "bool") = some false
  kb_Hear_int : PySem.W.kitOne K (.ref C_Hear) (.type "int") = some false
  kb_Hear_list : PySem.W.kitOne K (.ref C_Hear) (.type "list") = some false
  kb_Hear_tuple : PySem.W.kitOne K (.ref C_Hear) (.type "tuple") = some false
section
variable {w : World} {K : PySem.W.Frag} {mg : Str → Option Value} {g : Addr → Prop} {H : Hp}
def tyTD (T : TxTrees0 w K mg) : TD → Value
  | .non => .type "NoneType"
  | .bl _ => .type "bool"
  | .int _ => .type "int"
  | .str _ => .type "str"
  | .call => .ref T.C_Call
  | .wait => .ref T.C_Wait
  | .leave => .ref T.C_Leave
  | .hear _ => .ref T.C_Hear
  | .lst _ => .type "list"
  | .tup _ => .type "tuple"
theorem Th.ty (T : TxThings w K mg) {v : V} {t : TD} (h : Th T.toTxTrees0 g H v t) : TyX K H v (tyTD T.toTxTrees0 t) := by
  cases h with
  | non => exact .base .non
  | bl b => exact .base (.bl b)
  | int i => exact .base (.int i)
  | str s => exact .base (.str s)
  | call h =>
    obtain ⟨dx, fs, h1, _⟩ := h.ex
    exact T.ty_Call _ _ _ _ h1
  | wait n h hc => exact T.ty_Wait _ _ _ _ h
  | leave n h hc => exact T.ty_Leave _ _ _ _ h
  | hear n h => exact T.ty_Hear _ _ _ _ h
  | lst n h t => exact tyL (SqL.of h)
  | tup n h t => exact tyT (SqT.of h)
def isCallT : TD → Bool
  | .call => true
  | _ => false
theorem Th.isCall (T : TxThings w K mg) {v : V} {t : TD} (h : Th T.toTxTrees0 g H v t) : OfC K H v (.ref T.C_Call) (isCallT t) := ⟨_, Th.ty T h, by
  cases t with
  | non => exact T.kt_NoneType_Call
  | bl _ => exact T.kt_bool_Call
  | int _ => exact T.kt_int_Call
  | str _ => exact T.kt_str_Call
  | lst _ => exact T.kt_list_Call
  | tup _ => exact T.kt_tuple_Call
  | call => exact T.kk_Call_Call
  | wait => exact T.kk_Wait_Call
  | leave => exact T.kk_Leave_Call
  | hear _ => exact T.kk_Hear_Call⟩
def isWaitT : TD → Bool
  | .wait => true
  | _ => false
theorem Th.isWait (T : TxThings w K mg) {v : V} {t : TD} (h : Th T.toTxTrees0 g H v t) : OfC K H v (.ref T.C_Wait) (isWaitT t) := ⟨_, Th.ty T h, by
  cases t with
  | non => exact T.kt_NoneType_Wait
  | bl _ => exact T.kt_bool_Wait
  | int _ => exact T.kt_int_Wait
  | str _ => exact T.kt_str_Wait
  | lst _ => exact T.kt_list_Wait
  | tup _ => exact T.kt_tuple_Wait
  | call => exact T.kk_Call_Wait
  | wait => exact T.kk_Wait_Wait
  | leave => exact T.kk_Leave_Wait
  | hear _ => exact T.kk_Hear_Wait⟩
def isLeaveT : TD → Bool
  | .leave => true
  | _ => false
theorem Th.isLeave (T : TxThings w K mg) {v : V} {t : TD} (h : Th T.toTxTrees0 g H v t) : OfC K H v (.ref T.C_Leave) (isLeaveT t) := ⟨_, Th.ty T h, by
  cases t with
  | non => exact T.kt_NoneType_Leave
  | bl _ => exact T.kt_bool_Leave
  | int _ => exact T.kt_int_Leave
  | str _ => exact T.kt_str_Leave
  | lst _ => exact T.kt_list_Leave
  | tup _ => exact T.kt_tuple_Leave
  | call => exact T.kk_Call_Leave
  | wait => exact T.kk_Wait_Leave
  | leave => exact T.kk_Leave_Leave
  | hear _ => exact T.kk_Hear_Leave⟩
def isHearT : TD → Bool
  | .hear _ => true
  | _ => false
theorem Th.isHear (T : TxThings w K mg) {v : V} {t : TD} (h : Th T.toTxTrees0 g H v t) : OfC K H v (.ref T.C_Hear) (isHearT t) := ⟨_, Th.ty T h, by
  cases t with
  | non => exact T.kt_NoneType_Hear
  | bl _ => exact T.kt_bool_Hear
  | int _ => exact T.kt_int_Hear
  | str _ => exact T.kt_str_Hear
  | lst _ => exact T.kt_list_Hear
  | tup _ => exact T.kt_tuple_Hear
  | call => exact T.kk_Call_Hear
  | wait => exact T.kk_Wait_Hear
  | leave => exact T.kk_Leave_Hear
  | hear _ => exact T.kk_Hear_Hear⟩
def isStrT : TD → Bool
  | .str _ => true
  | _ => false
theorem Th.isStr (T : TxThings w K mg) {v : V} {t : TD} (h : Th T.toTxTrees0 g H v t) : OfC K H v (.type "str") (isStrT t) := ⟨_, Th.ty T h, by
  cases t with
  | non => exact kit_ty (show kitB "NoneType" "str" = some false by decide +kernel)
  | bl _ => exact kit_ty (show kitB "bool" "str" = some false by decide +kernel)
  | int _ => exact kit_ty (show kitB "int" "str" = some false by decide +kernel)
  | str _ => exact kit_ty (show kitB "str" "str" = some true by decide +kernel)
  | lst _ => exact kit_ty (show kitB "list" "str" = some false by decide +kernel)
  | tup _ => exact kit_ty (show kitB "tuple" "str" = some false by decide +kernel)
  | call => exact T.kb_Call_str
  | wait => exact T.kb_Wait_str
  | leave => exact T.kb_Leave_str
  | hear _ => exact T.kb_Hear_str⟩
def isBoolT : TD → Bool
  | .bl _ => true
  | _ => false
theorem Th.isBool (T : TxThings w K mg) {v : V} {t : TD} (h : Th T.toTxTrees0 g H v t) : OfC K H v (.type "bool") (isBoolT t) := ⟨_, Th.ty T h, by
  cases t with
  | non => exact kit_ty (show kitB "NoneType" "bool" = some false by decide +kernel)
  | bl _ => exact kit_ty (show kitB "bool" "bool" = some true by decide +kernel)
  | int _ => exact kit_ty (show kitB "int" "bool" = some false by decide +kernel)
  | str _ => exact kit_ty (show kitB "str" "bool" = some false by decide +kernel)
  | lst _ => exact kit_ty (show kitB "list" "bool" = some false by decide +kernel)
  | tup _ => exact kit_ty (show kitB "tuple" "bool" = some false by decide +kernel)
  | call => exact T.kb_Call_bool
  | wait => exact T.kb_Wait_bool
  | leave => exact T.kb_Leave_bool
  | hear _ => exact T.kb_Hear_bool⟩
def isIntT : TD → Bool
  | .int _ => true
  | .bl _ => true
  | _ => false
theorem Th.isInt (T : TxThings w K mg) {v : V} {t : TD} (h : Th T.toTxTrees0 g H v t) : OfC K H v (.type "int") (isIntT t) := ⟨_, Th.ty T h, by
  cases t with
  | non => exact kit_ty (show kitB "NoneType" "int" = some false by decide +kernel)
  | bl _ => exact kit_ty (show kitB "bool" "int" = some true by decide +kernel)
  | int _ => exact kit_ty (show kitB "int" "int" = some true by decide +kernel)
  | str _ => exact kit_ty (show kitB "str" "int" = some false by decide +kernel)
  | lst _ => exact kit_ty (show kitB "list" "int" = some false by decide +kernel)
  | tup _ => exact kit_ty (show kitB "tuple" "int" = some false by decide +kernel)
  | call => exact T.kb_Call_int
  | wait => exact T.kb_Wait_int
  | leave => exact T.kb_Leave_int
  | hear _ => exact T.kb_Hear_int⟩
def isSeqT : TD → Bool
  | .lst _ => true
  | .tup _ => true
  | _ => false
theorem Th.isSeq (T : TxThings w K mg) {v : V} {t : TD} (h : Th T.toTxTrees0 g H v t) : SeqV K H v (isSeqT t) := ⟨_, Th.ty T h, by
  have two : ∀ {t : Value} {a b r : Bool}, PySem.W.kitOne K t (.type "list") = some a → PySem.W.kitOne K t (.type "tuple") = some b → r = (a || b) → PySem.W.kitAny K t [.type "list", .type "tuple"] = some r := fun {t a b r} h1 h2 e => by
    subst e
    exact kitAny_cons h1 (fun z => kitAny_cons h2 (fun y => by rw [z, y]; rfl) (fun y => by rw [y]; cases a <;> rfl)) (fun z => by rw [z]; rfl)
  cases t with
  | non => exact two (kit_ty (show kitB "NoneType" "list" = some false by decide +kernel)) (kit_ty (show kitB "NoneType" "tuple" = some false by decide +kernel)) rfl
  | bl _ => exact two (kit_ty (show kitB "bool" "list" = some false by decide +kernel)) (kit_ty (show kitB "bool" "tuple" = some false by decide +kernel)) rfl
  | int _ => exact two (kit_ty (show kitB "int" "list" = some false by decide +kernel)) (kit_ty (show kitB "int" "tuple" = some false by decide +kernel)) rfl
  | str _ => exact two (kit_ty (show kitB "str" "list" = some false by decide +kernel)) (kit_ty (show kitB "str" "tuple" = some false by decide +kernel)) rfl
  | lst _ => exact two (kit_ty (show kitB "list" "list" = some true by decide +kernel)) (kit_ty (show kitB "list" "tuple" = some false by decide +kernel)) rfl
  | tup _ => exact two (kit_ty (show kitB "tuple" "list" = some false by decide +kernel)) (kit_ty (show kitB "tuple" "tuple" = some true by decide +kernel)) rfl
  | call => exact two T.kb_Call_list T.kb_Call_tuple rfl
  | wait => exact two T.kb_Wait_list T.kb_Wait_tuple rfl
  | leave => exact two T.kb_Leave_list T.kb_Leave_tuple rfl
  | hear _ => exact two T.kb_Hear_list T.kb_Hear_tuple rfl⟩
/-- a text that is short, or none -/
def shortT : TD → Bool
  | .str s => decide (s.length ≤ 2000)
  | _ => true
def nmT : TD → Bool
  | .str s => isNm s
  | _ => false
theorem Th.any (T : TxThings w K mg) {v : V} {t : TD} (h : Th T.toTxTrees0 g H v t) (s : shortT t = true) : AnyV K H v ∧ nmV v = nmT t := by
  obtain ⟨ty, h1, h2⟩ := Th.isStr T h
  cases h with
  | str x => exact ⟨.str x (of_decide_eq_true s), rfl⟩
  | non => exact ⟨.oth (fun _ e => nomatch e) h1 h2, rfl⟩
  | bl b => exact ⟨.oth (fun _ e => nomatch e) h1 h2, rfl⟩
  | int i => exact ⟨.oth (fun _ e => nomatch e) h1 h2, rfl⟩
  | call _ => exact ⟨.oth (fun _ e => nomatch e) h1 h2, rfl⟩
  | wait _ _ _ => exact ⟨.oth (fun _ e => nomatch e) h1 h2, rfl⟩
  | leave _ _ _ => exact ⟨.oth (fun _ e => nomatch e) h1 h2, rfl⟩
  | hear _ _ => exact ⟨.oth (fun _ e => nomatch e) h1 h2, rfl⟩
  | lst _ _ _ => exact ⟨.oth (fun _ e => nomatch e) h1 h2, rfl⟩
  | tup _ _ _ => exact ⟨.oth (fun _ e => nomatch e) h1 h2, rfl⟩
/-! ### events -/
def ekT : TD → Ek
  | .wait => .wait 0
  | .leave => .leave 0
  | .hear n => .hear n
  | _ => .odd
def evT : TD → Bool
  | .lst ts => evOk (ts.map ekT)
  | .tup ts => evOk (ts.map ekT)
  | _ => false
/-- an item, its calls of one alone -/
theorem Th.ek (T : TxThings w K mg) {v : V} {t : TD} (h : Th T.toTxTrees0 g H v t) : ∃ e, EkAt T.toTxTrees0 H v e ∧ (∀ s, evStep e s = evStep (ekT t) s) ∧ ∀ c, innerE e = some c → CallS T.toTxTrees0 H c 1 := by
  have odd : isHearT t = false → isLeaveT t = false → isWaitT t = false → EkAt T.toTxTrees0 H v .odd := fun a b c => .odd (by rw [← a]; exact Th.isHear T h) (by rw [← b]; exact Th.isLeave T h) (by rw [← c]; exact Th.isWait T h)
  have one : ∀ {c : Addr}, One T.toTxTrees0 g H c → CallS T.toTxTrees0 H c 1 := fun h => by
    obtain ⟨dx, fs, h1, h2⟩ := h.ex
    exact ⟨⟨dx, fs, h1, h2⟩, by decide⟩
  cases h with
  | wait n h hc => exact ⟨_, .wait h, fun _ => rfl, fun c e => by cases e; exact one hc⟩
  | leave n h hc => exact ⟨_, .leave h, fun _ => rfl, fun c e => by cases e; exact one hc⟩
  | hear n h => exact ⟨_, .hear h, fun _ => rfl, fun c e => by cases e⟩
  | non => exact ⟨_, odd rfl rfl rfl, fun _ => rfl, fun c e => by cases e⟩
  | bl b => exact ⟨_, odd rfl rfl rfl, fun _ => rfl, fun c e => by cases e⟩
  | int i => exact ⟨_, odd rfl rfl rfl, fun _ => rfl, fun c e => by cases e⟩
  | str s => exact ⟨_, odd rfl rfl rfl, fun _ => rfl, fun c e => by cases e⟩
  | call _ => exact ⟨_, odd rfl rfl rfl, fun _ => rfl, fun c e => by cases e⟩
  | lst _ _ _ => exact ⟨_, odd rfl rfl rfl, fun _ => rfl, fun c e => by cases e⟩
  | tup _ _ _ => exact ⟨_, odd rfl rfl rfl, fun _ => rfl, fun c e => by cases e⟩
theorem ThAll.eks (T : TxThings w K mg) : ∀ {ts : List TD} {vs : List V}, ThAll T.toTxTrees0 g H vs ts → ∃ (es : List Ek) (ns : List Nat), Paired (EkAt T.toTxTrees0 H) vs es ∧ (∀ s, evRun es s = evRun (ts.map ekT) s) ∧ Paired (CallS T.toTxTrees0 H) (innerOf es) ns ∧ ns.sum ≤ ts.length
  | _, _, .nil => ⟨[], [], .nil, fun _ => rfl, .nil, Nat.zero_le _⟩
  | t :: ts, _, .cons h r => by
    obtain ⟨e, h1, h2, h3⟩ := Th.ek T h
    obtain ⟨es, ns, p1, p2, p3, p4⟩ := r.eks T
    have run : ∀ s, evRun (e :: es) s = evRun ((t :: ts).map ekT) s := fun s => by
      show (evStep e s).bind (evRun es) = (evStep (ekT t) s).bind (evRun (ts.map ekT))
      rw [h2, funext p2]
    cases ei : innerE e with
    | none =>
      have ee : innerOf (e :: es) = innerOf es := List.filterMap_cons_none ei
      exact ⟨e :: es, ns, .cons h1 p1, run, by rw [ee]; exact p3, Nat.le_succ_of_le p4⟩
    | some c =>
      have ee : innerOf (e :: es) = c :: innerOf es := List.filterMap_cons_some ei
      refine ⟨e :: es, 1 :: ns, .cons h1 p1, run, by rw [ee]; exact .cons (h3 c ei) p3, ?_⟩
      rw [List.sum_cons, List.length_cons]
      omega
theorem evRun_no : ∀ {es : List Ek} {s : Int × List Int}, (evRun es s).isSome = true → ∀ e ∈ es, e ≠ .odd
  | e :: es, s, h, f, m => by
    rcases List.mem_cons.mp m with rfl | m
    · intro z
      rw [z] at h
      cases h
    · have h : ((evStep e s).bind (evRun es)).isSome = true := h
      cases q : evStep e s with
      | none => rw [q] at h; cases h
      | some r => rw [q] at h; exact evRun_no (es := es) h f m
/-- what Call(..) asks of its events -/
def EvGood (T : TxTrees0 w K mg) (H : Hp) (v : V) : Prop := ∃ (a : Addr) (xs : List V) (es : List Ek) (ns : List Nat), v = .ref a ∧ SqA K H a xs ∧ Paired (EkAt T H) xs es ∧ xs.length ≤ 500 ∧ (∀ e ∈ es, e ≠ .odd) ∧ Paired (CallS T H) (innerOf es) ns ∧ ns.sum ≤ 900
def fewT : TD → Bool
  | .lst ts => decide (ts.length ≤ 500)
  | .tup ts => decide (ts.length ≤ 500)
  | _ => true
theorem Th.events (T : TxThings w K mg) {v : V} {t : TD} (h : Th T.toTxTrees0 g H v t) (few : fewT t = true) : EventsV T.toTxTrees0 H v (evT t) ∧ (evT t = true → EvGood T.toTxTrees0 H v) := by
  have no : isSeqT t = false → evT t = false → EventsV T.toTxTrees0 H v (evT t) ∧ (evT t = true → EvGood T.toTxTrees0 H v) := fun a b => by
    have z := Th.isSeq T h
    rw [a] at z
    rw [b]
    exact ⟨.no z, fun e => nomatch e⟩
  have seq : ∀ {a : Addr} {xs : List V} {ts : List TD}, SqA K H a xs → ThAll T.toTxTrees0 g H xs ts → ts.length ≤ 500 → EventsV T.toTxTrees0 H (.ref a) (evOk (ts.map ekT)) ∧ (evOk (ts.map ekT) = true → EvGood T.toTxTrees0 H (.ref a)) := fun {a xs ts} hs t n => by
    obtain ⟨es, ns, p1, p2, p3, p4⟩ := t.eks T
    have e : evOk es = evOk (ts.map ekT) := by unfold evOk; rw [p2]
    have l : xs.length ≤ 500 := by rw [t.len]; exact n
    rw [← e]
    exact ⟨.seq hs p1 l, fun ok => ⟨a, xs, es, ns, rfl, hs, p1, l, evRun_no ok, p3, by omega⟩⟩
  cases h with
  | lst n h t => exact seq (.inl (SqL.of h)) t (of_decide_eq_true few)
  | tup n h t => exact seq (.inr (SqT.of h)) t (of_decide_eq_true few)
  | non => exact no rfl rfl
  | bl b => exact no rfl rfl
  | int i => exact no rfl rfl
  | str s => exact no rfl rfl
  | call _ => exact no rfl rfl
  | wait _ _ _ => exact no rfl rfl
  | leave _ _ _ => exact no rfl rfl
  | hear _ _ => exact no rfl rfl
/-! ### data -/
def dataT : TD → Option PyData
  | .non => some .none
  | .bl b => some (.bool b)
  | .int i => some (.int i)
  | .str s => some (.str s)
  | .tup [.str s] => some (.tuple [.str s])
  | _ => none
theorem Th.data {T : TxTrees0 w K mg} {v : V} {t : TD} {d : PyData} (h : Th T g H v t) (e : dataT t = some d) : Dp K H v d := by
  cases h with
  | non => cases e; exact .non
  | bl b => cases e; exact .bl b
  | int i => cases e; exact .int i
  | str s => cases e; exact .str s
  | @tup a xs ts n h t =>
    match ts, t, e with
    | [.str s], .cons (.str _) .nil, e => cases e; exact .tup (SqT.of h) (.cons (.str s) .nil)
  | call _ => cases e
  | wait _ _ _ => cases e
  | leave _ _ _ => cases e
  | hear _ _ => cases e
  | lst _ _ _ => cases e
end
end My

/-! ## k22: an argument, right or wrong -/
namespace My
open PySem PySem.Spec PyProof.Rows L2 PySem.MyX
abbrev s_argument : Stmt := top 21
abbrev N_argument : List Str := ["_law_deal", "_law_word", "_law_one", "_law_two", "_law_right", "_law_odd", "_law_wrong", "_law_is_right"]
abbrev P_argument : List Str := ["_law_deal", "_law_word"]
theorem sc_argument : FnScope N_argument P_argument (defScope s_argument) := ⟨rfl, rfl, rfl, by decide +kernel, rfl, by decide +kernel, by decide +kernel⟩
structure TxArg (w : World) (K : PySem.W.Frag) (mg : Str → Option Value) extends TxThings w K mg, TxDeal w K mg where
  f_argument : Addr
  d_argument : FuncData
  F_argument : Fun K "_law_argument" "_law_argument" s_argument f_argument d_argument
  m_argument : mg "_law_argument" = some (.ref f_argument)
  b_argument : Binds K d_argument P_argument []
def ASKED : List Str := ["service", "kind", "bad", "events", "side"]
def sT (l : List Str) : List TD := l.map TD.str
def oddT : List TD := [.non, .str "", .str "abcde", .str "A", .str "any", .str "none", .str "good", .int 3, .bl true, .tup [.str "a"], .lst [.str "a"], .call, .str "a b", .str "old"]
def evRT : List TD := [.lst [], .tup [], .lst [.wait, .wait], .tup [.leave, .leave, .hear 1, .hear 0], .lst [.leave]]
def evW1 : List TD := [.non, .str "", .wait, .lst [.call], .lst [.non], .lst [.hear 0], .lst [.leave, .hear 1], .tup [.hear 0, .leave]]
def evW2 : List TD := [.lst [.leave, .hear 0, .hear 0], .lst [.wait, .hear 0], .lst [.lst [.wait]], .lst [.str "wait"]]
def rightT (wd : Str) : List TD := if wd = "service" then [.str "a", .str "zzzz", .str "root"] else if wd = "kind" then [.str "k", .str "wait"] else if wd = "bad" then [.bl true, .bl false] else if wd = "events" then evRT else [.str "old", .str "new"]
def wrongT (wd : Str) : List TD := if wd = "service" then oddT else if wd = "kind" then oddT ++ [.str "both", .str "keep"] else if wd = "bad" then [.int 0, .int 1, .non, .str "bad", .str "", .lst [], .call] else if wd = "events" then evW1 ++ evW2 else [.non, .str "", .str "both", .int 0, .bl true, .str "Old", .tup [.str "old"]]
def argT (ok : Bool) (wd : Str) : List TD := if ok = true then rightT wd else wrongT wd
def spArg {w : World} {K : PySem.W.Frag} {mg : Str → Option Value} (T : TxTrees0 w K mg) : Sp := fun us H Q _ => ∃ (d g : Addr) (ns : List Int) (s : Int) (wd : Str), us = [.ref d, .str wd] ∧ DealAt H d g ns s ∧ wd ∈ ASKED ∧
  ∀ (t : TD) (p : Addr) (v : V) (ok : Bool) (s' : Int) (ns' : List Int) (H' : Hp), KeepD d g H H' → DealAt H' d g ns' s' → H p = none → H' p = some (.tup [v, .bl ok]) → t ∈ argT ok wd → Th T (fun a => H a = none) H' v t → Q (.ref p) H'
section
variable {w : World} {K : PySem.W.Frag} {mg : Str → Option Value} {g : Addr → Prop}
theorem made_call (T : TxThings w K mg) {x dx : Addr} {H1 : Hp} {s k : Str} {b : Bool} {Q : Hp → Prop} (nx : H1 x = none) (nd : H1 dx = none) (hs : isNm s = true) (hk : isNm k = true) (gr : ∀ p, H1 p = none → g p) (q : ∀ H', Same H1 H' → One T.toTxTrees0 g H' x → Q H') :
    spCallInit T.toTxTrees0 [.ref x, .str s, .str k, .bl b, .ref T.e_events, .str "old"] (upd (upd H1 dx (.own x)) x (.ins T.C_Call dx [])) (fun v H2 => v = .non ∧ Q H2) E0 := by
  have lt : ∀ {y : Str}, isNm y = true → y.length ≤ 2000 := fun h => by have := isNm_len h; omega
  have wn : wrCall (nmV (.str s)) (nmV (.str k)) true true (inSides (.str "old")) = none := by
    show wrCall (isNm s) (isNm k) true true (inSides (.str "old")) = none
    rw [hs, hk]
    decide +kernel
  refine ⟨x, dx, .str s, .str k, .bl b, .ref T.e_events, .str "old", true, true, .str "old", rfl, upd_same, .str s (lt hs), .str k (lt hk), ⟨_, .base (.bl b), kit_ty (show kitB "bool" "bool" = some true by decide +kernel)⟩, .seq (.inr (T.t_events _)) .nil (Nat.zero_le _), .str _, by decide +kernel, (fun wd a H' e => by rw [wn] at e; cases e), fun _ => ⟨T.e_events, [], [], [], rfl, .inr (T.t_events _), .nil, Nat.zero_le _, (fun _ h => nomatch h), .nil, Nat.zero_le _, fun H' te ti kp hx _ _ => ⟨rfl, ?_⟩⟩⟩
  have sm : Same H1 H' := same_made nx nd fun b u e n => kp b u e n
  exact q H' sm ⟨⟨dx, _, hx, rfl⟩, gr _ nx⟩
theorem mkHold (T : TxThings w K mg) {C x dx c : Addr} {H1 : Hp} {Q : Hp → Prop} (nx : H1 x = none) (nd : H1 dx = none) (hc : One T.toTxTrees0 g H1 c) (gr : ∀ p, H1 p = none → g p) (q : ∀ H', Same H1 H' → g x → H' x = some (.ins C dx [("call", .ref c)]) → One T.toTxTrees0 g H' c → Q H') :
    spHolder T.toTxTrees0 C [.ref x, .ref c] (upd (upd H1 dx (.own x)) x (.ins C dx [])) (fun v H2 => v = .non ∧ Q H2) E0 := by
  have m0 := made_same (o := .own x) (o2 := .ins C dx []) nx nd
  refine ⟨x, dx, .ref c, true, rfl, upd_same, ?_, fun _ H' hx kp => ⟨rfl, ?_⟩, fun e => nomatch e⟩
  · exact Th.isCall T (.call (hc.kv (KV.of_same m0)))
  · have sm : Same H1 H' := same_made nx nd fun b u e n => kp b u e n
    exact q H' sm (gr _ nx) hx (hc.kv (KV.of_same sm))
theorem mkWait2 (T : TxThings w K mg) : MkT T.toTxTrees0 g (tMake T.C_Wait (spHolder T.toTxTrees0 T.C_Wait) [] E0 (tCons (tVar 2) tNil)) .wait := ⟨fun b q => by
  obtain ⟨c, h1, h2⟩ := b.one
  exact ⟨_, h1, fun x dx nx nd ne => mkHold T nx nd h2 b.gr fun H' s n hx hc => q _ _ s (.wait n hx hc)⟩⟩
theorem mkWait3 (T : TxThings w K mg) : MkT T.toTxTrees0 g (tMake T.C_Wait (spHolder T.toTxTrees0 T.C_Wait) [] E0 (tCons (tVar 3) tNil)) .wait := ⟨fun b q => by
  obtain ⟨c, h1, h2⟩ := b.two
  exact ⟨_, h1, fun x dx nx nd ne => mkHold T nx nd h2 b.gr fun H' s n hx hc => q _ _ s (.wait n hx hc)⟩⟩
theorem mkLeave2 (T : TxThings w K mg) : MkT T.toTxTrees0 g (tMake T.C_Leave (spHolder T.toTxTrees0 T.C_Leave) [] E0 (tCons (tVar 2) tNil)) .leave := ⟨fun b q => by
  obtain ⟨c, h1, h2⟩ := b.one
  exact ⟨_, h1, fun x dx nx nd ne => mkHold T nx nd h2 b.gr fun H' s n hx hc => q _ _ s (.leave n hx hc)⟩⟩
theorem mkLeave3 (T : TxThings w K mg) : MkT T.toTxTrees0 g (tMake T.C_Leave (spHolder T.toTxTrees0 T.C_Leave) [] E0 (tCons (tVar 3) tNil)) .leave := ⟨fun b q => by
  obtain ⟨c, h1, h2⟩ := b.two
  exact ⟨_, h1, fun x dx nx nd ne => mkHold T nx nd h2 b.gr fun H' s n hx hc => q _ _ s (.leave n hx hc)⟩⟩
theorem made_hear (T : TxThings w K mg) {x dx : Addr} {i : Int} {H1 : Hp} {Q : Hp → Prop} (i0 : 0 ≤ i) (nx : H1 x = none) (nd : H1 dx = none) (gr : ∀ p, H1 p = none → g p) (q : ∀ H', Same H1 H' → g x → H' x = some (.ins T.C_Hear dx [("number", .int i)]) → Q H') :
    spHear T.toTxTrees0 [.ref x, .int i] (upd (upd H1 dx (.own x)) x (.ins T.C_Hear dx [])) (fun v H2 => v = .non ∧ Q H2) E0 := by
  refine ⟨x, dx, .int i, true, false, rfl, upd_same, ⟨_, .base (.int i), kit_ty (show kitB "int" "int" = some true by decide +kernel)⟩, ⟨_, .base (.int i), kit_ty (show kitB "int" "bool" = some false by decide +kernel)⟩, fun j _ e le H' hx kp => ⟨rfl, ?_⟩, fun _ => ⟨i, rfl⟩, fun z => ?_⟩
  · have sm : Same H1 H' := same_made nx nd fun b u e n => kp b u e n
    exact q H' sm (gr _ nx) hx
  · rcases z with z | ⟨j, e, l⟩
    · cases z
    · cases e
      omega
theorem mkHear (T : TxThings w K mg) {i : Int} (i0 : 0 ≤ i) : MkT T.toTxTrees0 g (tMake T.C_Hear (spHear T.toTxTrees0) [] E0 (tCons (tC (.int i)) tNil)) (.hear i) := ⟨fun b q => fun x dx nx nd ne => made_hear T i0 nx nd b.gr fun H' s n hx => q _ _ s (.hear n hx)⟩
theorem Th.lst_inv {T : TxTrees0 w K mg} {H : Hp} {v : V} {ts : List TD} (h : Th T g H v (.lst ts)) : ∃ (a : Addr) (xs : List V), v = .ref a ∧ g a ∧ H a = some (.lst xs) ∧ ThAll T g H xs ts := by
  cases h with
  | lst n h t => exact ⟨_, _, rfl, n, h, t⟩
theorem th_cat {T : TxTrees0 w K mg} {H : Hp} {x y : V} {ts us : List TD} {Q : VK} (h1 : Th T g H x (.lst ts)) (h2 : Th T g H y (.lst us)) (few : ts.length + us.length ≤ 100) (gr : ∀ p, H p = none → g p) (q : ∀ v H', Same H H' → Th T g H' v (.lst (ts ++ us)) → Q v H') : rCat x y H Q := by
  obtain ⟨a, xs, rfl, na, ha, ta⟩ := h1.lst_inv
  obtain ⟨b, ys, rfl, nb, hb, tb⟩ := h2.lst_inv
  refine ⟨a, b, xs, ys, rfl, rfl, ha, hb, ?_, fun p hp => ?_⟩
  · exact small_ (by rw [ta.len, tb.len]; omega)
  · exact q _ _ (same_upd hp _) (.lst (gr _ hp) upd_same ((ta.app tb).same (same_upd hp _)))
theorem DealAt.same {H H' : Hp} {d g : Addr} {ns : List Int} {s : Int} (D : DealAt H d g ns s) (e : Same H H') : DealAt H' d g ns s := ⟨D.ne, D.s0, D.s1, e _ _ D.dict, e _ _ D.great, D.pos, D.few⟩
theorem same_putR {H H1 : Hp} {R : Addr} {o' : HO} (S : Same H H1) (R0 : H R = none) : Same H (upd H1 R o') := fun a o e => by
  rw [upd_ne (ne_of_none e R0)]
  exact S a o e
/-- a lot is picked, and one of it -/
theorem arg_pick {T : TxTrees0 w K mg} {d e : Addr} {H23 H24 : Hp} {ns ns' : List Int} {s s' : Int} {v : V} {ts : List TD} {Q : VK} (hg : ∀ a, g a → a ≠ e) (D23 : DealAt H23 d e ns s) (kd : KeepD d e H23 H24) (D24 : DealAt H24 d e ns' s') (th : Th T g H23 v (.lst ts)) (n0 : ts ≠ []) (few : ts.length ≤ 100)
    (q : ∀ (t : TD) (x : V) (s2 : Int) (ns2 : List Int) (H25 : Hp), KeepD d e H24 H25 → DealAt H25 d e ns2 s2 → t ∈ ts → Th T g H25 x t → Q x H25) : spDPick [.ref d, v] H24 Q E0 := by
  have th4 := Th.kv (KV.of_keepD hg D23.dict kd) _ _ th
  obtain ⟨a, xs, rfl, na, ha, ta⟩ := th4.lst_inv
  refine ⟨d, e, a, ns', s', xs, rfl, D24, fun z => ?_, hg a na, ha, fun z => ?_, by rw [ta.len]; omega, fun x s2 ns2 H25 mem kd2 D25 => ?_⟩
  · rw [z, D24.dict] at ha; cases ha
  · have l := ta.len
    rw [z] at l
    exact n0 (List.length_eq_zero_iff.mp l.symm)
  · obtain ⟨t, h1, h2⟩ := ta.mem mem
    exact q t x s2 ns2 H25 kd2 D25 h1 (Th.kv (KV.of_keepD hg D24.dict kd2) _ _ h2)
theorem asked_ne {wd : Str} (h : wd ∈ ASKED) : rightT wd ≠ [] ∧ (rightT wd).length ≤ 100 ∧ wrongT wd ≠ [] ∧ (wrongT wd).length ≤ 100 := by
  unfold ASKED at h
  simp only [List.mem_cons, List.not_mem_nil, or_false] at h
  rcases h with rfl | rfl | rfl | rfl | rfl <;> exact ⟨fun z => (nomatch (show (_ :: _ : List TD) = [] from z)), by decide +kernel, fun z => (nomatch (show (_ :: _ : List TD) = [] from z)), by decide +kernel⟩
end
section
variable {P : Program} {w : World} {K : PySem.W.Frag} {mg : Str → Option Value} {base : Heap}
theorem ok_argument (T : TxArg w K mg) : FnOk P w K mg base CX0 7 T.f_argument T.d_argument P_argument (spArg T.toTxTrees0) := by
  have G_draw := ok_draw (P := P) (w := w) (base := base) T.toTxDeal
  have G_pick := ok_dpick (P := P) (w := w) (base := base) T.toTxDeal
  have G_Call_init := ok_Call_init (P := P) (w := w) (base := base) T.toTxCalls
  have G_Wait_init := ok_Wait_init (P := P) (w := w) (base := base) T.toTxTrees0
  have G_Leave_init := ok_Leave_init (P := P) (w := w) (base := base) T.toTxTrees0
  have G_Hear_init := ok_Hear_init (P := P) (w := w) (base := base) T.toTxTrees0
  obtain ⟨ds3, hv3, hb3⟩ := T.F_Call_init.binds1 (ps := P_Call_init) 3 0 (by simp) rfl (fun TT kV doc pm an cdv ct us its h1 h2 => by
    match us, h1, its, h2 with
    | [_, _, _], _, [_, _, _], _ => exact ⟨_, rfl, rfl⟩)
  obtain ⟨ds4, hv4, hb4⟩ := T.F_Call_init.binds1 (ps := P_Call_init) 4 1 (by simp) rfl (fun TT kV doc pm an cdv ct us its h1 h2 => by
    match us, h1, its, h2 with
    | [_, _, _, _], _, [_, _, _], _ => exact ⟨_, rfl, rfl⟩)
  refine T.F_argument.ok sc_argument (fun vs H Q E h => ?_) (fun cdv A outer s H vs Q E hr h => ?_)
  · obtain ⟨d, g, ns, s, wd, rfl, _⟩ := h
    rfl
  obtain ⟨d, g, ns, s, wd, rfl, D0, hw, q⟩ := h
  refine ⟨_, (pss_cons (ps_par (i := 2) (j := 3) (by rfl) sc_argument.nd rfl rfl (by decide) rfl rfl (pa_cons (pe_make T.mk_Call G_Call_init (hr.mono (by decide)) (by rfl) T.m_Call hb3 hv3 passL (pa_cons pe_str (pa_cons pe_str pa_nil))) (pa_cons (pe_make T.mk_Call G_Call_init (hr.mono (by decide)) (by rfl) T.m_Call hb4 hv4 passL (pa_cons pe_str (pa_cons pe_str (pa_cons pe_bl pa_nil)))) pa_nil)) (by rfl))
      (pss_cons (ps_set (i := 4) sc_argument.nd rfl (Or.inl rfl) (pe_disp (pps_cons pe_str (pe_lst (pa_cons pe_str (pa_cons pe_str (pa_cons pe_str pa_nil)))) (pps_cons pe_str (pe_lst (pa_cons pe_str (pa_cons pe_str pa_nil))) (pps_cons pe_str (pe_lst (pa_cons pe_bl (pa_cons pe_bl pa_nil))) (pps_cons pe_str (pe_lst (pa_cons pe_str (pa_cons pe_str pa_nil))) pps_nil)))) rfl rfl (fun h => nomatch h) (Nat.le_of_ble_eq_true rfl)))
      (pss_cons (ps_dput (hu_of hr) (pv 4) pe_str (pe_lst (pa_cons (pe_lst pa_nil) (pa_cons (pe_tup pa_nil) (pa_cons (pe_lst (pa_cons (pe_make T.mk_Wait G_Wait_init (hr.mono (by decide)) (by rfl) T.m_Wait T.b_Wait_init .nil passL (pa_cons (pv 2) pa_nil)) (pa_cons (pe_make T.mk_Wait G_Wait_init (hr.mono (by decide)) (by rfl) T.m_Wait T.b_Wait_init .nil passL (pa_cons (pv 3) pa_nil)) pa_nil))) (pa_cons (pe_tup (pa_cons (pe_make T.mk_Leave G_Leave_init (hr.mono (by decide)) (by rfl) T.m_Leave T.b_Leave_init .nil passL (pa_cons (pv 2) pa_nil)) (pa_cons (pe_make T.mk_Leave G_Leave_init (hr.mono (by decide)) (by rfl) T.m_Leave T.b_Leave_init .nil passL (pa_cons (pv 3) pa_nil)) (pa_cons (pe_make T.mk_Hear G_Hear_init (hr.mono (by decide)) (by rfl) T.m_Hear T.b_Hear_init .nil passL (pa_cons pe_int pa_nil)) (pa_cons (pe_make T.mk_Hear G_Hear_init (hr.mono (by decide)) (by rfl) T.m_Hear T.b_Hear_init .nil passL (pa_cons pe_int pa_nil)) pa_nil))))) (pa_cons (pe_lst (pa_cons (pe_make T.mk_Leave G_Leave_init (hr.mono (by decide)) (by rfl) T.m_Leave T.b_Leave_init .nil passL (pa_cons (pv 2) pa_nil)) pa_nil)) pa_nil)))))) rfl)
      (pss_cons (ps_set (i := 5) sc_argument.nd rfl (Or.inl rfl) (pe_lst (pa_cons pe_non (pa_cons pe_str (pa_cons pe_str (pa_cons pe_str (pa_cons pe_str (pa_cons pe_str (pa_cons pe_str (pa_cons pe_int (pa_cons pe_bl (pa_cons (pe_tup (pa_cons pe_str pa_nil)) (pa_cons (pe_lst (pa_cons pe_str pa_nil)) (pa_cons (pv 2) (pa_cons pe_str (pa_cons pe_str pa_nil))))))))))))))))
      (pss_cons (ps_set (i := 6) sc_argument.nd rfl (Or.inl rfl) (pe_disp (pps_cons pe_str (pv 5) (pps_cons pe_str (pe_op op_cat (pv 5) (pe_lst (pa_cons pe_str (pa_cons pe_str pa_nil)))) (pps_cons pe_str (pe_lst (pa_cons pe_int (pa_cons pe_int (pa_cons pe_non (pa_cons pe_str (pa_cons pe_str (pa_cons (pe_lst pa_nil) (pa_cons (pv 2) pa_nil)))))))) pps_nil))) rfl rfl (fun h => nomatch h) (Nat.le_of_ble_eq_true rfl)))
      (pss_cons (ps_dput (hu_of hr) (pv 6) pe_str (pe_lst (pa_cons pe_non (pa_cons pe_str (pa_cons (pe_make T.mk_Wait G_Wait_init (hr.mono (by decide)) (by rfl) T.m_Wait T.b_Wait_init .nil passL (pa_cons (pv 2) pa_nil)) (pa_cons (pe_lst (pa_cons (pv 2) pa_nil)) (pa_cons (pe_lst (pa_cons pe_non pa_nil)) (pa_cons (pe_lst (pa_cons (pe_make T.mk_Hear G_Hear_init (hr.mono (by decide)) (by rfl) T.m_Hear T.b_Hear_init .nil passL (pa_cons pe_int pa_nil)) pa_nil)) (pa_cons (pe_lst (pa_cons (pe_make T.mk_Leave G_Leave_init (hr.mono (by decide)) (by rfl) T.m_Leave T.b_Leave_init .nil passL (pa_cons (pv 2) pa_nil)) (pa_cons (pe_make T.mk_Hear G_Hear_init (hr.mono (by decide)) (by rfl) T.m_Hear T.b_Hear_init .nil passL (pa_cons pe_int pa_nil)) pa_nil))) (pa_cons (pe_tup (pa_cons (pe_make T.mk_Hear G_Hear_init (hr.mono (by decide)) (by rfl) T.m_Hear T.b_Hear_init .nil passL (pa_cons pe_int pa_nil)) (pa_cons (pe_make T.mk_Leave G_Leave_init (hr.mono (by decide)) (by rfl) T.m_Leave T.b_Leave_init .nil passL (pa_cons (pv 2) pa_nil)) pa_nil))) pa_nil))))))))) rfl)
      (pss_cons (ps_dput (hu_of hr) (pv 6) pe_str (pe_op op_cat (pe_dget (hu_of hr) (pv 6) pe_str (fun _ _ => rfl)) (pe_lst (pa_cons (pe_lst (pa_cons (pe_make T.mk_Leave G_Leave_init (hr.mono (by decide)) (by rfl) T.m_Leave T.b_Leave_init .nil passL (pa_cons (pv 2) pa_nil)) (pa_cons (pe_make T.mk_Hear G_Hear_init (hr.mono (by decide)) (by rfl) T.m_Hear T.b_Hear_init .nil passL (pa_cons pe_int pa_nil)) (pa_cons (pe_make T.mk_Hear G_Hear_init (hr.mono (by decide)) (by rfl) T.m_Hear T.b_Hear_init .nil passL (pa_cons pe_int pa_nil)) pa_nil)))) (pa_cons (pe_lst (pa_cons (pe_make T.mk_Wait G_Wait_init (hr.mono (by decide)) (by rfl) T.m_Wait T.b_Wait_init .nil passL (pa_cons (pv 2) pa_nil)) (pa_cons (pe_make T.mk_Hear G_Hear_init (hr.mono (by decide)) (by rfl) T.m_Hear T.b_Hear_init .nil passL (pa_cons pe_int pa_nil)) pa_nil))) (pa_cons (pe_lst (pa_cons (pe_lst (pa_cons (pe_make T.mk_Wait G_Wait_init (hr.mono (by decide)) (by rfl) T.m_Wait T.b_Wait_init .nil passL (pa_cons (pv 2) pa_nil)) pa_nil)) pa_nil)) (pa_cons (pe_lst (pa_cons pe_str pa_nil)) pa_nil)))))) rfl)
      (pss_cons (ps_dput (hu_of hr) (pv 6) pe_str (pe_lst (pa_cons pe_non (pa_cons pe_str (pa_cons pe_str (pa_cons pe_int (pa_cons pe_bl (pa_cons pe_str (pa_cons (pe_tup (pa_cons pe_str pa_nil)) pa_nil)))))))) rfl)
      (pss_cons (ps_set (i := 7) sc_argument.nd rfl (Or.inl rfl) (pe_cmpR op_gt (pe_call G_draw (hr.mono (by decide)) (by rfl) T.m_draw T.F_draw.kp T.b_draw .nil pass0 (pa_cons (pv 0) (pa_cons pe_int pa_nil))) pe_int (nomark _)))
      (pss_one (ps_ret (pe_tup (pa_cons (pe_call G_pick (hr.mono (by decide)) (by rfl) T.m_pick T.F_pick.kp T.b_pick .nil pass0 (pa_cons (pv 0) (pa_cons (pe_ifExp (pt_truth (pv 7) (by intro _; rfl)) (pe_dget (hu_of hr) (pv 4) (pv 1) (fun _ _ => rfl)) (pe_dget (hu_of hr) (pv 6) (pv 1) (fun _ _ => rfl))) pa_nil))) (pa_cons (pv 7) pa_nil)))))))))))))), ?_⟩
  rw [qLst_eq]
  have g0 : ∀ p, H p = none → (fun a => H a = none) p := fun p hp => hp
  have gne : ∀ a, (fun a => H a = none) a → a ≠ g := fun a h z => by rw [z, D0.great] at h; cases h
  intro x1 e1 nx1 ne1 _
  refine made_call T.toTxThings (s := "a") (k := "k") nx1 ne1 (by decide +kernel) (by decide +kernel) g0 fun H1 s1 O1 => ?_
  intro x2 e2 nx2 ne2 _
  refine made_call T.toTxThings (s := "b") (k := "k") nx2 ne2 (by decide +kernel) (by decide +kernel) (fun p hp => s1.free hp) fun H2 s2 O2 => ?_
  refine ⟨_, _, rfl, ?_⟩
  have s02 := s1.trans s2
  have ctx : ∀ {Hi : Hp} {v4 v5 v6 v7 : Option V}, Same H Hi → KV (fun a => H a = none) H2 Hi → B22 T.toTxTrees0 (fun a => H a = none) [some (.ref d), some (.str wd), some (.ref x1), some (.ref x2), v4, v5, v6, v7] Hi := fun S k => ⟨⟨x1, rfl, (O1.kv (KV.of_same s2)).kv k⟩, ⟨x2, rfl, O2.kv k⟩, fun p hp => S.free hp⟩
  -- the right ones
  intro R hR0
  have R0 : H R = none := s02.free hR0
  dsimp only [tPairs]
  have y3 := same_upd hR0 (.dK [])
  have R3 := upd_same (H := H2) (a := R) (o := .dK [])
  generalize upd H2 R (.dK []) = H3 at y3 R3 ⊢
  have S3 := s02.trans y3
  have K3 := KV.of_same (g := fun a => H a = none) y3
  refine MkT.run (MkA.lst (MkT.cons (mkStr "a") (MkT.cons (mkStr "zzzz") (MkT.cons (mkStr "root") mkNil))) (by decide)) (ctx S3 K3) fun v1 H4 y4 t1 => ?_
  have S4 := S3.trans y4
  have K4 := K3.trans (KV.of_same y4)
  refine MkT.run (MkA.lst (MkT.cons (mkStr "k") (MkT.cons (mkStr "wait") mkNil)) (by decide)) (ctx S4 K4) fun v2 H5 y5 t2 => ?_
  have S5 := S4.trans y5
  have K5 := K4.trans (KV.of_same y5)
  refine MkT.run (MkA.lst (MkT.cons (mkBl true) (MkT.cons (mkBl false) mkNil)) (by decide)) (ctx S5 K5) fun v3 H6 y6 t3 => ?_
  have S6 := S5.trans y6
  have K6 := K5.trans (KV.of_same y6)
  refine MkT.run (MkA.lst (MkT.cons (mkStr "old") (MkT.cons (mkStr "new") mkNil)) (by decide)) (ctx S6 K6) fun v4 H7 y7 t4 => ?_
  have S7 := S6.trans y7
  have K7 := K6.trans (KV.of_same y7)
  have R7 := y7 _ _ (y6 _ _ (y5 _ _ (y4 _ _ R3)))
  refine ⟨R7, [(.inr "service", v1), (.inr "kind", v2), (.inr "bad", v3), (.inr "side", v4)], rfl, by simp, ?_⟩
  have k8 := KV.put (g := fun a => H a = none) R7 (.dK (mergeK [] [(.inr "service", v1), (.inr "kind", v2), (.inr "bad", v3), (.inr "side", v4)]))
  have S8 : Same H (upd H7 R (.dK (mergeK [] [(.inr "service", v1), (.inr "kind", v2), (.inr "bad", v3), (.inr "side", v4)]))) := same_putR S7 R0
  have R8 : upd H7 R (.dK (mergeK [] [(.inr "service", v1), (.inr "kind", v2), (.inr "bad", v3), (.inr "side", v4)])) R = some (.dK [(.inr "service", v1), (.inr "kind", v2), (.inr "bad", v3), (.inr "side", v4)]) := upd_same
  generalize upd H7 R (.dK (mergeK [] [(.inr "service", v1), (.inr "kind", v2), (.inr "bad", v3), (.inr "side", v4)])) = H8 at k8 S8 R8 ⊢
  have K8 := K7.trans k8
  have t1 := Th.kv k8 _ _ (((t1.same y5).same y6).same y7)
  have t2 := Th.kv k8 _ _ ((t2.same y6).same y7)
  have t3 := Th.kv k8 _ _ (t3.same y7)
  have t4 := Th.kv k8 _ _ t4
  refine MkT.run (MkA.lst (MkT.cons (MkA.lst mkNil (by decide)) (MkT.cons (MkA.tup mkNil (by decide)) (MkT.cons (MkA.lst (MkT.cons (mkWait2 T.toTxThings) (MkT.cons (mkWait3 T.toTxThings) mkNil)) (by decide)) (MkT.cons (MkA.tup (MkT.cons (mkLeave2 T.toTxThings) (MkT.cons (mkLeave3 T.toTxThings) (MkT.cons (mkHear T.toTxThings (i := 1) (by decide)) (MkT.cons (mkHear T.toTxThings (i := 0) (by decide)) mkNil)))) (by decide)) (MkT.cons (MkA.lst (MkT.cons (mkLeave2 T.toTxThings) mkNil) (by decide)) mkNil))))) (by decide)) (ctx S8 K8) fun v5 H9 y9 t5 => ?_
  have R9 := y9 _ _ R8
  refine ⟨_, rfl, R, _, rfl, DPut.k (k := .inr "events") R9 (by show 4 < sizeLine; decide), ?_⟩
  have k10 := KV.put (g := fun a => H a = none) R9 (.dK (putK [(.inr "service", v1), (.inr "kind", v2), (.inr "bad", v3), (.inr "side", v4)] (.inr "events") v5))
  have S10 : Same H (upd H9 R (.dK (putK [(.inr "service", v1), (.inr "kind", v2), (.inr "bad", v3), (.inr "side", v4)] (.inr "events") v5))) := same_putR (S8.trans y9) R0
  have R10 : upd H9 R (.dK (putK [(.inr "service", v1), (.inr "kind", v2), (.inr "bad", v3), (.inr "side", v4)] (.inr "events") v5)) R = some (.dK [(.inr "service", v1), (.inr "kind", v2), (.inr "bad", v3), (.inr "side", v4), (.inr "events", v5)]) := upd_same
  generalize upd H9 R (.dK (putK [(.inr "service", v1), (.inr "kind", v2), (.inr "bad", v3), (.inr "side", v4)] (.inr "events") v5)) = H10 at k10 S10 R10 ⊢
  have k810 := (KV.of_same y9).trans k10
  have K10 := K8.trans k810
  have t1 := Th.kv k810 _ _ t1
  have t2 := Th.kv k810 _ _ t2
  have t3 := Th.kv k810 _ _ t3
  have t4 := Th.kv k810 _ _ t4
  have t5 := Th.kv k10 _ _ t5
  -- the odd ones
  refine MkT.run (MkA.lst (MkT.cons mkNon (MkT.cons (mkStr "") (MkT.cons (mkStr "abcde") (MkT.cons (mkStr "A") (MkT.cons (mkStr "any") (MkT.cons (mkStr "none") (MkT.cons (mkStr "good") (MkT.cons (mkInt 3) (MkT.cons (mkBl true) (MkT.cons (MkA.tup (MkT.cons (mkStr "a") mkNil) (by decide)) (MkT.cons (MkA.lst (MkT.cons (mkStr "a") mkNil) (by decide)) (MkT.cons mkOne (MkT.cons (mkStr "a b") (MkT.cons (mkStr "old") mkNil)))))))))))))) (by decide)) (ctx S10 K10) fun vo H11 y11 to => ?_
  have S11 := S10.trans y11
  have K11 := K10.trans (KV.of_same y11)
  have R11 := y11 _ _ R10
  intro W hW0
  have W0 : H W = none := S11.free hW0
  dsimp only [tPairs]
  have y12 := same_upd hW0 (.dK [])
  have W12 := upd_same (H := H11) (a := W) (o := .dK [])
  have RW : R ≠ W := ne_of_none R11 hW0
  generalize upd H11 W (.dK []) = H12 at y12 W12 ⊢
  have S12 := S11.trans y12
  have K12 := K11.trans (KV.of_same y12)
  refine ⟨_, rfl, _, rfl, ?_⟩
  refine MkT.run (MkA.lst (MkT.cons (mkStr "both") (MkT.cons (mkStr "keep") mkNil)) (by decide)) (ctx S12 K12) fun vb H13 y13 tb => ?_
  have S13 := S12.trans y13
  refine th_cat ((to.same y12).same y13) tb (by decide) (fun p hp => S13.free hp) fun vk H14 y14 tk => ?_
  have S14 := S13.trans y14
  have K14 := (K12.trans (KV.of_same y13)).trans (KV.of_same y14)
  refine MkT.run (MkA.lst (MkT.cons (mkInt 0) (MkT.cons (mkInt 1) (MkT.cons mkNon (MkT.cons (mkStr "bad") (MkT.cons (mkStr "") (MkT.cons (MkA.lst mkNil (by decide)) (MkT.cons mkOne mkNil))))))) (by decide)) (ctx S14 K14) fun vd H15 y15 td => ?_
  have S15 := S14.trans y15
  have y1115 := ((y12.trans y13).trans y14).trans y15
  have W15 := y15 _ _ (y14 _ _ (y13 _ _ W12))
  have R15 := y1115 _ _ R11
  refine ⟨W15, [(.inr "service", vo), (.inr "kind", vk), (.inr "bad", vd)], rfl, by simp, ?_⟩
  have k16 := KV.put (g := fun a => H a = none) W15 (.dK (mergeK [] [(.inr "service", vo), (.inr "kind", vk), (.inr "bad", vd)]))
  have S16 : Same H (upd H15 W (.dK (mergeK [] [(.inr "service", vo), (.inr "kind", vk), (.inr "bad", vd)]))) := same_putR S15 W0
  have R16 : upd H15 W (.dK (mergeK [] [(.inr "service", vo), (.inr "kind", vk), (.inr "bad", vd)])) R = some (.dK [(.inr "service", v1), (.inr "kind", v2), (.inr "bad", v3), (.inr "side", v4), (.inr "events", v5)]) := by rw [upd_ne RW]; exact R15
  have W16 : upd H15 W (.dK (mergeK [] [(.inr "service", vo), (.inr "kind", vk), (.inr "bad", vd)])) W = some (.dK [(.inr "service", vo), (.inr "kind", vk), (.inr "bad", vd)]) := upd_same
  generalize upd H15 W (.dK (mergeK [] [(.inr "service", vo), (.inr "kind", vk), (.inr "bad", vd)])) = H16 at k16 S16 R16 W16 ⊢
  have k1116 := (KV.of_same y1115).trans k16
  have K16 := K11.trans k1116
  have k1016 := (KV.of_same y11).trans k1116
  have t1 := Th.kv k1016 _ _ t1
  have t2 := Th.kv k1016 _ _ t2
  have t3 := Th.kv k1016 _ _ t3
  have t4 := Th.kv k1016 _ _ t4
  have t5 := Th.kv k1016 _ _ t5
  have to := Th.kv k1116 _ _ to
  have tk := Th.kv ((KV.of_same y15).trans k16) _ _ tk
  have td := Th.kv k16 _ _ td
  -- wrong events
  refine MkT.run (MkA.lst (MkT.cons mkNon (MkT.cons (mkStr "") (MkT.cons (mkWait2 T.toTxThings) (MkT.cons (MkA.lst (MkT.cons mkOne mkNil) (by decide)) (MkT.cons (MkA.lst (MkT.cons mkNon mkNil) (by decide)) (MkT.cons (MkA.lst (MkT.cons (mkHear T.toTxThings (i := 0) (by decide)) mkNil) (by decide)) (MkT.cons (MkA.lst (MkT.cons (mkLeave2 T.toTxThings) (MkT.cons (mkHear T.toTxThings (i := 1) (by decide)) mkNil)) (by decide)) (MkT.cons (MkA.tup (MkT.cons (mkHear T.toTxThings (i := 0) (by decide)) (MkT.cons (mkLeave2 T.toTxThings) mkNil)) (by decide)) mkNil)))))))) (by decide)) (ctx S16 K16) fun ve H17 y17 te => ?_
  refine ⟨_, rfl, W, _, rfl, DPut.k (k := .inr "events") (y17 _ _ W16) (by show 3 < sizeLine; decide), ?_⟩
  have k18 := KV.put (g := fun a => H a = none) (y17 _ _ W16) (.dK (putK [(.inr "service", vo), (.inr "kind", vk), (.inr "bad", vd)] (.inr "events") ve))
  have S18 : Same H (upd H17 W (.dK (putK [(.inr "service", vo), (.inr "kind", vk), (.inr "bad", vd)] (.inr "events") ve))) := same_putR (S16.trans y17) W0
  have R18 : upd H17 W (.dK (putK [(.inr "service", vo), (.inr "kind", vk), (.inr "bad", vd)] (.inr "events") ve)) R = some (.dK [(.inr "service", v1), (.inr "kind", v2), (.inr "bad", v3), (.inr "side", v4), (.inr "events", v5)]) := by rw [upd_ne RW]; exact y17 _ _ R16
  have W18 : upd H17 W (.dK (putK [(.inr "service", vo), (.inr "kind", vk), (.inr "bad", vd)] (.inr "events") ve)) W = some (.dK [(.inr "service", vo), (.inr "kind", vk), (.inr "bad", vd), (.inr "events", ve)]) := upd_same
  generalize upd H17 W (.dK (putK [(.inr "service", vo), (.inr "kind", vk), (.inr "bad", vd)] (.inr "events") ve)) = H18 at k18 S18 R18 W18 ⊢
  have k1618 := (KV.of_same y17).trans k18
  have K18 := K16.trans k1618
  have te := Th.kv k18 _ _ te
  refine ⟨_, rfl, W, _, rfl, DGet.k (k := .inr "events") W18, ?_⟩
  refine MkT.run (MkA.lst (MkT.cons (MkA.lst (MkT.cons (mkLeave2 T.toTxThings) (MkT.cons (mkHear T.toTxThings (i := 0) (by decide)) (MkT.cons (mkHear T.toTxThings (i := 0) (by decide)) mkNil))) (by decide)) (MkT.cons (MkA.lst (MkT.cons (mkWait2 T.toTxThings) (MkT.cons (mkHear T.toTxThings (i := 0) (by decide)) mkNil)) (by decide)) (MkT.cons (MkA.lst (MkT.cons (MkA.lst (MkT.cons (mkWait2 T.toTxThings) mkNil) (by decide)) mkNil) (by decide)) (MkT.cons (MkA.lst (MkT.cons (mkStr "wait") mkNil) (by decide)) mkNil)))) (by decide)) (ctx S18 K18) fun vf H19 y19 tf => ?_
  have S19 := S18.trans y19
  refine th_cat (te.same y19) tf (by decide) (fun p hp => S19.free hp) fun vg H20 y20 tg => ?_
  have W20 := y20 _ _ (y19 _ _ W18)
  have R20 := y20 _ _ (y19 _ _ R18)
  have S20 := S19.trans y20
  refine ⟨_, rfl, W, _, rfl, DPut.k (k := .inr "events") W20 (by show 4 < sizeLine; decide), ?_⟩
  have k21 := KV.put (g := fun a => H a = none) W20 (.dK (putK [(.inr "service", vo), (.inr "kind", vk), (.inr "bad", vd), (.inr "events", ve)] (.inr "events") vg))
  have S21 : Same H (upd H20 W (.dK (putK [(.inr "service", vo), (.inr "kind", vk), (.inr "bad", vd), (.inr "events", ve)] (.inr "events") vg))) := same_putR S20 W0
  have R21 : upd H20 W (.dK (putK [(.inr "service", vo), (.inr "kind", vk), (.inr "bad", vd), (.inr "events", ve)] (.inr "events") vg)) R = some (.dK [(.inr "service", v1), (.inr "kind", v2), (.inr "bad", v3), (.inr "side", v4), (.inr "events", v5)]) := by rw [upd_ne RW]; exact R20
  have W21 : upd H20 W (.dK (putK [(.inr "service", vo), (.inr "kind", vk), (.inr "bad", vd), (.inr "events", ve)] (.inr "events") vg)) W = some (.dK [(.inr "service", vo), (.inr "kind", vk), (.inr "bad", vd), (.inr "events", vg)]) := upd_same
  generalize upd H20 W (.dK (putK [(.inr "service", vo), (.inr "kind", vk), (.inr "bad", vd), (.inr "events", ve)] (.inr "events") vg)) = H21 at k21 S21 R21 W21 ⊢
  have k1821 := (KV.of_same (y19.trans y20)).trans k21
  have K21 := K18.trans k1821
  have tg := Th.kv k21 _ _ tg
  refine MkT.run (MkA.lst (MkT.cons mkNon (MkT.cons (mkStr "") (MkT.cons (mkStr "both") (MkT.cons (mkInt 0) (MkT.cons (mkBl true) (MkT.cons (mkStr "Old") (MkT.cons (MkA.tup (MkT.cons (mkStr "old") mkNil) (by decide)) mkNil))))))) (by decide)) (ctx S21 K21) fun vs_ H22 y22 ts_ => ?_
  refine ⟨_, rfl, W, _, rfl, DPut.k (k := .inr "side") (y22 _ _ W21) (by show 4 < sizeLine; decide), ?_⟩
  have k23 := KV.put (g := fun a => H a = none) (y22 _ _ W21) (.dK (putK [(.inr "service", vo), (.inr "kind", vk), (.inr "bad", vd), (.inr "events", vg)] (.inr "side") vs_))
  have S23 : Same H (upd H22 W (.dK (putK [(.inr "service", vo), (.inr "kind", vk), (.inr "bad", vd), (.inr "events", vg)] (.inr "side") vs_))) := same_putR (S21.trans y22) W0
  have R23 : upd H22 W (.dK (putK [(.inr "service", vo), (.inr "kind", vk), (.inr "bad", vd), (.inr "events", vg)] (.inr "side") vs_)) R = some (.dK [(.inr "service", v1), (.inr "kind", v2), (.inr "bad", v3), (.inr "side", v4), (.inr "events", v5)]) := by rw [upd_ne RW]; exact y22 _ _ R21
  have W23 : upd H22 W (.dK (putK [(.inr "service", vo), (.inr "kind", vk), (.inr "bad", vd), (.inr "events", vg)] (.inr "side") vs_)) W = some (.dK [(.inr "service", vo), (.inr "kind", vk), (.inr "bad", vd), (.inr "events", vg), (.inr "side", vs_)]) := upd_same
  generalize upd H22 W (.dK (putK [(.inr "service", vo), (.inr "kind", vk), (.inr "bad", vd), (.inr "events", vg)] (.inr "side") vs_)) = H23 at k23 S23 R23 W23 ⊢
  have k2123 := (KV.of_same y22).trans k23
  have k1623 := (k1618.trans k1821).trans k2123
  have t1 := Th.kv k1623 _ _ t1
  have t2 := Th.kv k1623 _ _ t2
  have t3 := Th.kv k1623 _ _ t3
  have t4 := Th.kv k1623 _ _ t4
  have t5 := Th.kv k1623 _ _ t5
  have to := Th.kv k1623 _ _ to
  have tk := Th.kv k1623 _ _ tk
  have td := Th.kv k1623 _ _ td
  have tg := Th.kv k2123 _ _ tg
  have ts_ := Th.kv k23 _ _ ts_
  -- the lot
  have getR : ∃ v, valV [((.inr "service" : Key), v1), (.inr "kind", v2), (.inr "bad", v3), (.inr "side", v4), (.inr "events", v5)] (.inr wd) = some v ∧ Th T.toTxTrees0 (fun a => H a = none) H23 v (.lst (rightT wd)) := by
    unfold ASKED at hw
    simp only [List.mem_cons, List.not_mem_nil, or_false] at hw
    rcases hw with rfl | rfl | rfl | rfl | rfl
    · exact ⟨v1, rfl, t1⟩
    · exact ⟨v2, rfl, t2⟩
    · exact ⟨v3, rfl, t3⟩
    · exact ⟨v5, rfl, t5⟩
    · exact ⟨v4, rfl, t4⟩
  have getW : ∃ v, valV [((.inr "service" : Key), vo), (.inr "kind", vk), (.inr "bad", vd), (.inr "events", vg), (.inr "side", vs_)] (.inr wd) = some v ∧ Th T.toTxTrees0 (fun a => H a = none) H23 v (.lst (wrongT wd)) := by
    unfold ASKED at hw
    simp only [List.mem_cons, List.not_mem_nil, or_false] at hw
    rcases hw with rfl | rfl | rfl | rfl | rfl
    · exact ⟨vo, rfl, to⟩
    · exact ⟨vk, rfl, tk⟩
    · exact ⟨vd, rfl, td⟩
    · exact ⟨vg, rfl, tg⟩
    · exact ⟨vs_, rfl, ts_⟩
  have D23 := D0.same S23
  obtain ⟨vr, gr1, tr⟩ := getR
  obtain ⟨vw, gw1, tw⟩ := getW
  obtain ⟨nr0, nr1, nw0, nw1⟩ := asked_ne hw
  have Rd : R ≠ d := fun z => by rw [z, D0.dict] at R0; cases R0
  have Rg : R ≠ g := fun z => by rw [z, D0.great] at R0; cases R0
  have Wd : W ≠ d := fun z => by rw [z, D0.dict] at W0; cases W0
  have Wg : W ≠ g := fun z => by rw [z, D0.great] at W0; cases W0
  refine ⟨_, rfl, d, g, ns, s, 4, rfl, D23, by decide, by decide, fun x s' ns' H24 x0 x4 kd D24 => ?_⟩
  refine ⟨_, _, rfl, rfl, ?_⟩
  have R24 := kd _ _ Rd Rg R23
  have W24 := kd _ _ Wd Wg W23
  have last : ∀ (ok : Bool) (t : TD) (y : V) (s2 : Int) (ns2 : List Int) (H25 : Hp), KeepD d g H24 H25 → DealAt H25 d g ns2 s2 → t ∈ argT ok wd → Th T.toTxTrees0 (fun a => H a = none) H25 y t → ∀ p, H25 p = none → Q (.ref p) (upd H25 p (.tup [y, .bl ok])) := fun ok t y s2 ns2 H25 kd2 D25 mem th p hp => by
    have keep : KeepD d g H H25 := fun a o n1 n2 e => kd2 a o n1 n2 (kd a o n1 n2 (S23 a o e))
    have Hp0 : H p = none := by
      cases e : H p with
      | none => rfl
      | some o =>
        have n1 : p ≠ d := fun z => by rw [z, D25.dict] at hp; cases hp
        have n2 : p ≠ g := fun z => by rw [z, D25.great] at hp; cases hp
        rw [keep p o n1 n2 e] at hp
        cases hp
    exact q t p y ok s2 ns2 _ (keep.new hp _) (D25.new hp _) Hp0 upd_same mem (th.same (same_upd hp _))
  obtain ⟨ok, hok⟩ : ∃ ok, decide ((0 : Int) < x) = ok := ⟨_, rfl⟩
  refine ⟨_, rfl, _, rfl, ok, hok.symm, ?_⟩
  cases ok with
  | true =>
    refine iteT ?_
    refine ⟨_, rfl, _, rfl, R, _, rfl, by have z := DGet.k (k := .inr wd) R24; rw [gr1] at z; exact z, ?_⟩
    refine arg_pick gne D23 kd D24 tr nr0 nr1 fun t y s2 ns2 H25 kd2 D25 mem th => ?_
    refine ⟨_, rfl, by show 2 ≤ sizeLine; decide, fun p hp => ?_⟩
    have z := last true t y s2 ns2 H25 kd2 D25 mem th p hp
    rw [← hok] at z
    exact z
  | false =>
    refine iteF ?_
    refine ⟨_, rfl, _, rfl, W, _, rfl, by have z := DGet.k (k := .inr wd) W24; rw [gw1] at z; exact z, ?_⟩
    refine arg_pick gne D23 kd D24 tw nw0 nw1 fun t y s2 ns2 H25 kd2 D25 mem th => ?_
    refine ⟨_, rfl, by show 2 ≤ sizeLine; decide, fun p hp => ?_⟩
    have z := last false t y s2 ns2 H25 kd2 D25 mem th p hp
    rw [← hok] at z
    exact z
end
end My

/-! ## C(e, ..) within try, where the suite's words may hang on the slots -/
namespace My
open PySem PySem.Spec PyProof.Rows L2
def tMakeS (C : Addr) (sp : Sp) (dvs : List V) (E : L2.St → XK) (t : TA) : TE := fun σ H Q => t σ H fun vs H1 => ∀ x dx, H1 x = none → H1 dx = none → dx ≠ x →
  sp (.ref x :: (vs ++ dvs)) (upd (upd H1 dx (.own x)) x (.ins C dx [])) (fun v H2 => v = .non ∧ Q (.ref x) H2) (E σ)
section
variable {X : Cx} {CX : CXT} {k : Nat} {f C : Addr} {fd : FuncData} {ps : List Str} {sp : Sp} {E : L2.St → XK} {x : Str} {p pos : Pos} {e : Expr} {es : List Expr} {t : TA} {ds : List Value} {dvs : List V}
set_option maxHeartbeats 400000 in
theorem make_at {pins : List (Addr × Obj)} {σ : L2.St} {H : Hp} {s : Shared} {Q : VK} {us : List Value} {vs : List V} (M : Mk X.K C f) (F : FnOk X.prog X.w X.K X.mg X.base CX k f fd ps sp) (room : Room (k + 1) X.A) (bd : Binds X.K fd ps ds) (dv : Vals dvs ds) (out : PassesAt CX X σ (E σ)) (I : Inv X pins σ H s) (r : Vals vs us)
    (h : ∀ x dx, H x = none → H dx = none → dx ≠ x → sp (.ref x :: (vs ++ dvs)) (upd (upd H dx (.own x)) x (.ins C dx [])) (fun v H2 => v = .non ∧ Q (.ref x) H2) (E σ)) : wpAny (model X.prog X.w) X.A (call (.ref C) us) (EP X pins σ Q) X.xe s := by
  have todo := h (s.heap.objs.size + 1) s.heap.objs.size (I.hok.fresh (Nat.le_succ _)) (I.hok.fresh (Nat.le_refl _)) (Nat.ne_of_lt (Nat.lt_succ_self _))
  have J := Inv.made (C := C) I
  have rs : Vals (V.ref (s.heap.objs.size + 1) :: (vs ++ dvs)) (Value.ref (s.heap.objs.size + 1) :: (us ++ ds)) := .cons rfl (r.append dv)
  have many : (Value.ref (s.heap.objs.size + 1) :: us ++ ds).length = ps.length := rs.length ▸ F.len _ _ _ _ todo
  have body := F.run _ X.stack _ _ ⟨Value.ref (s.heap.objs.size + 1) :: us, []⟩ (Value.ref (s.heap.objs.size + 1) :: (us ++ ds)) _ _ (E σ) (room.make C us []) (J.env0.make C us []) (bd _ (Value.ref (s.heap.objs.size + 1) :: us) J.kIn many) rs todo
  refine wpAny_call (make_map (f := f) I.kIn M.makes M.init (beq_iff_eq.mp M.fn) (codeAny_mono body fun q s' hq => ?_))
  match q, hq with
  | .error e, hq => exact out pins _ _ e s' J hq
  | .ok (.ret u), hq =>
    obtain ⟨v, H2, J2, rv, ev, z⟩ := J.after hq
    rw [ev] at rv
    exact ⟨rv, V.ref (s.heap.objs.size + 1), H2, J2, rfl, z⟩
theorem pe_makeS (M : Mk X.K C f) (F : FnOk X.prog X.w X.K X.mg X.base CX k f fd ps sp) (room : Room (k + 1) X.A) (gl : Gl X x) (gm : X.mg x = some (.ref C)) (bd : Binds X.K fd ps ds) (dv : Vals dvs ds) (out : ∀ σ, PassesAt CX X σ (E σ)) (ha : PA X (e :: es) t)
    (db : (x == ("__debug__" : Str)) = false := by decide) (e1 : starEach (e :: es) X.env = (false, eval e X.env) :: starEach es X.env := by rfl) (e2 : (backTo pos (starEach es X.env)).any (·.1) = false := by rfl) : PE X (.Call (.Name x p) (e :: es) [] pos) (tMakeS C sp dvs E t) :=
  ⟨fun pins s σ H Q I h => wpAny_Call_Name_kw (ld_glob I gl gm (PySem.W.callWith_K (h₀ := X.base) I.ok.mod.kin M.kp (thn (ha.run pos pins s σ H _ I h) fun us s1 ⟨vs, H1, I1, r, q⟩ => ⟨I1.kIn, make_at M F room bd dv (out σ) I1 r q⟩) e1 e2) db)⟩
end
end My

/-! ## k22: what is refused -/
namespace My
open PySem PySem.Spec PyProof.Rows L2 PySem.MyX
abbrev s_refused : Stmt := top 22
abbrev N_refused : List Str := ["_law_form", "_law_given", "_law_found", "e"]
abbrev P_refused : List Str := ["_law_form", "_law_given"]
theorem sc_refused : FnScope N_refused P_refused (defScope s_refused) := ⟨rfl, rfl, rfl, by decide +kernel, rfl, by decide +kernel, by decide +kernel⟩
structure TxRef22 (w : World) (K : PySem.W.Frag) (mg : Str → Option Value) extends TxThings w K mg where
  C_TraceError : Addr
  m_TraceError : mg "TraceError" = some (.ref C_TraceError)
  C_InvalidRow : Addr
  m_InvalidRow : mg "InvalidRow" = some (.ref C_InvalidRow)
  C_InvalidBook : Addr
  m_InvalidBook : mg "InvalidBook" = some (.ref C_InvalidBook)
  ke_TT : PySem.W.kitOne K (.ref C_InvalidTree) (.ref C_TraceError) = some true
  ke_TR : PySem.W.kitOne K (.ref C_InvalidTree) (.ref C_InvalidRow) = some false
  ke_TB : PySem.W.kitOne K (.ref C_InvalidTree) (.ref C_InvalidBook) = some false
  exTr : ExcC K C_InvalidTree
  xfTr : XfC K C_InvalidTree
  teTr : PySem.W.exmOne K (.ref C_InvalidTree) (.ref C_InvalidTree) = some true
  f_refused : Addr
  d_refused : FuncData
  F_refused : Fun K "_law_refused" "_law_refused" s_refused f_refused d_refused
  m_refused : mg "_law_refused" = some (.ref f_refused)
  b_refused : Binds K d_refused P_refused []
/-- isinstance(e, (C1, C2, ..)), e the error that the suite holds -/
def rIsDT (K : PySem.W.Frag) (a : Addr) (cls : Value) (d : Option Addr) : List V → Hp → VK → Prop := fun xs H Q => ∃ (D dd tp : Addr) (fs : List (Str × V)) (cs : List V) (us : List Value) (b : Bool), xs = [.ref a, .ref tp] ∧ cls = .ref D ∧ d = some dd ∧ H dd = some (.xd fs) ∧ ExcC K D ∧ H tp = some (.tup cs) ∧ Paired ClsV cs us ∧ PySem.W.kitAny K (.ref D) us = some b ∧ Q (.bl b) H
theorem call_isDT {X : Cx} {a : Addr} {cls : Value} {d : Option Addr} {oe : Obj} {pn : List (Addr × Obj)} (hz : Zc cls d oe) (hf : ∃ vs, oe.data = .fields vs) : CallR (X.suite a ((a, oe) :: pn)) (.builtin "isinstance") (rIsDT X.K a cls d) := by
  intro pins s σ H xs us Q I r h
  obtain ⟨D, dd, tp, fs, cs, ws, b, rfl, e1, e2, hd, C, hT, k, e, q⟩ := h
  subst e1 e2
  obtain ⟨u1, u2, rfl, r1, r2⟩ := vals2 r
  cases r1
  cases (show u2 = Value.ref tp from r2)
  obtain ⟨hget, _⟩ := I.pin (a, oe) (List.mem_append_left _ List.mem_cons_self)
  obtain ⟨mA, hns, hr⟩ := I.hok dd _ hd
  obtain ⟨od, ho, hl⟩ := lookIn_ns hns
  obtain ⟨vs, hv⟩ := hf
  have J : PySem.W.InstAt s.heap a oe D (some od) := ⟨hget, hz.1, by unfold PySem.W.notCls; rw [hv] <;> rfl, by rw [hz.2]; exact ho⟩
  obtain ⟨_, its, rv, o, h1, h2, n, h3⟩ := (show ObjOk X.prog X.w H s.heap tp (.tup cs) from I.hok tp _ hT)
  have e3 := ClsV.all k rv
  subst e3
  obtain ⟨oc, od2, dt, sl⟩ := o
  simp only at h2 h3
  subst h2 h3
  exact PySem.W.kia_tup (PySem.W.my_kitD C.hg C.hk C.hs C.hd C.ha C.hn C.ht C.hm) I.kIn J h1 e (fun z => nomatch z) fun tk => ⟨.bl b, H, I.tok tk, rfl, q⟩
/-- the answer -/
def madeOr (x : Option Str) : Str := x.getD "made"
def numT : TD → Bool
  | .int i => decide (0 ≤ i)
  | _ => false
def spRef22 {w : World} {K : PySem.W.Frag} {mg : Str → Option Value} (T : TxTrees0 w K mg) : Sp := fun us H Q _ => ∃ (i : Int) (v : V) (g : Addr → Prop) (x : Option Str), us = [.int i, v] ∧
  ((i = 0 ∧ ∃ (a : Addr) (v1 v2 v3 v4 v5 : V) (t1 t2 t3 t4 t5 : TD) (d : PyData), v = .ref a ∧ SqL K H a [v1, v2, v3, v4, v5] ∧ Th T g H v1 t1 ∧ Th T g H v2 t2 ∧ Th T g H v3 t3 ∧ Th T g H v4 t4 ∧ Th T g H v5 t5 ∧ shortT t1 = true ∧ shortT t2 = true ∧ fewT t4 = true ∧ dataT t5 = some d ∧ SeqAt.shaped d = true ∧
      x = wrCall (nmT t1) (nmT t2) (isBoolT t3) (evT t4) (inSides d)) ∨
    ((i = 1 ∨ i = 2) ∧ ∃ t, Th T g H v t ∧ x = if isCallT t = true then none else some ("call" : Str)) ∨
    (i = 3 ∧ ∃ t, Th T g H v t ∧ x = if numT t = true then none else some ("number" : Str))) ∧
  ∀ H', Same H H' → Q (.str (madeOr x)) H'
theorem ixl_tc {K : PySem.W.Frag} {H : Hp} {a : Addr} {xs : List V} {j : Nat} {v : V} {σ : L2.St} {Q : VK} (h : SqL K H a xs) (e : xs[j]? = some v) (q : Q v H) : tC (V.int (j : Int)) σ H fun y H2 => rIxL K (.ref a) y H2 Q := ⟨a, _, _, _, rfl, rfl, h, atI_nat e, q⟩
/-- what Call(..) asks of five things -/
theorem call_asked {w : World} {K : PySem.W.Frag} {mg : Str → Option Value} (T : TxThings w K mg) {g : Addr → Prop} {H : Hp} {v1 v2 v3 v4 v5 : V} {t1 t2 t3 t4 t5 : TD} {d : PyData} {Q : Hp → Prop} {E : XK} {x dx : Addr} (nx : H x = none) (nd : H dx = none) (h1 : Th T.toTxTrees0 g H v1 t1) (h2 : Th T.toTxTrees0 g H v2 t2) (h3 : Th T.toTxTrees0 g H v3 t3) (h4 : Th T.toTxTrees0 g H v4 t4) (h5 : Th T.toTxTrees0 g H v5 t5)
    (s1 : shortT t1 = true) (s2 : shortT t2 = true) (f4 : fewT t4 = true) (e5 : dataT t5 = some d) (sh : SeqAt.shaped d = true)
    (q : ∀ H', wrCall (nmT t1) (nmT t2) (isBoolT t3) (evT t4) (inSides d) = none → Same H H' → Q H') (qe : ∀ wd a H', wrCall (nmT t1) (nmT t2) (isBoolT t3) (evT t4) (inSides d) = some wd → Same H H' → H a = none → H' a = some (.xd [("word", .str wd)]) → E (.ref T.C_InvalidTree) (some a) H') :
    spCallInit T.toTxTrees0 [.ref x, v1, v2, v3, v4, v5] (upd (upd H dx (.own x)) x (.ins T.C_Call dx [])) (fun v H2 => v = .non ∧ Q H2) E := by
  have s0 := made_same (o := .own x) (o2 := .ins T.C_Call dx []) nx nd
  obtain ⟨a1, n1⟩ := Th.any T (h1.same s0) s1
  obtain ⟨a2, n2⟩ := Th.any T (h2.same s0) s2
  have b3 := Th.isBool T (h3.same s0)
  obtain ⟨e4, g4⟩ := Th.events T (h4.same s0) f4
  refine ⟨x, dx, v1, v2, v3, v4, v5, isBoolT t3, evT t4, d, rfl, upd_same, a1, a2, b3, e4, (h5.same s0).data e5, sh, fun wd a H' e s' n' e' => ?_, fun e => ?_⟩
  · rw [n1, n2] at e
    exact qe wd a H' e (s0.trans s') (s0.free n') e'
  · rw [n1, n2] at e
    have b4 : evT t4 = true := by
      have e' := e
      unfold wrCall at e'
      revert e'
      cases nmT t1 <;> cases nmT t2 <;> cases isBoolT t3 <;> cases evT t4 <;> cases inSides d <;> decide +kernel
    obtain ⟨a, xs, es, ns, ev, p1, p2, p3, p4, p5, p6⟩ := g4 b4
    exact ⟨a, xs, es, ns, ev, p1, p2, p3, p4, p5, p6, fun H' te ti kp hx _ _ => ⟨rfl, q H' e (same_made nx nd fun b u eb n => kp b u eb n)⟩⟩
section
variable {P : Program} {w : World} {K : PySem.W.Frag} {mg : Str → Option Value} {base : Heap}
theorem ok_ref22 (T : TxRef22 w K mg) : FnOk P w K mg base CX0 7 T.f_refused T.d_refused P_refused (spRef22 T.toTxTrees0) := by
  have G_Call_init := ok_Call_init (P := P) (w := w) (base := base) T.toTxCalls
  have G_Wait_init := ok_Wait_init (P := P) (w := w) (base := base) T.toTxTrees0
  have G_Leave_init := ok_Leave_init (P := P) (w := w) (base := base) T.toTxTrees0
  have G_Hear_init := ok_Hear_init (P := P) (w := w) (base := base) T.toTxTrees0
  obtain ⟨ds6, hv6, hb6⟩ := T.F_Call_init.binds1 (ps := P_Call_init) 6 3 (by simp) rfl (fun TT kV doc pm an cdv ct us its h1 h2 => by
    match us, h1, its, h2 with
    | [_, _, _, _, _, _], _, [_, _, _], _ => exact ⟨_, rfl, rfl⟩)
  have zi := T.z_isinstance
  refine T.F_refused.ok sc_refused (fun vs H Q E h => ?_) (fun cdv A outer s H vs Q E hr h => ?_)
  · obtain ⟨i, v, g, x, rfl, _⟩ := h
    rfl
  obtain ⟨i, v, g, x, rfl, h, q⟩ := h
  refine ⟨_, (pss_cons (ps_set (i := 2) sc_refused.nd rfl (Or.inl rfl) pe_str)
      (pss_cons (ps_try_as (i := 3) rfl rfl sc_refused.nd rfl rfl ⟨rfl, by decide, .inl T.m_InvalidTree⟩ takes0 (fun W pn xe tk _ => (pss_one (ps_if (pt_cmpR op_eq (pv 0) pe_int (nomark _)) (pss_one (ps_expr (pe_makeS T.mk_Call G_Call_init (hr.mono (by decide)) (by rfl) T.m_Call hb6 hv6 (fun σ => passAt tk σ) (pa_cons (pe_ix (ix_listK K) (pv 1) pe_int (fun _ _ => rfl)) (pa_cons (pe_ix (ix_listK K) (pv 1) pe_int (fun _ _ => rfl)) (pa_cons (pe_ix (ix_listK K) (pv 1) pe_int (fun _ _ => rfl)) (pa_cons (pe_ix (ix_listK K) (pv 1) pe_int (fun _ _ => rfl)) (pa_cons (pe_ix (ix_listK K) (pv 1) pe_int (fun _ _ => rfl)) pa_nil)))))))) (pss_one (ps_if (pt_cmpR op_eq (pv 0) pe_int (nomark _)) (pss_one (ps_expr (pe_makeS T.mk_Wait G_Wait_init (hr.mono (by decide)) (by rfl) T.m_Wait T.b_Wait_init .nil (fun σ => passAt tk σ) (pa_cons (pv 1) pa_nil)))) (pss_one (ps_if (pt_cmpR op_eq (pv 0) pe_int (nomark _)) (pss_one (ps_expr (pe_makeS T.mk_Leave G_Leave_init (hr.mono (by decide)) (by rfl) T.m_Leave T.b_Leave_init .nil (fun σ => passAt tk σ) (pa_cons (pv 1) pa_nil)))) (pss_one (ps_expr (pe_makeS T.mk_Hear G_Hear_init (hr.mono (by decide)) (by rfl) T.m_Hear T.b_Hear_init .nil (fun σ => passAt tk σ) (pa_cons (pv 1) pa_nil))))))))))) (fun a oe cls d pn hz hf => (pss_one (ps_set (i := 2) sc_refused.nd rfl (Or.inl rfl) (pe_ifExp (PW.pt (pw_and (pt_val (pe_callB (call_isD hz hf) (by rfl) T.z_isinstance (by decide +kernel) (pa_cons (pv 3) (pa_cons (pe_glob (v := .ref T.C_TraceError) (by rfl) T.m_TraceError rfl) pa_nil)))) (pw_and1 (pt_not (pt_val (pe_callB (call_isDT hz hf) (by rfl) zi (by decide +kernel) (pa_cons (pv 3) (pa_cons (pe_tup (pa_cons (pe_glob (v := .ref T.C_InvalidRow) (by rfl) T.m_InvalidRow rfl) (pa_cons (pe_glob (v := .ref T.C_InvalidBook) (by rfl) T.m_InvalidBook rfl) pa_nil))) pa_nil)))))))) (pe_xf T.xfTr T.nwTr hz hf (pv 3)) pe_str)))))
      (pss_one (ps_ret (pv 2))))), ?_⟩
  rcases h with ⟨rfl, a, v1, v2, v3, v4, v5, t1, t2, t3, t4, t5, d, rfl, hS, h1, h2, h3, h4, h5, s1, s2, f4, e5, sh, rfl⟩ | ⟨hi, t, ht, rfl⟩ | ⟨rfl, t, ht, rfl⟩
  · refine ⟨_, rfl, rfl, _, rfl, ?_⟩
    refine iteT ?_
    refine ⟨_, rfl, ixl_tc (j := 0) hS rfl ?_⟩
    refine ⟨_, rfl, ixl_tc (j := 1) hS rfl ?_⟩
    refine ⟨_, rfl, ixl_tc (j := 2) hS rfl ?_⟩
    refine ⟨_, rfl, ixl_tc (j := 3) hS rfl ?_⟩
    refine ⟨_, rfl, ixl_tc (j := 4) hS rfl ?_⟩
    intro x dx nx nd ne
    refine call_asked T.toTxThings nx nd h1 h2 h3 h4 h5 s1 s2 f4 e5 sh (fun H1 e1 s1 => ?_) (fun wd dd H1 e1 s1 n1 hx => ?_)
    · have r := q H1 s1
      rw [e1] at r
      exact ⟨_, rfl, r⟩
    · skip
      refine ⟨true, T.teTr, fun _ a0 na => ?_, fun z => nomatch z⟩
      refine ⟨_, rfl, T.C_InvalidTree, dd, _, .ref T.C_TraceError, _, true, rfl, rfl, rfl, hx, T.exTr, fun u h => h, T.ke_TT, _, rfl, ?_⟩
      refine ⟨_, rfl, by show 2 ≤ sizeLine; decide, fun tp htp => ?_⟩
      have y2 := same_upd htp (.tup [.ref T.C_InvalidRow, .ref T.C_InvalidBook])
      refine ⟨T.C_InvalidTree, dd, tp, _, _, _, false, rfl, rfl, rfl, y2 _ _ hx, T.exTr, upd_same, .cons (.own _) (.cons (.own _) .nil), kitAny_cons T.ke_TR (fun _ => kitAny_cons T.ke_TB (fun _ => rfl) (fun z => nomatch z)) (fun z => nomatch z), _, rfl, ?_⟩
      have r := q _ (s1.trans y2)
      rw [e1] at r
      exact ⟨_, rfl, rfl, rfl, dd, _, _, rfl, y2 _ _ hx, rfl, _, rfl, r⟩
  · rcases hi with rfl | rfl
    · refine ⟨_, rfl, rfl, _, rfl, ?_⟩
      refine iteF ?_
      refine ⟨_, rfl, rfl, _, rfl, ?_⟩
      refine iteT ?_
      refine ⟨_, rfl, ?_⟩
      intro x dx nx nd ne
      have s0 := made_same (o := .own x) (o2 := .ins T.C_Wait dx []) nx nd
      refine ⟨x, dx, v, isCallT t, rfl, upd_same, Th.isCall T.toTxThings (ht.same s0), fun e H1 hx kp => ⟨rfl, ?_⟩, fun e dd H1 s' n' hx => ?_⟩
      · have r := q H1 (same_made nx nd fun b u eb n => kp b u eb n)
        rw [if_pos e] at r
        exact ⟨_, rfl, r⟩
      · have s1 := s0.trans s'
        have e1 : (if isCallT t = true then none else some ("call" : Str)) = some ("call" : Str) := if_neg (by rw [e]; decide)
        refine ⟨true, T.teTr, fun _ a0 na => ?_, fun z => nomatch z⟩
        refine ⟨_, rfl, T.C_InvalidTree, dd, _, .ref T.C_TraceError, _, true, rfl, rfl, rfl, hx, T.exTr, fun u h => h, T.ke_TT, _, rfl, ?_⟩
        refine ⟨_, rfl, by show 2 ≤ sizeLine; decide, fun tp htp => ?_⟩
        have y2 := same_upd htp (.tup [.ref T.C_InvalidRow, .ref T.C_InvalidBook])
        refine ⟨T.C_InvalidTree, dd, tp, _, _, _, false, rfl, rfl, rfl, y2 _ _ hx, T.exTr, upd_same, .cons (.own _) (.cons (.own _) .nil), kitAny_cons T.ke_TR (fun _ => kitAny_cons T.ke_TB (fun _ => rfl) (fun z => nomatch z)) (fun z => nomatch z), _, rfl, ?_⟩
        have r := q _ (s1.trans y2)
        rw [e1] at r
        exact ⟨_, rfl, rfl, rfl, dd, _, _, rfl, y2 _ _ hx, rfl, _, rfl, r⟩
    · refine ⟨_, rfl, rfl, _, rfl, ?_⟩
      refine iteF ?_
      refine ⟨_, rfl, rfl, _, rfl, ?_⟩
      refine iteF ?_
      refine ⟨_, rfl, rfl, _, rfl, ?_⟩
      refine iteT ?_
      refine ⟨_, rfl, ?_⟩
      intro x dx nx nd ne
      have s0 := made_same (o := .own x) (o2 := .ins T.C_Leave dx []) nx nd
      refine ⟨x, dx, v, isCallT t, rfl, upd_same, Th.isCall T.toTxThings (ht.same s0), fun e H1 hx kp => ⟨rfl, ?_⟩, fun e dd H1 s' n' hx => ?_⟩
      · have r := q H1 (same_made nx nd fun b u eb n => kp b u eb n)
        rw [if_pos e] at r
        exact ⟨_, rfl, r⟩
      · have s1 := s0.trans s'
        have e1 : (if isCallT t = true then none else some ("call" : Str)) = some ("call" : Str) := if_neg (by rw [e]; decide)
        refine ⟨true, T.teTr, fun _ a0 na => ?_, fun z => nomatch z⟩
        refine ⟨_, rfl, T.C_InvalidTree, dd, _, .ref T.C_TraceError, _, true, rfl, rfl, rfl, hx, T.exTr, fun u h => h, T.ke_TT, _, rfl, ?_⟩
        refine ⟨_, rfl, by show 2 ≤ sizeLine; decide, fun tp htp => ?_⟩
        have y2 := same_upd htp (.tup [.ref T.C_InvalidRow, .ref T.C_InvalidBook])
        refine ⟨T.C_InvalidTree, dd, tp, _, _, _, false, rfl, rfl, rfl, y2 _ _ hx, T.exTr, upd_same, .cons (.own _) (.cons (.own _) .nil), kitAny_cons T.ke_TR (fun _ => kitAny_cons T.ke_TB (fun _ => rfl) (fun z => nomatch z)) (fun z => nomatch z), _, rfl, ?_⟩
        have r := q _ (s1.trans y2)
        rw [e1] at r
        exact ⟨_, rfl, rfl, rfl, dd, _, _, rfl, y2 _ _ hx, rfl, _, rfl, r⟩
  · refine ⟨_, rfl, rfl, _, rfl, ?_⟩
    refine iteF ?_
    refine ⟨_, rfl, rfl, _, rfl, ?_⟩
    refine iteF ?_
    refine ⟨_, rfl, rfl, _, rfl, ?_⟩
    refine iteF ?_
    refine ⟨_, rfl, ?_⟩
    intro x dx nx nd ne
    have s0 := made_same (o := .own x) (o2 := .ins T.C_Hear dx []) nx nd
    have th := ht.same s0
    refine ⟨x, dx, v, isIntT t, isBoolT t, rfl, upd_same, Th.isInt T.toTxThings th, Th.isBool T.toTxThings th, fun i _ ev i0 H1 hx kp => ⟨rfl, ?_⟩, fun e => ?_, fun e dd H1 s' n' hx => ?_⟩
    · have e : numT t = true := by
        subst ev
        cases ht
        exact decide_eq_true i0
      have r := q H1 (same_made nx nd fun b u eb n => kp b u eb n)
      rw [if_pos e] at r
      exact ⟨_, rfl, r⟩
    · cases ht with
      | int i => exact ⟨i, rfl⟩
      | _ => cases e
    · have s1 := s0.trans s'
      have e2 : numT t = false := by
        cases ht with
        | int i =>
          rcases e with e | ⟨j, ej, l⟩
          · cases e
          · cases ej
            exact decide_eq_false (by omega)
        | _ => rfl
      have e1 : (if numT t = true then none else some ("number" : Str)) = some ("number" : Str) := if_neg (by rw [e2]; decide)
      refine ⟨true, T.teTr, fun _ a0 na => ?_, fun z => nomatch z⟩
      refine ⟨_, rfl, T.C_InvalidTree, dd, _, .ref T.C_TraceError, _, true, rfl, rfl, rfl, hx, T.exTr, fun u h => h, T.ke_TT, _, rfl, ?_⟩
      refine ⟨_, rfl, by show 2 ≤ sizeLine; decide, fun tp htp => ?_⟩
      have y2 := same_upd htp (.tup [.ref T.C_InvalidRow, .ref T.C_InvalidBook])
      refine ⟨T.C_InvalidTree, dd, tp, _, _, _, false, rfl, rfl, rfl, y2 _ _ hx, T.exTr, upd_same, .cons (.own _) (.cons (.own _) .nil), kitAny_cons T.ke_TR (fun _ => kitAny_cons T.ke_TB (fun _ => rfl) (fun z => nomatch z)) (fun z => nomatch z), _, rfl, ?_⟩
      have r := q _ (s1.trans y2)
      rw [e1] at r
      exact ⟨_, rfl, rfl, rfl, dd, _, _, rfl, y2 _ _ hx, rfl, _, rfl, r⟩
end
end My

/-! ## k22: the law's lists -/
namespace My
open PySem PySem.Spec PyProof.Rows L2 PySem.MyX
abbrev s_law : Stmt := top 23
abbrev N_law : List Str := ["_law_script", "_law_deal", "_law_words", "_law_turn", "_law_some", "_law_word", "_law_bad", "_law_thing", "_law_is_right", "_law_odd"]
abbrev P_law : List Str := ["_law_script"]
theorem sc_law : FnScope N_law P_law (defScope s_law) := ⟨rfl, rfl, rfl, by decide +kernel, rfl, by decide +kernel, by decide +kernel⟩
structure TxK22 (w : World) (K : PySem.W.Frag) (mg : Str → Option Value) extends TxArg w K mg, TxRef22 w K mg where
  z_zip : mg "zip" = none
  f_law : Addr
  d_law : FuncData
  F_law : Fun K "law" "law" s_law f_law d_law
/-- what is had of an argument: itself, what it is, is it right -/
abbrev Got := V × TD × Bool
def Fits (r : Got) (wd : Str) : Prop := r.2.1 ∈ argT r.2.2 wd
def GotAt {w : World} {K : PySem.W.Frag} {mg : Str → Option Value} (T : TxTrees0 w K mg) (M : Addr → Prop) (H : Hp) (p : V) (r : Got) : Prop := ∃ a, p = .ref a ∧ M a ∧ H a = some (.tup [r.1, .bl r.2.2]) ∧ Th T M H r.1 r.2.1
section
variable {w : World} {K : PySem.W.Frag} {mg : Str → Option Value}
theorem GotAt.kv {T : TxTrees0 w K mg} {M : Addr → Prop} {H H' : Hp} {p : V} {r : Got} (h : GotAt T M H p r) (k : KV M H H') : GotAt T M H' p r := by
  obtain ⟨a, e, m, h1, h2⟩ := h
  exact ⟨a, e, m, k _ _ m (fun _ z => nomatch z) h1, Th.kv k _ _ h2⟩
theorem KV.off {g : Addr → Prop} {D : Addr} {H : Hp} (h : ∀ a, g a → a ≠ D) (o' : HO) : KV g H (upd H D o') := fun a o n _ e => by
  rw [upd_ne (h a n)]
  exact e
theorem DealAt.off {H : Hp} {d g D : Addr} {ns : List Int} {s : Int} (h : DealAt H d g ns s) (n1 : D ≠ d) (n2 : D ≠ g) (o : HO) : DealAt (upd H D o) d g ns s := ⟨h.ne, h.s0, h.s1, by rw [upd_ne n1.symm]; exact h.dict, by rw [upd_ne n2.symm]; exact h.great, h.pos, h.few⟩
theorem KeepD.refl (d g : Addr) (H : Hp) : KeepD d g H H := fun _ _ _ _ e => e
theorem KeepD.trans {d g : Addr} {H1 H2 H3 : Hp} (x : KeepD d g H1 H2) (y : KeepD d g H2 H3) : KeepD d g H1 H3 := fun a o n m e => y a o n m (x a o n m e)
theorem KeepD.of_same {d g : Addr} {H H' : Hp} (s : Same H H') : KeepD d g H H' := fun a o _ _ e => s a o e
theorem fits_snoc {rs : List Got} {i : Nat} {wd : Str} {r : Got} (pf : Paired Fits rs (ASKED.take i)) (hx : ASKED[i]? = some wd) (f : Fits r wd) : Paired Fits (rs ++ [r]) (ASKED.take (i + 1)) := by
  rw [List.take_add_one, hx]
  exact paired_snoc2 pf f
where
  paired_snoc2 {α β : Type} {R : α → β → Prop} {x : α} {y : β} : ∀ {xs : List α} {ys : List β}, Paired R xs ys → R x y → Paired R (xs ++ [x]) (ys ++ [y])
  | _, _, .nil, r => .cons r .nil
  | _, _, .cons h t, r => .cons h (paired_snoc2 t r)
theorem ok_somes (T : TxTrees0 w K mg) {a d g Wd : Addr} {v3 v4 v5 v6 v7 v8 v9 : Option V} {ns : List Int} {s : Int} {H : Hp} {Q : VK} (D0 : DealAt H d g ns s) (Wdd : Wd ≠ d) (Wdg : Wd ≠ g) (hW : H Wd = some (.lst (ASKED.map V.str)))
    (q : ∀ (M : Addr → Prop) (D : Addr) (H' : Hp) (ns : List Int) (s : Int) (ps : List V) (rs : List Got), KeepD d g H H' → DealAt H' d g ns s → H' D = some (.lst ps) → Paired (GotAt T M H') ps rs → Paired Fits rs ASKED → Q (.ref D) H') :
    qLc (iList K (tVar 2)) (gName 5) tYes (tCall (spArg T) [] E0 (tCons (tVar 1) (tCons (tVar 5) tNil))) (List.map (fun x => x.snd) [(Str.ofString "_law_word", 5)]) [some (.ref a), some (.ref d), some (.ref Wd), v3, v4, v5, v6, v7, v8, v9] H Q := by
  rw [← qLc_eq]
  refine ⟨_, rfl, Wd, rfl, ⟨_, SqL.of hW⟩, fun D hD => ?_⟩
  have Dd : D ≠ d := fun z => by rw [z, D0.dict] at hD; cases hD
  have Dg : D ≠ g := fun z => by rw [z, D0.great] at hD; cases hD
  have Mg : ∀ a, (fun a => H a = none ∧ a ≠ D) a → a ≠ g := fun a h z => by have h1 := h.1; rw [z, D0.great] at h1; cases h1
  refine lc_list (K := K) (a := Wd) (xs := ASKED.map V.str) (fun i H' => KeepD d g H H' ∧ (∃ ns s, DealAt H' d g ns s) ∧ ∃ (ps : List V) (rs : List Got), H' D = some (.lst ps) ∧ Paired (GotAt T (fun a => H a = none ∧ a ≠ D) H') ps rs ∧ Paired Fits rs (ASKED.take i) ∧ ps.length = i)
    ⟨(KeepD.refl d g H).new hD _, ⟨_, _, D0.new hD _⟩, [], [], upd_same, .nil, .nil, rfl⟩ (fun i H' _ h => SqL.of (h.1 _ _ Wdd Wdg hW)) ?_ ?_
  · rintro i x H1 hx ⟨kd1, ⟨ns1, s1, D1⟩, ps, rs, hD1, pr, pf, pl⟩
    rw [List.getElem?_map] at hx
    obtain ⟨wd, hwd, rfl⟩ : ∃ y, ASKED[i]? = some y ∧ V.str y = x := by
      cases e : ASKED[i]? with
      | none => rw [e] at hx; cases hx
      | some z => rw [e] at hx; cases hx; exact ⟨z, rfl, rfl⟩
    have il : i < 5 := (List.getElem?_eq_some_iff.mp hwd).1
    refine ⟨rfl, ?_⟩
    refine ⟨_, rfl, _, rfl, d, g, ns1, s1, wd, rfl, D1, List.mem_of_getElem? hwd, fun t p v ok s2 ns2 H2 kd2 D2 p0 hp mt th => ?_⟩
    have hD2 := kd2 D _ Dd Dg hD1
    have back : ∀ a, H1 a = none → H a = none ∧ a ≠ D := fun a e => by
      refine ⟨?_, fun z => by rw [z, hD1] at e; cases e⟩
      cases z : H a with
      | none => rfl
      | some o =>
        have n1 : a ≠ d := fun y => by rw [y, D1.dict] at e; cases e
        have n2 : a ≠ g := fun y => by rw [y, D1.great] at e; cases e
        rw [kd1 a o n1 n2 z] at e
        cases e
    have k2 : KV (fun a => H a = none ∧ a ≠ D) H2 (upd H2 D (.lst (ps ++ [.ref p]))) := KV.off (fun a h => h.2) _
    have k12 : KV (fun a => H a = none ∧ a ≠ D) H1 (upd H2 D (.lst (ps ++ [.ref p]))) := (KV.of_keepD Mg D1.dict kd2).trans k2
    have new : GotAt T (fun a => H a = none ∧ a ≠ D) H2 (.ref p) (v, t, ok) := ⟨p, rfl, back p p0, hp, Th.imp (fun a _ _ e => back a e) _ _ th⟩
    refine ⟨_, hD2, small1000 (by omega), fun b o n1 n2 e => ?_, ⟨ns2, s2, D2.off Dd Dg _⟩, ps ++ [.ref p], rs ++ [(v, t, ok)], upd_same, fits_snoc.paired_snoc2 (paired_kp (fun _ _ z => GotAt.kv z k12) pr) (new.kv k2), fits_snoc pf hwd mt, by rw [List.length_append, pl]; rfl⟩
    rw [upd_ne (ne_of_none e hD)]
    exact kd2 b o n1 n2 (kd1 b o n1 n2 e)
  · rintro H1 ⟨kd1, ⟨ns1, s1, D1⟩, ps, rs, hD1, pr, pf, pl⟩
    exact q _ D H1 ns1 s1 ps rs kd1 D1 hD1 pr pf
def badsOf (wds : List Str) (rs : List Got) : List Str := ((wds.zip rs).filter fun z => !z.2.2.2).map (·.1)
theorem bads_snoc {rs : List Got} {i : Nat} {wd : Str} {r : Got} (h1 : ASKED[i]? = some wd) (h2 : rs[i]? = some r) (l : rs.length = 5) : badsOf (ASKED.take (i + 1)) (rs.take (i + 1)) = badsOf (ASKED.take i) (rs.take i) ++ if r.2.2 = true then [] else [wd] := by
  have il : i < 5 := (List.getElem?_eq_some_iff.mp h1).1
  unfold badsOf
  rw [List.take_add_one, List.take_add_one, h1, h2]
  have e : (ASKED.take i).length = (rs.take i).length := by rw [List.length_take, List.length_take, l]; rfl
  rw [List.zip_append e, List.filter_append, List.map_append]
  congr 1
  cases z : r.2.2 <;> simp [z]
theorem ok_bads (T : TxTrees0 w K mg) {M : Addr → Prop} {a d Wd S : Addr} {v3 v5 v6 v7 v8 v9 : Option V} {H : Hp} {ps : List V} {rs : List Got} {Q : VK} (hW : H Wd = some (.lst (ASKED.map V.str))) (hS : H S = some (.lst ps)) (pr : Paired (GotAt T M H) ps rs) (pf : Paired Fits rs ASKED)
    (q : ∀ D H', Same H H' → H' D = some (.lst ((badsOf ASKED rs).map V.str)) → Q (.ref D) H') :
    qLc (iZip K (tCons (tVar 2) (tCons (tVar 4) tNil))) (gTup K 2 (gCons (gName 5) (gCons (gTup K 2 (gCons (gName 7) (gCons (gName 8) gNil))) gNil))) (tNot (tB (tVar 8))) (tVar 5) (List.map (fun x => x.snd) [(Str.ofString "_law_word", 5), (Str.ofString "_law_thing", 7), (Str.ofString "_law_is_right", 8)]) [some (.ref a), some (.ref d), some (.ref Wd), v3, some (.ref S), v5, v6, v7, v8, v9] H Q := by
  rw [← qLc_eq]
  have lr : rs.length = 5 := pair_len2 pf
  have lp : ps.length = 5 := (pair_len2 pr).trans lr
  refine ⟨_, rfl, _, rfl, Wd, S, ASKED.map V.str, ps, rfl, SqL.of hW, SqL.of hS, fun D hD => ?_⟩
  refine lc_it (walk_zip (K := K) (a := Wd) (b := S) (xs := ASKED.map V.str) (ys := ps) (n := 5) (by rw [lp]; rfl)) (fun i H' => Same H H' ∧ H' D = some (.lst ((badsOf (ASKED.take i) (rs.take i)).map V.str))) ⟨same_upd hD _, upd_same⟩ (fun i H' _ h => ⟨SqL.of (h.1 _ _ hW), SqL.of (h.1 _ _ hS)⟩) ?_ ?_
  · rintro i x H1 H2 hi ⟨s1, d1⟩ ⟨Tp, xw, yp, rfl, hT, rfl, e1, e2⟩
    have e1 : (ASKED.map V.str)[i]? = some xw := e1
    rw [List.getElem?_map] at e1
    obtain ⟨wd, hwd, rfl⟩ : ∃ y, ASKED[i]? = some y ∧ V.str y = xw := by
      cases e : ASKED[i]? with
      | none => rw [e] at e1; cases e1
      | some z => rw [e] at e1; cases e1; exact ⟨z, rfl, rfl⟩
    obtain ⟨r, hr, pa, rfl, _, hp, _⟩ := pair_at pr e2
    have s2 := s1.trans (same_upd hT (.tup [.str wd, .ref pa]))
    have d2 := (same_upd hT (.tup [.str wd, .ref pa])) _ _ d1
    have tk := bads_snoc hwd hr lr
    have few : ((badsOf (ASKED.take i) (rs.take i)).map V.str).length < sizeLine := small1000 (by
      rw [List.length_map]
      unfold badsOf
      rw [List.length_map]
      refine Nat.le_trans (List.length_filter_le _ _) ?_
      rw [List.length_zip, List.length_take, List.length_take]
      omega)
    refine ⟨Tp, _, rfl, SqT.of upd_same, rfl, _, _, rfl, _, _, rfl, pa, _, rfl, SqT.of (s2 _ _ hp), rfl, _, _, rfl, _, _, rfl, rfl, rfl, rfl, ?_⟩
    refine ⟨_, rfl, _, rfl, ?_⟩
    cases ok : r.2.2 with
    | true =>
      rw [ok, if_pos rfl, List.append_nil] at tk
      refine iteF ⟨s2, ?_⟩
      rw [tk]
      exact d2
    | false =>
      rw [ok, if_neg (by decide)] at tk
      refine iteT ⟨_, rfl, _, d2, few, fun e u z => ?_, ?_⟩
      · rw [upd_ne (ne_of_none z hD)]; exact s2 _ _ z
      · rw [upd_same, tk, List.map_append]; rfl
  · rintro H1 ⟨s1, d1⟩
    rw [show ASKED.take 5 = ASKED from rfl, ← lr, List.take_length] at d1
    exact q D H1 s1 d1
theorem ok_things (T : TxTrees0 w K mg) {M : Addr → Prop} {S : Addr} {v0 v1 v2 v3 v5 v6 v7 v8 v9 : Option V} {H : Hp} {ps : List V} {rs : List Got} {Q : VK} (hS : H S = some (.lst ps)) (pr : Paired (GotAt T M H) ps rs) (few : ps.length ≤ 100)
    (q : ∀ D H', Same H H' → H' D = some (.lst (rs.map (·.1))) → Q (.ref D) H') :
    qLc (iList K (tVar 4)) (gTup K 2 (gCons (gName 7) (gCons (gName 8) gNil))) tYes (tVar 7) (List.map (fun x => x.snd) [(Str.ofString "_law_thing", 7), (Str.ofString "_law_is_right", 8)]) [v0, v1, v2, v3, some (.ref S), v5, v6, v7, v8, v9] H Q := by
  rw [← qLc_eq]
  have lp := pair_len2 pr
  refine ⟨_, rfl, S, rfl, ⟨_, SqL.of hS⟩, fun D hD => ?_⟩
  refine lc_list (K := K) (a := S) (xs := ps) (fun i H' => Same H H' ∧ H' D = some (.lst ((rs.take i).map (·.1)))) ⟨same_upd hD _, upd_same⟩ (fun i H' _ h => SqL.of (h.1 _ _ hS)) ?_ ?_
  · rintro i x H1 hx ⟨s1, d1⟩
    obtain ⟨r, hr, pa, rfl, _, hp, _⟩ := pair_at pr hx
    refine ⟨pa, _, rfl, SqT.of (s1 _ _ hp), rfl, _, _, rfl, _, _, rfl, rfl, rfl, ?_⟩
    refine ⟨_, rfl, _, d1, small1000 (by rw [List.length_map, List.length_take]; omega), fun e u z => ?_, ?_⟩
    · rw [upd_ne (ne_of_none z hD)]; exact s1 _ _ z
    · rw [upd_same, List.take_add_one, hr, List.map_append]; rfl
  · rintro H1 ⟨s1, d1⟩
    rw [lp, List.take_length] at d1
    exact q D H1 s1 d1
end
end My

/-! ## k22: one turn of the law -/
namespace My
open PySem PySem.Spec PyProof.Rows L2 PySem.MyX
section
variable {w : World} {K : PySem.W.Frag} {mg : Str → Option Value}
def turn22 (T : TxK22 w K mg) : TS := (tSeq (tAsg (tLc (iList K (tVar 2)) (gName 5) tYes (tCall (spArg T.toTxTrees0) [] E0 (tCons (tVar 1) (tCons (tVar 5) tNil))) (List.map (fun x => x.snd) [(Str.ofString "_law_word", 5)])) (gName 4)) (tSeq (tAsg (tLc (iZip K (tCons (tVar 2) (tCons (tVar 4) tNil))) (gTup K 2 (gCons (gName 5) (gCons (gTup K 2 (gCons (gName 7) (gCons (gName 8) gNil))) gNil))) (tNot (tB (tVar 8))) (tVar 5) (List.map (fun x => x.snd) [(Str.ofString "_law_word", 5), (Str.ofString "_law_thing", 7), (Str.ofString "_law_is_right", 8)])) (gName 6)) (tSeq (tIfS (tTest (tOp rNe (tCall (spRef22 T.toTxRef22.toTxTrees0) [] E0 (tCons (tC (V.int 0)) (tCons (tLc (iList K (tVar 4)) (gTup K 2 (gCons (gName 7) (gCons (gName 8) gNil))) tYes (tVar 7) (List.map (fun x => x.snd) [(Str.ofString "_law_thing", 7), (Str.ofString "_law_is_right", 8)])) tNil))) (tOp (rIxL K) (tOp rCat (tVar 6) (tLst (tCons (tC (V.str (Str.ofString "made"))) tNil))) (tC (V.int 0))))) (tRet (tC (V.bl false))) tNext) (tSeq (tAsg (tCall spDPick [] E0 (tCons (tVar 1) (tCons (tLst (tCons (tC V.non) (tCons (tC (V.str (Str.ofString "a"))) (tCons (tC (V.int 3)) (tCons (tC (V.bl true)) (tCons (tLst tNil) (tCons (tTup tNil) (tCons (tMake T.C_Hear (spHear T.toTxTrees0) [] E0 (tCons (tC (V.int 0)) tNil)) (tCons (tMake T.C_Wait (spHolder T.toTxTrees0 T.C_Wait) [] E0 (tCons (tMake T.C_Call (spCallInit T.toTxTrees0) (List.drop 0 [V.bl false, V.ref T.e_events, V.str (Str.ofString "old")]) E0 (tCons (tC (V.str (Str.ofString "a"))) (tCons (tC (V.str (Str.ofString "k"))) tNil))) tNil)) (tCons (tLst (tCons (tMake T.C_Call (spCallInit T.toTxTrees0) (List.drop 0 [V.bl false, V.ref T.e_events, V.str (Str.ofString "old")]) E0 (tCons (tC (V.str (Str.ofString "a"))) (tCons (tC (V.str (Str.ofString "k"))) tNil))) tNil)) tNil)))))))))) tNil))) (gName 9)) (tSeq (tIfS (tOr (tTest (tOp rNe (tCall (spRef22 T.toTxRef22.toTxTrees0) [] E0 (tCons (tC (V.int 1)) (tCons (tVar 9) tNil))) (tC (V.str (Str.ofString "call"))))) (tTest (tOp rNe (tCall (spRef22 T.toTxRef22.toTxTrees0) [] E0 (tCons (tC (V.int 2)) (tCons (tVar 9) tNil))) (tC (V.str (Str.ofString "call")))))) (tRet (tC (V.bl false))) tNext) (tSeq (tIfS (tTest (tOp rNe (tCall (spRef22 T.toTxRef22.toTxTrees0) [] E0 (tCons (tC (V.int 3)) (tCons (tCall spDPick [] E0 (tCons (tVar 1) (tCons (tLst (tCons (tC V.non) (tCons (tOp (rI0 fun i j => V.int (i - j)) (tC (V.int 0)) (tC (V.int 1))) (tCons (tC (V.bl true)) (tCons (tC (V.str (Str.ofString "0"))) (tCons (tLst (tCons (tC (V.int 0)) tNil)) (tCons (tTup tNil) (tCons (tOp (rI0 fun i j => V.int (i - j)) (tC (V.int 0)) (tOp (rI CPow fun i j => V.int (i ^ j.toNat)) (tC (V.int 10)) (tC (V.int 20)))) tNil)))))))) tNil))) tNil))) (tC (V.str (Str.ofString "number"))))) (tRet (tC (V.bl false))) tNext) (tIfS (tTest (tOp rNe (tCall (spRef22 T.toTxRef22.toTxTrees0) [] E0 (tCons (tC (V.int 3)) (tCons (tCall spDPick [] E0 (tCons (tVar 1) (tCons (tLst (tCons (tC (V.int 0)) (tCons (tC (V.int 1)) (tCons (tOp (rI CPow fun i j => V.int (i ^ j.toNat)) (tC (V.int 10)) (tC (V.int 20))) tNil)))) tNil))) tNil))) (tC (V.str (Str.ofString "made"))))) (tRet (tC (V.bl false))) tNext)))))))
/-- a thing is made wherever one stands -/
structure MkL (T : TxTrees0 w K mg) (g : Addr → Prop) (te : TE) (t : TD) : Prop where
  run : ∀ {σ : L2.St} {H : Hp} {Q : VK}, (∀ p, H p = none → g p) → (∀ v H', Same H H' → Th T g H' v t → Q v H') → te σ H Q
structure MkLA (T : TxTrees0 w K mg) (g : Addr → Prop) (ta : TA) (ts : List TD) : Prop where
  run : ∀ {σ : L2.St} {H : Hp} {Q : List V → Hp → Prop}, (∀ p, H p = none → g p) → (∀ vs H', Same H H' → ThAll T g H' vs ts → Q vs H') → ta σ H Q
section
variable {T : TxTrees0 w K mg} {g : Addr → Prop}
theorem lNon : MkL T g (tC .non) .non := ⟨fun _ q => q _ _ (Same.refl _) .non⟩
theorem lBl (b : Bool) : MkL T g (tC (.bl b)) (.bl b) := ⟨fun _ q => q _ _ (Same.refl _) (.bl b)⟩
theorem lInt (i : Int) : MkL T g (tC (.int i)) (.int i) := ⟨fun _ q => q _ _ (Same.refl _) (.int i)⟩
theorem lStr (s : Str) : MkL T g (tC (.str s)) (.str s) := ⟨fun _ q => q _ _ (Same.refl _) (.str s)⟩
theorem lSub (a b : Int) : MkL T g (tOp (rI0 fun i j => V.int (i - j)) (tC (.int a)) (tC (.int b))) (.int (a - b)) := ⟨fun _ q => ⟨a, b, rfl, rfl, q _ _ (Same.refl _) (.int _)⟩⟩
theorem lPow (a b : Int) (c : CPow a b) : MkL T g (tOp (rI CPow fun i j => V.int (i ^ j.toNat)) (tC (.int a)) (tC (.int b))) (.int (a ^ b.toNat)) := ⟨fun _ q => ⟨a, b, rfl, rfl, c, q _ _ (Same.refl _) (.int _)⟩⟩
theorem lSubPow (d a b : Int) (c : CPow a b) : MkL T g (tOp (rI0 fun i j => V.int (i - j)) (tC (.int d)) (tOp (rI CPow fun i j => V.int (i ^ j.toNat)) (tC (.int a)) (tC (.int b)))) (.int (d - a ^ b.toNat)) := ⟨fun _ q => ⟨a, b, rfl, rfl, c, d, a ^ b.toNat, rfl, rfl, q _ _ (Same.refl _) (.int _)⟩⟩
theorem lNil : MkLA T g tNil [] := ⟨fun _ q => q _ _ (Same.refl _) .nil⟩
theorem MkL.cons {te : TE} {ta : TA} {t : TD} {ts : List TD} (h : MkL T g te t) (r : MkLA T g ta ts) : MkLA T g (tCons te ta) (t :: ts) := ⟨fun b q => h.run b fun v H1 s1 t1 => r.run (fun p hp => b p (s1.free hp)) fun vs H2 s2 t2 => q _ _ (s1.trans s2) (.cons (t1.same s2) t2)⟩
theorem MkLA.lst {ta : TA} {ts : List TD} (h : MkLA T g ta ts) (n : ts.length ≤ 1000) : MkL T g (qLst ta) (.lst ts) := qLst_eq ▸ ⟨fun b q => h.run b fun vs H1 s1 t1 => ⟨by rw [t1.len, sizeLine_eq]; omega, fun p hp => q _ _ (s1.trans (same_upd hp _)) (.lst (b p (s1.free hp)) upd_same (t1.same (same_upd hp _)))⟩⟩
theorem MkLA.tup {ta : TA} {ts : List TD} (h : MkLA T g ta ts) (n : ts.length ≤ 1000) : MkL T g (tTup ta) (.tup ts) := ⟨fun b q => h.run b fun vs H1 s1 t1 => ⟨by rw [t1.len, sizeLine_eq]; omega, fun p hp => q _ _ (s1.trans (same_upd hp _)) (.tup (b p (s1.free hp)) upd_same (t1.same (same_upd hp _)))⟩⟩
end
theorem lCall (T : TxThings w K mg) {g : Addr → Prop} : MkL T.toTxTrees0 g (tMake T.C_Call (spCallInit T.toTxTrees0) (List.drop 0 [V.bl false, V.ref T.e_events, V.str (Str.ofString "old")]) E0 (tCons (tC (V.str (Str.ofString "a"))) (tCons (tC (V.str (Str.ofString "k"))) tNil))) .call := ⟨fun gr q => fun x dx nx nd ne => made_call T (s := "a") (k := "k") nx nd (by decide +kernel) (by decide +kernel) gr fun H' s O => q _ _ s (.call O)⟩
theorem lCallQ (T : TxThings w K mg) {g : Addr → Prop} : MkL T.toTxTrees0 g (qMake T.C_Call (spCallInit T.toTxTrees0) (List.drop 0 [V.bl false, V.ref T.e_events, V.str (Str.ofString "old")]) E0 (tCons (tC (V.str (Str.ofString "a"))) (tCons (tC (V.str (Str.ofString "k"))) tNil))) .call := by
  rw [← qMake_eq]
  exact lCall T
theorem lWaitOf (T : TxThings w K mg) {g : Addr → Prop} {te : TE} (h : MkL T.toTxTrees0 g te .call) : MkL T.toTxTrees0 g (tMake T.C_Wait (spHolder T.toTxTrees0 T.C_Wait) [] E0 (tCons te tNil)) .wait := ⟨fun gr q => h.run gr fun v H1 s1 t1 => by
  cases t1 with
  | call O => exact fun x dx nx nd ne => mkHold T nx nd O (fun p hp => gr p (s1.free hp)) fun H' s n hx hc => q _ _ (s1.trans s) (.wait n hx hc)⟩
theorem lHear (T : TxThings w K mg) {g : Addr → Prop} {i : Int} (i0 : 0 ≤ i) : MkL T.toTxTrees0 g (tMake T.C_Hear (spHear T.toTxTrees0) [] E0 (tCons (tC (.int i)) tNil)) (.hear i) := ⟨fun gr q => fun x dx nx nd ne => made_hear T i0 nx nd gr fun H' s n hx => q _ _ s (.hear n hx)⟩
/-! ### what the arguments are -/
theorem f_service {t : TD} {ok : Bool} (h : t ∈ argT ok "service") : nmT t = ok ∧ shortT t = true := by
  have all : (argT ok "service").all (fun t => (nmT t == ok) && shortT t) = true := by cases ok <;> decide +kernel
  have z := List.all_eq_true.mp all t h
  exact ⟨beq_iff_eq.mp (Bool.and_eq_true_iff.mp z).1, (Bool.and_eq_true_iff.mp z).2⟩
theorem f_kind {t : TD} {ok : Bool} (h : t ∈ argT ok "kind") : nmT t = ok ∧ shortT t = true := by
  have all : (argT ok "kind").all (fun t => (nmT t == ok) && shortT t) = true := by cases ok <;> decide +kernel
  have z := List.all_eq_true.mp all t h
  exact ⟨beq_iff_eq.mp (Bool.and_eq_true_iff.mp z).1, (Bool.and_eq_true_iff.mp z).2⟩
theorem f_bad {t : TD} {ok : Bool} (h : t ∈ argT ok "bad") : isBoolT t = ok := by
  have all : (argT ok "bad").all (fun t => isBoolT t == ok) = true := by cases ok <;> decide +kernel
  exact beq_iff_eq.mp (List.all_eq_true.mp all t h)
theorem f_events {t : TD} {ok : Bool} (h : t ∈ argT ok "events") : evT t = ok ∧ fewT t = true := by
  have all : (argT ok "events").all (fun t => (evT t == ok) && fewT t) = true := by cases ok <;> decide +kernel
  have z := List.all_eq_true.mp all t h
  exact ⟨beq_iff_eq.mp (Bool.and_eq_true_iff.mp z).1, (Bool.and_eq_true_iff.mp z).2⟩
def sideT (ok : Bool) (t : TD) : Bool := match dataT t with
  | some d => SeqAt.shaped d && (inSides d == ok)
  | none => false
theorem f_side {t : TD} {ok : Bool} (h : t ∈ argT ok "side") : ∃ d, dataT t = some d ∧ SeqAt.shaped d = true ∧ inSides d = ok := by
  have all : (argT ok "side").all (sideT ok) = true := by cases ok <;> decide +kernel
  have z := List.all_eq_true.mp all t h
  unfold sideT at z
  cases e : dataT t with
  | none => rw [e] at z; cases z
  | some d =>
    rw [e] at z
    exact ⟨d, rfl, (Bool.and_eq_true_iff.mp z).1, beq_iff_eq.mp (Bool.and_eq_true_iff.mp z).2⟩
theorem head_bads {v1 v2 v3 v4 v5 : V} {t1 t2 t3 t4 t5 : TD} (o1 o2 o3 o4 o5 : Bool) : ((badsOf ASKED [(v1, t1, o1), (v2, t2, o2), (v3, t3, o3), (v4, t4, o4), (v5, t5, o5)]).map V.str ++ [V.str "made"])[0]? = some (.str (madeOr (wrCall o1 o2 o3 o4 o5))) := by
  cases o1 <;> cases o2 <;> cases o3 <;> cases o4 <;> cases o5 <;> rfl
theorem five {ps : List V} {rs : List Got} {R : V → Got → Prop} (pr : Paired R ps rs) (pf : Paired Fits rs ASKED) : ∃ p1 p2 p3 p4 p5 v1 v2 v3 v4 v5 t1 t2 t3 t4 t5 o1 o2 o3 o4 o5, ps = [p1, p2, p3, p4, p5] ∧ rs = [(v1, t1, o1), (v2, t2, o2), (v3, t3, o3), (v4, t4, o4), (v5, t5, o5)] ∧ R p1 (v1, t1, o1) ∧ R p2 (v2, t2, o2) ∧ R p3 (v3, t3, o3) ∧ R p4 (v4, t4, o4) ∧ R p5 (v5, t5, o5) ∧
    t1 ∈ argT o1 "service" ∧ t2 ∈ argT o2 "kind" ∧ t3 ∈ argT o3 "bad" ∧ t4 ∈ argT o4 "events" ∧ t5 ∈ argT o5 "side" := by
  unfold ASKED at pf
  match rs, pf with
  | [(v1, t1, o1), (v2, t2, o2), (v3, t3, o3), (v4, t4, o4), (v5, t5, o5)], .cons f1 (.cons f2 (.cons f3 (.cons f4 (.cons f5 .nil)))) =>
    match ps, pr with
    | [p1, p2, p3, p4, p5], .cons h1 (.cons h2 (.cons h3 (.cons h4 (.cons h5 .nil)))) => exact ⟨p1, p2, p3, p4, p5, v1, v2, v3, v4, v5, t1, t2, t3, t4, t5, o1, o2, o3, o4, o5, rfl, rfl, h1, h2, h3, h4, h5, f1, f2, f3, f4, f5⟩
def oddL : List TD := [.non, .str "a", .int 3, .bl true, .lst [], .tup [], .hear 0, .wait, .lst [.call]]
def numL : List TD := [.non, .int (0 - 1), .bl true, .str "0", .lst [.int 0], .tup [], .int (0 - 10 ^ (20 : Int).toNat)]
def okL : List TD := [.int 0, .int 1, .int (10 ^ (20 : Int).toNat)]
theorem oddL_no {t : TD} (h : t ∈ oddL) : isCallT t = false := by
  have all : oddL.all (fun t => !isCallT t) = true := by decide +kernel
  simpa using List.all_eq_true.mp all t h
theorem numL_no {t : TD} (h : t ∈ numL) : numT t = false := by
  have all : numL.all (fun t => !numT t) = true := by decide +kernel
  simpa using List.all_eq_true.mp all t h
theorem okL_yes {t : TD} (h : t ∈ okL) : numT t = true := by
  have all : okL.all (fun t => numT t) = true := by decide +kernel
  exact List.all_eq_true.mp all t h
end
end My

/-! ## k22: one turn of the law holds -/
namespace My
open PySem PySem.Spec PyProof.Rows L2 PySem.MyX
section
variable {w : World} {K : PySem.W.Frag} {mg : Str → Option Value}
theorem cpow : CPow 10 20 := ⟨by decide, by decide, by decide⟩
theorem ok_turn22 (T : TxK22 w K mg) {D : Ends} {a d g Wd : Addr} {v3 v4 v5 v6 v7 v8 v9 : Option V} {HB H : Hp} {ns : List Int} {s : Int} (kd : KeepD d g HB H) (D0 : DealAt H d g ns s) (Wdd : Wd ≠ d) (Wdg : Wd ≠ g) (hW : HB Wd = some (.lst (ASKED.map V.str)))
    (q : ∀ v4 v5 v6 v7 v8 v9 H' ns s, KeepD d g HB H' → DealAt H' d g ns s → D.nx [some (.ref a), some (.ref d), some (.ref Wd), v3, v4, v5, v6, v7, v8, v9] H') :
    turn22 T D [some (.ref a), some (.ref d), some (.ref Wd), v3, v4, v5, v6, v7, v8, v9] H := by
  unfold turn22
  rw [qLc_eq, qLst_eq]
  have hW1 := kd _ _ Wdd Wdg hW
  refine ok_somes T.toTxTrees0 D0 Wdd Wdg hW1 fun M S H4 ns4 s4 ps rs kd4 D4 hS pr pf => ?_
  have hW4 := kd4 _ _ Wdd Wdg hW1
  refine ok_bads T.toTxTrees0 hW4 hS pr pf fun B H5 s5 hB => ?_
  have l5 : ps.length = 5 := (pair_len2 pr).trans (pair_len2 pf)
  refine ok_things T.toTxTrees0 (s5 _ _ hS) (paired_kp (fun _ _ z => GotAt.kv z (KV.of_same s5)) pr) (by omega) fun L H6 s6 hL => ?_
  have s46 := s5.trans s6
  obtain ⟨p1, p2, p3, p4, p5, v1, v2, v3', v4', v5', t1, t2, t3, t4, t5, o1, o2, o3, o4, o5, rfl, rfl, g1, g2, g3, g4, g5, f1, f2, f3, f4, f5⟩ := five pr pf
  have th : ∀ {p : V} {r : Got}, GotAt T.toTxTrees0 M H4 p r → Th T.toTxTrees0 M H6 r.1 r.2.1 := fun ⟨_, _, _, _, z⟩ => z.same s46
  obtain ⟨n1, sh1⟩ := f_service f1
  obtain ⟨n2, sh2⟩ := f_kind f2
  have n3 := f_bad f3
  obtain ⟨n4, few4⟩ := f_events f4
  obtain ⟨d5, e5, sh5, n5⟩ := f_side f5
  refine ⟨0, .ref L, M, wrCall o1 o2 o3 o4 o5, rfl, .inl ⟨rfl, L, v1, v2, v3', v4', v5', t1, t2, t3, t4, t5, d5, rfl, SqL.of hL, th g1, th g2, th g3, th g4, th g5, sh1, sh2, few4, e5, sh5, by rw [n1, n2, n3, n4, n5]⟩, fun H7 s7 => ?_⟩
  refine ⟨_, rfl, ?_⟩
  refine (MkLA.lst (MkL.cons (lStr "made") lNil) (by decide)).run (T := T.toTxTrees0) (g := fun _ => True) (fun _ _ => trivial) fun vm H8 s8 th8 => ?_
  obtain ⟨l, xs, rfl, _, hl, tl⟩ := th8.lst_inv
  obtain rfl : xs = [.str "made"] := by
    match xs, tl with
    | [_], .cons (.str _) .nil => rfl
  have s48 := (s46.trans s7).trans s8
  have hB8 := ((s6.trans s7).trans s8) _ _ hB
  have lb : ((badsOf ASKED [(v1, t1, o1), (v2, t2, o2), (v3', t3, o3), (v4', t4, o4), (v5', t5, o5)]).map V.str).length ≤ 5 := by
    rw [List.length_map]
    unfold badsOf
    rw [List.length_map]
    exact Nat.le_trans (List.length_filter_le _ _) (by show 5 ≤ 5; decide)
  refine ⟨B, l, _, _, rfl, rfl, hB8, hl, small_ (by show _ + 1 ≤ 1000; omega), fun p hp => ?_⟩
  refine ixl_tc (j := 0) (SqL.of upd_same) (head_bads o1 o2 o3 o4 o5) ?_
  refine ⟨rfl, _, rfl, ?_⟩
  refine ite2 (fun c => absurd c (by simp)) (fun _ => ?_)
  have s49 := s48.trans (same_upd hp (.lst ((badsOf ASKED [(v1, t1, o1), (v2, t2, o2), (v3', t3, o3), (v4', t4, o4), (v5', t5, o5)]).map V.str ++ [.str "made"])))
  generalize upd H8 p (.lst ((badsOf ASKED [(v1, t1, o1), (v2, t2, o2), (v3', t3, o3), (v4', t4, o4), (v5', t5, o5)]).map V.str ++ [.str "made"])) = H9 at s49 ⊢
  have D9 := D4.same s49
  have kd9 : KeepD d g HB H9 := (kd.trans kd4).trans (KeepD.of_same s49)
  -- what is no call
  refine ⟨_, rfl, ?_⟩
  refine (MkLA.lst (MkL.cons lNon (MkL.cons (lStr "a") (MkL.cons (lInt 3) (MkL.cons (lBl true) (MkL.cons (MkLA.lst lNil (by decide)) (MkL.cons (MkLA.tup lNil (by decide)) (MkL.cons (lHear T.toTxThings (i := 0) (by decide)) (MkL.cons (lWaitOf T.toTxThings (lCall T.toTxThings)) (MkL.cons (MkLA.lst (MkL.cons (lCall T.toTxThings) lNil) (by decide)) lNil))))))))) (by decide)).run (T := T.toTxTrees0) (g := fun a => H9 a = none) (fun _ h => h) fun vo H10 s10 th10 => ?_
  have D10 := D9.same s10
  refine arg_pick (T := T.toTxTrees0) (ts := oddL) (g := fun a => H9 a = none) (fun a h z => by rw [z, D9.great] at h; cases h) D10 (KeepD.refl d g H10) D10 th10 (fun z => nomatch z) (by decide) fun t x s11 ns11 H11 kd11 D11 mem th11 => ?_
  have nc := oddL_no mem
  refine ⟨_, rfl, 1, x, _, some ("call" : Str), rfl, .inr (.inl ⟨.inl rfl, t, th11, (if_neg (by rw [nc]; decide)).symm⟩), fun H12 s12 => ?_⟩
  refine ⟨rfl, _, rfl, ?_⟩
  refine ite2 (fun c => absurd c (by decide +kernel)) (fun _ => ?_)
  refine ⟨_, rfl, 2, x, _, some ("call" : Str), rfl, .inr (.inl ⟨.inr rfl, t, th11.same s12, (if_neg (by rw [nc]; decide)).symm⟩), fun H13 s13 => ?_⟩
  refine ⟨rfl, _, rfl, ?_⟩
  refine ite2 (fun c => absurd c (by decide +kernel)) (fun _ => ?_)
  have s1113 := s12.trans s13
  have D13 := D11.same s1113
  have kd13 : KeepD d g HB H13 := ((kd9.trans (KeepD.of_same s10)).trans kd11).trans (KeepD.of_same s1113)
  -- what is no number
  refine ⟨_, rfl, ?_⟩
  refine (MkLA.lst (MkL.cons lNon (MkL.cons (lSub 0 1) (MkL.cons (lBl true) (MkL.cons (lStr "0") (MkL.cons (MkLA.lst (MkL.cons (lInt 0) lNil) (by decide)) (MkL.cons (MkLA.tup lNil (by decide)) (MkL.cons (lSubPow 0 10 20 cpow) lNil))))))) (by decide)).run (T := T.toTxTrees0) (g := fun a => H13 a = none) (fun _ h => h) fun vn H14 s14 th14 => ?_
  have D14 := D13.same s14
  refine arg_pick (T := T.toTxTrees0) (ts := numL) (g := fun a => H13 a = none) (fun a h z => by rw [z, D13.great] at h; cases h) D14 (KeepD.refl d g H14) D14 th14 (fun z => nomatch z) (by decide) fun t2 x2 s15 ns15 H15 kd15 D15 mem2 th15 => ?_
  have nn := numL_no mem2
  refine ⟨3, x2, _, some ("number" : Str), rfl, .inr (.inr ⟨rfl, t2, th15, (if_neg (by rw [nn]; decide)).symm⟩), fun H16 s16 => ?_⟩
  refine ⟨rfl, _, rfl, ?_⟩
  refine ite2 (fun c => absurd c (by decide +kernel)) (fun _ => ?_)
  have D16 := D15.same s16
  have kd16 : KeepD d g HB H16 := ((kd13.trans (KeepD.of_same s14)).trans kd15).trans (KeepD.of_same s16)
  -- what is one
  refine ⟨_, rfl, ?_⟩
  refine (MkLA.lst (MkL.cons (lInt 0) (MkL.cons (lInt 1) (MkL.cons (lPow 10 20 cpow) lNil))) (by decide)).run (T := T.toTxTrees0) (g := fun a => H16 a = none) (fun _ h => h) fun vk H17 s17 th17 => ?_
  have D17 := D16.same s17
  refine arg_pick (T := T.toTxTrees0) (ts := okL) (g := fun a => H16 a = none) (fun a h z => by rw [z, D16.great] at h; cases h) D17 (KeepD.refl d g H17) D17 th17 (fun z => nomatch z) (by decide) fun t3' x3 s18 ns18 H18 kd18 D18 mem3 th18 => ?_
  refine ⟨3, x3, _, none, rfl, .inr (.inr ⟨rfl, t3', th18, (if_pos (okL_yes mem3)).symm⟩), fun H19 s19 => ?_⟩
  refine ⟨rfl, _, rfl, ?_⟩
  refine ite2 (fun c => absurd c (by decide +kernel)) (fun _ => ?_)
  exact q _ _ _ _ _ _ H19 _ _ (((kd16.trans (KeepD.of_same s17)).trans kd18).trans (KeepD.of_same s19)) (D18.same s19)
end
end My

/-! ## k22: the law -/
namespace My
open PySem PySem.Spec PyProof.Rows L2 PySem.MyX
def spLaw (K : PySem.W.Frag) : Sp := fun vs H Q _ => ∃ (a : Addr) (ns : List Int), vs = [.ref a] ∧ SqL K H a (ns.map V.int) ∧ ns.length ≤ 63 ∧ ∀ H', Q (.bl true) H'
section
variable {P : Program} {w : World} {K : PySem.W.Frag} {mg : Str → Option Value} {base : Heap}
theorem ok_law22 (T : TxK22 w K mg) : FnOk P w K mg base CX0 10 T.f_law T.d_law P_law (spLaw K) := by
  have G_source := ok_source (P := P) (w := w) (base := base) T.toTxDeal
  have G_pick := ok_dpick (P := P) (w := w) (base := base) T.toTxDeal
  have G_argument := ok_argument (P := P) (w := w) (base := base) T.toTxArg
  have G_refused := ok_ref22 (P := P) (w := w) (base := base) T.toTxRef22
  have G_Call_init := ok_Call_init (P := P) (w := w) (base := base) T.toTxCalls
  have G_Wait_init := ok_Wait_init (P := P) (w := w) (base := base) T.toTxTrees0
  have G_Hear_init := ok_Hear_init (P := P) (w := w) (base := base) T.toTxTrees0
  obtain ⟨ds3, hv3, hb3⟩ := T.F_Call_init.binds1 (ps := P_Call_init) 3 0 (by simp) rfl (fun TT kV doc pm an cdv ct us its h1 h2 => by
    match us, h1, its, h2 with
    | [_, _, _], _, [_, _, _], _ => exact ⟨_, rfl, rfl⟩)
  refine T.F_law.ok sc_law (fun vs H Q E h => ?_) (fun cdv A outer s H vs Q E hr h => ?_)
  · obtain ⟨a, ns, rfl, _⟩ := h
    rfl
  obtain ⟨a, ns, rfl, hS, h63, q⟩ := h
  refine ⟨_, (pss_cons (ps_set (i := 1) sc_law.nd rfl (Or.inr rfl) (pe_call G_source (hr.mono (by decide)) (by rfl) T.m_source T.F_source.kp T.b_source .nil pass0 (pa_cons (pv 0) (pa_cons pe_int pa_nil))))
      (pss_cons (ps_set (i := 2) sc_law.nd rfl (Or.inl rfl) (pe_lst (pa_cons pe_str (pa_cons pe_str (pa_cons pe_str (pa_cons pe_str (pa_cons pe_str pa_nil)))))))
      (pss_cons (ps_for PassesOwn.never rfl (pi_range1 (by rfl) T.z_range (pa_cons pe_int pa_nil)) (pg_name (i := 3) sc_law.nd rfl (Or.inl rfl)) (pss_cons (ps_setLc (i := 4) (own := [("_law_word", 5)]) (g := gName 5) (by rfl) sc_law.nd rfl rfl (sw_true rfl rfl rfl (by decide +kernel)) (pi_listK K (pv 2)) (blkOk_by (own := [("_law_word", 5)]) (N := N_law) (sc := defScope s_law) (by decide +kernel)) (fun _ _ _ _ _ => (pg_name (i := 5) sc_law.nd rfl (Or.inl rfl))) (fun _ _ _ _ _ => pts_nil) (fun _ _ _ _ _ => (pe_call G_argument (hr.mono (by decide)) (by rfl) T.m_argument T.F_argument.kp T.b_argument .nil pass0 (pa_cons (pv 1) (pa_cons (pv 5) pa_nil)))))
      (pss_cons (ps_setLc (i := 6) (own := [("_law_word", 5), ("_law_thing", 7), ("_law_is_right", 8)]) (g := (gTup K 2 (gCons (gName 5) (gCons (gTup K 2 (gCons (gName 7) (gCons (gName 8) gNil))) gNil)))) (by rfl) sc_law.nd rfl rfl (sw_true rfl rfl rfl (by decide +kernel)) (pi_zip (by rfl) T.z_zip (pa_cons (pv 2) (pa_cons (pv 4) pa_nil))) (blkOk_by (own := [("_law_word", 5), ("_law_thing", 7), ("_law_is_right", 8)]) (N := N_law) (sc := defScope s_law) (by decide +kernel)) (fun _ _ _ _ _ => (by exact (pg_tup rfl (pgs_cons (pg_name (i := 5) sc_law.nd rfl (Or.inl rfl)) (pgs_cons (pg_tup rfl (pgs_cons (pg_name (i := 7) sc_law.nd rfl (Or.inl rfl)) (pgs_cons (pg_name (i := 8) sc_law.nd rfl (Or.inl rfl)) pgs_nil))) pgs_nil))))) (fun _ _ _ _ _ => pts_one (by exact (pt_not (pt_val (pv 8))))) (fun _ _ _ _ _ => (pv 5)))
      (pss_cons (ps_if (pt_cmpR op_ne (pe_call G_refused (hr.mono (by decide)) (by rfl) T.m_refused T.F_refused.kp T.b_refused .nil pass0 (pa_cons pe_int (pa_cons (pe_lc (own := [("_law_thing", 7), ("_law_is_right", 8)]) (g := gTup K 2 (gCons (gName 7) (gCons (gName 8) gNil))) (by rfl) sc_law.nd (pi_listK K (pv 4)) (blkOk_by (own := [("_law_thing", 7), ("_law_is_right", 8)]) (N := N_law) (sc := defScope s_law) (by decide +kernel)) (fun _ _ _ _ _ => (by exact (pg_tup rfl (pgs_cons (pg_name (i := 7) sc_law.nd rfl (Or.inl rfl)) (pgs_cons (pg_name (i := 8) sc_law.nd rfl (Or.inl rfl)) pgs_nil))))) (fun _ _ _ _ _ => pts_nil) (fun _ _ _ _ _ => (pv 7))) pa_nil))) (pe_ix (ix_listK K) (pe_op op_cat (pv 6) (pe_lst (pa_cons pe_str pa_nil))) pe_int (fun _ _ => rfl)) (nomark _)) (pss_one (ps_ret pe_bl)) pss_nil)
      (pss_cons (ps_set (i := 9) sc_law.nd rfl (Or.inl rfl) (pe_call G_pick (hr.mono (by decide)) (by rfl) T.m_pick T.F_pick.kp T.b_pick .nil pass0 (pa_cons (pv 1) (pa_cons (pe_lst (pa_cons pe_non (pa_cons pe_str (pa_cons pe_int (pa_cons pe_bl (pa_cons (pe_lst pa_nil) (pa_cons (pe_tup pa_nil) (pa_cons (pe_make T.mk_Hear G_Hear_init (hr.mono (by decide)) (by rfl) T.m_Hear T.b_Hear_init .nil passL (pa_cons pe_int pa_nil)) (pa_cons (pe_make T.mk_Wait G_Wait_init (hr.mono (by decide)) (by rfl) T.m_Wait T.b_Wait_init .nil passL (pa_cons (pe_make T.mk_Call G_Call_init (hr.mono (by decide)) (by rfl) T.m_Call hb3 hv3 passL (pa_cons pe_str (pa_cons pe_str pa_nil))) pa_nil)) (pa_cons (pe_lst (pa_cons (pe_make T.mk_Call G_Call_init (hr.mono (by decide)) (by rfl) T.m_Call hb3 hv3 passL (pa_cons pe_str (pa_cons pe_str pa_nil))) pa_nil)) pa_nil)))))))))) pa_nil))))
      (pss_cons (ps_if (PW.pt (pw_or (pt_cmpR op_ne (pe_call G_refused (hr.mono (by decide)) (by rfl) T.m_refused T.F_refused.kp T.b_refused .nil pass0 (pa_cons pe_int (pa_cons (pv 9) pa_nil))) pe_str (nomark _)) (pw_or1 (pt_cmpR op_ne (pe_call G_refused (hr.mono (by decide)) (by rfl) T.m_refused T.F_refused.kp T.b_refused .nil pass0 (pa_cons pe_int (pa_cons (pv 9) pa_nil))) pe_str (nomark _))))) (pss_one (ps_ret pe_bl)) pss_nil)
      (pss_cons (ps_if (pt_cmpR op_ne (pe_call G_refused (hr.mono (by decide)) (by rfl) T.m_refused T.F_refused.kp T.b_refused .nil pass0 (pa_cons pe_int (pa_cons (pe_call G_pick (hr.mono (by decide)) (by rfl) T.m_pick T.F_pick.kp T.b_pick .nil pass0 (pa_cons (pv 1) (pa_cons (pe_lst (pa_cons pe_non (pa_cons (pe_op op_sub pe_int pe_int) (pa_cons pe_bl (pa_cons pe_str (pa_cons (pe_lst (pa_cons pe_int pa_nil)) (pa_cons (pe_tup pa_nil) (pa_cons (pe_op op_sub pe_int (pe_op op_pow pe_int pe_int)) pa_nil)))))))) pa_nil))) pa_nil))) pe_str (nomark _)) (pss_one (ps_ret pe_bl)) pss_nil)
      (pss_one (ps_if (pt_cmpR op_ne (pe_call G_refused (hr.mono (by decide)) (by rfl) T.m_refused T.F_refused.kp T.b_refused .nil pass0 (pa_cons pe_int (pa_cons (pe_call G_pick (hr.mono (by decide)) (by rfl) T.m_pick T.F_pick.kp T.b_pick .nil pass0 (pa_cons (pv 1) (pa_cons (pe_lst (pa_cons pe_int (pa_cons pe_int (pa_cons (pe_op op_pow pe_int pe_int) pa_nil)))) pa_nil))) pa_nil))) pe_str (nomark _)) (pss_one (ps_ret pe_bl)) pss_nil)))))))))
      (pss_one (ps_ret (pe_and (pe_cmpR op_eq (pe_call G_refused (hr.mono (by decide)) (by rfl) T.m_refused T.F_refused.kp T.b_refused .nil pass0 (pa_cons pe_int (pa_cons (pe_make T.mk_Call G_Call_init (hr.mono (by decide)) (by rfl) T.m_Call hb3 hv3 passL (pa_cons pe_str (pa_cons pe_str pa_nil))) pa_nil))) pe_str (nomark _)) (pe_one (pe_cmpR op_eq (pe_call G_refused (hr.mono (by decide)) (by rfl) T.m_refused T.F_refused.kp T.b_refused .nil pass0 (pa_cons pe_int (pa_cons (pe_make T.mk_Call G_Call_init (hr.mono (by decide)) (by rfl) T.m_Call hb3 hv3 passL (pa_cons pe_str (pa_cons pe_str pa_nil))) pa_nil))) pe_str (nomark _))))))))), ?_⟩
  refine ⟨_, rfl, a, ns, 0, rfl, hS, h63, by decide, fun d g gs s0 H1 s1 d0 g0 D1 => ?_⟩
  refine ⟨by show 5 ≤ sizeLine; decide, fun Wd hWd => ?_⟩
  have Wdd : Wd ≠ d := fun z => by rw [z, D1.dict] at hWd; cases hWd
  have Wdg : Wd ≠ g := fun z => by rw [z, D1.great] at hWd; cases hWd
  have hW : upd H1 Wd (.lst (ASKED.map V.str)) Wd = some (.lst (ASKED.map V.str)) := upd_same
  have DB := D1.new hWd (.lst (ASKED.map V.str))
  have eW : ([V.str (Str.ofString "service"), V.str (Str.ofString "kind"), V.str (Str.ofString "bad"), V.str (Str.ofString "events"), V.str (Str.ofString "side")] : List V) = ASKED.map V.str := rfl
  rw [eW]
  generalize upd H1 Wd (.lst (ASKED.map V.str)) = HB at hW DB ⊢
  refine ⟨10, rfl, by decide, by decide, for_range (lo := 0) (fun i σ H' => (∃ v3 v4 v5 v6 v7 v8 v9, σ = [some (.ref a), some (.ref d), some (.ref Wd), v3, v4, v5, v6, v7, v8, v9]) ∧ ∃ ns s, KeepD d g HB H' ∧ DealAt H' d g ns s) ⟨⟨_, _, _, _, _, _, _, rfl⟩, _, _, KeepD.refl d g HB, DB⟩ ?_ ?_⟩
  · rintro i σ H2 hi ⟨⟨v3, v4, v5, v6, v7, v8, v9, rfl⟩, ns2, s2, kd, D2⟩
    exact ok_turn22 T kd D2 Wdd Wdg hW fun v4 v5 v6 v7 v8 v9 H' ns' s' kd' D' => ⟨⟨_, _, _, _, _, _, _, rfl⟩, ns', s', kd', D'⟩
  · rintro σ H2 ⟨⟨v3, v4, v5, v6, v7, v8, v9, rfl⟩, ns2, s2, kd, D2⟩
    rw [qMake_eq]
    refine (lCallQ T.toTxThings).run (g := fun a => H2 a = none) (fun _ h => h) fun v H3 s3 th3 => ?_
    refine ⟨1, v, _, none, rfl, .inr (.inl ⟨.inl rfl, .call, th3, rfl⟩), fun H4 s4 => ?_⟩
    refine ⟨rfl, _, rfl, ?_⟩
    refine ite2 (fun _ => ?_) (fun c => absurd (by decide +kernel) c)
    refine (lCallQ T.toTxThings).run (g := fun a => H2 a = none) (fun p h => (s3.trans s4).free h) fun v H5 s5 th5 => ?_
    refine ⟨2, v, _, none, rfl, .inr (.inl ⟨.inr rfl, .call, th5, rfl⟩), fun H6 s6 => ?_⟩
    exact ⟨rfl, q _⟩
end
end My

/-! ## The end: what the top has written, the theorem -/
namespace My
open PySem L2
theorem kit_yes {K : PySem.W.Frag} {t : Value} {C : Addr} (h1 : PySem.W.isClsIn K C = true) (h2 : PySem.W.typeIn K (.ref C) = some (.type "type")) (h3 : PySem.W.subIn K t (.ref C) = some true) : PySem.W.kitOne K t (.ref C) = some true := by
  have e : ((PySem.W.clsIn K C).isSome && PySem.W.typeIn K (.ref C) == some (.type "type")) = true := by
    have h1' : (PySem.W.clsIn K C).isSome = true := h1
    rw [h1', h2] <;> rfl
  unfold PySem.W.kitOne
  split
  · rfl
  · show (if ((PySem.W.clsIn K C).isSome && PySem.W.typeIn K (.ref C) == some (.type "type")) = true then PySem.W.subIn K t (.ref C) else none) = some true
    rw [if_pos e]
    exact h3
theorem kit_no {K : PySem.W.Frag} {A C : Addr} {b : Bool} (h1 : PySem.W.isClsIn K C = true) (h2 : PySem.W.typeIn K (.ref C) = some (.type "type")) (h3 : PySem.W.subIn K (.ref A) (.ref C) = some b) (n : A ≠ C) : PySem.W.kitOne K (.ref A) (.ref C) = some b := by
  have e : ((PySem.W.clsIn K C).isSome && PySem.W.typeIn K (.ref C) == some (.type "type")) = true := by
    have h1' : (PySem.W.clsIn K C).isSome = true := h1
    rw [h1', h2] <;> rfl
  unfold PySem.W.kitOne
  rw [if_neg (fun z => n (by have z2 := beq_iff_eq.mp z; cases z2; rfl))]
  show (if ((PySem.W.clsIn K C).isSome && PySem.W.typeIn K (.ref C) == some (.type "type")) = true then PySem.W.subIn K (.ref A) (.ref C) else none) = some b
  rw [if_pos e]
  exact h3
theorem kit_tyno {K : PySem.W.Frag} {A : String} {C : Addr} {b : Bool} (h1 : PySem.W.isClsIn K C = true) (h2 : PySem.W.typeIn K (.ref C) = some (.type "type")) (h3 : PySem.W.subIn K (.type A) (.ref C) = some b) : PySem.W.kitOne K (.type A) (.ref C) = some b := by
  have e : ((PySem.W.clsIn K C).isSome && PySem.W.typeIn K (.ref C) == some (.type "type")) = true := by
    have h1' : (PySem.W.clsIn K C).isSome = true := h1
    rw [h1', h2] <;> rfl
  unfold PySem.W.kitOne
  rw [if_neg (fun z => by have z2 := beq_iff_eq.mp z; cases z2)]
  show (if ((PySem.W.clsIn K C).isSome && PySem.W.typeIn K (.ref C) == some (.type "type")) = true then PySem.W.subIn K (.type A) (.ref C) else none) = some b
  rw [if_pos e]
  exact h3
theorem kit_reflist {K : PySem.W.Frag} {A : Addr} {b : Bool} (h3 : PySem.W.subIn K (.ref A) (.type "list") = some b) : PySem.W.kitOne K (.ref A) (.type "list") = some b := by
  unfold PySem.W.kitOne
  rw [if_neg (fun z => by have z2 := beq_iff_eq.mp z; cases z2)]
  unfold PySem.W.kitCls
  first | exact h3 | (simp; exact h3)
theorem kit_reftuple {K : PySem.W.Frag} {A : Addr} {b : Bool} (h3 : PySem.W.subIn K (.ref A) (.type "tuple") = some b) : PySem.W.kitOne K (.ref A) (.type "tuple") = some b := by
  unfold PySem.W.kitOne
  rw [if_neg (fun z => by have z2 := beq_iff_eq.mp z; cases z2)]
  unfold PySem.W.kitCls
  first | exact h3 | (simp; exact h3)
theorem kit_refstr {K : PySem.W.Frag} {A : Addr} {b : Bool} (h3 : PySem.W.subIn K (.ref A) (.type "str") = some b) : PySem.W.kitOne K (.ref A) (.type "str") = some b := by
  unfold PySem.W.kitOne
  rw [if_neg (fun z => by have z2 := beq_iff_eq.mp z; cases z2)]
  unfold PySem.W.kitCls
  first | exact h3 | (simp; exact h3)
theorem kit_refbool {K : PySem.W.Frag} {A : Addr} {b : Bool} (h3 : PySem.W.subIn K (.ref A) (.type "bool") = some b) : PySem.W.kitOne K (.ref A) (.type "bool") = some b := by
  unfold PySem.W.kitOne
  rw [if_neg (fun z => by have z2 := beq_iff_eq.mp z; cases z2)]
  unfold PySem.W.kitCls
  first | exact h3 | (simp; exact h3)
theorem kit_refint {K : PySem.W.Frag} {A : Addr} {b : Bool} (h3 : PySem.W.subIn K (.ref A) (.type "int") = some b) : PySem.W.kitOne K (.ref A) (.type "int") = some b := by
  unfold PySem.W.kitOne
  rw [if_neg (fun z => by have z2 := beq_iff_eq.mp z; cases z2)]
  unfold PySem.W.kitCls
  first | exact h3 | (simp; exact h3)
theorem kit_refIndexError {K : PySem.W.Frag} {A : Addr} {b : Bool} (h3 : PySem.W.subIn K (.ref A) (.type "IndexError") = some b) : PySem.W.kitOne K (.ref A) (.type "IndexError") = some b := by
  unfold PySem.W.kitOne
  rw [if_neg (fun z => by have z2 := beq_iff_eq.mp z; cases z2)]
  unfold PySem.W.kitCls
  first | exact h3 | (simp; exact h3)
theorem kit_refKeyError {K : PySem.W.Frag} {A : Addr} {b : Bool} (h3 : PySem.W.subIn K (.ref A) (.type "KeyError") = some b) : PySem.W.kitOne K (.ref A) (.type "KeyError") = some b := by
  unfold PySem.W.kitOne
  rw [if_neg (fun z => by have z2 := beq_iff_eq.mp z; cases z2)]
  unfold PySem.W.kitCls
  first | exact h3 | (simp; exact h3)
theorem kit_refValueError {K : PySem.W.Frag} {A : Addr} {b : Bool} (h3 : PySem.W.subIn K (.ref A) (.type "ValueError") = some b) : PySem.W.kitOne K (.ref A) (.type "ValueError") = some b := by
  unfold PySem.W.kitOne
  rw [if_neg (fun z => by have z2 := beq_iff_eq.mp z; cases z2)]
  unfold PySem.W.kitCls
  first | exact h3 | (simp; exact h3)
theorem exm_mk {K : PySem.W.Frag} {t : Value} {C : Addr} {b : Bool} (h0 : PySem.W.subIn K (.ref C) (.type "BaseException") = some true) (h1 : PySem.W.isClsIn K C = true) (h2 : PySem.W.typeIn K (.ref C) = some (.type "type")) (h3 : PySem.W.subIn K t (.ref C) = some b) : PySem.W.exmOne K t (.ref C) = some b := by
  have e : ((PySem.W.clsIn K C).isSome && PySem.W.typeIn K (.ref C) == some (.type "type")) = true := by
    have h1' : (PySem.W.clsIn K C).isSome = true := h1
    rw [h1', h2] <;> rfl
  have e0 : (PySem.W.subIn K (.ref C) (.type "BaseException") == some true) = true := by rw [h0] <;> rfl
  unfold PySem.W.exmOne
  rw [if_pos e0]
  show (if ((PySem.W.clsIn K C).isSome && PySem.W.typeIn K (.ref C) == some (.type "type")) = true then PySem.W.subIn K t (.ref C) else none) = some b
  rw [if_pos e]
  exact h3
theorem ve_one {C : Addr} : PySem.HandSPX.refsVE [.ref C, .type "ValueError", .type "Exception", .type "BaseException", .type "object"] = true := by
  show PySem.HandSPX.refsVE [.type "ValueError", .type "Exception", .type "BaseException", .type "object"] = true
  decide +kernel
theorem all_mk {P : Program} {w : World} {K : PySem.W.Frag} {h : Heap} {mg : Str → Option Value} {fa : Addr} (X : K.In h) (G : h.Ns mainGlobals mg) (hfa : mg "law" = some (.ref fa))
    {oc_is_integer kV_is_integer dc_is_integer pm_is_integer cd_is_integer ct_is_integer oc_InvalidTree_init kV_InvalidTree_init dc_InvalidTree_init pm_InvalidTree_init cd_InvalidTree_init ct_InvalidTree_init oc_Wait_init kV_Wait_init dc_Wait_init pm_Wait_init cd_Wait_init ct_Wait_init oc_Leave_init kV_Leave_init dc_Leave_init pm_Leave_init cd_Leave_init ct_Leave_init oc_Hear_init kV_Hear_init dc_Hear_init pm_Hear_init cd_Hear_init ct_Hear_init oc_is_name kV_is_name dc_is_name pm_is_name cd_is_name ct_is_name oc_is_sequence kV_is_sequence dc_is_sequence pm_is_sequence cd_is_sequence ct_is_sequence oc_are_events kV_are_events dc_are_events pm_are_events cd_are_events ct_are_events oc_Call_len kV_Call_len dc_Call_len pm_Call_len cd_Call_len ct_Call_len oc_source kV_source dc_source pm_source cd_source ct_source oc_draw kV_draw dc_draw pm_draw cd_draw ct_draw oc_pick kV_pick dc_pick pm_pick cd_pick ct_pick oc_argument kV_argument dc_argument pm_argument cd_argument ct_argument oc_refused kV_refused dc_refused pm_refused cd_refused ct_refused oc_law kV_law dc_law pm_law cd_law ct_law v0_aNO v1_aNO v2_aNO v3_aNO v4_aNO v5_aNO v6_aNO v7_aNO v8_aNO v9_aNO oc_Call_init kV_Call_init dc_Call_init pm_Call_init cd_Call_init ct_Call_init : Value}
    {od_is_integer an_is_integer od_InvalidTree_init an_InvalidTree_init od_Wait_init an_Wait_init od_Leave_init an_Leave_init od_Hear_init an_Hear_init od_is_name an_is_name od_is_sequence an_is_sequence od_are_events an_are_events od_Call_len an_Call_len od_source an_source od_draw an_draw od_pick an_pick od_argument an_argument od_refused an_refused od_law an_law dd_C_InvalidTree dt_e_events od_Call_init an_Call_init dtD_Call_init : Option Addr}
    {sl_is_integer sl_InvalidTree_init sl_Wait_init sl_Leave_init sl_Hear_init sl_is_name sl_is_sequence sl_are_events sl_Call_len sl_source sl_draw sl_pick sl_argument sl_refused sl_law so_e_events sl_Call_init soD_Call_init : Array (Option Value)}
    {f_is_integer C_InvalidTree N_C_InvalidTree bC_C_InvalidTree f_InvalidTree_init C_Call C_Wait f_Wait_init C_Leave f_Leave_init C_Hear f_Hear_init aNO f_is_name f_is_sequence f_are_events f_Call_len e_events f_Call_init dT_Call_init f_source f_draw f_pick f_argument C_TraceError C_InvalidRow C_InvalidBook f_refused f_law : Addr}
    {nm_C_InvalidTree qn_C_InvalidTree : Str}
    {bs_C_InvalidTree sb_C_InvalidTree : List Value}
    {sn_C_InvalidTree : List Str}
    {ab_C_InvalidTree : Bool}
    {co_C_InvalidTree : Option Bool}
    {m0_C_InvalidTree m1_C_InvalidTree m2_C_InvalidTree m3_C_InvalidTree m5_C_InvalidTree : Option Value}
    {sz_aNO sz_e_events szD_Call_init : Nat}
    {h0_aNO h1_aNO h2_aNO h3_aNO h4_aNO h5_aNO h6_aNO h7_aNO h8_aNO h9_aNO : Int}
    {w0_aNO w1_aNO w2_aNO w3_aNO w4_aNO w5_aNO w6_aNO w7_aNO w8_aNO w9_aNO tk2_Call_init : Tok}
    (a_law : PySem.W.nsIn K mainGlobals "law" = some (some (.ref f_law)))
    (a_is_integer : PySem.W.nsIn K mainGlobals "is_integer" = some (some (.ref f_is_integer)))
    (a_InvalidTree : PySem.W.nsIn K mainGlobals "InvalidTree" = some (some (.ref C_InvalidTree)))
    (a_Call : PySem.W.nsIn K mainGlobals "Call" = some (some (.ref C_Call)))
    (a_Wait : PySem.W.nsIn K mainGlobals "Wait" = some (some (.ref C_Wait)))
    (a_Leave : PySem.W.nsIn K mainGlobals "Leave" = some (some (.ref C_Leave)))
    (a_Hear : PySem.W.nsIn K mainGlobals "Hear" = some (some (.ref C_Hear)))
    (a_NO_NAMES : PySem.W.nsIn K mainGlobals "NO_NAMES" = some (some (.ref aNO)))
    (a_is_name : PySem.W.nsIn K mainGlobals "is_name" = some (some (.ref f_is_name)))
    (a_is_sequence : PySem.W.nsIn K mainGlobals "is_sequence" = some (some (.ref f_is_sequence)))
    (a_are_events : PySem.W.nsIn K mainGlobals "are_events" = some (some (.ref f_are_events)))
    (a__law_source : PySem.W.nsIn K mainGlobals "_law_source" = some (some (.ref f_source)))
    (a__law_draw : PySem.W.nsIn K mainGlobals "_law_draw" = some (some (.ref f_draw)))
    (a__law_pick : PySem.W.nsIn K mainGlobals "_law_pick" = some (some (.ref f_pick)))
    (a__law_argument : PySem.W.nsIn K mainGlobals "_law_argument" = some (some (.ref f_argument)))
    (a_TraceError : PySem.W.nsIn K mainGlobals "TraceError" = some (some (.ref C_TraceError)))
    (a_InvalidRow : PySem.W.nsIn K mainGlobals "InvalidRow" = some (some (.ref C_InvalidRow)))
    (a_InvalidBook : PySem.W.nsIn K mainGlobals "InvalidBook" = some (some (.ref C_InvalidBook)))
    (a__law_refused : PySem.W.nsIn K mainGlobals "_law_refused" = some (some (.ref f_refused)))
    (in_f_InvalidTree_init : PySem.W.findIn K (.ref C_InvalidTree) "__init__" = some (some (.ref f_InvalidTree_init)))
    (in_f_Wait_init : PySem.W.findIn K (.ref C_Wait) "__init__" = some (some (.ref f_Wait_init)))
    (in_f_Leave_init : PySem.W.findIn K (.ref C_Leave) "__init__" = some (some (.ref f_Leave_init)))
    (in_f_Hear_init : PySem.W.findIn K (.ref C_Hear) "__init__" = some (some (.ref f_Hear_init)))
    (q_li_Call : PySem.W.findIn K (.ref C_Call) "__len__" = some (some (.ref f_Call_len)))
    (in_f_Call_init : PySem.W.findIn K (.ref C_Call) "__init__" = some (some (.ref f_Call_init)))
    (l_is_integer : K.lookup f_is_integer = some ⟨oc_is_integer, od_is_integer, .func (PySem.W.fnOf "is_integer" "is_integer" (defArgs s_is_integer) (defBody s_is_integer) (defScope s_is_integer) .none kV_is_integer dc_is_integer pm_is_integer an_is_integer cd_is_integer ct_is_integer), sl_is_integer⟩)
    (l_InvalidTree_init : K.lookup f_InvalidTree_init = some ⟨oc_InvalidTree_init, od_InvalidTree_init, .func (PySem.W.fnOf "__init__" "InvalidTree.__init__" (defArgs s_InvalidTree_init) (defBody s_InvalidTree_init) (defScope s_InvalidTree_init) .none kV_InvalidTree_init dc_InvalidTree_init pm_InvalidTree_init an_InvalidTree_init cd_InvalidTree_init ct_InvalidTree_init), sl_InvalidTree_init⟩)
    (l_Wait_init : K.lookup f_Wait_init = some ⟨oc_Wait_init, od_Wait_init, .func (PySem.W.fnOf "__init__" "Wait.__init__" (defArgs s_Wait_init) (defBody s_Wait_init) (defScope s_Wait_init) .none kV_Wait_init dc_Wait_init pm_Wait_init an_Wait_init cd_Wait_init ct_Wait_init), sl_Wait_init⟩)
    (l_Leave_init : K.lookup f_Leave_init = some ⟨oc_Leave_init, od_Leave_init, .func (PySem.W.fnOf "__init__" "Leave.__init__" (defArgs s_Leave_init) (defBody s_Leave_init) (defScope s_Leave_init) .none kV_Leave_init dc_Leave_init pm_Leave_init an_Leave_init cd_Leave_init ct_Leave_init), sl_Leave_init⟩)
    (l_Hear_init : K.lookup f_Hear_init = some ⟨oc_Hear_init, od_Hear_init, .func (PySem.W.fnOf "__init__" "Hear.__init__" (defArgs s_Hear_init) (defBody s_Hear_init) (defScope s_Hear_init) .none kV_Hear_init dc_Hear_init pm_Hear_init an_Hear_init cd_Hear_init ct_Hear_init), sl_Hear_init⟩)
    (l_is_name : K.lookup f_is_name = some ⟨oc_is_name, od_is_name, .func (PySem.W.fnOf "is_name" "is_name" (defArgs s_is_name) (defBody s_is_name) (defScope s_is_name) .none kV_is_name dc_is_name pm_is_name an_is_name cd_is_name ct_is_name), sl_is_name⟩)
    (l_is_sequence : K.lookup f_is_sequence = some ⟨oc_is_sequence, od_is_sequence, .func (PySem.W.fnOf "is_sequence" "is_sequence" (defArgs s_is_sequence) (defBody s_is_sequence) (defScope s_is_sequence) .none kV_is_sequence dc_is_sequence pm_is_sequence an_is_sequence cd_is_sequence ct_is_sequence), sl_is_sequence⟩)
    (l_are_events : K.lookup f_are_events = some ⟨oc_are_events, od_are_events, .func (PySem.W.fnOf "are_events" "are_events" (defArgs s_are_events) (defBody s_are_events) (defScope s_are_events) .none kV_are_events dc_are_events pm_are_events an_are_events cd_are_events ct_are_events), sl_are_events⟩)
    (l_Call_len : K.lookup f_Call_len = some ⟨oc_Call_len, od_Call_len, .func (PySem.W.fnOf "__len__" "Call.__len__" (defArgs s_Call_len) (defBody s_Call_len) (defScope s_Call_len) .none kV_Call_len dc_Call_len pm_Call_len an_Call_len cd_Call_len ct_Call_len), sl_Call_len⟩)
    (l_source : K.lookup f_source = some ⟨oc_source, od_source, .func (PySem.W.fnOf "_law_source" "_law_source" (defArgs s_source) (defBody s_source) (defScope s_source) .none kV_source dc_source pm_source an_source cd_source ct_source), sl_source⟩)
    (l_draw : K.lookup f_draw = some ⟨oc_draw, od_draw, .func (PySem.W.fnOf "_law_draw" "_law_draw" (defArgs s_draw) (defBody s_draw) (defScope s_draw) .none kV_draw dc_draw pm_draw an_draw cd_draw ct_draw), sl_draw⟩)
    (l_pick : K.lookup f_pick = some ⟨oc_pick, od_pick, .func (PySem.W.fnOf "_law_pick" "_law_pick" (defArgs s_pick) (defBody s_pick) (defScope s_pick) .none kV_pick dc_pick pm_pick an_pick cd_pick ct_pick), sl_pick⟩)
    (l_argument : K.lookup f_argument = some ⟨oc_argument, od_argument, .func (PySem.W.fnOf "_law_argument" "_law_argument" (defArgs s_argument) (defBody s_argument) (defScope s_argument) .none kV_argument dc_argument pm_argument an_argument cd_argument ct_argument), sl_argument⟩)
    (l_refused : K.lookup f_refused = some ⟨oc_refused, od_refused, .func (PySem.W.fnOf "_law_refused" "_law_refused" (defArgs s_refused) (defBody s_refused) (defScope s_refused) .none kV_refused dc_refused pm_refused an_refused cd_refused ct_refused), sl_refused⟩)
    (l_law : K.lookup f_law = some ⟨oc_law, od_law, .func (PySem.W.fnOf "law" "law" (defArgs s_law) (defBody s_law) (defScope s_law) .none kV_law dc_law pm_law an_law cd_law ct_law), sl_law⟩)
    (xL_C_InvalidTree : K.lookup C_InvalidTree = some (excClassObj nm_C_InvalidTree qn_C_InvalidTree C_InvalidTree N_C_InvalidTree bs_C_InvalidTree [.ref bC_C_InvalidTree, .type "ValueError", .type "Exception", .type "BaseException", .type "object"] true sn_C_InvalidTree sb_C_InvalidTree ab_C_InvalidTree co_C_InvalidTree dd_C_InvalidTree m0_C_InvalidTree m1_C_InvalidTree m2_C_InvalidTree m3_C_InvalidTree m5_C_InvalidTree "ValueError.__new__"))
    (l_aNO : K.lookup aNO = some ⟨.type "dict", none, .dict #[⟨h0_aNO, .str "none" w0_aNO, v0_aNO⟩, ⟨h1_aNO, .str "any" w1_aNO, v1_aNO⟩, ⟨h2_aNO, .str "same" w2_aNO, v2_aNO⟩, ⟨h3_aNO, .str "keep" w3_aNO, v3_aNO⟩, ⟨h4_aNO, .str "drop" w4_aNO, v4_aNO⟩, ⟨h5_aNO, .str "good" w5_aNO, v5_aNO⟩, ⟨h6_aNO, .str "bad" w6_aNO, v6_aNO⟩, ⟨h7_aNO, .str "old" w7_aNO, v7_aNO⟩, ⟨h8_aNO, .str "new" w8_aNO, v8_aNO⟩, ⟨h9_aNO, .str "both" w9_aNO, v9_aNO⟩] sz_aNO, #[]⟩)
    (l_Call_init : K.lookup f_Call_init = some ⟨oc_Call_init, od_Call_init, .func (PySem.W.fnOf "__init__" "Call.__init__" (defArgs s_Call_init) (defBody s_Call_init) (defScope s_Call_init) (.ref dT_Call_init) kV_Call_init dc_Call_init pm_Call_init an_Call_init cd_Call_init ct_Call_init), sl_Call_init⟩)
    (dl_Call_init : K.lookup dT_Call_init = some ⟨.type "tuple", dtD_Call_init, .seq #[.bool false, .ref e_events, .str "old" tk2_Call_init] szD_Call_init, soD_Call_init⟩)
    (l_e_events : K.lookup e_events = some ⟨.type "tuple", dt_e_events, .seq #[] sz_e_events, so_e_events⟩)
    (cc_is_integer : PySem.W.codeIn K cd_is_integer "is_integer" = true)
    (k_is_integer : PySem.W.keepIn K (.ref f_is_integer) = true)
    (cc_InvalidTree_init : PySem.W.codeIn K cd_InvalidTree_init "InvalidTree.__init__" = true)
    (k_InvalidTree_init : PySem.W.keepIn K (.ref f_InvalidTree_init) = true)
    (cc_Wait_init : PySem.W.codeIn K cd_Wait_init "Wait.__init__" = true)
    (k_Wait_init : PySem.W.keepIn K (.ref f_Wait_init) = true)
    (cc_Leave_init : PySem.W.codeIn K cd_Leave_init "Leave.__init__" = true)
    (k_Leave_init : PySem.W.keepIn K (.ref f_Leave_init) = true)
    (cc_Hear_init : PySem.W.codeIn K cd_Hear_init "Hear.__init__" = true)
    (k_Hear_init : PySem.W.keepIn K (.ref f_Hear_init) = true)
    (cc_is_name : PySem.W.codeIn K cd_is_name "is_name" = true)
    (k_is_name : PySem.W.keepIn K (.ref f_is_name) = true)
    (cc_is_sequence : PySem.W.codeIn K cd_is_sequence "is_sequence" = true)
    (k_is_sequence : PySem.W.keepIn K (.ref f_is_sequence) = true)
    (cc_are_events : PySem.W.codeIn K cd_are_events "are_events" = true)
    (k_are_events : PySem.W.keepIn K (.ref f_are_events) = true)
    (cc_Call_len : PySem.W.codeIn K cd_Call_len "Call.__len__" = true)
    (k_Call_len : PySem.W.keepIn K (.ref f_Call_len) = true)
    (cc_source : PySem.W.codeIn K cd_source "_law_source" = true)
    (k_source : PySem.W.keepIn K (.ref f_source) = true)
    (cc_draw : PySem.W.codeIn K cd_draw "_law_draw" = true)
    (k_draw : PySem.W.keepIn K (.ref f_draw) = true)
    (cc_pick : PySem.W.codeIn K cd_pick "_law_pick" = true)
    (k_pick : PySem.W.keepIn K (.ref f_pick) = true)
    (cc_argument : PySem.W.codeIn K cd_argument "_law_argument" = true)
    (k_argument : PySem.W.keepIn K (.ref f_argument) = true)
    (cc_refused : PySem.W.codeIn K cd_refused "_law_refused" = true)
    (k_refused : PySem.W.keepIn K (.ref f_refused) = true)
    (cc_law : PySem.W.codeIn K cd_law "law" = true)
    (k_law : PySem.W.keepIn K (.ref f_law) = true)
    (z_isinstance : PySem.W.nsIn K mainGlobals "isinstance" = some none)
    (z_int : PySem.W.nsIn K mainGlobals "int" = some none)
    (z_bool : PySem.W.nsIn K mainGlobals "bool" = some none)
    (sa_C_InvalidTree : PySem.W.findIn K (.ref C_InvalidTree) "__setattr__" = some (some (.builtin "object.__setattr__")))
    (eb_C_InvalidTree : PySem.W.subIn K (.ref C_InvalidTree) (.type "BaseException") = some true)
    (tyC_C_InvalidTree : PySem.W.typeIn K (.ref C_InvalidTree) = some (.type "type"))
    (kc_C_InvalidTree : PySem.W.keepIn K (.ref C_InvalidTree) = true)
    (q_nwTr : PySem.W.findIn K (.ref C_InvalidTree) "word" = some none)
    (q_tTr : PySem.W.typeIn K (.ref f_InvalidTree_init) = some (.type "function"))
    (pg_C_Call : PySem.W.plainGet K C_Call Str.empty = true)
    (hd_C_Call : PySem.W.hasDictIn K C_Call = true)
    (po_C_Call : PySem.W.plainOver K C_Call = true)
    (sa_C_Call : PySem.W.findIn K (.ref C_Call) "__setattr__" = some (some (.builtin "object.__setattr__")))
    (pg_C_Wait : PySem.W.plainGet K C_Wait Str.empty = true)
    (hd_C_Wait : PySem.W.hasDictIn K C_Wait = true)
    (po_C_Wait : PySem.W.plainOver K C_Wait = true)
    (sa_C_Wait : PySem.W.findIn K (.ref C_Wait) "__setattr__" = some (some (.builtin "object.__setattr__")))
    (n_C_Wait_call : PySem.W.findIn K (.ref C_Wait) "call" = some none)
    (mk_C_Wait : PySem.W.makesIn K C_Wait = true)
    (fi_f_Wait_init : PySem.W.isFn K (.ref f_Wait_init) = true)
    (kc_C_Wait : PySem.W.keepIn K (.ref C_Wait) = true)
    (pg_C_Leave : PySem.W.plainGet K C_Leave Str.empty = true)
    (hd_C_Leave : PySem.W.hasDictIn K C_Leave = true)
    (po_C_Leave : PySem.W.plainOver K C_Leave = true)
    (sa_C_Leave : PySem.W.findIn K (.ref C_Leave) "__setattr__" = some (some (.builtin "object.__setattr__")))
    (n_C_Leave_call : PySem.W.findIn K (.ref C_Leave) "call" = some none)
    (mk_C_Leave : PySem.W.makesIn K C_Leave = true)
    (fi_f_Leave_init : PySem.W.isFn K (.ref f_Leave_init) = true)
    (kc_C_Leave : PySem.W.keepIn K (.ref C_Leave) = true)
    (pg_C_Hear : PySem.W.plainGet K C_Hear Str.empty = true)
    (hd_C_Hear : PySem.W.hasDictIn K C_Hear = true)
    (po_C_Hear : PySem.W.plainOver K C_Hear = true)
    (sa_C_Hear : PySem.W.findIn K (.ref C_Hear) "__setattr__" = some (some (.builtin "object.__setattr__")))
    (n_C_Hear_number : PySem.W.findIn K (.ref C_Hear) "number" = some none)
    (mk_C_Hear : PySem.W.makesIn K C_Hear = true)
    (fi_f_Hear_init : PySem.W.isFn K (.ref f_Hear_init) = true)
    (kc_C_Hear : PySem.W.keepIn K (.ref C_Hear) = true)
    (z_len : PySem.W.nsIn K mainGlobals "len" = some none)
    (z_str : PySem.W.nsIn K mainGlobals "str" = some none)
    (z_all : PySem.W.nsIn K mainGlobals "all" = some none)
    (kl_aNO : PySem.W.KeysLit w.params [⟨h0_aNO, .str "none" w0_aNO, v0_aNO⟩, ⟨h1_aNO, .str "any" w1_aNO, v1_aNO⟩, ⟨h2_aNO, .str "same" w2_aNO, v2_aNO⟩, ⟨h3_aNO, .str "keep" w3_aNO, v3_aNO⟩, ⟨h4_aNO, .str "drop" w4_aNO, v4_aNO⟩, ⟨h5_aNO, .str "good" w5_aNO, v5_aNO⟩, ⟨h6_aNO, .str "bad" w6_aNO, v6_aNO⟩, ⟨h7_aNO, .str "old" w7_aNO, v7_aNO⟩, ⟨h8_aNO, .str "new" w8_aNO, v8_aNO⟩, ⟨h9_aNO, .str "both" w9_aNO, v9_aNO⟩])
    (sm_aNO : (aNO == sysModules) = false)
    (z_list : PySem.W.nsIn K mainGlobals "list" = some none)
    (z_tuple : PySem.W.nsIn K mainGlobals "tuple" = some none)
    (ca_C_Wait : PySem.W.findIn K (.ref C_Wait) "__class__" = some (some (.builtin "object.__class__")))
    (cg_ : PySem.W.specialIn K (.builtin "object.__class__") "__get__" = some (some (.builtin "getset_descriptor.__get__")))
    (ck_ : PySem.W.takesIn K (.builtin "object.__class__") = some true)
    (cm_C_Wait : PySem.W.mroIn K C_Wait (.type "object") = some true)
    (ca_C_Leave : PySem.W.findIn K (.ref C_Leave) "__class__" = some (some (.builtin "object.__class__")))
    (cm_C_Leave : PySem.W.mroIn K C_Leave (.type "object") = some true)
    (ca_C_Hear : PySem.W.findIn K (.ref C_Hear) "__class__" = some (some (.builtin "object.__class__")))
    (cm_C_Hear : PySem.W.mroIn K C_Hear (.type "object") = some true)
    (isC_C_Hear : PySem.W.isClsIn K C_Hear = true)
    (tyC_C_Hear : PySem.W.typeIn K (.ref C_Hear) = some (.type "type"))
    (sub_C_Hear_C_Hear : PySem.W.subIn K (.ref C_Hear) (.ref C_Hear) = some true)
    (sub_C_Leave_C_Hear : PySem.W.subIn K (.ref C_Leave) (.ref C_Hear) = some false)
    (ne_C_Leave_C_Hear : C_Leave ≠ C_Hear)
    (isC_C_Leave : PySem.W.isClsIn K C_Leave = true)
    (tyC_C_Leave : PySem.W.typeIn K (.ref C_Leave) = some (.type "type"))
    (sub_C_Leave_C_Leave : PySem.W.subIn K (.ref C_Leave) (.ref C_Leave) = some true)
    (isC_C_Wait : PySem.W.isClsIn K C_Wait = true)
    (tyC_C_Wait : PySem.W.typeIn K (.ref C_Wait) = some (.type "type"))
    (sub_C_Leave_C_Wait : PySem.W.subIn K (.ref C_Leave) (.ref C_Wait) = some false)
    (ne_C_Leave_C_Wait : C_Leave ≠ C_Wait)
    (sub_C_Wait_C_Hear : PySem.W.subIn K (.ref C_Wait) (.ref C_Hear) = some false)
    (ne_C_Wait_C_Hear : C_Wait ≠ C_Hear)
    (sub_C_Wait_C_Leave : PySem.W.subIn K (.ref C_Wait) (.ref C_Leave) = some false)
    (ne_C_Wait_C_Leave : C_Wait ≠ C_Leave)
    (sub_C_Wait_C_Wait : PySem.W.subIn K (.ref C_Wait) (.ref C_Wait) = some true)
    (z_range : PySem.W.nsIn K mainGlobals "range" = some none)
    (z_sum : PySem.W.nsIn K mainGlobals "sum" = some none)
    (n_C_Call_service : PySem.W.findIn K (.ref C_Call) "service" = some none)
    (n_C_Call_kind : PySem.W.findIn K (.ref C_Call) "kind" = some none)
    (n_C_Call_bad : PySem.W.findIn K (.ref C_Call) "bad" = some none)
    (n_C_Call_events : PySem.W.findIn K (.ref C_Call) "events" = some none)
    (n_C_Call_side : PySem.W.findIn K (.ref C_Call) "side" = some none)
    (n_C_Call_inner : PySem.W.findIn K (.ref C_Call) "inner" = some none)
    (n_C_Call__size : PySem.W.findIn K (.ref C_Call) "_size" = some none)
    (q_lf_Call : PySem.W.isFn K (.ref f_Call_len) = true)
    (mk_C_Call : PySem.W.makesIn K C_Call = true)
    (fi_f_Call_init : PySem.W.isFn K (.ref f_Call_init) = true)
    (kc_C_Call : PySem.W.keepIn K (.ref C_Call) = true)
    (cc_Call_init : PySem.W.codeIn K cd_Call_init "Call.__init__" = true)
    (k_Call_init : PySem.W.keepIn K (.ref f_Call_init) = true)
    (ca_C_Call : PySem.W.findIn K (.ref C_Call) "__class__" = some (some (.builtin "object.__class__")))
    (cm_C_Call : PySem.W.mroIn K C_Call (.type "object") = some true)
    (isC_C_Call : PySem.W.isClsIn K C_Call = true)
    (tyC_C_Call : PySem.W.typeIn K (.ref C_Call) = some (.type "type"))
    (sub_C_Call_C_Call : PySem.W.subIn K (.ref C_Call) (.ref C_Call) = some true)
    (sub_C_Call_C_Wait : PySem.W.subIn K (.ref C_Call) (.ref C_Wait) = some false)
    (ne_C_Call_C_Wait : C_Call ≠ C_Wait)
    (sub_C_Call_C_Leave : PySem.W.subIn K (.ref C_Call) (.ref C_Leave) = some false)
    (ne_C_Call_C_Leave : C_Call ≠ C_Leave)
    (sub_C_Call_C_Hear : PySem.W.subIn K (.ref C_Call) (.ref C_Hear) = some false)
    (ne_C_Call_C_Hear : C_Call ≠ C_Hear)
    (sub_C_Wait_C_Call : PySem.W.subIn K (.ref C_Wait) (.ref C_Call) = some false)
    (ne_C_Wait_C_Call : C_Wait ≠ C_Call)
    (sub_C_Leave_C_Call : PySem.W.subIn K (.ref C_Leave) (.ref C_Call) = some false)
    (ne_C_Leave_C_Call : C_Leave ≠ C_Call)
    (sub_C_Hear_C_Call : PySem.W.subIn K (.ref C_Hear) (.ref C_Call) = some false)
    (ne_C_Hear_C_Call : C_Hear ≠ C_Call)
    (sub_C_Hear_C_Wait : PySem.W.subIn K (.ref C_Hear) (.ref C_Wait) = some false)
    (ne_C_Hear_C_Wait : C_Hear ≠ C_Wait)
    (sub_C_Hear_C_Leave : PySem.W.subIn K (.ref C_Hear) (.ref C_Leave) = some false)
    (ne_C_Hear_C_Leave : C_Hear ≠ C_Leave)
    (sub_TNoneType_C_Call : PySem.W.subIn K (.type "NoneType") (.ref C_Call) = some false)
    (sub_TNoneType_C_Wait : PySem.W.subIn K (.type "NoneType") (.ref C_Wait) = some false)
    (sub_TNoneType_C_Leave : PySem.W.subIn K (.type "NoneType") (.ref C_Leave) = some false)
    (sub_TNoneType_C_Hear : PySem.W.subIn K (.type "NoneType") (.ref C_Hear) = some false)
    (sub_Tbool_C_Call : PySem.W.subIn K (.type "bool") (.ref C_Call) = some false)
    (sub_Tbool_C_Wait : PySem.W.subIn K (.type "bool") (.ref C_Wait) = some false)
    (sub_Tbool_C_Leave : PySem.W.subIn K (.type "bool") (.ref C_Leave) = some false)
    (sub_Tbool_C_Hear : PySem.W.subIn K (.type "bool") (.ref C_Hear) = some false)
    (sub_Tint_C_Call : PySem.W.subIn K (.type "int") (.ref C_Call) = some false)
    (sub_Tint_C_Wait : PySem.W.subIn K (.type "int") (.ref C_Wait) = some false)
    (sub_Tint_C_Leave : PySem.W.subIn K (.type "int") (.ref C_Leave) = some false)
    (sub_Tint_C_Hear : PySem.W.subIn K (.type "int") (.ref C_Hear) = some false)
    (sub_Tstr_C_Call : PySem.W.subIn K (.type "str") (.ref C_Call) = some false)
    (sub_Tstr_C_Wait : PySem.W.subIn K (.type "str") (.ref C_Wait) = some false)
    (sub_Tstr_C_Leave : PySem.W.subIn K (.type "str") (.ref C_Leave) = some false)
    (sub_Tstr_C_Hear : PySem.W.subIn K (.type "str") (.ref C_Hear) = some false)
    (sub_Tlist_C_Call : PySem.W.subIn K (.type "list") (.ref C_Call) = some false)
    (sub_Tlist_C_Wait : PySem.W.subIn K (.type "list") (.ref C_Wait) = some false)
    (sub_Tlist_C_Leave : PySem.W.subIn K (.type "list") (.ref C_Leave) = some false)
    (sub_Tlist_C_Hear : PySem.W.subIn K (.type "list") (.ref C_Hear) = some false)
    (sub_Ttuple_C_Call : PySem.W.subIn K (.type "tuple") (.ref C_Call) = some false)
    (sub_Ttuple_C_Wait : PySem.W.subIn K (.type "tuple") (.ref C_Wait) = some false)
    (sub_Ttuple_C_Leave : PySem.W.subIn K (.type "tuple") (.ref C_Leave) = some false)
    (sub_Ttuple_C_Hear : PySem.W.subIn K (.type "tuple") (.ref C_Hear) = some false)
    (sub_C_Call_Tstr : PySem.W.subIn K (.ref C_Call) (.type "str") = some false)
    (sub_C_Call_Tbool : PySem.W.subIn K (.ref C_Call) (.type "bool") = some false)
    (sub_C_Call_Tint : PySem.W.subIn K (.ref C_Call) (.type "int") = some false)
    (sub_C_Call_Tlist : PySem.W.subIn K (.ref C_Call) (.type "list") = some false)
    (sub_C_Call_Ttuple : PySem.W.subIn K (.ref C_Call) (.type "tuple") = some false)
    (sub_C_Wait_Tstr : PySem.W.subIn K (.ref C_Wait) (.type "str") = some false)
    (sub_C_Wait_Tbool : PySem.W.subIn K (.ref C_Wait) (.type "bool") = some false)
    (sub_C_Wait_Tint : PySem.W.subIn K (.ref C_Wait) (.type "int") = some false)
    (sub_C_Wait_Tlist : PySem.W.subIn K (.ref C_Wait) (.type "list") = some false)
    (sub_C_Wait_Ttuple : PySem.W.subIn K (.ref C_Wait) (.type "tuple") = some false)
    (sub_C_Leave_Tstr : PySem.W.subIn K (.ref C_Leave) (.type "str") = some false)
    (sub_C_Leave_Tbool : PySem.W.subIn K (.ref C_Leave) (.type "bool") = some false)
    (sub_C_Leave_Tint : PySem.W.subIn K (.ref C_Leave) (.type "int") = some false)
    (sub_C_Leave_Tlist : PySem.W.subIn K (.ref C_Leave) (.type "list") = some false)
    (sub_C_Leave_Ttuple : PySem.W.subIn K (.ref C_Leave) (.type "tuple") = some false)
    (sub_C_Hear_Tstr : PySem.W.subIn K (.ref C_Hear) (.type "str") = some false)
    (sub_C_Hear_Tbool : PySem.W.subIn K (.ref C_Hear) (.type "bool") = some false)
    (sub_C_Hear_Tint : PySem.W.subIn K (.ref C_Hear) (.type "int") = some false)
    (sub_C_Hear_Tlist : PySem.W.subIn K (.ref C_Hear) (.type "list") = some false)
    (sub_C_Hear_Ttuple : PySem.W.subIn K (.ref C_Hear) (.type "tuple") = some false)
    (z_abs : PySem.W.nsIn K mainGlobals "abs" = some none)
    (z_enumerate : PySem.W.nsIn K mainGlobals "enumerate" = some none)
    (isC_C_TraceError : PySem.W.isClsIn K C_TraceError = true)
    (tyC_C_TraceError : PySem.W.typeIn K (.ref C_TraceError) = some (.type "type"))
    (sub_C_InvalidTree_C_TraceError : PySem.W.subIn K (.ref C_InvalidTree) (.ref C_TraceError) = some true)
    (isC_C_InvalidRow : PySem.W.isClsIn K C_InvalidRow = true)
    (tyC_C_InvalidRow : PySem.W.typeIn K (.ref C_InvalidRow) = some (.type "type"))
    (sub_C_InvalidTree_C_InvalidRow : PySem.W.subIn K (.ref C_InvalidTree) (.ref C_InvalidRow) = some false)
    (ne_C_InvalidTree_C_InvalidRow : C_InvalidTree ≠ C_InvalidRow)
    (isC_C_InvalidBook : PySem.W.isClsIn K C_InvalidBook = true)
    (tyC_C_InvalidBook : PySem.W.typeIn K (.ref C_InvalidBook) = some (.type "type"))
    (sub_C_InvalidTree_C_InvalidBook : PySem.W.subIn K (.ref C_InvalidTree) (.ref C_InvalidBook) = some false)
    (ne_C_InvalidTree_C_InvalidBook : C_InvalidTree ≠ C_InvalidBook)
    (ga_C_InvalidTree : PySem.W.findIn K (.ref C_InvalidTree) "__getattribute__" = some (some (.builtin "BaseException.__getattribute__")))
    (gg_C_InvalidTree : PySem.W.findIn K (.ref C_InvalidTree) "__getattr__" = some none)
    (hd_C_InvalidTree : PySem.W.hasDictIn K C_InvalidTree = true)
    (ca_C_InvalidTree : PySem.W.findIn K (.ref C_InvalidTree) "__class__" = some (some (.builtin "object.__class__")))
    (cm_C_InvalidTree : PySem.W.mroIn K C_InvalidTree (.type "object") = some true)
    (isC_C_InvalidTree : PySem.W.isClsIn K C_InvalidTree = true)
    (sub_C_InvalidTree_C_InvalidTree : PySem.W.subIn K (.ref C_InvalidTree) (.ref C_InvalidTree) = some true)
    (z_zip : PySem.W.nsIn K mainGlobals "zip" = some none)
    : ∃ fd : FuncData, (∀ (s : Shared) (v : Value), BindsTo s fd ⟨[v], []⟩ [("_law_script", v)]) ∧ ∀ base : Heap, K.In base → base.Ns mainGlobals mg → FnOk P w K mg base CX0 10 fa fd ["_law_script"] (spLaw K) := by
  have e := hfa.symm.trans (PySem.W.mg_of X G a_law)
  have e2 : f_law = fa := by
    cases e
    rfl
  subst e2
  have F_is_integer := (fun_mk (st := s_is_integer) l_is_integer cc_is_integer k_is_integer)
  have F_InvalidTree_init := (fun_mk (st := s_InvalidTree_init) l_InvalidTree_init cc_InvalidTree_init k_InvalidTree_init)
  have F_Wait_init := (fun_mk (st := s_Wait_init) l_Wait_init cc_Wait_init k_Wait_init)
  have F_Leave_init := (fun_mk (st := s_Leave_init) l_Leave_init cc_Leave_init k_Leave_init)
  have F_Hear_init := (fun_mk (st := s_Hear_init) l_Hear_init cc_Hear_init k_Hear_init)
  have F_is_name := (fun_mk (st := s_is_name) l_is_name cc_is_name k_is_name)
  have F_is_sequence := (fun_mk (st := s_is_sequence) l_is_sequence cc_is_sequence k_is_sequence)
  have F_are_events := (fun_mk (st := s_are_events) l_are_events cc_are_events k_are_events)
  have F_Call_len := (fun_mk (st := s_Call_len) l_Call_len cc_Call_len k_Call_len)
  have F_source := (fun_mk (st := s_source) l_source cc_source k_source)
  have F_draw := (fun_mk (st := s_draw) l_draw cc_draw k_draw)
  have F_pick := (fun_mk (st := s_pick) l_pick cc_pick k_pick)
  have F_argument := (fun_mk (st := s_argument) l_argument cc_argument k_argument)
  have F_refused := (fun_mk (st := s_refused) l_refused cc_refused k_refused)
  have F_law := (fun_mk (st := s_law) l_law cc_law k_law)
  have b_is_integer := F_is_integer.binds (ps := P_is_integer) fun _ _ _ _ _ _ us hl => match us, hl with | [_], _ => rfl
  have b_InvalidTree_init := F_InvalidTree_init.binds (ps := P_InvalidTree_init) fun _ _ _ _ _ _ us hl => match us, hl with | [_, _], _ => rfl
  have b_Wait_init := F_Wait_init.binds (ps := P_Wait_init) fun _ _ _ _ _ _ us hl => match us, hl with | [_, _], _ => rfl
  have b_Leave_init := F_Leave_init.binds (ps := P_Leave_init) fun _ _ _ _ _ _ us hl => match us, hl with | [_, _], _ => rfl
  have b_Hear_init := F_Hear_init.binds (ps := P_Hear_init) fun _ _ _ _ _ _ us hl => match us, hl with | [_, _], _ => rfl
  have b_is_name := F_is_name.binds (ps := P_is_name) fun _ _ _ _ _ _ us hl => match us, hl with | [_], _ => rfl
  have b_is_sequence := F_is_sequence.binds (ps := P_is_sequence) fun _ _ _ _ _ _ us hl => match us, hl with | [_], _ => rfl
  have b_are_events := F_are_events.binds (ps := P_are_events) fun _ _ _ _ _ _ us hl => match us, hl with | [_], _ => rfl
  have b_Call_len := F_Call_len.binds (ps := P_Call_len) fun _ _ _ _ _ _ us hl => match us, hl with | [_], _ => rfl
  have b_source := F_source.binds (ps := P_source) fun _ _ _ _ _ _ us hl => match us, hl with | [_, _], _ => rfl
  have b_draw := F_draw.binds (ps := P_draw) fun _ _ _ _ _ _ us hl => match us, hl with | [_, _], _ => rfl
  have b_pick := F_pick.binds (ps := P_pick) fun _ _ _ _ _ _ us hl => match us, hl with | [_, _], _ => rfl
  have b_argument := F_argument.binds (ps := P_argument) fun _ _ _ _ _ _ us hl => match us, hl with | [_, _], _ => rfl
  have b_refused := F_refused.binds (ps := P_refused) fun _ _ _ _ _ _ us hl => match us, hl with | [_, _], _ => rfl
  let T : TxK22 w K mg := {
    z_isinstance := PySem.W.mg_none_of X G z_isinstance
    z_int := PySem.W.mg_none_of X G z_int
    z_bool := PySem.W.mg_none_of X G z_bool
    f_is_integer := f_is_integer
    d_is_integer := _
    F_is_integer := F_is_integer
    m_is_integer := PySem.W.mg_of X G a_is_integer
    b_is_integer := b_is_integer
    C_InvalidTree := C_InvalidTree
    m_InvalidTree := PySem.W.mg_of X G a_InvalidTree
    oxTr := ⟨PySem.MyX.base_val, ⟨_, _, _, _, _, _, _, _, _, _, _, _, _, _, _, xL_C_InvalidTree, PySem.MyX.tail_val1⟩, sa_C_InvalidTree, eb_C_InvalidTree, tyC_C_InvalidTree, kc_C_InvalidTree⟩
    nwTr := q_nwTr
    f_InvalidTree_init := f_InvalidTree_init
    d_InvalidTree_init := _
    iTr := in_f_InvalidTree_init
    tTr := q_tTr
    F_InvalidTree_init := F_InvalidTree_init
    b_InvalidTree_init := b_InvalidTree_init
    C_Call := C_Call
    m_Call := PySem.W.mg_of X G a_Call
    c_Call := ⟨pg_C_Call, hd_C_Call, po_C_Call, sa_C_Call⟩
    C_Wait := C_Wait
    m_Wait := PySem.W.mg_of X G a_Wait
    c_Wait := ⟨pg_C_Wait, hd_C_Wait, po_C_Wait, sa_C_Wait⟩
    n_Wait_call := n_C_Wait_call
    f_Wait_init := f_Wait_init
    d_Wait_init := _
    mk_Wait := ⟨mk_C_Wait, in_f_Wait_init, fi_f_Wait_init, kc_C_Wait⟩
    F_Wait_init := F_Wait_init
    b_Wait_init := b_Wait_init
    C_Leave := C_Leave
    m_Leave := PySem.W.mg_of X G a_Leave
    c_Leave := ⟨pg_C_Leave, hd_C_Leave, po_C_Leave, sa_C_Leave⟩
    n_Leave_call := n_C_Leave_call
    f_Leave_init := f_Leave_init
    d_Leave_init := _
    mk_Leave := ⟨mk_C_Leave, in_f_Leave_init, fi_f_Leave_init, kc_C_Leave⟩
    F_Leave_init := F_Leave_init
    b_Leave_init := b_Leave_init
    C_Hear := C_Hear
    m_Hear := PySem.W.mg_of X G a_Hear
    c_Hear := ⟨pg_C_Hear, hd_C_Hear, po_C_Hear, sa_C_Hear⟩
    n_Hear_number := n_C_Hear_number
    f_Hear_init := f_Hear_init
    d_Hear_init := _
    mk_Hear := ⟨mk_C_Hear, in_f_Hear_init, fi_f_Hear_init, kc_C_Hear⟩
    F_Hear_init := F_Hear_init
    b_Hear_init := b_Hear_init
    z_len := PySem.W.mg_none_of X G z_len
    z_str := PySem.W.mg_none_of X G z_str
    z_all := PySem.W.mg_none_of X G z_all
    aNO := aNO
    m_NO := PySem.W.mg_of X G a_NO_NAMES
    t_NO := noD_mk l_aNO kl_aNO sm_aNO
    f_is_name := f_is_name
    d_is_name := _
    F_is_name := F_is_name
    m_is_name := PySem.W.mg_of X G a_is_name
    b_is_name := b_is_name
    z_list := PySem.W.mg_none_of X G z_list
    z_tuple := PySem.W.mg_none_of X G z_tuple
    f_is_sequence := f_is_sequence
    d_is_sequence := _
    F_is_sequence := F_is_sequence
    m_is_sequence := PySem.W.mg_of X G a_is_sequence
    b_is_sequence := b_is_sequence
    ty_Wait := fun H a dx fs e => .base (.ins e ⟨pg_C_Wait, hd_C_Wait, po_C_Wait, sa_C_Wait⟩ ca_C_Wait cg_ ck_ cm_C_Wait)
    ty_Leave := fun H a dx fs e => .base (.ins e ⟨pg_C_Leave, hd_C_Leave, po_C_Leave, sa_C_Leave⟩ ca_C_Leave cg_ ck_ cm_C_Leave)
    ty_Hear := fun H a dx fs e => .base (.ins e ⟨pg_C_Hear, hd_C_Hear, po_C_Hear, sa_C_Hear⟩ ca_C_Hear cg_ ck_ cm_C_Hear)
    kk_Hear_Hear := kit_yes isC_C_Hear tyC_C_Hear sub_C_Hear_C_Hear
    kk_Leave_Hear := kit_no isC_C_Hear tyC_C_Hear sub_C_Leave_C_Hear ne_C_Leave_C_Hear
    kk_Leave_Leave := kit_yes isC_C_Leave tyC_C_Leave sub_C_Leave_C_Leave
    kk_Leave_Wait := kit_no isC_C_Wait tyC_C_Wait sub_C_Leave_C_Wait ne_C_Leave_C_Wait
    kk_Wait_Hear := kit_no isC_C_Hear tyC_C_Hear sub_C_Wait_C_Hear ne_C_Wait_C_Hear
    kk_Wait_Leave := kit_no isC_C_Leave tyC_C_Leave sub_C_Wait_C_Leave ne_C_Wait_C_Leave
    kk_Wait_Wait := kit_yes isC_C_Wait tyC_C_Wait sub_C_Wait_C_Wait
    f_are_events := f_are_events
    d_are_events := _
    F_are_events := F_are_events
    m_are_events := PySem.W.mg_of X G a_are_events
    b_are_events := b_are_events
    z_range := PySem.W.mg_none_of X G z_range
    z_sum := PySem.W.mg_none_of X G z_sum
    n_Call_service := n_C_Call_service
    n_Call_kind := n_C_Call_kind
    n_Call_bad := n_C_Call_bad
    n_Call_events := n_C_Call_events
    n_Call_side := n_C_Call_side
    n_Call_inner := n_C_Call_inner
    n_Call__size := n_C_Call__size
    f_Call_len := f_Call_len
    d_Call_len := _
    F_Call_len := F_Call_len
    b_Call_len := b_Call_len
    li_Call := q_li_Call
    lf_Call := q_lf_Call
    e_events := e_events
    t_events := fun H => .inr ⟨_, _, _, l_e_events, rfl, rfl, by show 0 ≤ sizeLine; decide, .nil⟩
    f_Call_init := f_Call_init
    d_Call_init := _
    mk_Call := ⟨mk_C_Call, in_f_Call_init, fi_f_Call_init, kc_C_Call⟩
    F_Call_init := ⟨⟨_, _, _, _, _, _, _, _, _, _, rfl, l_Call_init, cc_Call_init, .inr ⟨by simp, _, _, [.bool false, .ref e_events, .str "old" tk2_Call_init], _, rfl, dl_Call_init, rfl, .cons rfl (.cons rfl (.cons ⟨_, rfl⟩ (.nil)))⟩, .inl rfl⟩, k_Call_init⟩
    ty_Call := fun H a dx fs e => .base (.ins e ⟨pg_C_Call, hd_C_Call, po_C_Call, sa_C_Call⟩ ca_C_Call cg_ ck_ cm_C_Call)
    kk_Call_Call := kit_yes isC_C_Call tyC_C_Call sub_C_Call_C_Call
    kk_Call_Wait := kit_no isC_C_Wait tyC_C_Wait sub_C_Call_C_Wait ne_C_Call_C_Wait
    kk_Call_Leave := kit_no isC_C_Leave tyC_C_Leave sub_C_Call_C_Leave ne_C_Call_C_Leave
    kk_Call_Hear := kit_no isC_C_Hear tyC_C_Hear sub_C_Call_C_Hear ne_C_Call_C_Hear
    kk_Wait_Call := kit_no isC_C_Call tyC_C_Call sub_C_Wait_C_Call ne_C_Wait_C_Call
    kk_Leave_Call := kit_no isC_C_Call tyC_C_Call sub_C_Leave_C_Call ne_C_Leave_C_Call
    kk_Hear_Call := kit_no isC_C_Call tyC_C_Call sub_C_Hear_C_Call ne_C_Hear_C_Call
    kk_Hear_Wait := kit_no isC_C_Wait tyC_C_Wait sub_C_Hear_C_Wait ne_C_Hear_C_Wait
    kk_Hear_Leave := kit_no isC_C_Leave tyC_C_Leave sub_C_Hear_C_Leave ne_C_Hear_C_Leave
    kt_NoneType_Call := kit_tyno isC_C_Call tyC_C_Call sub_TNoneType_C_Call
    kt_NoneType_Wait := kit_tyno isC_C_Wait tyC_C_Wait sub_TNoneType_C_Wait
    kt_NoneType_Leave := kit_tyno isC_C_Leave tyC_C_Leave sub_TNoneType_C_Leave
    kt_NoneType_Hear := kit_tyno isC_C_Hear tyC_C_Hear sub_TNoneType_C_Hear
    kt_bool_Call := kit_tyno isC_C_Call tyC_C_Call sub_Tbool_C_Call
    kt_bool_Wait := kit_tyno isC_C_Wait tyC_C_Wait sub_Tbool_C_Wait
    kt_bool_Leave := kit_tyno isC_C_Leave tyC_C_Leave sub_Tbool_C_Leave
    kt_bool_Hear := kit_tyno isC_C_Hear tyC_C_Hear sub_Tbool_C_Hear
    kt_int_Call := kit_tyno isC_C_Call tyC_C_Call sub_Tint_C_Call
    kt_int_Wait := kit_tyno isC_C_Wait tyC_C_Wait sub_Tint_C_Wait
    kt_int_Leave := kit_tyno isC_C_Leave tyC_C_Leave sub_Tint_C_Leave
    kt_int_Hear := kit_tyno isC_C_Hear tyC_C_Hear sub_Tint_C_Hear
    kt_str_Call := kit_tyno isC_C_Call tyC_C_Call sub_Tstr_C_Call
    kt_str_Wait := kit_tyno isC_C_Wait tyC_C_Wait sub_Tstr_C_Wait
    kt_str_Leave := kit_tyno isC_C_Leave tyC_C_Leave sub_Tstr_C_Leave
    kt_str_Hear := kit_tyno isC_C_Hear tyC_C_Hear sub_Tstr_C_Hear
    kt_list_Call := kit_tyno isC_C_Call tyC_C_Call sub_Tlist_C_Call
    kt_list_Wait := kit_tyno isC_C_Wait tyC_C_Wait sub_Tlist_C_Wait
    kt_list_Leave := kit_tyno isC_C_Leave tyC_C_Leave sub_Tlist_C_Leave
    kt_list_Hear := kit_tyno isC_C_Hear tyC_C_Hear sub_Tlist_C_Hear
    kt_tuple_Call := kit_tyno isC_C_Call tyC_C_Call sub_Ttuple_C_Call
    kt_tuple_Wait := kit_tyno isC_C_Wait tyC_C_Wait sub_Ttuple_C_Wait
    kt_tuple_Leave := kit_tyno isC_C_Leave tyC_C_Leave sub_Ttuple_C_Leave
    kt_tuple_Hear := kit_tyno isC_C_Hear tyC_C_Hear sub_Ttuple_C_Hear
    kb_Call_str := kit_refstr sub_C_Call_Tstr
    kb_Call_bool := kit_refbool sub_C_Call_Tbool
    kb_Call_int := kit_refint sub_C_Call_Tint
    kb_Call_list := kit_reflist sub_C_Call_Tlist
    kb_Call_tuple := kit_reftuple sub_C_Call_Ttuple
    kb_Wait_str := kit_refstr sub_C_Wait_Tstr
    kb_Wait_bool := kit_refbool sub_C_Wait_Tbool
    kb_Wait_int := kit_refint sub_C_Wait_Tint
    kb_Wait_list := kit_reflist sub_C_Wait_Tlist
    kb_Wait_tuple := kit_reftuple sub_C_Wait_Ttuple
    kb_Leave_str := kit_refstr sub_C_Leave_Tstr
    kb_Leave_bool := kit_refbool sub_C_Leave_Tbool
    kb_Leave_int := kit_refint sub_C_Leave_Tint
    kb_Leave_list := kit_reflist sub_C_Leave_Tlist
    kb_Leave_tuple := kit_reftuple sub_C_Leave_Ttuple
    kb_Hear_str := kit_refstr sub_C_Hear_Tstr
    kb_Hear_bool := kit_refbool sub_C_Hear_Tbool
    kb_Hear_int := kit_refint sub_C_Hear_Tint
    kb_Hear_list := kit_reflist sub_C_Hear_Tlist
    kb_Hear_tuple := kit_reftuple sub_C_Hear_Ttuple
    z_abs := PySem.W.mg_none_of X G z_abs
    z_enumerate := PySem.W.mg_none_of X G z_enumerate
    f_source := f_source
    d_source := _
    F_source := F_source
    m_source := PySem.W.mg_of X G a__law_source
    b_source := b_source
    f_draw := f_draw
    d_draw := _
    F_draw := F_draw
    m_draw := PySem.W.mg_of X G a__law_draw
    b_draw := b_draw
    f_pick := f_pick
    d_pick := _
    F_pick := F_pick
    m_pick := PySem.W.mg_of X G a__law_pick
    b_pick := b_pick
    f_argument := f_argument
    d_argument := _
    F_argument := F_argument
    m_argument := PySem.W.mg_of X G a__law_argument
    b_argument := b_argument
    C_TraceError := C_TraceError
    m_TraceError := PySem.W.mg_of X G a_TraceError
    C_InvalidRow := C_InvalidRow
    m_InvalidRow := PySem.W.mg_of X G a_InvalidRow
    C_InvalidBook := C_InvalidBook
    m_InvalidBook := PySem.W.mg_of X G a_InvalidBook
    ke_TT := kit_yes isC_C_TraceError tyC_C_TraceError sub_C_InvalidTree_C_TraceError
    ke_TR := kit_no isC_C_InvalidRow tyC_C_InvalidRow sub_C_InvalidTree_C_InvalidRow ne_C_InvalidTree_C_InvalidRow
    ke_TB := kit_no isC_C_InvalidBook tyC_C_InvalidBook sub_C_InvalidTree_C_InvalidBook ne_C_InvalidTree_C_InvalidBook
    exTr := ⟨ga_C_InvalidTree, gg_C_InvalidTree, eb_C_InvalidTree, hd_C_InvalidTree, ca_C_InvalidTree, cg_, ck_, cm_C_InvalidTree⟩
    xfTr := ⟨ga_C_InvalidTree, gg_C_InvalidTree, eb_C_InvalidTree, hd_C_InvalidTree⟩
    teTr := exm_mk eb_C_InvalidTree isC_C_InvalidTree tyC_C_InvalidTree sub_C_InvalidTree_C_InvalidTree
    f_refused := f_refused
    d_refused := _
    F_refused := F_refused
    m_refused := PySem.W.mg_of X G a__law_refused
    b_refused := b_refused
    z_zip := PySem.W.mg_none_of X G z_zip
    f_law := f_law
    d_law := _
    F_law := F_law
  }
  exact ⟨PySem.W.fnOf "law" "law" (defArgs s_law) (defBody s_law) (defScope s_law) .none kV_law dc_law pm_law an_law cd_law ct_law, fun s v => .of_eq rfl, fun base _ _ => ok_law22 T⟩
theorem walk {l : PySem.W.OpenLaw} {q : Program} {loose : List Str} {XP : (Str → Option Value) → Heap → Prop} {YP : World → Heap → Prop} {d : DefRec} {K : Params → PySem.W.Frag} (hn : l.most = some 63) (hdf : d.params.defaults = [])
    (hY : ∀ (w : World) (h : Heap), YP w h → (K w.params).In h)
    (F : ∀ (w : World) (mg : Str → Option Value) (fa : Addr) (h : Heap), (K w.params).In h → h.Ns mainGlobals mg → mg d.name = some (.ref fa) →
      ∃ fd : FuncData, (∀ (s : Shared) (u : Value), BindsTo s fd ⟨[u], []⟩ [("_law_script", u)]) ∧ ∀ base : Heap, (K w.params).In base → base.Ns mainGlobals mg → FnOk l.prog w (K w.params) mg base CX0 10 fa fd ["_law_script"] (spLaw (K w.params))) :
    PySem.W.WalkO q loose XP YP l.row.toRowW d [] (fun f vs => PySem.call f vs) :=
  L2.walk_of (n := 63) (k := 10) (x := "_law_script") (CX := fun _ => CX0) (sp := fun w => spLaw (K w.params)) hn (by decide) hdf ⟨rfl, by decide, by decide⟩ hY F (fun _ _ a ns hl _ hS => ⟨a, ns, rfl, hS, hl, fun _ => rfl⟩) fun _ _ _ _ _ z => z
end My
open PySem PySem.W PyProof.Rows
set_option maxRecDepth 100000 in
set_option maxHeartbeats 0 in
theorem PySem.Challenge.cw_wholetraces_k22_trees_refused_holds : PySem.Challenge.rw_wholetraces_k22_trees_refused.Holds := by
  w_on; o_law; k_head; (case hw => w_witness2)
  k_fill
  refine My.walk (l := PySem.Challenge.rw_wholetraces_k22_trees_refused) rfl rfl (fun w h Y => PySem.W.kIn_of Y) ?F
  case F =>
    intro w mg fa h KX G hmg
    refine' My.all_mk KX G hmg ?a_law ?a_is_integer ?a_InvalidTree ?a_Call ?a_Wait ?a_Leave ?a_Hear ?a_NO_NAMES ?a_is_name ?a_is_sequence ?a_are_events ?a__law_source ?a__law_draw ?a__law_pick ?a__law_argument ?a_TraceError ?a_InvalidRow ?a_InvalidBook ?a__law_refused ?in_f_InvalidTree_init ?in_f_Wait_init ?in_f_Leave_init ?in_f_Hear_init ?q_li_Call ?in_f_Call_init ?l_is_integer ?l_InvalidTree_init ?l_Wait_init ?l_Leave_init ?l_Hear_init ?l_is_name ?l_is_sequence ?l_are_events ?l_Call_len ?l_source ?l_draw ?l_pick ?l_argument ?l_refused ?l_law ?xL_C_InvalidTree ?l_aNO ?l_Call_init ?dl_Call_init ?l_e_events ?cc_is_integer ?k_is_integer ?cc_InvalidTree_init ?k_InvalidTree_init ?cc_Wait_init ?k_Wait_init ?cc_Leave_init ?k_Leave_init ?cc_Hear_init ?k_Hear_init ?cc_is_name ?k_is_name ?cc_is_sequence ?k_is_sequence ?cc_are_events ?k_are_events ?cc_Call_len ?k_Call_len ?cc_source ?k_source ?cc_draw ?k_draw ?cc_pick ?k_pick ?cc_argument ?k_argument ?cc_refused ?k_refused ?cc_law ?k_law ?z_isinstance ?z_int ?z_bool ?sa_C_InvalidTree ?eb_C_InvalidTree ?tyC_C_InvalidTree ?kc_C_InvalidTree ?q_nwTr ?q_tTr ?pg_C_Call ?hd_C_Call ?po_C_Call ?sa_C_Call ?pg_C_Wait ?hd_C_Wait ?po_C_Wait ?sa_C_Wait ?n_C_Wait_call ?mk_C_Wait ?fi_f_Wait_init ?kc_C_Wait ?pg_C_Leave ?hd_C_Leave ?po_C_Leave ?sa_C_Leave ?n_C_Leave_call ?mk_C_Leave ?fi_f_Leave_init ?kc_C_Leave ?pg_C_Hear ?hd_C_Hear ?po_C_Hear ?sa_C_Hear ?n_C_Hear_number ?mk_C_Hear ?fi_f_Hear_init ?kc_C_Hear ?z_len ?z_str ?z_all ?kl_aNO ?sm_aNO ?z_list ?z_tuple ?ca_C_Wait ?cg_ ?ck_ ?cm_C_Wait ?ca_C_Leave ?cm_C_Leave ?ca_C_Hear ?cm_C_Hear ?isC_C_Hear ?tyC_C_Hear ?sub_C_Hear_C_Hear ?sub_C_Leave_C_Hear ?ne_C_Leave_C_Hear ?isC_C_Leave ?tyC_C_Leave ?sub_C_Leave_C_Leave ?isC_C_Wait ?tyC_C_Wait ?sub_C_Leave_C_Wait ?ne_C_Leave_C_Wait ?sub_C_Wait_C_Hear ?ne_C_Wait_C_Hear ?sub_C_Wait_C_Leave ?ne_C_Wait_C_Leave ?sub_C_Wait_C_Wait ?z_range ?z_sum ?n_C_Call_service ?n_C_Call_kind ?n_C_Call_bad ?n_C_Call_events ?n_C_Call_side ?n_C_Call_inner ?n_C_Call__size ?q_lf_Call ?mk_C_Call ?fi_f_Call_init ?kc_C_Call ?cc_Call_init ?k_Call_init ?ca_C_Call ?cm_C_Call ?isC_C_Call ?tyC_C_Call ?sub_C_Call_C_Call ?sub_C_Call_C_Wait ?ne_C_Call_C_Wait ?sub_C_Call_C_Leave ?ne_C_Call_C_Leave ?sub_C_Call_C_Hear ?ne_C_Call_C_Hear ?sub_C_Wait_C_Call ?ne_C_Wait_C_Call ?sub_C_Leave_C_Call ?ne_C_Leave_C_Call ?sub_C_Hear_C_Call ?ne_C_Hear_C_Call ?sub_C_Hear_C_Wait ?ne_C_Hear_C_Wait ?sub_C_Hear_C_Leave ?ne_C_Hear_C_Leave ?sub_TNoneType_C_Call ?sub_TNoneType_C_Wait ?sub_TNoneType_C_Leave ?sub_TNoneType_C_Hear ?sub_Tbool_C_Call ?sub_Tbool_C_Wait ?sub_Tbool_C_Leave ?sub_Tbool_C_Hear ?sub_Tint_C_Call ?sub_Tint_C_Wait ?sub_Tint_C_Leave ?sub_Tint_C_Hear ?sub_Tstr_C_Call ?sub_Tstr_C_Wait ?sub_Tstr_C_Leave ?sub_Tstr_C_Hear ?sub_Tlist_C_Call ?sub_Tlist_C_Wait ?sub_Tlist_C_Leave ?sub_Tlist_C_Hear ?sub_Ttuple_C_Call ?sub_Ttuple_C_Wait ?sub_Ttuple_C_Leave ?sub_Ttuple_C_Hear ?sub_C_Call_Tstr ?sub_C_Call_Tbool ?sub_C_Call_Tint ?sub_C_Call_Tlist ?sub_C_Call_Ttuple ?sub_C_Wait_Tstr ?sub_C_Wait_Tbool ?sub_C_Wait_Tint ?sub_C_Wait_Tlist ?sub_C_Wait_Ttuple ?sub_C_Leave_Tstr ?sub_C_Leave_Tbool ?sub_C_Leave_Tint ?sub_C_Leave_Tlist ?sub_C_Leave_Ttuple ?sub_C_Hear_Tstr ?sub_C_Hear_Tbool ?sub_C_Hear_Tint ?sub_C_Hear_Tlist ?sub_C_Hear_Ttuple ?z_abs ?z_enumerate ?isC_C_TraceError ?tyC_C_TraceError ?sub_C_InvalidTree_C_TraceError ?isC_C_InvalidRow ?tyC_C_InvalidRow ?sub_C_InvalidTree_C_InvalidRow ?ne_C_InvalidTree_C_InvalidRow ?isC_C_InvalidBook ?tyC_C_InvalidBook ?sub_C_InvalidTree_C_InvalidBook ?ne_C_InvalidTree_C_InvalidBook ?ga_C_InvalidTree ?gg_C_InvalidTree ?hd_C_InvalidTree ?ca_C_InvalidTree ?cm_C_InvalidTree ?isC_C_InvalidTree ?sub_C_InvalidTree_C_InvalidTree ?z_zip
    (case a_law => k_is)
    (case a_is_integer => k_is)
    (case a_InvalidTree => k_is)
    (case a_Call => k_is)
    (case a_Wait => k_is)
    (case a_Leave => k_is)
    (case a_Hear => k_is)
    (case a_NO_NAMES => k_is)
    (case a_is_name => k_is)
    (case a_is_sequence => k_is)
    (case a_are_events => k_is)
    (case a__law_source => k_is)
    (case a__law_draw => k_is)
    (case a__law_pick => k_is)
    (case a__law_argument => k_is)
    (case a_TraceError => k_is)
    (case a_InvalidRow => k_is)
    (case a_InvalidBook => k_is)
    (case a__law_refused => k_is)
    (case in_f_InvalidTree_init => k_is)
    (case in_f_Wait_init => k_is)
    (case in_f_Leave_init => k_is)
    (case in_f_Hear_init => k_is)
    (case q_li_Call => k_is)
    (case in_f_Call_init => k_is)
    (case l_is_integer => k_is)
    (case l_InvalidTree_init => k_is)
    (case l_Wait_init => k_is)
    (case l_Leave_init => k_is)
    (case l_Hear_init => k_is)
    (case l_is_name => k_is)
    (case l_is_sequence => k_is)
    (case l_are_events => k_is)
    (case l_Call_len => k_is)
    (case l_source => k_is)
    (case l_draw => k_is)
    (case l_pick => k_is)
    (case l_argument => k_is)
    (case l_refused => k_is)
    (case l_law => k_is)
    (case xL_C_InvalidTree => k_is)
    (case l_aNO => k_is)
    (case l_Call_init => k_is)
    (case dl_Call_init => k_is)
    (case l_e_events => k_is)
    (case cc_is_integer => k_is)
    (case k_is_integer => k_is)
    (case cc_InvalidTree_init => k_is)
    (case k_InvalidTree_init => k_is)
    (case cc_Wait_init => k_is)
    (case k_Wait_init => k_is)
    (case cc_Leave_init => k_is)
    (case k_Leave_init => k_is)
    (case cc_Hear_init => k_is)
    (case k_Hear_init => k_is)
    (case cc_is_name => k_is)
    (case k_is_name => k_is)
    (case cc_is_sequence => k_is)
    (case k_is_sequence => k_is)
    (case cc_are_events => k_is)
    (case k_are_events => k_is)
    (case cc_Call_len => k_is)
    (case k_Call_len => k_is)
    (case cc_source => k_is)
    (case k_source => k_is)
    (case cc_draw => k_is)
    (case k_draw => k_is)
    (case cc_pick => k_is)
    (case k_pick => k_is)
    (case cc_argument => k_is)
    (case k_argument => k_is)
    (case cc_refused => k_is)
    (case k_refused => k_is)
    (case cc_law => k_is)
    (case k_law => k_is)
    (case z_isinstance => k_is)
    (case z_int => k_is)
    (case z_bool => k_is)
    (case sa_C_InvalidTree => k_is)
    (case eb_C_InvalidTree => k_is)
    (case tyC_C_InvalidTree => k_is)
    (case kc_C_InvalidTree => k_is)
    (case q_nwTr => k_is)
    (case q_tTr => k_is)
    (case pg_C_Call => k_is)
    (case hd_C_Call => k_is)
    (case po_C_Call => k_is)
    (case sa_C_Call => k_is)
    (case pg_C_Wait => k_is)
    (case hd_C_Wait => k_is)
    (case po_C_Wait => k_is)
    (case sa_C_Wait => k_is)
    (case n_C_Wait_call => k_is)
    (case mk_C_Wait => k_is)
    (case fi_f_Wait_init => k_is)
    (case kc_C_Wait => k_is)
    (case pg_C_Leave => k_is)
    (case hd_C_Leave => k_is)
    (case po_C_Leave => k_is)
    (case sa_C_Leave => k_is)
    (case n_C_Leave_call => k_is)
    (case mk_C_Leave => k_is)
    (case fi_f_Leave_init => k_is)
    (case kc_C_Leave => k_is)
    (case pg_C_Hear => k_is)
    (case hd_C_Hear => k_is)
    (case po_C_Hear => k_is)
    (case sa_C_Hear => k_is)
    (case n_C_Hear_number => k_is)
    (case mk_C_Hear => k_is)
    (case fi_f_Hear_init => k_is)
    (case kc_C_Hear => k_is)
    (case z_len => k_is)
    (case z_str => k_is)
    (case z_all => k_is)
    (case kl_aNO => exact ⟨⟨_, _, rfl, rfl⟩, ⟨_, _, rfl, rfl⟩, ⟨_, _, rfl, rfl⟩, ⟨_, _, rfl, rfl⟩, ⟨_, _, rfl, rfl⟩, ⟨_, _, rfl, rfl⟩, ⟨_, _, rfl, rfl⟩, ⟨_, _, rfl, rfl⟩, ⟨_, _, rfl, rfl⟩, ⟨_, _, rfl, rfl⟩, trivial⟩)
    (case sm_aNO => first | rfl | decide)
    (case z_list => k_is)
    (case z_tuple => k_is)
    (case ca_C_Wait => k_is)
    (case cg_ => k_is)
    (case ck_ => k_is)
    (case cm_C_Wait => k_is)
    (case ca_C_Leave => k_is)
    (case cm_C_Leave => k_is)
    (case ca_C_Hear => k_is)
    (case cm_C_Hear => k_is)
    (case isC_C_Hear => k_is)
    (case tyC_C_Hear => k_is)
    (case sub_C_Hear_C_Hear => first | k_is | rfl)
    (case sub_C_Leave_C_Hear => first | k_is | rfl)
    (case ne_C_Leave_C_Hear => decide)
    (case isC_C_Leave => k_is)
    (case tyC_C_Leave => k_is)
    (case sub_C_Leave_C_Leave => first | k_is | rfl)
    (case isC_C_Wait => k_is)
    (case tyC_C_Wait => k_is)
    (case sub_C_Leave_C_Wait => first | k_is | rfl)
    (case ne_C_Leave_C_Wait => decide)
    (case sub_C_Wait_C_Hear => first | k_is | rfl)
    (case ne_C_Wait_C_Hear => decide)
    (case sub_C_Wait_C_Leave => first | k_is | rfl)
    (case ne_C_Wait_C_Leave => decide)
    (case sub_C_Wait_C_Wait => first | k_is | rfl)
    (case z_range => k_is)
    (case z_sum => k_is)
    (case n_C_Call_service => k_is)
    (case n_C_Call_kind => k_is)
    (case n_C_Call_bad => k_is)
    (case n_C_Call_events => k_is)
    (case n_C_Call_side => k_is)
    (case n_C_Call_inner => k_is)
    (case n_C_Call__size => k_is)
    (case q_lf_Call => k_is)
    (case mk_C_Call => k_is)
    (case fi_f_Call_init => k_is)
    (case kc_C_Call => k_is)
    (case cc_Call_init => k_is)
    (case k_Call_init => k_is)
    (case ca_C_Call => k_is)
    (case cm_C_Call => k_is)
    (case isC_C_Call => k_is)
    (case tyC_C_Call => k_is)
    (case sub_C_Call_C_Call => first | k_is | rfl)
    (case sub_C_Call_C_Wait => first | k_is | rfl)
    (case ne_C_Call_C_Wait => decide)
    (case sub_C_Call_C_Leave => first | k_is | rfl)
    (case ne_C_Call_C_Leave => decide)
    (case sub_C_Call_C_Hear => first | k_is | rfl)
    (case ne_C_Call_C_Hear => decide)
    (case sub_C_Wait_C_Call => first | k_is | rfl)
    (case ne_C_Wait_C_Call => decide)
    (case sub_C_Leave_C_Call => first | k_is | rfl)
    (case ne_C_Leave_C_Call => decide)
    (case sub_C_Hear_C_Call => first | k_is | rfl)
    (case ne_C_Hear_C_Call => decide)
    (case sub_C_Hear_C_Wait => first | k_is | rfl)
    (case ne_C_Hear_C_Wait => decide)
    (case sub_C_Hear_C_Leave => first | k_is | rfl)
    (case ne_C_Hear_C_Leave => decide)
    (case sub_TNoneType_C_Call => first | k_is | rfl)
    (case sub_TNoneType_C_Wait => first | k_is | rfl)
    (case sub_TNoneType_C_Leave => first | k_is | rfl)
    (case sub_TNoneType_C_Hear => first | k_is | rfl)
    (case sub_Tbool_C_Call => first | k_is | rfl)
    (case sub_Tbool_C_Wait => first | k_is | rfl)
    (case sub_Tbool_C_Leave => first | k_is | rfl)
    (case sub_Tbool_C_Hear => first | k_is | rfl)
    (case sub_Tint_C_Call => first | k_is | rfl)
    (case sub_Tint_C_Wait => first | k_is | rfl)
    (case sub_Tint_C_Leave => first | k_is | rfl)
    (case sub_Tint_C_Hear => first | k_is | rfl)
    (case sub_Tstr_C_Call => first | k_is | rfl)
    (case sub_Tstr_C_Wait => first | k_is | rfl)
    (case sub_Tstr_C_Leave => first | k_is | rfl)
    (case sub_Tstr_C_Hear => first | k_is | rfl)
    (case sub_Tlist_C_Call => first | k_is | rfl)
    (case sub_Tlist_C_Wait => first | k_is | rfl)
    (case sub_Tlist_C_Leave => first | k_is | rfl)
    (case sub_Tlist_C_Hear => first | k_is | rfl)
    (case sub_Ttuple_C_Call => first | k_is | rfl)
    (case sub_Ttuple_C_Wait => first | k_is | rfl)
    (case sub_Ttuple_C_Leave => first | k_is | rfl)
    (case sub_Ttuple_C_Hear => first | k_is | rfl)
    (case sub_C_Call_Tstr => first | k_is | rfl)
    (case sub_C_Call_Tbool => first | k_is | rfl)
    (case sub_C_Call_Tint => first | k_is | rfl)
    (case sub_C_Call_Tlist => first | k_is | rfl)
    (case sub_C_Call_Ttuple => first | k_is | rfl)
    (case sub_C_Wait_Tstr => first | k_is | rfl)
    (case sub_C_Wait_Tbool => first | k_is | rfl)
    (case sub_C_Wait_Tint => first | k_is | rfl)
    (case sub_C_Wait_Tlist => first | k_is | rfl)
    (case sub_C_Wait_Ttuple => first | k_is | rfl)
    (case sub_C_Leave_Tstr => first | k_is | rfl)
    (case sub_C_Leave_Tbool => first | k_is | rfl)
    (case sub_C_Leave_Tint => first | k_is | rfl)
    (case sub_C_Leave_Tlist => first | k_is | rfl)
    (case sub_C_Leave_Ttuple => first | k_is | rfl)
    (case sub_C_Hear_Tstr => first | k_is | rfl)
    (case sub_C_Hear_Tbool => first | k_is | rfl)
    (case sub_C_Hear_Tint => first | k_is | rfl)
    (case sub_C_Hear_Tlist => first | k_is | rfl)
    (case sub_C_Hear_Ttuple => first | k_is | rfl)
    (case z_abs => k_is)
    (case z_enumerate => k_is)
    (case isC_C_TraceError => k_is)
    (case tyC_C_TraceError => k_is)
    (case sub_C_InvalidTree_C_TraceError => first | k_is | rfl)
    (case isC_C_InvalidRow => k_is)
    (case tyC_C_InvalidRow => k_is)
    (case sub_C_InvalidTree_C_InvalidRow => first | k_is | rfl)
    (case ne_C_InvalidTree_C_InvalidRow => decide)
    (case isC_C_InvalidBook => k_is)
    (case tyC_C_InvalidBook => k_is)
    (case sub_C_InvalidTree_C_InvalidBook => first | k_is | rfl)
    (case ne_C_InvalidTree_C_InvalidBook => decide)
    (case ga_C_InvalidTree => k_is)
    (case gg_C_InvalidTree => k_is)
    (case hd_C_InvalidTree => k_is)
    (case ca_C_InvalidTree => k_is)
    (case cm_C_InvalidTree => k_is)
    (case isC_C_InvalidTree => k_is)
    (case sub_C_InvalidTree_C_InvalidTree => first | k_is | rfl)
    (case z_zip => k_is)
