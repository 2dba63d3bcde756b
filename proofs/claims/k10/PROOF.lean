import PyProof.Rows.All
import Wide.All
import OpenK.AllK
import Wide.FinOn
import HandS.ForMost
import HandS.Evl
import HandS.Style
import HandS.Walk
import HandS.IsInst
import HandS.Deep
import HandS.StrMore
import HandS.More
import PySem.Challenge.RW_wholetraces_k10_services_refused
import HandS.Set
import HandS.SetBool
import HandS.SetFor
import HandS.Strs
import HandS.Comp
import HandS.Iter
import KE.GoesEnum
import HandS.ExcInit
import HandS.ExcField
import HandS.TryOnly
import HandS.WordsExc
import HandS.DictComp
import HandS.Star
import HandS.Defaults
import HandS.ExcIs
import HandS.ExcOwn
import HandS.CallSlots
import HandS.TupAny
set_option Elab.async false
set_option maxRecDepth 100000
set_option maxHeartbeats 4000000
set_option linter.all false
/-! ## Words of my own that speak of no program -/
namespace My
open PySem L2
/-- the box of draws: three ints -/
def bx (w s c : Int) : HO := .lst [.int w, .int s, .int c]
theorem small_ {n : Nat} (h : n ≤ 1000) : n ≤ sizeLine := Nat.le_of_lt (small1000 h)
theorem at_some {xs : List V} {k : Int} (h0 : 0 ≤ k) (h1 : k < (xs.length : Int)) : ∃ v : V, atI xs k = some v ∧ xs[k.toNat]? = some v := by
  have hk : k.toNat < xs.length := by omega
  have h2 : xs[k.toNat]? = some xs[k.toNat] := List.getElem?_eq_getElem hk
  have h3 := atI_nat h2
  rw [show ((k.toNat : Nat) : Int) = k by omega] at h3
  exact ⟨_, h3, h2⟩
theorem int_at {ns : List Int} {k : Int} (h0 : 0 ≤ k) (h1 : k < (ns.length : Int)) : ∃ z : Int, atI (ns.map V.int) k = some (.int z) := by
  obtain ⟨v, h, e⟩ := at_some (xs := ns.map V.int) h0 (by rw [List.length_map]; exact h1)
  rw [List.getElem?_map] at e
  cases q : ns[k.toNat]? with
  | none => rw [q] at e; cases e
  | some z => rw [q] at e; cases e; exact ⟨z, h⟩
/-! ### the heap grows, the box alone changes -/
structure Gr (b : Addr) (H H' : Hp) : Prop where
  keep : ∀ a o, a ≠ b → H a = some o → H' a = some o
  box : ∃ w s c, H' b = some (bx w s c)
/-- at a, which is not the box, stands o -/
structure At (b : Addr) (H : Hp) (a : Addr) (o : HO) : Prop where
  ne : a ≠ b
  at_ : H a = some o
theorem Gr.refl {b : Addr} {H : Hp} {w s c : Int} (h : H b = some (bx w s c)) : Gr b H H := ⟨fun _ _ _ e => e, w, s, c, h⟩
theorem Gr.trans {b : Addr} {H H1 H2 : Hp} (x : Gr b H H1) (y : Gr b H1 H2) : Gr b H H2 := ⟨fun a o n e => y.keep a o n (x.keep a o n e), y.box⟩
theorem Gr.draw {b : Addr} {H H1 : Hp} (x : Gr b H H1) (w s c : Int) : Gr b H (upd H1 b (bx w s c)) := ⟨fun a o n e => by rw [upd_ne n]; exact x.keep a o n e, w, s, c, upd_same⟩
theorem Gr.ne_new {b p : Addr} {H H1 : Hp} (x : Gr b H H1) (h : H1 p = none) : p ≠ b := fun e => by
  obtain ⟨w, s, c, q⟩ := x.box
  rw [e, q] at h
  cases h
theorem Gr.free {b p : Addr} {H H1 : Hp} (x : Gr b H H1) (h : H1 p = none) : H p = none := by
  cases q : H p with
  | none => rfl
  | some o =>
    rw [x.keep p o (x.ne_new h) q] at h
    cases h
theorem Gr.new {b p : Addr} {H H1 : Hp} (x : Gr b H H1) (h : H1 p = none) (o : HO) : Gr b H (upd H1 p o) := by
  have np := x.ne_new h
  refine ⟨fun a u n e => ?_, ?_⟩
  · rw [upd_ne (ne_of_none (x.keep a u n e) h)]
    exact x.keep a u n e
  · obtain ⟨w, s, c, q⟩ := x.box
    exact ⟨w, s, c, by rw [upd_ne np.symm]; exact q⟩
/-- what H does not know may be changed -/
theorem Gr.mut {b p : Addr} {H H1 : Hp} (x : Gr b H H1) (h : H p = none) (np : p ≠ b) (o : HO) : Gr b H (upd H1 p o) := by
  refine ⟨fun a u n e => ?_, ?_⟩
  · rw [upd_ne (ne_of_none e h)]
    exact x.keep a u n e
  · obtain ⟨w, s, c, q⟩ := x.box
    exact ⟨w, s, c, by rw [upd_ne np.symm]; exact q⟩
theorem At.gr {b a : Addr} {H H' : Hp} {o : HO} (h : At b H a o) (g : Gr b H H') : At b H' a o := ⟨h.ne, g.keep a o h.ne h.at_⟩
theorem At.l {K : PySem.W.Frag} {b a : Addr} {H : Hp} {xs : List V} (h : At b H a (.lst xs)) : SqL K H a xs := SqL.of h.at_
theorem At.t {K : PySem.W.Frag} {b a : Addr} {H : Hp} {xs : List V} (h : At b H a (.tup xs)) : SqT K H a xs := SqT.of h.at_
theorem Gr.at_new {b p : Addr} {H H1 : Hp} (x : Gr b H H1) (h : H1 p = none) (o : HO) : At b (upd H1 p o) p o := ⟨x.ne_new h, upd_same⟩
theorem At.new {b a p : Addr} {H : Hp} {o u : HO} (h : At b H a o) (hp : H p = none) : At b (upd H p u) a o := ⟨h.ne, by rw [upd_ne (ne_of_none h.at_ hp)]; exact h.at_⟩
theorem At.nep {b a p : Addr} {H : Hp} {o : HO} (h : At b H a o) (hp : H p = none) : a ≠ p := ne_of_none h.at_ hp
theorem Gr.of_new {b p : Addr} {H : Hp} {w s c : Int} (hb : H b = some (bx w s c)) (h : H p = none) (o : HO) : Gr b H (upd H p o) := (Gr.refl hb).new h o
theorem At.mk_new {b p : Addr} {H H1 : Hp} (x : Gr b H H1) (h : H1 p = none) (o : HO) : At b (upd H1 p o) p o := ⟨x.ne_new h, upd_same⟩
theorem Same.gr {b : Addr} {H H' : Hp} {w s c : Int} (e : Same H H') (h : H b = some (bx w s c)) : Gr b H H' := ⟨fun a o _ q => e a o q, w, s, c, e _ _ h⟩
theorem same_upd {H : Hp} {p : Addr} (h : H p = none) (o : HO) : Same H (upd H p o) := fun b u q => by rw [upd_ne (ne_of_none q h)]; exact q

/-! ### a list against an empty list -/
section
variable {X : Cx}
def rEqE (K : PySem.W.Frag) (neg : Bool) : R2 := fun x y H Q => ∃ (a q : Addr) (xs : List V), x = .ref a ∧ y = .ref q ∧ SqL K H a xs ∧ SqL K H q [] ∧ Q (.bl (if neg then !xs.isEmpty else xs.isEmpty)) H
theorem op_eqE (hu : X.A.units < cLine) : OpR X (compareOp .Eq) (rEqE X.K false) := by
  intro pins s σ H x y u v Q I rx ry h
  obtain ⟨a, q, xs, rfl, rfl, h1, h2, k⟩ := h
  cases rx
  cases ry
  obtain ⟨is, r, p, _⟩ := I.list h1
  obtain ⟨js, r', p', _⟩ := I.list h2
  cases r'
  cases xs with
  | nil =>
    cases r
    exact SeqAt.RcAt.lists (e := fun _ => true) p.isList p'.isList rfl hu (fun j h1 _ => absurd h1 (by simp)) X.prog X.w X.xe _ ⟨.bl true, H, I, rfl, k⟩
  | cons x xs =>
    cases r with
    | cons r1 r2 => exact SeqAt.RcAt.lists_lengths p.isList p'.isList (by simp) hu X.prog X.w X.xe _ ⟨.bl false, H, I, rfl, k⟩
theorem op_neE (hu : X.A.units < cLine) : OpR X (compareOp .NotEq) (rEqE X.K true) := by
  intro pins s σ H x y u v Q I rx ry h
  obtain ⟨a, q, xs, rfl, rfl, h1, h2, k⟩ := h
  cases rx
  cases ry
  obtain ⟨is, r, p, _⟩ := I.list h1
  obtain ⟨js, r', p', _⟩ := I.list h2
  cases r'
  cases xs with
  | nil =>
    cases r
    exact SeqAt.RcNeAt.lists (e := fun _ => true) p.isList p'.isList rfl hu (fun j h1 _ => absurd h1 (by simp)) X.prog X.w X.xe _ ⟨.bl false, H, I, rfl, k⟩
  | cons x xs =>
    cases r with
    | cons r1 r2 => exact SeqAt.RcNeAt.lists_lengths p.isList p'.isList (by simp) hu X.prog X.w X.xe _ ⟨.bl true, H, I, rfl, k⟩
/-- a text so many times -/
def timesL (x : List Nat) : Nat → List Nat
  | 0 => []
  | n + 1 => x ++ timesL x n
end
end My

/-! ## Further rules of my own: a text so many times -/
namespace My
open PySem L2
theorem timesL_one (x : List Nat) : timesL x 1 = x := by simp [timesL]
theorem fold_times (x : Array Nat) : ∀ (n : Nat) (acc : Array Nat), ((List.replicate n x).foldl (· ++ ·) acc).toList = acc.toList ++ timesL x.toList n
  | 0, acc => by simp [timesL]
  | n + 1, acc => by
    rw [List.replicate_succ, List.foldl_cons, fold_times x n, Array.toList_append, List.append_assoc]
    rfl
theorem timesL_len (x : List Nat) : ∀ n : Nat, (timesL x n).length = n * x.length
  | 0 => by simp [timesL]
  | n + 1 => by
    show (x ++ timesL x n).length = (n + 1) * x.length
    rw [List.length_append, timesL_len x n, Nat.add_mul, Nat.one_mul, Nat.add_comm]
theorem timesL_nil : ∀ n : Nat, timesL [] n = []
  | 0 => rfl
  | n + 1 => by
    show [] ++ timesL [] n = []
    rw [timesL_nil n]
    rfl
section
variable {X : Cx}
theorem op_mul_str : OpR X (binaryOp .Mult) (fun x y H Q => ∃ (z : Str) (n : Int), x = .str z ∧ y = .int n ∧ 0 ≤ n ∧ n ≤ 1000 ∧ z.length ≤ 1000 ∧ Q (.str ⟨(timesL z.cps.toList n.toNat).toArray⟩) H) := by
  intro pins s σ H x y v u Q I rx ry h
  obtain ⟨z, n, rfl, rfl, h0, h1, hz, k⟩ := h
  obtain ⟨t, rfl⟩ := rx
  obtain ⟨t', rfl⟩ := ry
  have hs : z.cps.size ≤ 1000 := hz
  refine PySem.P.mul_str (by rw [decide_eq_false (by omega), decide_eq_false (by omega)]; rfl) (fun h2 _ => ?_) (fun h2 _ => ?_) ?_
  · have h3 : (1000 : Int) ≤ (2 ^ 63 - 1) / n := by
      rw [Int.le_ediv_iff_mul_le (by omega)]
      have : (1000 : Int) * n ≤ 1000000 := by omega
      omega
    omega
  · have h3 : z.length * n.toNat ≤ 1000 * 1000 := Nat.mul_le_mul hz (by omega)
    have h4 : z.length * n.toNat ≤ sizeLine := by rw [sizeLine_eq]; omega
    show decide (z.length * n.toNat > sizeLine) = false
    exact decide_eq_false (by omega)
  · by_cases n0 : n < 1
    · have e : n = 0 := by omega
      subst e
      exact ⟨Nat.zero_le _, .str ⟨#[]⟩, H, I.tok _, ⟨_, rfl⟩, k⟩
    · rw [if_neg n0]
      by_cases e : (n == 1 || z.length == 0) = true
      · rw [if_pos e]
        have q : timesL z.cps.toList n.toNat = z.cps.toList := by
          rcases Bool.or_eq_true_iff.mp e with e | e
          · have e' : n = 1 := by simpa using e
            subst e'
            exact timesL_one _
          · have e' : z.cps.toList = [] := by
              have : z.cps.size = 0 := by simpa [Str.length] using e
              exact List.eq_nil_of_length_eq_zero (by simpa using this)
            rw [e', timesL_nil]
        rw [q] at k
        exact ⟨.str z, H, I, ⟨t, rfl⟩, by simpa using k⟩
      · rw [if_neg e]
        have q : (⟨(List.replicate n.toNat z.cps).foldl (· ++ ·) #[]⟩ : Str) = ⟨(timesL z.cps.toList n.toNat).toArray⟩ := by
          have f := fold_times z.cps n.toNat #[]
          have g : (List.replicate n.toNat z.cps).foldl (· ++ ·) #[] = (timesL z.cps.toList n.toNat).toArray := by
            apply Array.toList_inj.mp
            rw [f]
            simp
          rw [g]
        rw [← q] at k
        refine ⟨?_, .str _, H, I.tok _, ⟨_, rfl⟩, k⟩
        show ((List.replicate n.toNat z.cps).foldl (· ++ ·) #[]).size ≤ sizeLine
        rw [← Array.length_toList, fold_times, List.length_append, timesL_len]
        have h3 : n.toNat * z.cps.toList.length ≤ 1000 * 1000 := Nat.mul_le_mul (by omega) (by simpa using hs)
        rw [sizeLine_eq]
        simpa using (by omega : n.toNat * z.cps.toList.length ≤ 16777216)
end
end My

/-! ## The rules that read the written part, with it named (within a comprehension's block it must not hang on the block) -/
namespace My
open PySem L2
section
variable {X : Cx} {e a b o : Expr} {es : List Expr} {te ta tb to : TE} {t : TA} {f name : Str} {pos cpos p apos : Pos} {id T : String}
theorem pe_fldK (K : PySem.W.Frag) (he : PE X e ta) (hK : X.K = K := by rfl) (hb : attributeBase e f X.env (eval e X.env) = eval e X.env := by rfl) : PE X (.Attribute e f pos) (tFld K ta f) := hK ▸ pe_fld he hb
theorem ix_listK (K : PySem.W.Frag) (hK : X.K = K := by rfl) : IxR X (rIxL K) := hK ▸ ix_list
theorem ix_tupK (K : PySem.W.Frag) (hK : X.K = K := by rfl) : IxR X (rIxT K) := hK ▸ ix_tup
theorem sl_listK (K : PySem.W.Frag) (hK : X.K = K := by rfl) : SlR X (rSlL K) := hK ▸ sl_list
theorem sl_tupK (K : PySem.W.Frag) (hK : X.K = K := by rfl) : SlR X (rSlT K) := hK ▸ sl_tup
def rLenS (K : PySem.W.Frag) : List V → Hp → VK → Prop := fun xs H Q => ∃ p ys, xs = [.ref p] ∧ (SqL K H p ys ∨ SqT K H p ys) ∧ Q (.int ys.length) H
theorem call_lenK (K : PySem.W.Frag) (hK : X.K = K := by rfl) : CallR X (.builtin "len") (rLenS K) := hK ▸ call_len_seq
def rListO (K : PySem.W.Frag) : List V → Hp → VK → Prop := fun xs H Q => ∃ p ys, xs = [.ref p] ∧ (SqL K H p ys ∨ SqT K H p ys) ∧ ∀ l, H l = none → Q (.ref l) (upd H l (.lst ys))
theorem call_listK (K : PySem.W.Frag) (hK : X.K = K := by rfl) : CallR X (.type "list") (rListO K) := hK ▸ call_list_of
def rTupO (K : PySem.W.Frag) : List V → Hp → VK → Prop := fun xs H Q => ∃ p ys, xs = [.ref p] ∧ ((SqL K H p ys ∧ ∀ l, H l = none → Q (.ref l) (upd H l (.tup ys))) ∨ (SqT K H p ys ∧ Q (.ref p) H))
theorem call_tupleK (K : PySem.W.Frag) (hK : X.K = K := by rfl) : CallR X (.type "tuple") (rTupO K) := hK ▸ call_tuple_of
theorem op_inK (K : PySem.W.Frag) (hK : X.K = K := by rfl) : OpR X (compareOp .In) (rIn K false) := hK ▸ op_in_seq
theorem op_notInK (K : PySem.W.Frag) (hK : X.K = K := by rfl) : OpR X (compareOp .NotIn) (rIn K true) := hK ▸ op_notIn_seq
theorem op_eqDK (K : PySem.W.Frag) (hu : X.A.units + 64 < cLine) (hK : X.K = K := by rfl) : OpR X (compareOp .Eq) (rEqD K) := hK ▸ op_eqD hu
theorem op_neDK (K : PySem.W.Frag) (hu : X.A.units + 64 < cLine) (hK : X.K = K := by rfl) : OpR X (compareOp .NotEq) (rNeD K) := hK ▸ op_neD hu
theorem op_eqEK (K : PySem.W.Frag) (hu : X.A.units < cLine) (hK : X.K = K := by rfl) : OpR X (compareOp .Eq) (rEqE K false) := hK ▸ op_eqE hu
theorem op_neEK (K : PySem.W.Frag) (hu : X.A.units < cLine) (hK : X.K = K := by rfl) : OpR X (compareOp .NotEq) (rEqE K true) := hK ▸ op_neE hu
def rJoin (K : PySem.W.Frag) : V → List V → Hp → VK → Prop := fun x xs H Q => ∃ a p, ∃ ys : List Str, x = .str a ∧ xs = [.ref p] ∧ (SqL K H p (ys.map V.str) ∨ SqT K H p (ys.map V.str)) ∧
  (ys.map (·.length)).sum + ys.length * a.length ≤ 16777216 ∧ Q (.str (Txt.join a ys)) H
theorem mt_joinK (K : PySem.W.Frag) (hK : X.K = K := by rfl) : MtR X "str.join" (rJoin K) := hK ▸ mt_join
theorem pi_listK (K : PySem.W.Frag) {tg : Expr} (hl : PE X e te) (hK : X.K = K := by rfl) : PI X tg e (iList K te) := hK ▸ pi_list hl
theorem pi_tupK (K : PySem.W.Frag) {tg : Expr} (hl : PE X e te) (hK : X.K = K := by rfl) : PI X tg e (iTup K te) := hK ▸ pi_tup hl
theorem call_isiV (K : PySem.W.Frag) (hK : X.K = K := by rfl) : CallR X (.builtin "isinstance") (rIsi K) := hK ▸ call_isi
theorem call_isiTV (K : PySem.W.Frag) (hK : X.K = K := by rfl) : CallR X (.builtin "isinstance") (rIsiT K) := hK ▸ call_isiT
theorem cr_allK (K : PySem.W.Frag) (hc : X.calm = true) (hK : X.K = K := by rfl) : CallR X (.builtin "all") (rAll K) := hK ▸ cr_all hc
end
end My

/-! ## Data: values that are nested lists and tuples -/
namespace My
open PySem L2
mutual
theorem Dp.same {K : PySem.W.Frag} {H H' : Hp} (e : Same H H') : ∀ (d : PyData) (v : V), Dp K H v d → Dp K H' v d
  | .none, _, h => by cases h; exact .non
  | .bool b, _, h => by cases h; exact .bl b
  | .int i, _, h => by cases h; exact .int i
  | .str x, _, h => by cases h; exact .str x
  | .list ds, _, h => by
    cases h with
    | lst hs ha => exact .lst (e.seq hs) (DpAll.same e ds _ ha)
  | .tuple ds, _, h => by
    cases h with
    | tup hs ha =>
      refine .tup ?_ (DpAll.same e ds _ ha)
      rcases hs with (hs | ⟨o, hs⟩) | hs
      · exact .inl (.inl (e _ _ hs))
      · exact .inl (.inr ⟨o, e _ _ hs⟩)
      · exact .inr hs
  | .dict _, _, h => by cases h
theorem DpAll.same {K : PySem.W.Frag} {H H' : Hp} (e : Same H H') : ∀ (ds : List PyData) (vs : List V), DpAll K H vs ds → DpAll K H' vs ds
  | [], _, h => by cases h; exact .nil
  | d :: ds, _, h => by
    cases h with
    | cons h1 h2 => exact .cons (Dp.same e d _ h1) (DpAll.same e ds _ h2)
end
theorem seqL_same {K : PySem.W.Frag} {H H' : Hp} (e : Same H H') {a : Addr} {xs : List V} (h : SqL K H a xs) : SqL K H' a xs := e.seq h
theorem seqT_same {K : PySem.W.Frag} {H H' : Hp} (e : Same H H') {a : Addr} {xs : List V} (hs : SqT K H a xs) : SqT K H' a xs := by
  rcases hs with (hs | ⟨o, hs⟩) | hs
  · exact .inl (.inl (e _ _ hs))
  · exact .inl (.inr ⟨o, e _ _ hs⟩)
  · exact .inr hs
theorem tyL {K : PySem.W.Frag} {H : Hp} {a : Addr} {xs : List V} (h : SqL K H a xs) : TyX K H (.ref a) (.type "list") := by
  rcases h with (h | ⟨o, h⟩) | ⟨o, its, n, h, hc, _⟩
  · exact .base (.lst h)
  · exact .base (.frz h)
  · exact .kList h hc
theorem tyT {K : PySem.W.Frag} {H : Hp} {a : Addr} {xs : List V} (h : SqT K H a xs) : TyX K H (.ref a) (.type "tuple") := by
  rcases h with (h | ⟨o, h⟩) | ⟨o, its, n, h, hc, _⟩
  · exact .base (.tup h)
  · exact .fTuple h
  · exact .kTuple h hc
/-- the type of a datum -/
def tyD : PyData → String
  | .none => "NoneType"
  | .bool _ => "bool"
  | .int _ => "int"
  | .str _ => "str"
  | .list _ => "list"
  | .tuple _ => "tuple"
  | .dict _ => "dict"
theorem Dp.ty {K : PySem.W.Frag} {H : Hp} {v : V} {d : PyData} (h : Dp K H v d) : TyX K H v (.type (tyD d)) := by
  cases h with
  | non => exact .base .non
  | bl b => exact .base (.bl b)
  | int i => exact .base (.int i)
  | str x => exact .base (.str x)
  | lst hs _ => exact tyL hs
  | tup hs _ => exact tyT hs
/-- a datum of bounded depth whose text, if it is one, is short -/
structure Dv (K : PySem.W.Frag) (H : Hp) (v : V) (d : PyData) : Prop where
  dp : Dp K H v d
  sh : SeqAt.shaped d = true
  tx : ∀ x, d = .str x → x.length ≤ 2000
theorem Dv.same {K : PySem.W.Frag} {H H' : Hp} {v : V} {d : PyData} (h : Dv K H v d) (e : Same H H') : Dv K H' v d := ⟨Dp.same e d v h.dp, h.sh, h.tx⟩
/-- a short text of code points -/
def okS (x : Str) : Bool := decide (x.length ≤ 2000) && PyData.strOk x
theorem shaped_str {x : Str} (h : PyData.strOk x = true) : SeqAt.shaped (.str x) = true := by
  unfold SeqAt.shaped
  simp [PyData.canLay0, PyData.depth, h]
theorem Dv.str {K : PySem.W.Frag} {H : Hp} {x : Str} (h : okS x = true) : Dv K H (.str x) (.str x) := by
  have h' := Bool.and_eq_true_iff.mp h
  exact ⟨.str x, shaped_str h'.2, fun y e => by cases e; exact of_decide_eq_true h'.1⟩
theorem Dp.all_strs {K : PySem.W.Frag} {H : Hp} : ∀ l : List Str, DpAll K H (l.map V.str) (l.map PyData.str)
  | [] => .nil
  | x :: l => .cons (.str x) (Dp.all_strs l)
/-- a datum as a text among some -/
def txD (l : List Str) : PyData → Bool
  | .str x => l.contains x
  | _ => false
theorem any_strs (l : List Str) (d : PyData) : ((l.map PyData.str).any fun z => PyData.eqv z d) = txD l d := by
  induction l with
  | nil => cases d <;> rfl
  | cons y l ih =>
    rw [List.map_cons, List.any_cons, ih]
    cases d with
    | str x =>
      show (PyData.eqv (.str y) (.str x) || l.contains x) = (y :: l).contains x
      rw [List.contains_cons, show PyData.eqv (.str y) (.str x) = (y == x) from by simp [PyData.eqv], BEq.comm]
    | _ =>
      show (PyData.eqv (.str y) _ || false) = false
      simp [PyData.eqv]
theorem canLay_strs : ∀ l : List Str, (l.all PyData.strOk) = true → PyData.canLayAll0 (l.map PyData.str) = true
  | [], _ => rfl
  | y :: l, h => by
    rw [List.all_cons, Bool.and_eq_true] at h
    have ih := canLay_strs l h.2
    simp [PyData.canLayAll0, PyData.canLay0, h.1, ih]
theorem depth_strs : ∀ l : List Str, PyData.depthAll (l.map PyData.str) = 0
  | [] => by simp [PyData.depthAll]
  | y :: l => by
    have ih := depth_strs l
    simp [PyData.depthAll, PyData.depth, ih]
theorem shaped_strs {l : List Str} (h : (l.all PyData.strOk) = true) : SeqAt.shaped (.tuple (l.map PyData.str)) = true := by
  unfold SeqAt.shaped
  simp [PyData.canLay0, PyData.depth, canLay_strs l h, depth_strs l]
theorem shapedL_strs {l : List Str} (h : (l.all PyData.strOk) = true) : SeqAt.shaped (.list (l.map PyData.str)) = true := by
  unfold SeqAt.shaped
  simp [PyData.canLay0, PyData.depth, canLay_strs l h, depth_strs l]
section
variable {X : Cx}
def rInT (K : PySem.W.Frag) (neg : Bool) : R2 := fun x y H Q => ∃ d ds, Dp K H x d ∧ Dp K H y (.tuple ds) ∧ SeqAt.shaped d = true ∧ SeqAt.shaped (.tuple ds) = true ∧ Q (.bl (if neg then !ds.any fun z => PyData.eqv z d else ds.any fun z => PyData.eqv z d)) H
theorem op_inT (K : PySem.W.Frag) (hu : X.A.units + 65 < cLine) (hK : X.K = K := by rfl) : OpR X (compareOp .In) (rInT K false) := by
  subst hK
  intro pins s σ H x y v u Q I rx ry h
  obtain ⟨d, ds, hd, he, sd, se, q⟩ := h
  obtain ⟨as, r1⟩ := Dp.reads I d x v hd rx
  obtain ⟨bs, r2⟩ := Dp.reads I (.tuple ds) y u he ry
  exact SeqAt.in_tuple_reads r2 r1 (by simpa [PyData.canLay0] using SeqAt.canLay_of_shaped se) (SeqAt.canLay_of_shaped sd) (by have := SeqAt.depth_of_shaped sd; have := Nat.min_le_right (PyData.depthAll ds) d.depth; omega) ⟨.bl _, H, I, rfl, q⟩
theorem op_notInT (K : PySem.W.Frag) (hu : X.A.units + 65 < cLine) (hK : X.K = K := by rfl) : OpR X (compareOp .NotIn) (rInT K true) := by
  subst hK
  intro pins s σ H x y v u Q I rx ry h
  obtain ⟨d, ds, hd, he, sd, se, q⟩ := h
  obtain ⟨as, r1⟩ := Dp.reads I d x v hd rx
  obtain ⟨bs, r2⟩ := Dp.reads I (.tuple ds) y u he ry
  exact SeqAt.notIn_tuple_reads r2 r1 (by simpa [PyData.canLay0] using SeqAt.canLay_of_shaped se) (SeqAt.canLay_of_shaped sd) (by have := SeqAt.depth_of_shaped sd; have := Nat.min_le_right (PyData.depthAll ds) d.depth; omega) ⟨.bl _, H, I, rfl, q⟩
end
theorem room65 {k : Nat} {A : Around} (r : Room k A) : A.units + 65 < cLine := by have := r.un; omega
end My

/-! ## The law's draws: the box, a draw, a pick -/
namespace My
open PySem L2
def top (i : Nat) : Stmt := PySem.Challenge.pw_wholetraces_k10_services_refused.main.body.getD i (.Pass ⟨0, 0, 0, 0⟩)
abbrev s_box : Stmt := top 33
abbrev N_box : List Str := ["_law_script", "_law_k", "_law_cell", "_law_seed", "_law_wide"]
abbrev P_box : List Str := ["_law_script", "_law_k"]
theorem sc_box : FnScope N_box P_box (defScope s_box) := ⟨rfl, rfl, rfl, by decide +kernel, rfl, by decide +kernel, by decide +kernel⟩
abbrev s_take : Stmt := top 34
abbrev N_take : List Str := ["_law_box_here", "_law_many", "_law_digit", "_law_near"]
abbrev P_take : List Str := ["_law_box_here", "_law_many"]
theorem sc_take : FnScope N_take P_take (defScope s_take) := ⟨rfl, rfl, rfl, by decide +kernel, rfl, by decide +kernel, by decide +kernel⟩
abbrev s_pick : Stmt := top 35
abbrev N_pick : List Str := ["_law_box_here", "_law_some"]
abbrev P_pick : List Str := ["_law_box_here", "_law_some"]
theorem sc_pick : FnScope N_pick P_pick (defScope s_pick) := ⟨rfl, rfl, rfl, by decide +kernel, rfl, by decide +kernel, by decide +kernel⟩
structure TxDraw (w : World) (K : PySem.W.Frag) (mg : Str → Option Value) where
  z_len : mg "len" = none
  z_int : mg "int" = none
  z_abs : mg "abs" = none
  f_take : Addr
  d_take : FuncData
  F_take : Fun K "_law_take" "_law_take" s_take f_take d_take
  m_take : mg "_law_take" = some (.ref f_take)
  b_take : Binds K d_take P_take []
  f_box : Addr
  d_box : FuncData
  F_box : Fun K "_law_box" "_law_box" s_box f_box d_box
  m_box : mg "_law_box" = some (.ref f_box)
  b_box : Binds K d_box P_box []
  f_pick : Addr
  d_pick : FuncData
  F_pick : Fun K "_law_pick" "_law_pick" s_pick f_pick d_pick
  m_pick : mg "_law_pick" = some (.ref f_pick)
  b_pick : Binds K d_pick P_pick []
def spBox (K : PySem.W.Frag) : Sp := fun vs H Q _ => ∃ (a : Addr) (ns : List Int) (k : Int), vs = [.ref a, .int k] ∧ SqL K H a (ns.map V.int) ∧ ns.length ≤ 63 ∧ 0 ≤ k ∧
  ∀ (b : Addr) (w s : Int), H b = none → Q (.ref b) (upd H b (bx w s 0))
def spTake : Sp := fun vs H Q _ => ∃ (b : Addr) (w s c m : Int), vs = [.ref b, .int m] ∧ H b = some (bx w s c) ∧ 0 < m ∧ m < 1073741824 ∧
  ∀ (d w' s' c' : Int), 0 ≤ d → d < m → Q (.int d) (upd H b (bx w' s' c'))
/-- an item of a list that stands at a, another object than the box -/
def spPick (K : PySem.W.Frag) : Sp := fun vs H Q _ => ∃ (b a : Addr) (w s c : Int) (xs : List V), vs = [.ref b, .ref a] ∧ H b = some (bx w s c) ∧ SqL K H a xs ∧ (∀ u, SqL K (upd H b u) a xs) ∧ xs ≠ [] ∧ xs.length ≤ 1000 ∧
  ∀ (x : V) (w' s' c' : Int), x ∈ xs → Q x (upd H b (bx w' s' c'))
section
variable {P : Program} {w : World} {K : PySem.W.Frag} {mg : Str → Option Value} {base : Heap}
theorem ok_take (T : TxDraw w K mg) : FnOk P w K mg base CX0 1 T.f_take T.d_take P_take spTake := by
  refine T.F_take.ok sc_take (fun vs H Q E h => ?_) (fun cdv A outer s H vs Q E hr h => ?_)
  · obtain ⟨b, w, s, c, m, rfl, _⟩ := h
    rfl
  obtain ⟨b, w, s, c, m, rfl, hb, m0, m1, k⟩ := h
  refine ⟨_, (pss_cons (ps_if (pt_cmpR op_gt (pe_ix (ix_listK K) (pv 0) pe_int (fun _ _ => rfl)) pe_int (nomark _)) (pss_cons (ps_set (i := 2) sc_take.nd rfl (Or.inl rfl) (pe_op op_mod (pe_callTy call_int1 (by rfl) T.z_int (by decide +kernel) (pa_cons (pe_ix (ix_listK K) (pv 0) pe_int (fun _ _ => rfl)) pa_nil)) (pv 1)))
      (pss_cons (ps_asg (pe_op op_fdiv (pe_ix (ix_listK K) (pv 0) pe_int (fun _ _ => rfl)) (pv 1)) (pg_sub (pv 0) pe_int set_list))
      (pss_one (ps_ret (pv 2))))) pss_nil)
      (pss_cons (ps_asg (pe_op op_add (pe_ix (ix_listK K) (pv 0) pe_int (fun _ _ => rfl)) pe_int) (pg_sub (pv 0) pe_int set_list))
      (pss_cons (ps_set (i := 3) sc_take.nd rfl (Or.inl rfl) (pe_op op_mod (pe_callTy call_int1 (by rfl) T.z_int (by decide +kernel) (pa_cons (pe_op op_mul (pe_op op_add (pe_ix (ix_listK K) (pv 0) pe_int (fun _ _ => rfl)) (pe_op op_mul pe_int (pe_ix (ix_listK K) (pv 0) pe_int (fun _ _ => rfl)))) pe_int) pa_nil)) pe_int))
      (pss_cons (ps_asg (pe_op op_add (pe_op op_mod (pe_callTy call_int1 (by rfl) T.z_int (by decide +kernel) (pa_cons (pe_op op_add (pe_op op_mul (pv 3) pe_int) pe_int) pa_nil)) pe_int) pe_int) (pg_sub (pv 0) pe_int set_list))
      (pss_one (ps_ret (pe_op op_mod (pe_callTy call_int1 (by rfl) T.z_int (by decide +kernel) (pa_cons (pe_op op_fdiv (pe_op op_add (pe_op op_mul (pv 3) pe_int) (pe_ix (ix_listK K) (pv 0) pe_int (fun _ _ => rfl))) pe_int) pa_nil)) (pv 1)))))))), ?_⟩
  refine ⟨_, rfl, _, _, _, _, rfl, rfl, SqL.of hb, rfl, _, _, rfl, rfl, _, rfl, ?_⟩
  refine ite2 (fun h => ?_) (fun h => ?_)
  · refine ⟨_, rfl, _, _, _, _, rfl, rfl, SqL.of hb, rfl, .inl ⟨_, rfl, _, rfl, _, _, rfl, rfl, m0, ?_⟩⟩
    refine ⟨_, rfl, _, _, _, _, rfl, rfl, SqL.of hb, rfl, _, rfl, _, _, rfl, rfl, ⟨m0, m1⟩, _, rfl, b, _, _, 0, rfl, rfl, hb, rfl, _, rfl, ?_⟩
    exact k _ _ _ _ (Int.emod_nonneg _ (by omega)) (Int.emod_lt_of_pos _ m0)
  · refine ⟨_, rfl, _, _, _, _, rfl, rfl, SqL.of hb, rfl, _, _, rfl, rfl, _, rfl, b, _, _, 2, rfl, rfl, hb, rfl, ?_⟩
    refine ⟨_, rfl, _, _, _, _, rfl, rfl, SqL.of upd_same, rfl, _, rfl, _, _, _, _, rfl, rfl, SqL.of upd_same, rfl, _, _, rfl, rfl, .inl ⟨by decide, by decide⟩, _, _, rfl, rfl, _, _, rfl, rfl, .inr ⟨by decide, by decide⟩, .inl ⟨_, rfl, _, _, rfl, rfl, (by show (0 : Int) < _; decide), ?_⟩⟩
    refine ⟨_, rfl, _, _, rfl, rfl, .inr ⟨by decide, by decide⟩, _, _, rfl, rfl, .inl ⟨_, rfl, _, _, rfl, rfl, (by show (0 : Int) < _; decide), _, _, rfl, rfl, _, rfl, b, _, _, 1, rfl, rfl, upd_same, rfl, ?_⟩⟩
    rw [upd_upd]
    refine ⟨_, rfl, _, _, rfl, rfl, .inr ⟨by decide, by decide⟩, _, rfl, _, _, _, _, rfl, rfl, SqL.of upd_same, rfl, _, _, rfl, rfl, _, _, rfl, rfl, ⟨by decide, by decide⟩, .inl ⟨_, rfl, _, rfl, _, _, rfl, rfl, m0, ?_⟩⟩
    exact k _ _ _ _ (Int.emod_nonneg _ (by omega)) (Int.emod_lt_of_pos _ m0)
theorem ok_box (T : TxDraw w K mg) : FnOk P w K mg base CX0 1 T.f_box T.d_box P_box (spBox K) := by
  refine T.F_box.ok sc_box (fun vs H Q E h => ?_) (fun cdv A outer s H vs Q E hr h => ?_)
  · obtain ⟨a, ns, k, rfl, _⟩ := h
    rfl
  obtain ⟨a, ns, k, rfl, hS, h63, k0, q⟩ := h
  have hl : (ns.map V.int).length = ns.length := List.length_map _
  refine ⟨_, (pss_cons (ps_set (i := 2) sc_box.nd rfl (Or.inl rfl) (pe_op op_add (pe_op op_mul pe_int (pv 1)) pe_int))
      (Evl.pss_cut (ps_if (pt_cmpR op_lt (pv 1) (pe_callB (call_lenK K) (by rfl) T.z_len (by decide +kernel) (pa_cons (pv 0) pa_nil)) (nomark _)) (pss_one (ps_set (i := 2) sc_box.nd rfl (Or.inl rfl) (pe_callB call_abs (by rfl) T.z_abs (by decide +kernel) (pa_cons (pe_callTy call_int1 (by rfl) T.z_int (by decide +kernel) (pa_cons (pe_ix (ix_listK K) (pv 0) (pv 1) (fun _ _ => rfl)) pa_nil)) pa_nil)))) (pss_one (ps_if (pt_cmpR op_gt (pe_callB (call_lenK K) (by rfl) T.z_len (by decide +kernel) (pa_cons (pv 0) pa_nil)) pe_int (nomark _)) (pss_one (ps_set (i := 2) sc_box.nd rfl (Or.inl rfl) (pe_op op_add (pv 2) (pe_op op_mul (pe_op op_mod (pe_callTy call_int1 (by rfl) T.z_int (by decide +kernel) (pa_cons (pe_ix (ix_listK K) (pv 0) (pe_op op_mod (pe_callTy call_int1 (by rfl) T.z_int (by decide +kernel) (pa_cons (pv 1) pa_nil)) (pe_callB (call_lenK K) (by rfl) T.z_len (by decide +kernel) (pa_cons (pv 0) pa_nil))) (fun _ _ => rfl)) pa_nil)) pe_int) pe_int)))) pss_nil)))
      (pss_cons (ps_set (i := 3) sc_box.nd rfl (Or.inl rfl) (pe_op op_add (pe_op op_mod (pe_callTy call_int1 (by rfl) T.z_int (by decide +kernel) (pa_cons (pe_op op_add (pe_op op_add (pe_op op_mul (pe_op op_mod (pe_callTy call_int1 (by rfl) T.z_int (by decide +kernel) (pa_cons (pv 2) pa_nil)) pe_int) pe_int) (pe_op op_mul pe_int (pv 1))) pe_int) pa_nil)) pe_int) pe_int))
      (pss_cons (ps_set (i := 4) sc_box.nd rfl (Or.inl rfl) (pe_ifExp (pt_cmpR op_ge (pv 2) (pe_op op_pow pe_int pe_int) (nomark _)) (pv 2) pe_int))
      (pss_one (ps_ret (pe_lst (pa_cons (pv 4) (pa_cons (pv 3) (pa_cons pe_int pa_nil)))))))))), ?_⟩
  refine ⟨_, rfl, _, _, rfl, rfl, .inl ⟨by decide, by decide⟩, _, _, rfl, rfl, ?_⟩
  refine ⟨fun σ H' => H' = H ∧ ∃ cell : Int, σ = [some (.ref a), some (.int k), some (.int cell), none, none], ?_, ?_⟩
  · refine ⟨_, rfl, _, rfl, _, _, rfl, .inl hS, _, _, rfl, rfl, _, rfl, ?_⟩
    refine ite2 (fun h => ?_) (fun h => ?_)
    · have h' := of_decide_eq_true h
      rw [hl] at h'
      obtain ⟨z, hz⟩ := int_at k0 h'
      exact ⟨_, rfl, _, rfl, _, _, _, _, rfl, rfl, hS, hz, .inl ⟨_, rfl, _, rfl, rfl, _, rfl⟩⟩
    · refine ⟨_, rfl, _, _, rfl, .inl hS, _, _, rfl, rfl, _, rfl, ?_⟩
      refine ite2 (fun h2 => ?_) (fun h2 => ?_)
      · have h2' := of_decide_eq_true h2
        obtain ⟨z, hz⟩ := int_at (ns := ns) (k := k % (((ns.map V.int).length : Nat) : Int)) (Int.emod_nonneg _ (by omega)) (by rw [hl] at h2' ⊢; exact Int.emod_lt_of_pos _ h2')
        exact ⟨_, rfl, _, rfl, _, rfl, .inl ⟨_, rfl, _, rfl, _, _, rfl, .inl hS, _, _, rfl, rfl, h2', _, _, _, _, rfl, rfl, hS, hz, .inl ⟨_, rfl, _, _, rfl, rfl, (by show (0 : Int) < _; decide), _, _, rfl, rfl, .inr ⟨by decide, by decide⟩, _, _, rfl, rfl, rfl, _, rfl⟩⟩⟩
      · exact ⟨rfl, _, rfl⟩
  · rintro σ H' ⟨rfl, cell, rfl⟩
    refine ⟨_, rfl, .inl ⟨_, rfl, _, _, rfl, rfl, (by show (0 : Int) < _; decide), _, _, rfl, rfl, .inr ⟨by decide, by decide⟩, _, rfl, _, _, rfl, rfl, .inl ⟨by decide, by decide⟩, _, _, rfl, rfl, _, _, rfl, rfl, .inl ⟨_, rfl, _, _, rfl, rfl, (by show (0 : Int) < _; decide), _, _, rfl, rfl, ?_⟩⟩⟩
    refine ⟨_, rfl, _, _, rfl, rfl, ⟨by decide, by decide, by decide⟩, _, _, rfl, rfl, _, rfl, ?_⟩
    refine ite2 (fun h => ?_) (fun h => ?_)
    · exact ⟨_, rfl, _, rfl, _, rfl, by show 3 ≤ sizeLine; decide, fun b hb => q b _ _ hb⟩
    · exact ⟨_, rfl, _, rfl, by show 3 ≤ sizeLine; decide, fun b hb => q b _ _ hb⟩
theorem ok_pick (T : TxDraw w K mg) : FnOk P w K mg base CX0 2 T.f_pick T.d_pick P_pick (spPick K) := by
  have G_take : FnOk P w K mg base CX0 1 T.f_take T.d_take P_take spTake := ok_take T
  refine T.F_pick.ok sc_pick (fun vs H Q E h => ?_) (fun cdv A outer s H vs Q E hr h => ?_)
  · obtain ⟨b, a, w, s, c, xs, rfl, _⟩ := h
    rfl
  obtain ⟨b, a, w, s, c, xs, rfl, hb, hS, hk, hne, hlen, q⟩ := h
  refine ⟨_, (pss_one (ps_ret (pe_ix (ix_listK K) (pv 1) (pe_call G_take (hr.mono (by decide)) (by rfl) T.m_take T.F_take.kp T.b_take .nil pass0 (pa_cons (pv 0) (pa_cons (pe_callB (call_lenK K) (by rfl) T.z_len (by decide +kernel) (pa_cons (pv 1) pa_nil)) pa_nil))) (fun _ _ => rfl)))), ?_⟩
  have hp : 0 < xs.length := List.length_pos_iff.mpr hne
  refine ⟨_, rfl, _, rfl, _, rfl, _, _, rfl, .inl hS, b, w, s, c, _, rfl, hb, by omega, by omega, fun d w' s' c' d0 d1 => ?_⟩
  obtain ⟨v, hv, he⟩ := at_some (xs := xs) d0 d1
  exact ⟨_, _, _, _, rfl, rfl, hk _, hv, q v w' s' c' (List.mem_of_getElem? he)⟩
/-- the same, the heap behind told by what stands -/
def spTakeG : Sp := fun vs H Q _ => ∃ (b : Addr) (m : Int), vs = [.ref b, .int m] ∧ Gr b H H ∧ 0 < m ∧ m < 1073741824 ∧
  ∀ (d : Int) (H' : Hp), 0 ≤ d → d < m → Gr b H H' → Q (.int d) H'
def spPickG : Sp := fun vs H Q _ => ∃ (b a : Addr) (xs : List V), vs = [.ref b, .ref a] ∧ Gr b H H ∧ At b H a (.lst xs) ∧ xs ≠ [] ∧ xs.length ≤ 1000 ∧
  ∀ (x : V) (H' : Hp), x ∈ xs → Gr b H H' → Q x H'
theorem ok_takeG (T : TxDraw w K mg) : FnOk P w K mg base CX0 1 T.f_take T.d_take P_take spTakeG := (ok_take T).imp fun vs H Q E h => by
  obtain ⟨b, m, rfl, g, m0, m1, k⟩ := h
  obtain ⟨w, s, c, hb⟩ := g.box
  exact ⟨b, w, s, c, m, rfl, hb, m0, m1, fun d w' s' c' d0 d1 => k d _ d0 d1 (g.draw _ _ _)⟩
theorem ok_pickG (T : TxDraw w K mg) : FnOk P w K mg base CX0 2 T.f_pick T.d_pick P_pick spPickG := (ok_pick T).imp fun vs H Q E h => by
  obtain ⟨b, a, xs, rfl, g, ha, hne, hl, k⟩ := h
  obtain ⟨w, s, c, hb⟩ := g.box
  exact ⟨b, a, w, s, c, xs, rfl, hb, ha.l, fun u => SqL.of (by rw [upd_ne ha.ne]; exact ha.at_), hne, hl, fun x w' s' c' hx => k x _ hx (g.draw _ _ _)⟩
end
end My

/-! ## Names: what a name is, lists mixed, names drawn -/
namespace My
open PySem L2
/-- the words that are no names -/
def BAR : List Str := ["none", "any", "same", "keep", "drop", "good", "bad", "old", "new", "both"]
def ABC : Str := "abcdefghijklmnopqrstuvwxyz"
/-- a name: one to four small letters, none of those words -/
def isNm (x : Str) : Bool := decide (1 ≤ x.length) && decide (x.length ≤ 4) && !(BAR.contains x) && x.cps.toList.all fun c => decide (c ∈ ABC.cps.toList)
theorem isNm_len {x : Str} (h : isNm x = true) : 1 ≤ x.length ∧ x.length ≤ 4 := by
  unfold isNm at h
  simp only [Bool.and_eq_true, decide_eq_true_eq] at h
  exact h.1.1
abbrev s_mixed : Stmt := top 36
abbrev N_mixed : List Str := ["_law_box_here", "_law_some", "_law_left", "_law_found"]
abbrev P_mixed : List Str := ["_law_box_here", "_law_some"]
theorem sc_mixed : FnScope N_mixed P_mixed (defScope s_mixed) := ⟨rfl, rfl, rfl, by decide +kernel, rfl, by decide +kernel, by decide +kernel⟩
abbrev s_names : Stmt := top 37
abbrev N_names : List Str := ["_law_box_here", "_law_many", "_law_words_here", "_law_letters", "_law_form", "_law_spot", "_law_k"]
abbrev P_names : List Str := ["_law_box_here", "_law_many"]
theorem sc_names : FnScope N_names P_names (defScope s_names) := ⟨rfl, rfl, rfl, by decide +kernel, rfl, by decide +kernel, by decide +kernel⟩
structure TxNames (w : World) (K : PySem.W.Frag) (mg : Str → Option Value) extends TxDraw w K mg where
  z_list : mg "list" = none
  z_range : mg "range" = none
  f_mixed : Addr
  d_mixed : FuncData
  F_mixed : Fun K "_law_mixed" "_law_mixed" s_mixed f_mixed d_mixed
  m_mixed : mg "_law_mixed" = some (.ref f_mixed)
  b_mixed : Binds K d_mixed P_mixed []
  f_names : Addr
  d_names : FuncData
  F_names : Fun K "_law_names" "_law_names" s_names f_names d_names
  m_names : mg "_law_names" = some (.ref f_names)
  b_names : Binds K d_names P_names []
def spMixed : Sp := fun vs H Q _ => ∃ (b a : Addr) (xs : List V), vs = [.ref b, .ref a] ∧ Gr b H H ∧ At b H a (.lst xs) ∧ xs.length ≤ 1000 ∧
  ∀ (p : Addr) (ys : List V) (H' : Hp), Gr b H H' → H p = none → At b H' p (.lst ys) → ys.Perm xs → Q (.ref p) H'
def spNames : Sp := fun vs H Q _ => ∃ (b : Addr) (n : Int), vs = [.ref b, .int n] ∧ Gr b H H ∧ 0 ≤ n ∧ n ≤ 12 ∧
  ∀ (p : Addr) (ys : List Str) (H' : Hp), Gr b H H' → H p = none → At b H' p (.lst (ys.map V.str)) → (ys.length : Int) = n → ys.Nodup → (∀ y ∈ ys, isNm y = true) → Q (.ref p) H'
/-- the same, and that none of them is the word of a stranger -/
def spNamesZ : Sp := fun vs H Q _ => ∃ (b : Addr) (n : Int), vs = [.ref b, .int n] ∧ Gr b H H ∧ 0 ≤ n ∧ n ≤ 12 ∧
  ∀ (p : Addr) (ys : List Str) (H' : Hp), Gr b H H' → H p = none → At b H' p (.lst (ys.map V.str)) → (ys.length : Int) = n → ys.Nodup → (∀ y ∈ ys, isNm y = true ∧ y ≠ "zx") → Q (.ref p) H'
theorem eraseIdx_perm {xs : List V} {k : Nat} {y : V} (h : xs[k]? = some y) : (y :: xs.eraseIdx k).Perm xs := by
  induction xs generalizing k with
  | nil => simp at h
  | cons x xs ih =>
    cases k with
    | zero =>
      simp at h
      subst h
      exact List.Perm.refl _
    | succ k =>
      simp at h
      exact (List.Perm.swap x y _).trans ((ih h).cons x)
theorem seq_ix {d : Int} {n : Nat} (h0 : 0 ≤ d) (h1 : d < (n : Int)) : seqIndex? d n = some d.toNat := by
  unfold seqIndex?
  rw [if_neg (by omega : ¬ d < 0)]
  have e : (decide (0 ≤ d) && decide (d < (n : Int))) = true := by rw [decide_eq_true h0, decide_eq_true h1]; rfl
  exact if_pos e
theorem perm_of_map {α β : Type} {f : α → β} {ys xs' : List β} (h : ys.Perm xs') : ∀ xs : List α, xs' = xs.map f → ∃ zs : List α, ys = zs.map f ∧ zs.Perm xs := by
  induction h with
  | nil =>
    intro xs e
    cases xs with
    | nil => exact ⟨[], rfl, .refl _⟩
    | cons a t => cases e
  | cons x h ih =>
    intro xs e
    cases xs with
    | nil => cases e
    | cons a t =>
      injection e with e1 e2
      obtain ⟨zs, e3, p⟩ := ih t e2
      exact ⟨a :: zs, by rw [List.map_cons, e1, e3], p.cons a⟩
  | swap x y l =>
    intro xs e
    cases xs with
    | nil => cases e
    | cons a t =>
      cases t with
      | nil => injection e with _ e2; cases e2
      | cons c t =>
        injection e with e1 e2
        injection e2 with e2 e3
        exact ⟨c :: a :: t, by rw [List.map_cons, List.map_cons, e1, e2, e3], .swap a c t⟩
  | trans h1 h2 ih1 ih2 =>
    intro xs e
    obtain ⟨zs, e1, p1⟩ := ih2 xs e
    obtain ⟨ws, e2, p2⟩ := ih1 zs e1
    exact ⟨ws, e2, p2.trans p1⟩
section
variable {P : Program} {w : World} {K : PySem.W.Frag} {mg : Str → Option Value} {base : Heap}
theorem ok_mixed (T : TxNames w K mg) : FnOk P w K mg base CX0 2 T.f_mixed T.d_mixed P_mixed spMixed := by
  have G_take : FnOk P w K mg base CX0 1 T.f_take T.d_take P_take spTake := ok_take T.toTxDraw
  refine T.F_mixed.ok sc_mixed (fun vs H Q E h => ?_) (fun cdv A outer s H vs Q E hr h => ?_)
  · obtain ⟨b, a, xs, rfl, _⟩ := h
    rfl
  obtain ⟨b, a, xs, rfl, g0, ha, hlen, q⟩ := h
  refine ⟨_, (pss_cons (ps_par (i := 2) (j := 3) (by rfl) sc_mixed.nd rfl rfl (by decide) rfl rfl (pa_cons (pe_callTy (call_listK K) (by rfl) T.z_list (by decide +kernel) (pa_cons (pv 1) pa_nil)) (pa_cons (pe_lst pa_nil) pa_nil)) (by rfl))
      (pss_cons (ps_while PassesOwn.never (pt_cmpR (op_neEK K hr.units0) (pv 2) (pe_lst pa_nil) (nomark _)) (pss_one (ps_expr (pe_bm PySem.F.plainAttrs_list PySem.F.slot_list_append PySem.F.type_list_append mt_append (pv 3) (pa_cons (pe_bm PySem.F.plainAttrs_list PySem.F.slot_list_pop PySem.F.type_list_pop mt_popAt (pv 2) (pa_cons (pe_call G_take (hr.mono (by decide)) (by rfl) T.m_take T.F_take.kp T.b_take .nil pass0 (pa_cons (pv 0) (pa_cons (pe_callB (call_lenK K) (by rfl) T.z_len (by decide +kernel) (pa_cons (pv 2) pa_nil)) pa_nil))) pa_nil)) pa_nil)))))
      (pss_one (ps_ret (pv 3))))), ?_⟩
  refine ⟨_, rfl, a, _, rfl, .inl ha.l, fun l hl => ⟨Nat.zero_le _, fun p hp => ?_⟩⟩
  have g1 : Gr b H (upd H l (.lst xs)) := g0.new hl _
  have g2 : Gr b H (upd (upd H l (.lst xs)) p (.lst [])) := g1.new hp _
  have nlb := g0.ne_new hl
  have npb := g1.ne_new hp
  have hp0 := g1.free hp
  have npl : p ≠ l := fun e => by rw [e, upd_same] at hp; cases hp
  refine ⟨_, _, rfl, while_by (fun σ H' => ∃ ls fs : List V, σ = [some (.ref b), some (.ref a), some (.ref l), some (.ref p)] ∧ Gr b H H' ∧ H' l = some (.lst ls) ∧ H' p = some (.lst fs) ∧ (fs ++ ls).Perm xs)
    (fun σ H' => match H' l with | some (.lst ls) => ls.length | _ => 0) ⟨xs, [], rfl, g2, by rw [upd_ne npl.symm, upd_same], upd_same, List.Perm.refl _⟩ ?_ ?_⟩
  · rintro σ H1 ⟨ls, fs, rfl, g3, h1, h2, pm⟩
    refine ⟨_, rfl, Nat.zero_le _, fun e he => ⟨l, e, ls, rfl, rfl, SqL.of (by rw [upd_ne (ne_of_none h1 he)]; exact h1), SqL.of upd_same, _, rfl, ?_⟩⟩
    have ple : fs.length + ls.length = xs.length := by rw [← List.length_append]; exact pm.length_eq
    cases ls with
    | nil =>
      refine iteF ?_
      have g4 := g3.new he (.lst [])
      refine ⟨_, rfl, q p fs _ g4 hp0 ⟨npb, by rw [upd_ne (ne_of_none h2 he)]; exact h2⟩ (by rw [List.append_nil] at pm; exact pm)⟩
    | cons x ls =>
      refine iteT ?_
      obtain ⟨w3, s3, c3, hb3⟩ := g3.box
      have g4 := g3.new he (.lst [])
      have neb : e ≠ b := g3.ne_new he
      have h1e : upd H1 e (.lst []) l = some (.lst (x :: ls)) := by rw [upd_ne (ne_of_none h1 he)]; exact h1
      have h2e : upd H1 e (.lst []) p = some (.lst fs) := by rw [upd_ne (ne_of_none h2 he)]; exact h2
      have hbe : upd H1 e (.lst []) b = some (bx w3 s3 c3) := by rw [upd_ne neb.symm]; exact hb3
      refine ⟨_, rfl, .inl ⟨rfl, _, SqL.of h2e⟩, _, rfl, .inl ⟨rfl, _, SqL.of h1e⟩, _, rfl, _, rfl, _, _, rfl, .inl (SqL.of h1e), b, w3, s3, c3, _, rfl, hbe, by rw [List.length_cons]; omega, by rw [List.length_cons] at ple ⊢; omega, fun d w' s' c' d0 d1 => ?_⟩
      obtain ⟨v, _, hv⟩ := at_some (xs := x :: ls) d0 d1
      refine ⟨l, x :: ls, d, d.toNat, v, rfl, rfl, by rw [upd_ne nlb]; exact h1e, by omega, by rw [List.length_cons] at ple d1; omega, seq_ix d0 d1, hv, ?_⟩
      refine ⟨p, fs, v, rfl, rfl, by rw [upd_ne npl, upd_ne npb]; exact h2e, ?_, ?_⟩
      · rw [List.length_cons] at ple
        exact small1000 (by omega)
      · have er : ((x :: ls).eraseIdx d.toNat).length < (x :: ls).length := by
          rw [List.length_eraseIdx_of_lt (by rw [List.length_cons] at d1 ⊢; omega), List.length_cons]
          omega
        refine ⟨⟨(x :: ls).eraseIdx d.toNat, fs ++ [v], rfl, ((g4.draw _ _ _).mut (g0.free hl) nlb _).mut hp0 npb _, by rw [upd_ne npl.symm, upd_same], upd_same, ?_⟩, ?_⟩
        · rw [List.append_assoc]
          exact ((eraseIdx_perm hv).append_left fs).trans pm
        · rw [upd_ne npl.symm, upd_same, h1]
          exact er
  · rintro σ H1 Q1 Q2 imp ⟨v, hv, h0, h⟩
    exact ⟨v, hv, h0, fun e he => by
      obtain ⟨a', q', xs', e1, e2, e3, e4, k, e5, h5⟩ := h e he
      exact ⟨a', q', xs', e1, e2, e3, e4, k, e5, imp _ _ h5⟩⟩
/-- the words of the first kind of names -/
def WORDS : List Str := ["send", "back", "end", "root", "wait", "a", "ab", "abc", "zzzz", "row", "hear", "x"]
/-- the k-th of the first kind from a start, of the third kind, of the second -/
def wd (sp : Int) (k : Nat) : Str := WORDS.getD ((sp + 5 * (k : Int)) % 12).toNat Str.empty
def lt (sp : Int) (k : Nat) : Str := ⟨#[ABC.cps.toList.getD ((sp + 7 * (k : Int)) % 26).toNat 0]⟩ ++ ⟨(timesL [118] (sp % 4).toNat).toArray⟩
def tt (k : Nat) : Str := cutS "tttt" none (some ((k : Int) + 1))
theorem at_getD {l : List Str} {k : Int} (h0 : 0 ≤ k) (h1 : k < (l.length : Int)) : atI (l.map V.str) k = some (.str (l.getD k.toNat Str.empty)) := by
  have hk : k.toNat < l.length := by omega
  have h3 : atI (l.map V.str) ((k.toNat : Nat) : Int) = some (.str (l.getD k.toNat Str.empty)) := atI_nat (by rw [List.getElem?_map]; simp [hk, List.getD])
  rwa [show ((k.toNat : Nat) : Int) = k by omega] at h3
theorem at_getN {l : List Nat} {k : Int} (h0 : 0 ≤ k) (h1 : k < (l.length : Int)) : atI l k = some (l.getD k.toNat 0) := by
  have hk : k.toNat < l.length := by omega
  have h3 : atI l ((k.toNat : Nat) : Int) = some (l.getD k.toNat 0) := atI_nat (by simp [hk, List.getD])
  rwa [show ((k.toNat : Nat) : Int) = k by omega] at h3
theorem range_more {α : Type} (f : Nat → α) (i : Nat) : (List.range (i + 1)).map f = (List.range i).map f ++ [f i] := by rw [List.range_succ, List.map_append]; rfl
/-- names by their number: no two alike -/
theorem nodup_map {α : Type} {f : Nat → α} {n : Nat} (h : ∀ i j, i < n → j < n → f i = f j → i = j) : ((List.range n).map f).Nodup := by
  rw [List.Nodup, List.pairwise_map]
  exact List.Pairwise.imp_of_mem (fun {a b} ha hb hab e => hab (h a b (List.mem_range.mp ha) (List.mem_range.mp hb) e)) List.nodup_range
theorem WORDS_nd : ∀ i < 12, ∀ j < 12, WORDS.getD i Str.empty = WORDS.getD j Str.empty → i = j := by decide +kernel
theorem WORDS_nm : ∀ i < 12, isNm (WORDS.getD i Str.empty) = true := by decide +kernel
theorem wd_nd {sp : Int} {i j : Nat} (hi : i < 12) (hj : j < 12) (h : wd sp i = wd sp j) : i = j := by
  have e := WORDS_nd _ (by omega) _ (by omega) h
  omega
theorem wd_nm {sp : Int} {i : Nat} : isNm (wd sp i) = true := WORDS_nm _ (by omega)
theorem tt_nd : ∀ i < 4, ∀ j < 4, tt i = tt j → i = j := by decide +kernel
theorem tt_nm : ∀ i < 4, isNm (tt i) = true := by decide +kernel
theorem lt_nm0 : ∀ i < 26, ∀ k < 4, isNm (⟨#[ABC.cps.toList.getD i 0]⟩ ++ ⟨(timesL [118] k).toArray⟩) = true := by decide +kernel
theorem lt_nd0 : ∀ i < 26, ∀ j < 26, ∀ k < 4, (⟨#[ABC.cps.toList.getD i 0]⟩ ++ ⟨(timesL [118] k).toArray⟩ : Str) = ⟨#[ABC.cps.toList.getD j 0]⟩ ++ ⟨(timesL [118] k).toArray⟩ → i = j := by decide +kernel
theorem lt_nm {sp : Int} {i : Nat} : isNm (lt sp i) = true := lt_nm0 _ (by omega) _ (by omega)
theorem lt_nd {sp : Int} {i j : Nat} (hi : i < 12) (hj : j < 12) (h : lt sp i = lt sp j) : i = j := by
  have e := lt_nd0 _ (by omega) _ (by omega) _ (by omega) h
  omega
theorem WORDS_zx : ∀ i < 12, WORDS.getD i Str.empty ≠ "zx" := by decide +kernel
theorem wd_zx {sp : Int} {i : Nat} : wd sp i ≠ "zx" := WORDS_zx _ (by omega)
theorem tt_zx : ∀ i < 4, tt i ≠ "zx" := by decide +kernel
theorem lt_zx0 : ∀ i < 26, ∀ k < 4, (⟨#[ABC.cps.toList.getD i 0]⟩ ++ ⟨(timesL [118] k).toArray⟩ : Str) ≠ "zx" := by decide +kernel
theorem lt_zx {sp : Int} {i : Nat} : lt sp i ≠ "zx" := lt_zx0 _ (by omega) _ (by omega)
theorem ok_namesZ (T : TxNames w K mg) : FnOk P w K mg base CX0 3 T.f_names T.d_names P_names spNamesZ := by
  have G_take : FnOk P w K mg base CX0 1 T.f_take T.d_take P_take spTakeG := ok_takeG T.toTxDraw
  have G_mixed : FnOk P w K mg base CX0 2 T.f_mixed T.d_mixed P_mixed spMixed := ok_mixed T
  refine T.F_names.ok sc_names (fun vs H Q E h => ?_) (fun cdv A outer s H vs Q E hr h => ?_)
  · obtain ⟨b, n, rfl, _⟩ := h
    rfl
  obtain ⟨b, n, rfl, g0, n0, n12, q⟩ := h
  refine ⟨_, (pss_cons (ps_set (i := 2) sc_names.nd rfl (Or.inr rfl) (pe_lst (pa_cons pe_str (pa_cons pe_str (pa_cons pe_str (pa_cons pe_str (pa_cons pe_str (pa_cons pe_str (pa_cons pe_str (pa_cons pe_str (pa_cons pe_str (pa_cons pe_str (pa_cons pe_str (pa_cons pe_str pa_nil))))))))))))))
      (pss_cons (ps_asg (pe_tup (pa_cons pe_str (pa_cons (pe_call G_take (hr.mono (by decide)) (by rfl) T.m_take T.F_take.kp T.b_take .nil pass0 (pa_cons (pv 0) (pa_cons pe_int pa_nil))) (pa_cons (pe_call G_take (hr.mono (by decide)) (by rfl) T.m_take T.F_take.kp T.b_take .nil pass0 (pa_cons (pv 0) (pa_cons pe_int pa_nil))) pa_nil)))) (pg_tup rfl (pgs_cons (pg_name (i := 3) sc_names.nd rfl (Or.inr rfl)) (pgs_cons (pg_name (i := 4) sc_names.nd rfl (Or.inl rfl)) (pgs_cons (pg_name (i := 5) sc_names.nd rfl (Or.inr rfl)) pgs_nil)))))
      (pss_cons (ps_if (pt_cmpR op_eq (pv 4) pe_int (nomark _)) (pss_one (ps_ret (pe_lc (own := [("_law_k", 6)]) (g := gName 6) (by rfl) sc_names.nd (pi_range1 (by rfl) T.z_range (pa_cons (pv 1) pa_nil)) (blkOk_by (own := [("_law_k", 6)]) (N := N_names) (sc := defScope s_names) (by decide +kernel)) (fun _ _ _ _ _ => (pg_name (i := 6) sc_names.nd rfl (Or.inl rfl))) (fun _ _ _ _ _ => pts_nil) (fun _ _ _ _ _ => (pe_ix (ix_listK K) (pv 2) (pe_op op_mod (pe_callTy call_int1 (by rfl) T.z_int (by decide +kernel) (pa_cons (pe_op op_add (pv 5) (pe_op op_mul pe_int (pv 6))) pa_nil)) pe_int) (fun _ _ => rfl)))))) pss_nil)
      (pss_cons (ps_if (PW.pt (pw_and (pt_cmpR op_eq (pv 4) pe_int (nomark _)) (pw_and1 (pt_cmpR op_lt (pv 1) pe_int (nomark _))))) (pss_one (ps_ret (pe_call G_mixed (hr.mono (by decide)) (by rfl) T.m_mixed T.F_mixed.kp T.b_mixed .nil pass0 (pa_cons (pv 0) (pa_cons (pe_lc (own := [("_law_k", 6)]) (g := gName 6) (by rfl) sc_names.nd (pi_range1 (by rfl) T.z_range (pa_cons (pv 1) pa_nil)) (blkOk_by (own := [("_law_k", 6)]) (N := N_names) (sc := defScope s_names) (by decide +kernel)) (fun _ _ _ _ _ => (pg_name (i := 6) sc_names.nd rfl (Or.inl rfl))) (fun _ _ _ _ _ => pts_nil) (fun _ _ _ _ _ => (pe_slice sl_str pe_str po_none (po_some (pe_op op_add (pv 6) pe_int))))) pa_nil))))) pss_nil)
      (pss_one (ps_ret (pe_lc (own := [("_law_k", 6)]) (g := gName 6) (by rfl) sc_names.nd (pi_range1 (by rfl) T.z_range (pa_cons (pv 1) pa_nil)) (blkOk_by (own := [("_law_k", 6)]) (N := N_names) (sc := defScope s_names) (by decide +kernel)) (fun _ _ _ _ _ => (pg_name (i := 6) sc_names.nd rfl (Or.inl rfl))) (fun _ _ _ _ _ => pts_nil) (fun _ _ _ _ _ => (pe_op op_add_str (pe_ix ix_str (pv 3) (pe_op op_mod (pe_callTy call_int1 (by rfl) T.z_int (by decide +kernel) (pa_cons (pe_op op_add (pv 5) (pe_op op_mul pe_int (pv 6))) pa_nil)) pe_int) (fun _ _ => rfl)) (pe_op op_mul_str pe_str (pe_op op_mod (pe_callTy call_int1 (by rfl) T.z_int (by decide +kernel) (pa_cons (pv 5) pa_nil)) pe_int))))))))))), ?_⟩
  refine ⟨by show 12 ≤ sizeLine; decide, fun wa hwa => ?_⟩
  have a1 : At b _ wa (.lst (WORDS.map V.str)) := .mk_new g0 hwa _
  have g1 := g0.new hwa (.lst (WORDS.map V.str))
  refine ⟨_, rfl, b, _, rfl, ⟨fun _ _ _ e => e, g1.box⟩, by decide, by decide, fun fo H2 fo0 fo1 g2 => ?_⟩
  refine ⟨_, rfl, b, _, rfl, ⟨fun _ _ _ e => e, g2.box⟩, by decide, by decide, fun sp H3 sp0 sp1 g3 => ?_⟩
  refine ⟨by show 3 ≤ sizeLine; decide, fun tp htp => ⟨tp, _, rfl, SqT.of upd_same, rfl, _, _, rfl, _, _, rfl, _, _, rfl, rfl, ?_⟩⟩
  have a4 := ((a1.gr g2).gr g3).new (u := .tup [.str ABC, .int fo, .int sp]) htp
  have g4 := ((g1.trans g2).trans g3).new htp (.tup [.str ABC, .int fo, .int sp])
  refine ⟨_, rfl, rfl, _, rfl, ?_⟩
  refine ite2 (fun c1 => ?_) (fun c1 => ?_)
  · refine ⟨_, rfl, n, rfl, by omega, by omega, fun D hD => lc_range (lo := 0) (n := n.toNat) (fun i H' => Gr b H H' ∧ At b H' wa (.lst (WORDS.map V.str)) ∧ At b H' D (.lst (((List.range i).map (wd sp)).map V.str))) ⟨g4.new hD _, a4.new hD, .mk_new g4 hD _⟩ ?_ ?_⟩
    · rintro i H' hi ⟨g5, aw, aD⟩
      refine ⟨rfl, ?_⟩
      refine ⟨_, rfl, _, rfl, _, rfl, _, _, rfl, rfl, .inl ⟨by decide, by decide⟩, _, _, rfl, rfl, .inl ⟨_, rfl, _, _, rfl, rfl, (by show (0 : Int) < _; decide), wa, _, _, _, rfl, rfl, aw.l, at_getD (Int.emod_nonneg _ (by decide)) (Int.emod_lt_of_pos _ (by decide)), _, aD.at_, small1000 (by simp; omega), ?_⟩⟩
      refine ⟨g5.mut (g4.free hD) aD.ne _, ⟨aw.ne, by rw [upd_ne (a4.nep hD)]; exact aw.at_⟩, aD.ne, ?_⟩
      rw [upd_same, range_more, List.map_append]
      simp [wd]
    · rintro H' ⟨g5, _, a5⟩
      exact q D _ H' g5 (g4.free hD) a5 (by simp; omega) (nodup_map fun i j hi hj => wd_nd (by omega) (by omega)) (fun y hy => by
        obtain ⟨i, _, rfl⟩ := List.mem_map.mp hy
        exact ⟨wd_nm, wd_zx⟩)
  · have three : ∀ (H5 : Hp) (σ : St), σ = [some (.ref b), some (.int n), some (.ref wa), some (.str ABC), some (.int fo), some (.int sp), none] → Gr b H H5 →
        tRet (tLc (iRng1 (tCons (tVar 1) tNil)) (gName 6) tYes (tOp (fun x y H Q => ∃ i j, x = V.str i ∧ y = V.str j ∧ i.length + j.length ≤ sizeLine ∧ Q (V.str (i ++ j)) H)
          (tOp rIxS (tVar 3) (tOp (rI (fun x j => 0 < j) fun i j => V.int (i % j)) (tCB (fun xs H Q => (∃ i, xs = [V.int i] ∧ Q (V.int i) H) ∨ ∃ k, xs = [V.bl k] ∧ Q (V.int (if k = true then 1 else 0)) H)
            (tCons (tOp (rI0 fun i j => V.int (i + j)) (tVar 5) (tOp (rI CMul fun i j => V.int (i * j)) (tC (V.int 7)) (tVar 6))) tNil)) (tC (V.int 26))))
          (tOp (fun x y H Q => ∃ z n, x = V.str z ∧ y = V.int n ∧ 0 ≤ n ∧ n ≤ 1000 ∧ z.length ≤ 1000 ∧ Q (V.str { cps := (timesL z.cps.toList n.toNat).toArray }) H) (tC (V.str (Str.ofString "v")))
            (tOp (rI (fun x j => 0 < j) fun i j => V.int (i % j)) (tCB (fun xs H Q => (∃ i, xs = [V.int i] ∧ Q (V.int i) H) ∨ ∃ k, xs = [V.bl k] ∧ Q (V.int (if k = true then 1 else 0)) H) (tCons (tVar 5) tNil)) (tC (V.int 4)))))
          (List.map (fun x => x.snd) [(Str.ofString "_law_k", 6)])) { nx := fun _ H' => Q .non H', rt := Q } σ H5 := by
      rintro H5 σ rfl g5
      refine ⟨_, rfl, n, rfl, by omega, by omega, fun D hD => lc_range (lo := 0) (n := n.toNat) (fun i H' => Gr b H H' ∧ At b H' D (.lst (((List.range i).map (lt sp)).map V.str))) ⟨g5.new hD _, .mk_new g5 hD _⟩ ?_ ?_⟩
      · rintro i H' hi ⟨g6, aD⟩
        refine ⟨rfl, ?_⟩
        refine ⟨_, rfl, _, rfl, _, rfl, _, _, rfl, rfl, .inl ⟨by decide, by decide⟩, _, _, rfl, rfl, .inl ⟨_, rfl, _, _, rfl, rfl, (by show (0 : Int) < _; decide), ABC, _, _, rfl, rfl, by decide +kernel, at_getN (Int.emod_nonneg _ (by decide)) (Int.emod_lt_of_pos _ (by decide)), ?_⟩⟩
        refine ⟨_, rfl, .inl ⟨_, rfl, _, _, rfl, rfl, (by show (0 : Int) < _; decide), _, _, rfl, rfl, Int.emod_nonneg _ (by decide), by have := Int.emod_lt_of_pos sp (show (0 : Int) < 4 by decide); omega, by decide +kernel, _, _, rfl, rfl, ?_, _, aD.at_, small1000 (by simp; omega), ?_⟩⟩
        · show 1 + (timesL [118] (sp % 4).toNat).toArray.size ≤ sizeLine
          rw [List.size_toArray, timesL_len, sizeLine_eq]
          have := Int.emod_lt_of_pos sp (show (0 : Int) < 4 by decide)
          simp only [List.length_singleton]
          omega
        · refine ⟨g6.mut (g5.free hD) aD.ne _, aD.ne, ?_⟩
          rw [upd_same, range_more, List.map_append]
          simp [lt]
          rfl
      · rintro H' ⟨g6, a6⟩
        exact q D _ H' g6 (g5.free hD) a6 (by simp; omega) (nodup_map fun i j hi hj => lt_nd (by omega) (by omega)) (fun y hy => by
          obtain ⟨i, _, rfl⟩ := List.mem_map.mp hy
          exact ⟨lt_nm, lt_zx⟩)
    refine ⟨_, rfl, rfl, _, rfl, ?_⟩
    refine ite2 (fun c2 => ?_) (fun c2 => ?_)
    · refine ⟨_, rfl, _, _, rfl, rfl, _, rfl, ?_⟩
      refine ite2 (fun c3 => ?_) (fun c3 => ?_)
      · have n5 : n < 5 := of_decide_eq_true c3
        refine ⟨_, rfl, _, rfl, n, rfl, by omega, by omega, fun D hD => lc_range (lo := 0) (n := n.toNat) (fun i H' => Gr b H H' ∧ At b H' D (.lst (((List.range i).map tt).map V.str))) ⟨g4.new hD _, .mk_new g4 hD _⟩ ?_ ?_⟩
        · rintro i H' hi ⟨g6, aD⟩
          refine ⟨rfl, ?_⟩
          refine ⟨_, rfl, _, _, rfl, rfl, _, rfl, _, rfl, by decide +kernel, _, aD.at_, small1000 (by simp; omega), ?_⟩
          refine ⟨g6.mut (g4.free hD) aD.ne _, aD.ne, ?_⟩
          rw [upd_same, range_more, List.map_append]
          simp [tt]
        · rintro H' ⟨g6, a6⟩
          refine ⟨b, D, _, rfl, ⟨fun _ _ _ e => e, g6.box⟩, a6, by simp; omega, fun p ys H7 g7 hp a7 pm => ?_⟩
          obtain ⟨zs, e, pm2⟩ : ∃ zs : List Str, ys = zs.map V.str ∧ zs.Perm ((List.range n.toNat).map tt) := perm_of_map pm _ rfl
          subst e
          exact q p zs H7 (g6.trans g7) (g6.free hp) a7 (by rw [pm2.length_eq]; simp; omega) (pm2.nodup_iff.mpr (nodup_map fun i j hi hj => tt_nd i (by omega) j (by omega))) (fun y hy => by
            obtain ⟨i, hi, rfl⟩ := List.mem_map.mp (pm2.mem_iff.mp hy)
            exact ⟨tt_nm i (by have := List.mem_range.mp hi; omega), tt_zx i (by have := List.mem_range.mp hi; omega)⟩)
      · exact three _ _ rfl g4
    · exact three _ _ rfl g4
theorem ok_names (T : TxNames w K mg) : FnOk P w K mg base CX0 3 T.f_names T.d_names P_names spNames := (ok_namesZ T).imp fun vs H Q E h => by
  obtain ⟨b, n, e, g, n0, n1, q⟩ := h
  exact ⟨b, n, e, g, n0, n1, fun p ys H' g' hp a l nd m => q p ys H' g' hp a l nd fun y hy => (m y hy).1⟩
end
end My

/-! ## The program: what is a name -/
namespace My
open PySem L2
abbrev s_is_name : Stmt := top 2
abbrev N_is_name : List Str := ["value"]
abbrev P_is_name : List Str := ["value"]
theorem sc_is_name : FnScope N_is_name P_is_name (defScope s_is_name) := ⟨rfl, rfl, rfl, by decide +kernel, rfl, by decide +kernel, by decide +kernel⟩
/-- a text, or a thing that is none -/
inductive AnyV (K : PySem.W.Frag) (H : Hp) : V → Prop where
  | str (x : Str) (h : x.length ≤ 2000) : AnyV K H (.str x)
  | oth {v : V} {t : Value} (n : ∀ x, v ≠ .str x) (ty : TyX K H v t) (k : PySem.W.kitOne K t (.type "str") = some false) : AnyV K H v
def nmV : V → Bool
  | .str x => isNm x
  | _ => false
def nmD : PyData → Bool
  | .str x => isNm x
  | _ => false
/-- the dict whose keys are the words that are no names -/
structure NoD (w : World) (K : PySem.W.Frag) (a : Addr) : Prop where
  ex : ∃ es n, KDict K w a es n
  has : ∀ z : Str, ∃ r, PySem.W.nsIn K a z = some r ∧ r.isSome = BAR.contains z
structure TxCheck (w : World) (K : PySem.W.Frag) (mg : Str → Option Value) where
  z_len : mg "len" = none
  z_isinstance : mg "isinstance" = none
  z_str : mg "str" = none
  z_all : mg "all" = none
  aNO : Addr
  m_NO : mg "NO_NAMES" = some (.ref aNO)
  t_NO : NoD w K aNO
  f_is_name : Addr
  d_is_name : FuncData
  F_is_name : Fun K "is_name" "is_name" s_is_name f_is_name d_is_name
  m_is_name : mg "is_name" = some (.ref f_is_name)
  b_is_name : Binds K d_is_name P_is_name []
def spIsName (K : PySem.W.Frag) : Sp := fun vs H Q _ => ∃ v : V, vs = [v] ∧ AnyV K H v ∧ ∀ H', Same H H' → Q (.bl (nmV v)) H'
theorem inV_strs (x : Str) : ∀ l : List Str, inV (.str x) (l.map V.str) = l.contains x
  | [] => rfl
  | y :: l => by
    have h := inV_strs x l
    show (y == x || inV (.str x) (l.map V.str)) = (y :: l).contains x
    rw [h, List.contains_cons, BEq.comm]
theorem Dv.any {K : PySem.W.Frag} {H : Hp} {v : V} {d : PyData} (h : Dv K H v d) : AnyV K H v := by
  have t := Dp.ty h.dp
  cases h.dp with
  | str x => exact .str x (h.tx x rfl)
  | non => exact .oth (fun _ e => by cases e) t (kit_ty (by decide +kernel))
  | bl b => exact .oth (fun _ e => by cases e) t (kit_ty (show kitB "bool" "str" = some false by decide +kernel))
  | int i => exact .oth (fun _ e => by cases e) t (kit_ty (show kitB "int" "str" = some false by decide +kernel))
  | lst _ _ => exact .oth (fun _ e => by cases e) t (kit_ty (show kitB "list" "str" = some false by decide +kernel))
  | tup _ _ => exact .oth (fun _ e => by cases e) t (kit_ty (show kitB "tuple" "str" = some false by decide +kernel))
theorem Dv.nm {K : PySem.W.Frag} {H : Hp} {v : V} {d : PyData} (h : Dv K H v d) : nmV v = nmD d := by
  cases h.dp <;> rfl
/-- of the signs below 128 the small letters are those that are letters and lower -/
theorem abcC_is : ∀ c < 128, decide (c ∈ ABC.cps.toList) = (PySem.Unicode.isAlpha c && PySem.Unicode.isLower c) := by decide +kernel
theorem lowC_only : ∀ c < 128, PySem.Unicode.isAlpha c = true → (PySem.Unicode.isLower c = !(PySem.Unicode.isUpper c || PySem.Unicode.isTitle c)) := by decide +kernel
theorem abcC_lt : ∀ c ∈ ABC.cps.toList, c < 128 := by decide +kernel
theorem isNm_is (x : Str) : isNm x = (decide (1 ≤ x.length) && decide (x.length ≤ 4) && Txt.isascii x && (Txt.isalpha x && (Txt.islower x && !(BAR.contains x)))) := by
  by_cases h1 : 1 ≤ x.length
  · have e : (x.cps.toList.all fun c => decide (c ∈ ABC.cps.toList)) = (Txt.isascii x && (Txt.isalpha x && Txt.islower x)) := by
      rw [Bool.eq_iff_iff]
      simp only [Txt.isascii, Txt.isalpha, Txt.islower, ← Array.all_toList, ← Array.any_toList, Bool.and_eq_true, List.all_eq_true, List.any_eq_true, decide_eq_true_eq, Bool.not_eq_true', ← Bool.not_eq_true, not_exists, not_and]
      constructor
      · intro h
        have hh : ∀ c ∈ x.cps.toList, c < 128 ∧ PySem.Unicode.isAlpha c = true ∧ PySem.Unicode.isLower c = true := fun c hc => by
          have l := abcC_lt c (h c hc)
          have q := abcC_is c l
          rw [decide_eq_true (h c hc)] at q
          have q2 := Bool.and_eq_true_iff.mp q.symm
          exact ⟨l, q2.1, q2.2⟩
        refine ⟨fun c hc => (hh c hc).1, ⟨by omega, fun c hc => (hh c hc).2.1⟩, ?_, fun c hc => ?_⟩
        · have hz : 0 < x.cps.toList.length := by
            have : x.cps.size = x.length := rfl
            simp
            omega
          obtain ⟨c, hc⟩ := List.exists_mem_of_length_pos hz
          exact ⟨c, hc, (hh c hc).2.2⟩
        · obtain ⟨l, q1, q2⟩ := hh c hc
          have q3 := lowC_only c l q1
          rw [q2] at q3
          intro z
          rw [z] at q3
          cases q3
      · rintro ⟨h2, ⟨_, h3⟩, _, h4⟩ c hc
        have l := h2 c hc
        have q1 := h3 c hc
        have q3 := lowC_only c l q1
        have q4 : (PySem.Unicode.isUpper c || PySem.Unicode.isTitle c) = false := by simpa using h4 c hc
        rw [q4] at q3
        have q := abcC_is c l
        rw [q1, q3] at q
        exact of_decide_eq_true q
    unfold isNm
    rw [e]
    simp only [Bool.and_assoc]
    cases decide (1 ≤ x.length) <;> cases decide (x.length ≤ 4) <;> cases BAR.contains x <;> cases Txt.isascii x <;> cases Txt.isalpha x <;> cases Txt.islower x <;> rfl
  · unfold isNm
    rw [decide_eq_false h1]
    rfl
section
variable {P : Program} {w : World} {K : PySem.W.Frag} {mg : Str → Option Value} {base : Heap}
theorem ok_is_name (T : TxCheck w K mg) : FnOk P w K mg base CX0 1 T.f_is_name T.d_is_name P_is_name (spIsName K) := by
  refine T.F_is_name.ok sc_is_name (fun vs H Q E h => ?_) (fun cdv A outer s H vs Q E hr h => ?_)
  · obtain ⟨v, rfl, _⟩ := h
    rfl
  obtain ⟨v, rfl, hv, q⟩ := h
  obtain ⟨es, nn, D⟩ := T.t_NO.ex
  refine ⟨_, (pss_cons (ps_if (PW.pt (pw_or (pt_not (pt_val (pe_callB (call_isiV K) (by rfl) T.z_isinstance (by decide +kernel) (pa_cons (pv 0) (pa_cons (pe_bltn (v := .ty "str") (by rfl) T.z_str (by decide +kernel) rfl) pa_nil))))) (pw_or (pt_not (pt_chain op_le op_le pe_int (pe_callB call_len_str (by rfl) T.z_len (by decide +kernel) (pa_cons (pv 0) pa_nil)) pe_int)) (pw_or1 (pt_not (pt_val (pe_bm0 PySem.F.plainAttrs_str PySem.F.slot_str_isascii PySem.F.type_str_isascii mt_isascii (pv 0)))))))) (pss_one (ps_ret pe_bl)) pss_nil)
      (pss_one (ps_ret (pe_and (pe_bm0 PySem.F.plainAttrs_str PySem.F.slot_str_isalpha PySem.F.type_str_isalpha mt_isalpha (pv 0)) (pe_and (pe_bm0 PySem.F.plainAttrs_str PySem.F.slot_str_islower PySem.F.type_str_islower mt_islower (pv 0)) (pe_one (pe_cmpR (op_notIn_kd D) (pv 0) (pe_glob (v := .ref T.aNO) (by rfl) T.m_NO rfl) (by rfl)))))))), ?_⟩
  cases hv with
  | oth n ty k =>
    have e : nmV v = false := by cases v <;> first | rfl | exact absurd rfl (n _)
    refine ⟨_, rfl, v, .ty "str", _, _, _, rfl, .ty _, ty, k, _, rfl, ?_⟩
    have r := q H (Same.refl H)
    rw [e] at r
    exact r
  | str x hx =>
    have hz : x.length ≤ sizeLine := by rw [sizeLine_eq]; omega
    have no : isNm x = false → Q (.bl false) H := fun e => by
      have r := q H (Same.refl H)
      rwa [show nmV (.str x) = false from e] at r
    refine ⟨_, rfl, .str x, .ty "str", _, _, true, rfl, .ty _, .base (.str x), kit_ty (by decide +kernel), _, rfl, ?_⟩
    refine ⟨_, rfl, x, rfl, hz, _, _, rfl, rfl, _, rfl, ?_⟩
    refine ite2 (fun c => ?_) (fun c => ?_)
    · have h1 : (1 : Int) ≤ (x.length : Int) := of_decide_eq_true c
      refine ⟨_, _, rfl, rfl, _, rfl, ?_⟩
      refine ite2 (fun c => ?_) (fun c => ?_)
      · have h4 : ¬ (x.length : Int) ≤ 4 := of_decide_eq_false (by simpa using c)
        exact no (by unfold isNm; rw [show decide (x.length ≤ 4) = false from decide_eq_false (by omega)]; simp)
      · have h4 : (x.length : Int) ≤ 4 := of_decide_eq_true (by simpa using c)
        refine ⟨_, rfl, rfl, x, rfl, rfl, trivial, _, rfl, ?_⟩
        refine ite2 (fun c => ?_) (fun c => ?_)
        · have ha : Txt.isascii x = false := by simpa using c
          exact no (by rw [isNm_is, ha]; simp)
        · have ha : Txt.isascii x = true := by simpa using c
          have yes : isNm x = (Txt.isalpha x && (Txt.islower x && !(BAR.contains x))) := by
            rw [isNm_is, ha, decide_eq_true (show 1 ≤ x.length by omega), decide_eq_true (show x.length ≤ 4 by omega)]
            rfl
          refine ⟨_, rfl, rfl, x, rfl, rfl, trivial, _, rfl, ?_⟩
          refine ite2 (fun c => ?_) (fun c => ?_)
          · refine ⟨_, rfl, rfl, x, rfl, rfl, trivial, _, rfl, ?_⟩
            refine ite2 (fun c2 => ?_) (fun c2 => ?_)
            · obtain ⟨r, hr1, hr2⟩ := T.t_NO.has x
              refine ⟨_, rfl, x, r, rfl, rfl, hr1, ?_⟩
              have z := q H (Same.refl H)
              rw [show nmV (.str x) = isNm x from rfl, yes, c, c2] at z
              rw [hr2]
              exact z
            · exact no (by rw [yes, Bool.eq_false_iff.mpr c2]; simp)
          · exact no (by rw [yes, Bool.eq_false_iff.mpr c]; simp)
    · have h1 : ¬ (1 : Int) ≤ (x.length : Int) := of_decide_eq_false (Bool.eq_false_iff.mpr c)
      refine ⟨_, rfl, ?_⟩
      exact no (by unfold isNm; rw [show decide (1 ≤ x.length) = false from decide_eq_false (by omega)]; simp)
end
end My
namespace My
open PySem L2
inductive KeyStrs : List DictEntry → List Str → Prop where
  | nil : KeyStrs [] []
  | cons {h : Int} {k : Str} {t : Tok} {v : Value} {es : List DictEntry} {ks : List Str} (r : KeyStrs es ks) : KeyStrs (⟨h, .str k t, v⟩ :: es) (k :: ks)
theorem KeyStrs.find {es : List DictEntry} {ks : List Str} (r : KeyStrs es ks) (z : Str) : (es.find? fun e => e.key.isStr z).isSome = ks.contains z ∧ (es.any fun e => e.refKey) = false := by
  induction r with
  | nil => exact ⟨rfl, rfl⟩
  | @cons h k t v es ks r ih =>
    refine ⟨?_, ?_⟩
    · rw [List.find?_cons, List.contains_cons]
      have e : (Value.str k t).isStr z = (z == k) := by
        show (k == z) = (z == k)
        exact BEq.comm
      show (match (Value.str k t).isStr z with | true => some _ | false => _).isSome = _
      rw [e]
      cases z == k with
      | true => rfl
      | false => exact ih.1
    · rw [List.any_cons, ih.2]
      rfl
theorem noD_mk {w : World} {K : PySem.W.Frag} {a : Addr} {es : List DictEntry} {n : Nat} (l : K.lookup a = some ⟨.type "dict", none, .dict es.toArray n, #[]⟩) (kl : PySem.W.KeysLit w.params es) (sm : (a == sysModules) = false) (ks : KeyStrs es BAR := by exact .cons (.cons (.cons (.cons (.cons (.cons (.cons (.cons (.cons (.cons .nil)))))))))) : NoD w K a := by
  refine ⟨⟨es.toArray, n, l, kl, sm⟩, fun z => ?_⟩
  obtain ⟨h1, h2⟩ := ks.find z
  unfold PySem.W.nsIn
  rw [l]
  show ∃ r, (match es.find? fun e => e.key.isStr z with | some e => some (some e.val) | none => if (es.any fun e => e.refKey) = true then none else some none) = some r ∧ _
  cases q : es.find? fun e => e.key.isStr z with
  | some e =>
    rw [q] at h1
    exact ⟨some e.val, rfl, h1⟩
  | none =>
    rw [q] at h1
    rw [h2]
    exact ⟨none, rfl, h1⟩
end My

/-! ## Sets of texts -/
namespace My
open PySem PySem.Spec PyProof.Rows L2
theorem is_txt0 {P : Program} {w : World} (k : Str) (u : Tok) : (PySem.strKind P w).is k (.str k u) = true := by
  show Value.isStrOf k (.str k u) = true
  unfold Value.isStrOf
  exact beq_self_eq_true _
/-- the text of an entry of a set -/
def txtOf (e : Int × Value) : Str := match e.2 with
  | .str k _ => k
  | _ => Str.empty
/-- at a: a set whose members are the texts l, each once; it can be walked -/
structure TSet (P : Program) (w : World) (h : Heap) (a : Addr) (l : List Str) : Prop where
  ob : ∃ (o : Obj) (es : Array (Int × Value)) (ep : Nat) (t : SetTable), h.get? a = some o ∧ o.ExactSet ∧ o.data = .set es ep t ∧ ElemsOf (PySem.strKind P w) es.toList ∧ (es.toList.map txtOf).Perm l ∧
    es.size < scanBound ∧ t.fits es.size = true ∧ Ris t.place.toList ∧ (w.params.followText "set-order" = true ∨ t.led = true)
  nd : l.Nodup
section
variable {P : Program} {w : World} {h h' : Heap} {a : Addr} {l : List Str}
theorem TSet.at (R : TSet P w h a l) (k : ∀ o, h.get? a = some o → h'.get? a = some o) : TSet P w h' a l := by
  obtain ⟨⟨o, es, ep, t, ho, r⟩, nd⟩ := R
  exact ⟨⟨o, es, ep, t, k o ho, r⟩, nd⟩
theorem TSet.there (R : TSet P w h a l) : ∃ o, h.get? a = some o := by
  obtain ⟨⟨o, _, _, _, ho, _⟩, _⟩ := R
  exact ⟨o, ho⟩
theorem is_txt {k : Str} {e : Int × Value} (el : (∃ k, (PySem.strKind P w).is k e.2 = true ∧ e.1 = (PySem.strKind P w).hash k) ∧ e.2.scannable = true) : (PySem.strKind P w).is k e.2 = true ↔ txtOf e = k := by
  obtain ⟨⟨k2, h1, _⟩, _⟩ := el
  obtain ⟨t, e2⟩ := Value.isStrOf_shape h1
  have e3 : txtOf e = k2 := by unfold txtOf; rw [e2]
  rw [e3]
  constructor
  · intro z
    exact (PySem.strKind P w).inj _ _ _ h1 z
  · intro z
    rw [← z]
    exact h1
theorem mem_txt {es : List (Int × Value)} (el : ElemsOf (PySem.strKind P w) es) (k : Str) : k ∈ es.map txtOf ↔ ∃ e ∈ es, (PySem.strKind P w).is k e.2 = true := by
  rw [List.mem_map]
  exact ⟨fun ⟨e, he, z⟩ => ⟨e, he, (is_txt (el e he)).mpr z⟩, fun ⟨e, he, z⟩ => ⟨e, he, (is_txt (el e he)).mp z⟩⟩
variable {A : Around} {E : Value → Shared → Prop} {s : Shared}
set_option maxHeartbeats 400000 in
/-- the table grows, or stays -/
theorem tset_tail {g : Bool → Sem Unit} (hg : ∀ (b : Bool) (s₁ : Shared) (Q' : Unit → Shared → Prop), Q' () s₁ → wpAny (model P w) A (g b) Q' E s₁) {o : Obj} {es es1 : Array (Int × Value)} {ep : Nat} {t t2 : SetTable} {l1 : List Str} (ho : s.heap.get? a = some o) (ex : o.ExactSet) (hd : o.data = .set es ep t)
    (el : ElemsOf (PySem.strKind P w) es1.toList) (pm : (es1.toList.map txtOf).Perm l1) (nd : l1.Nodup) (few : es1.size < scanBound) (fit : t2.fits es1.size = true) (ri : Ris t2.place.toList) (le : w.params.followText "set-order" = true ∨ t2.led = true)
    {old : Bool} {R : Option Bool → Shared → Prop} (q : ∀ h', Heap.SameBut a s.heap h' → TSet P w h' a l1 → R (some true) { s with heap := h' }) :
    wpAny (model P w) A (do
        storeSet a es1 t2
        if (!old && t2.tooFull) = true then do
            g (relayAll t2 es1 (SetTable.grown es1.size)).2.2
            storeSet a (relayAll t2 es1 (SetTable.grown es1.size)).1 (relayAll t2 es1 (SetTable.grown es1.size)).2.1
            pure (some true)
          else pure (some true)) R E s := by
  have first := PpSet.storeB_at (es' := es1) (t' := t2) ho hd
  have same := Heap.SameBut.update s.heap a (Obj.putSet es1 t2)
  refine wpAny_bind (wpAny_storeSet_of ho hd ?_ (fits_of_scanBound few))
  split
  · have p3 := relayAll_perm t2 es1 (SetTable.grown es1.size)
    have f3 := relayAll_fits t2 es1 (SetTable.grown es1.size)
    have r3 := relayAll_ris t2 es1 (SetTable.grown es1.size)
    have l3 := relayAll_led t2 es1 (SetTable.grown es1.size)
    generalize relayAll t2 es1 (SetTable.grown es1.size) = Z at p3 f3 r3 l3 ⊢
    obtain ⟨es3, t3, gave⟩ := Z
    dsimp only at p3 f3 r3 l3 ⊢
    have n3 : es3.size = es1.size := by rw [← Array.length_toList, p3.length_eq, Array.length_toList]
    refine wpAny_bind (hg _ _ _ (wpAny_bind (wpAny_storeSet_of first rfl ?_ (fits_of_scanBound (by rw [n3]; exact few)))))
    refine wpAny_pure (q _ (same.trans (Heap.SameBut.update _ a _)) ⟨⟨_, es3, _, t3, PpSet.storeB_at first rfl, ex, rfl, fun e he => el e (p3.mem_iff.mp he), (p3.map txtOf).trans pm, by rw [n3]; exact few, f3, r3, le.imp id fun z => by rw [l3]; exact z⟩, nd⟩)
  · exact wpAny_pure (q _ same ⟨⟨_, es1, _, t2, first, ex, rfl, el, pm, few, fit, ri, le⟩, nd⟩)
set_option maxHeartbeats 400000 in
theorem tset_put {k : Str} {tk : Tok} {Q : Bool → Shared → Prop} (R : TSet P w s.heap a l) (room : l.length + 1 < scanBound)
    (q : ∀ h', Heap.SameBut a s.heap h' → TSet P w h' a (if k ∈ l then l else k :: l) → Q (!decide (k ∈ l)) { s with heap := h' }) :
    wpAny (model P w) A (setAddHashed a (.str k tk) ((PySem.strKind P w).hash k)) Q E s := by
  obtain ⟨⟨o, es, ep, t, ho, ex, hd, el, pm, few, fit, ri, le⟩, nd⟩ := R
  have key : (PySem.strKind P w).is k (.str k tk) = true := is_txt0 k tk
  have sc : (Value.str k tk).scannable = true := rfl
  have cnt : es.size = l.length := by
    have e := pm.length_eq
    rwa [List.length_map, Array.length_toList] at e
  unfold setAddHashed setAddHashedIn
  refine wpAny_holding (wpAny_bind (wpAny_setState_of ho hd fit ?_))
  dsimp only
  rw [byScan_of sc few el]
  simp only [↓reduceIte]
  unfold setAddByScan
  refine wpAny_bind (wpAny_bind (wpAny_rule (wpAny_bind (wpAny_setScan_of key ho hd fit el ?_))))
  cases fi : List.findIdx? (fun e => (PySem.strKind P w).is k e.2) es.toList with
  | some j =>
    dsimp only
    obtain ⟨hj, pj, _⟩ := List.findIdx?_eq_some_iff_getElem.mp fi
    have inl : k ∈ l := pm.mem_iff.mp ((mem_txt el k).mpr ⟨_, List.getElem_mem hj, pj⟩)
    refine wpAny_pure (wpAny_pure ?_)
    have z := q s.heap (Heap.SameBut.refl a s.heap) (by
      rw [if_pos inl]
      exact ⟨⟨o, es, ep, t, ho, ex, hd, el, pm, few, fit, ri, le⟩, nd⟩)
    rw [decide_eq_true inl] at z
    exact z
  | none =>
    dsimp only
    have out : k ∉ l := fun z => by
      obtain ⟨e, he, c⟩ := (mem_txt el k).mp (pm.mem_iff.mpr z)
      have c2 := List.findIdx?_eq_none_iff.mp fi e he
      rw [c] at c2
      cases c2
    have gave : ∀ (b : Bool) {s₁ : Shared} {Q' : Unit → Shared → Prop}, Q' () s₁ → wpAny (model P w) A (match b with | true => rule "set.scan.the-table-gave-way" | false => pure ()) Q' E s₁ := fun b s₁ Q' z => by
      cases b
      · exact wpAny_pure z
      · exact wpAny_rule z
    have p1 := layNew_perm t es ((PySem.strKind P w).hash k) (.str k tk)
    have f1 := layNew_fits t es ((PySem.strKind P w).hash k) (.str k tk)
    have r1 := layNew_ris t es ((PySem.strKind P w).hash k) (.str k tk) ri
    have l1 := layNew_led t es ((PySem.strKind P w).hash k) (.str k tk)
    generalize layNew t es ((PySem.strKind P w).hash k) (.str k tk) = Z at p1 f1 r1 l1 ⊢
    obtain ⟨es1, t1, old, way⟩ := Z
    dsimp only at p1 f1 r1 l1 ⊢
    rw [Array.toList_push] at p1
    have pc := p1.trans (List.perm_append_singleton _ _)
    have el1 : ElemsOf (PySem.strKind P w) es1.toList := fun e he => by
      rcases List.mem_cons.mp (pc.mem_iff.mp he) with z | z
      · rw [z]
        exact ⟨⟨k, key, rfl⟩, rfl⟩
      · exact el e z
    have pm1 : (es1.toList.map txtOf).Perm (k :: l) := (pc.map txtOf).trans (pm.cons k)
    have n1 : es1.size = l.length + 1 := by
      have e := pm1.length_eq
      rwa [List.length_map, Array.length_toList, List.length_cons] at e
    have few1 : es1.size < scanBound := by rw [n1]; exact room
    have le1 : w.params.followText "set-order" = true ∨ t1.led = true := le.imp id fun z => by rw [l1]; exact z
    have nd1 : (k :: l).Nodup := List.nodup_cons.mpr ⟨out, nd⟩
    have fin : ∀ h', Heap.SameBut a s.heap h' → TSet P w h' a (k :: l) → Q true { s with heap := h' } := fun h' sb r => by
      have z := q h' sb (by rw [if_neg out]; exact r)
      rw [decide_eq_false out] at z
      exact z
    refine wpAny_bind (gave _ ?_)
    split
    · refine wpAny_bind ?_
      rw [hashByValue_scannable 8 sc]
      refine wpAny_pure ?_
      refine tset_tail (fun b s₁ Q' z => by cases b <;> first | exact wpAny_pure z | exact wpAny_rule z) ho ex hd el1 pm1 nd1 few1 ?_ ?_ ?_ ?_
      · first | (split <;> first | exact f1 | exact SetTable.fits_plain_off f1) | exact f1
      · first | (split <;> exact r1) | exact r1
      · first | (split <;> exact le1) | exact le1
      · intro h' sb r
        dsimp only
        exact wpAny_pure (fin h' sb r)
    · refine wpAny_bind (wpAny_pure ?_)
      simp only [↓reduceIte]
      refine tset_tail (fun b s₁ Q' z => by cases b <;> first | exact wpAny_pure z | exact wpAny_rule z) ho ex hd el1 pm1 nd1 few1 f1 r1 le1 ?_
      intro h' sb r
      dsimp only
      exact wpAny_pure (fin h' sb r)
set_option maxHeartbeats 400000 in
/-- found.add(text) -/
theorem tset_add {k : Str} {tk : Tok} {Q : Value → Shared → Prop} (R : TSet P w s.heap a l) (room : l.length + 1 < scanBound)
    (q : ∀ h', Heap.SameBut a s.heap h' → TSet P w h' a (if k ∈ l then l else k :: l) → Q .none { s with heap := h', toks := s.toks + 1 }) : wpAny (model P w) A (call (.builtin "set.add") [.ref a, .str k tk]) Q E s := by
  have ty : s.TypeIs (.ref a) "set" := by
    obtain ⟨⟨o, es, ep, t, ho, ex, _⟩, _⟩ := R
    exact ⟨o, ho, ex.1⟩
  refine wpAny_call_entry F.slot_set_add ty F.entry_set_add ?_ (F.args_set_add_2 _ _)
  unfold Builtin.«set.add» Builtin.Frozenset.oneOther
  simp only [List.isEmpty_nil, bind_assoc]
  unfold Builtin.Frozenset.addrOf setAdd
  refine wpAny_bind (wpAny_pure ?_)
  try dsimp only
  refine wpAny_bind (wpAny_pure ?_)
  try dsimp only
  refine wpAny_bind (wpAny_holding (wpAny_bind ((PySem.strKind P w).pyHash (is_txt0 k tk) ?_)))
  refine tset_put (s := { s with toks := s.toks + 1 }) R room fun h' sb r => ?_
  exact wpAny_pure ⟨_, rfl, q h' sb r⟩
/-- an empty one -/
theorem tset_new {h : Heap} : TSet P w (h.push { cls := .type "set", dict := none, data := .set #[] 0 (.fresh 0 0 (!w.params.followText "set-order")) }) h.objs.size [] := by
  refine ⟨⟨_, #[], 0, _, Heap.get?_push_size _ rfl, ⟨rfl, rfl, rfl⟩, rfl, (fun e he => by simp at he), .refl _, by decide, by rfl, List.Pairwise.nil, ?_⟩, List.nodup_nil⟩
  show _ ∨ (!w.params.followText "set-order") = true
  cases w.params.followText "set-order"
  · exact .inr rfl
  · exact .inl rfl
def tx : Value → Str
  | .str k _ => k
  | _ => Str.empty
theorem strs_are : ∀ vs : List Value, (∀ v ∈ vs, ∃ k t, v = .str k t) → StrsAre vs (vs.map tx)
  | [], _ => .nil
  | v :: vs, h => by
    obtain ⟨k, t, e⟩ := h v List.mem_cons_self
    have r := strs_are vs fun u hu => h u (List.mem_cons_of_mem _ hu)
    subst e
    exact .cons k t r
set_option maxHeartbeats 400000 in
theorem tset_sorted {Q : Value → Shared → Prop} (R : TSet P w s.heap a l) (hh : A.handled = none) (few : l.length < 64)
    (q : ∀ (s' : Shared) (p : Addr) (out : Array Value) (c : Nat) (ys : List Str), (∀ b o, s.heap.get? b = some o → s'.heap.get? b = some o) → s'.gens = s.gens → s'.os = s.os → s.heap.objs.size ≤ p → s'.heap.get? p = some (seqObj "list" out c) → StrsAre out.toList ys → ys.Perm l → sortedS ys = true → Q (.ref p) s') :
    wpAny (model P w) A (call (.builtin "sorted") [.ref a]) Q E s := by
  obtain ⟨⟨o, es, ep, t, ho, ex, hd, el, pm, fw, fit, ri, le⟩, nd⟩ := R
  refine Calls.call_function_entry kind_sorted plain_sorted entry_sorted (args_sorted1 _) ?_
  unfold Builtin.«sorted»
  refine wpAny_bind (m := checkCount "sorted" 1 1 _) (wpAny_pure (wpAny_bind (collect_set (A := A.in1) hh ⟨o, ho, ex.1, hd⟩ fit fw ri le fun s1 vs k1 sz g1 o1 p1 => ?_)))
  have e1 : es.toList.map txtOf = (es.toList.map (·.2)).map tx := by rw [List.map_map]; rfl
  have p2 : (vs.map tx).Perm l := (p1.map tx).trans (e1 ▸ pm)
  have all : StrsAre vs (vs.map tx) := strs_are vs fun v hv => by
    obtain ⟨e, he, z⟩ := List.mem_map.mp (p1.mem_iff.mp hv)
    obtain ⟨⟨k, i1, _⟩, _⟩ := el e he
    obtain ⟨tk, i2⟩ := Value.isStrOf_shape i1
    exact ⟨k, tk, by rw [← z]; exact i2⟩
  have n1 : vs.length = l.length := by
    have z := p2.length_eq
    rwa [List.length_map] at z
  refine wpAny_bind (wpAny_newList ?_ (by rw [n1, sizeLine_eq]; omega))
  have hoL : (s1.heap.push (seqObj "list" vs.toArray 0)).get? s1.heap.objs.size = some (seqObj "list" vs.toArray 0) := Heap.get?_push_size _ rfl
  refine wpAny_bind (wpAny_holding (wpAny_call_entry PyProof.Rows.slot_list_sort ⟨_, hoL, rfl⟩ PyProof.Rows.entry_list_sort
    (list_sort_treeK strKind_oneLt hoL all.keysOf (fun v₁ v₂ rest e => keyKind_strs (by rw [← e]; exact all)) (by rw [n1]; exact few) fun st' hp hs => ?_) (PyProof.Rows.args_list_sort _)))
  obtain ⟨ys, y1, y2, y3⟩ := sorted_out_str all hp hs
  obtain ⟨c, hc⟩ := PyProof.Rows.sortedHeap_at (vs := vs) (out := (arrOf st').map (·.2)) hoL
  refine ⟨_, rfl, wpAny_pure ⟨_, rfl, q _ s1.heap.objs.size _ c ys (fun b u e => ?_) g1 o1 sz hc y1 (y2.trans p2) y3⟩⟩
  have z := k1 b u e
  have lt := Heap.lt_size z
  show (PyProof.Rows.sortedHeap (s1.heap.push (seqObj "list" vs.toArray 0)) s1.heap.objs.size vs _).get? b = some u
  rw [PyProof.Rows.sortedHeap_old (Nat.ne_of_lt lt) (by rw [size_push']; exact Nat.lt_succ_of_lt lt)]
  exact Heap.get?_push_of_some _ z
/-- a set of texts, tracked -/
def TSetO (P : Program) (w : World) (a : Addr) (l : List Str) : HO := .ext fun h => TSet P w h a l
theorem tsetO_ok {H : Hp} {h : Heap} (R : TSet P w h a l) : ObjOk P w H h a (TSetO P w a l) := ⟨R, R.there, fun _ _ z k => TSet.at z k⟩
end
section
variable {X : Cx}
theorem tset_get {pins : List (Addr × Obj)} {σ : L2.St} {H : Hp} {s : Shared} {a : Addr} {l : List Str} (I : Inv X pins σ H s) (ha : H a = some (TSetO X.prog X.w a l)) : TSet X.prog X.w s.heap a l := (I.hok a _ ha).1
def rSortedTS (P : Program) (w : World) : List V → Hp → VK → Prop := fun xs H Q => ∃ (a : Addr) (l : List Str), xs = [.ref a] ∧ H a = some (TSetO P w a l) ∧ l.length < 64 ∧
  ∀ (ys : List Str) (p : Addr), ys.Perm l → l.Nodup → sortedS ys = true → H p = none → Q (.ref p) (upd H p (.lst (ys.map V.str)))
set_option maxHeartbeats 400000 in
/-- sorted(a set of texts) -/
theorem cr_sortedTS (hc : X.calm = true) : CallR X (.builtin "sorted") (rSortedTS X.prog X.w) := by
  intro pins s σ H xs us Q I r h
  obtain ⟨a, l, rfl, ha, few, q⟩ := h
  have R := tset_get I ha
  rw [Vals.ref1 r]
  refine tset_sorted R (I.ok.hd hc) few fun s' p out c ys keep gens os hp hp2 st pm so => ?_
  have fr : H p = none := I.hok.fresh hp
  have ln : (ys.map V.str).length ≤ sizeLine := by rw [List.length_map, pm.length_eq, sizeLine_eq]; omega
  have J : Inv X pins σ (upd H p (.lst (ys.map V.str))) { s with heap := s'.heap, gens := s'.gens, drawn := s'.drawn, toks := s'.toks } :=
    I.call (ch := []) (Un.laid keep hp fr) (I.hok.laid keep hp ⟨ln, out.toList, c, vals_of_strs st, hp2⟩) (by rw [gens]; exact I.bare) (fun _ z => nomatch z)
  have e : s' = { s with heap := s'.heap, gens := s'.gens, drawn := s'.drawn, toks := s'.toks } := by
    cases s'
    cases s
    cases os
    rfl
  rw [e]
  exact ⟨.ref p, _, J, rfl, q ys p pm R.nd so fr⟩
end
end My

/-! ## set(xs) of texts, however many; len of it -/
namespace My
open PySem PySem.Spec PyProof.Rows L2
section
variable {P : Program} {w : World} {A : Around} {s : Shared}
/-- the loop of set.update over texts: l the members so far -/
theorem texts_loop {R : Result → Shared → Prop} {I S : Addr} {fp wr : List Addr} {G : Array GenState → Array GenState → Prop} {n : Nat} {Pv : Nat → Value → Prop} {St : Nat → Shared → Prop} {xs : List Str} (W : WalksS P w A.in1 I fp wr G n Pv St) (out : S ∉ fp) (ln : xs.length = n) (few : n ≤ 1000)
    (are : ∀ i v, Pv i v → ∃ k t, xs[i]? = some k ∧ v = .str k t) : ∀ (m i : Nat) (s : Shared) (l : List Str), m + i = n → St i s → TSet P w s.heap S l → l.length ≤ i → (∀ y, y ∈ l ↔ y ∈ xs.take i) →
      (∀ (s' : Shared) (l' : List Str), Moved (S :: wr) G s s' → TSet P w s'.heap S l' → l'.length ≤ n → (∀ y, y ∈ l' ↔ y ∈ xs) → R (.ok (.ret .none)) s') →
      codeAny (model P w) A (.builtin "set.update.loop" ⟨[.ref S, .ref I], []⟩) R s := by
  have outw : S ∉ wr := fun z => out (W.sub _ z)
  have into : ∀ b ∈ wr, b ∈ S :: wr := fun b hb => List.mem_cons_of_mem _ hb
  intro m
  induction m with
  | zero =>
    intro i s l e st R0 few_ mem q
    obtain rfl : i = n := by omega
    refine codeAny_builtin PyProof.Rows.F.entry_set_update_loop ?_
    rw [Around.under_plainId PyProof.Rows.F.plain_set_update_loop _]
    refine wpAny_bind (m := pyNext (.ref I)) (W.done s _ _ st fun s1 mv => ?_)
    refine wpAny_pure (q s1 l (mv.mono into) (R0.at fun o e => mv.heap S o outw e) few_ fun y => ?_)
    rw [mem, List.take_of_length_le (Nat.le_of_eq ln)]
  | succ m ih =>
    intro i s l e st R0 few_ mem q
    have lt : i < n := by omega
    refine codeAny_builtin PyProof.Rows.F.entry_set_update_loop ?_
    rw [Around.under_plainId PyProof.Rows.F.plain_set_update_loop _]
    refine wpAny_bind (m := pyNext (.ref I)) (W.item i s _ _ lt st fun v s1 hv st1 mv => ?_)
    obtain ⟨k, t, hk, rfl⟩ := are i v hv
    have R1 : TSet P w s1.heap S l := R0.at fun o e => mv.heap S o outw e
    refine wpAny_bind (m := holding [Value.str k t] (setAdd S (.str k t))) (wpAny_holding ?_)
    unfold setAdd
    refine wpAny_holding (wpAny_bind ((PySem.strKind P w).pyHash (is_txt0 k t) ?_))
    refine tset_put (s := { s1 with toks := s1.toks + 1 }) R1 (by show l.length + 1 < 4096; omega) fun h2 sb R2 => ?_
    have apart : ∀ b, b ∈ fp → b ≠ S := fun b hb z => out (z ▸ hb)
    refine wpAny_pure ⟨plainId_quiet PyProof.Rows.F.plain_set_update_loop _, ih (i + 1) _ _ (by omega) (W.frame _ s1 _ _ st1 (Nat.le_succ _) fun b hb o e => (sb.2 b (apart b hb)).trans e) R2 ?_ ?_ fun s3 l3 mv3 => q s3 l3 (Moved.trans W.gtrans ((mv.mono into).then_heap (Nat.le_succ _) fun b o nb e => (sb.2 b fun z => nb (z ▸ List.mem_cons_self)).trans e) mv3)⟩
    · split
      · omega
      · simp only [List.length_cons]
        omega
    · intro y
      have tk : y ∈ xs.take (i + 1) ↔ y ∈ xs.take i ∨ y = k := by
        rw [List.take_add_one, hk, List.mem_append]
        simp
      rw [tk, ← mem]
      split
      · rename_i inl
        exact ⟨.inl, fun z => z.elim id fun e => e ▸ inl⟩
      · rw [List.mem_cons]
        exact Or.comm
/-- the empty set as it is made; an iterator over what stands at l -/
abbrev eSet (w : World) : Obj := { cls := .type "set", dict := none, data := .set #[] 0 (.fresh 0 0 (!w.params.followText "set-order")) }
abbrev eIter (T : String) (l : Addr) : Obj := { cls := .type T, data := .fields #[.ref l, .int 0 0] }
/-- what is asked of a list or a tuple at l -/
structure Seqs (P : Program) (w : World) (h : Heap) (l : Addr) (T it : String) (items : Array Value) : Prop where
  ob : ∃ (d : Option Addr) (n : Nat) (sl : Array (Option Value)), h.get? l = some { cls := .type T, dict := d, data := .seq items n, slots := sl }
  n1 : isSubtype (.type T) (.type "set") = pure false
  n2 : isSubtype (.type T) (.type "frozenset") = pure false
  n3 : (Value.type T == Value.type "dict") = false
  start : ∀ (A' : Around) (s1 : Shared) (Q : Value → Shared → Prop) (E : Value → Shared → Prop), (∃ (d : Option Addr) (n : Nat) (sl : Array (Option Value)), s1.heap.get? l = some { cls := .type T, dict := d, data := .seq items n, slots := sl }) →
    Q (.ref s1.heap.objs.size) { s1 with heap := s1.heap.push (eIter it l) } → wpAny (model P w) A' (pyIter (.ref l)) Q E s1
  walk : ∀ (A' : Around) (I : Addr), A'.handled = none → l ≠ I → ∃ St : Nat → Heap → Prop, Walks P w A' I [I, l] [I] items.size (fun i v => items[i]? = some v) St ∧
    ∀ h2 : Heap, h2.get? I = some (eIter it l) → (∃ (d : Option Addr) (n : Nat) (sl : Array (Option Value)), h2.get? l = some { cls := .type T, dict := d, data := .seq items n, slots := sl }) → St 0 h2
set_option maxHeartbeats 3200000 in
theorem set_of {l : Addr} {T it : String} {items : Array Value} {xs : List Str} {Q : Value → Shared → Prop} {E : Value → Shared → Prop} (hh : A.handled = none) (sq : Seqs P w s.heap l T it items) (hi : StrsAre items.toList xs) (few : xs.length ≤ 1000)
    (q : ∀ (h' : Heap) (tk : Nat) (m : List Str), TSet P w h' s.heap.objs.size m → m.length ≤ xs.length → (∀ y, y ∈ m ↔ y ∈ xs) → (∀ b o, s.heap.get? b = some o → h'.get? b = some o) → Q (.ref s.heap.objs.size) { s with heap := h', toks := tk }) :
    wpAny (model P w) A (call (.type "set") [.ref l]) Q E s := by
  obtain ⟨⟨od, nl, osl, hol⟩, hs1, hs2, hs3, start, walk⟩ := sq
  have size : items.size = xs.length := by rw [← Array.length_toList]; exact StrsAre.len_eq hi
  obtain ⟨c, tl, hmro⟩ := PySem.F.called_set.mro
  have made := PySem.F.called_set.made
  have subs := PySem.F.called_set.sub
  refine wpAny_call (codeAny_of_tree ?_)
  show wpAny _ _ (callAny (.type "set") ⟨[.ref l], []⟩) _ _ _
  refine wpAny_pure ⟨Code.quiet_builtin _ (by decide +kernel), codeAny_builtin PySem.F.entry_type_call ?_⟩
  rw [Around.under_plain (weight_type_call_type "set" [.ref l] []) rfl]
  have a1 := PySem.F.called_set.notType
  have a2 := PySem.F.called_set.canCreate
  have a3 := PySem.F.typeCall_set_1 (.ref l)
  repeat (any_goals (first | assumption | wp_step))
  let Done : Value → Shared → Prop := fun r s2 => r = .none ∧ ∃ (h' : Heap) (tk : Nat) (m : List Str), s2 = { s with heap := h', toks := tk } ∧ TSet P w h' s.heap.objs.size m ∧ m.length ≤ xs.length ∧ (∀ y, y ∈ m ↔ y ∈ xs) ∧ ∀ b o, s.heap.get? b = some o → h'.get? b = some o
  refine codeAny_mono (code_set_led1 (.ref l) (E := E) (Q₁ := fun obj s1 => obj = .ref s.heap.objs.size ∧ s1 = { s with heap := s.heap.push (eSet w) }) ⟨rfl, rfl⟩) fun r s1 hr => ?_
  match r, hr with
  | .error e, hr => exact hr
  | .ok .next, hr => exact False.elim hr
  | .ok .brk, hr => exact False.elim hr
  | .ok .cont, hr => exact False.elim hr
  | .ok (.ret obj), hr =>
    obtain ⟨rfl, rfl⟩ := hr
    have atS : (s.heap.push (eSet w)).get? s.heap.objs.size = some (eSet w) := Heap.get?_push_size _ rfl
    have tyS : Shared.TypeIs { s with heap := s.heap.push (eSet w) } (.ref s.heap.objs.size) "set" := ⟨_, atS, rfl⟩
    have b1 := PySem.F.called_set.init.lookup
    have b2 := PySem.F.called_set.init.bind (.ref s.heap.objs.size)
    repeat (any_goals (first | assumption | wp_step))
    refine codeAny_mono (codeAny_call_builtin (R := wants Done E) PySem.F.called_set.init.plain PySem.F.entry_set_init (check_set_init_1 tyS ?_)) fun r2 s2 hr2 => ?_
    · have hol' : (s.heap.push (eSet w)).get? l = some { cls := .type T, dict := od, data := .seq items nl, slots := osl } := Heap.get?_push_of_some _ hol
      unfold Builtin.«set.__init__» noKeywords Builtin.Frozenset.updateFrom
      generalize iters : pyIter = PI
      wp_walk
      subst iters
      refine start _ _ _ _ ⟨_, _, _, hol'⟩ ?_
      refine wpAny_bind (wpAny_runValue ?_)
      have lS : l < s.heap.objs.size := Heap.lt_size hol
      have sz1 : (s.heap.push (eSet w)).objs.size = s.heap.objs.size + 1 := Heap.size_push ..
      have lI : l ≠ (s.heap.push (eSet w)).objs.size := by rw [sz1]; exact Nat.ne_of_lt (Nat.lt_succ_of_lt lS)
      have free : s.heap.objs.size ∉ [(s.heap.push (eSet w)).objs.size, l] := by
        rw [sz1]
        intro z
        rcases List.mem_cons.mp z with z | z
        · exact Nat.ne_of_lt (Nat.lt_succ_self _) z
        · exact Nat.ne_of_gt lS (List.mem_singleton.mp z)
      obtain ⟨St, W, st0⟩ := walk A.in1.in1.in1 (s.heap.push (eSet w)).objs.size (by simp [hh]) lI
      have are : ∀ (i : Nat) (v : Value), items[i]? = some v → ∃ k t, xs[i]? = some k ∧ v = .str k t := fun i v hv => by
        obtain ⟨t, e⟩ := SS.strs_at hi i v (by rw [Array.getElem?_toList]; exact hv)
        have il : i < xs.length := by rw [← size]; exact (Array.getElem?_eq_some_iff.mp hv).1
        refine ⟨xs[i], t, List.getElem?_eq_getElem il, ?_⟩
        rw [e, List.getD_eq_getElem?_getD, List.getElem?_eq_getElem il]
        rfl
      have hol2 : ((s.heap.push (eSet w)).push (eIter it l)).get? l = some { cls := .type T, dict := od, data := .seq items nl, slots := osl } := Heap.get?_push_of_some _ hol'
      refine texts_loop W.toS free size.symm (by omega) are items.size 0 _ [] (by omega) (st0 _ (Heap.get?_push_size _ rfl) ⟨_, _, _, hol2⟩) ((tset_new (h := s.heap)).at fun o e => Heap.get?_push_of_some _ e) (Nat.le_refl _) (fun y => by simp) ?_
      rintro ⟨h', g', d', tk', os'⟩ m mv R few' mem
      obtain rfl : g' = s.gens := mv.gens
      obtain rfl : d' = s.drawn := mv.drawn
      obtain rfl : os' = s.os := mv.os
      refine wpAny_pure (wpAny_pure ⟨rfl, h', tk', m, rfl, R, by omega, mem, fun b o e => ?_⟩)
      have bs := Heap.lt_size e
      refine mv.heap b o (fun z => ?_) (Heap.get?_push_of_some _ (Heap.get?_push_of_some _ e))
      rcases List.mem_cons.mp z with z | z
      · exact Nat.ne_of_lt bs z
      · rw [List.mem_singleton.mp z, sz1] at bs
        exact absurd bs (Nat.not_lt.mpr (Nat.le_succ _))
    · match r2, hr2 with
      | .error e, hr2 => exact hr2
      | .ok .next, hr2 => exact False.elim hr2
      | .ok .brk, hr2 => exact False.elim hr2
      | .ok .cont, hr2 => exact False.elim hr2
      | .ok (.ret r3), hr2 =>
        obtain ⟨rfl, h', tk, m, rfl, R, few', mem, keep⟩ := hr2
        repeat (any_goals (first | assumption | wp_step))
        exact q h' tk m R few' mem keep
end
end My

/-! ## A set of words made by a comprehension: what goes in, one turn, all turns, the whole -/
namespace My
open PySem PySem.Spec PyProof.Rows L2
/-- one word more -/
def more (l : List Str) (k : Str) : List Str := if k ∈ l then l else k :: l
/-- the parts of a comprehension's clause, by what they are asked -/
structure Clause where
  g : TG
  tt : TT
  te : TE
  own : List Nat
/-- a turn over x: the target takes it, the test tells b, and if so its word goes into the set at D -/
def Clause.turn (c : Clause) (P : Program) (w : World) (D : Addr) (σ : L2.St) (x : V) (H : Hp) (Z : Hp → Prop) : Prop :=
  c.g x (wipe σ c.own) H fun τ H2 => wipe τ c.own = wipe σ c.own ∧ c.tt τ H2 fun b H3 =>
    (b = false → Z H3) ∧ (b = true → c.te τ H3 fun y H4 => ∃ (k : Str) (l : List Str), y = .str k ∧ H4 D = some (TSetO P w D l) ∧ l.length ≤ 900 ∧ Z (upd H4 D (TSetO P w D (more l k))))
/-- n turns: Z i H holds ahead of turn i -/
def Clause.all (c : Clause) (P : Program) (w : World) (wi : TI) : TE := fun σ H Q => wi σ H fun J H1 => ∀ D, H1 D = none → ∃ (n : Nat) (Z : Nat → Hp → Prop),
  Z 0 (upd H1 D (TSetO P w D [])) ∧ (∀ H', Z n H' → J.stop n H' ∧ Q (.ref D) H') ∧ ∀ i H', i < n → Z i H' → J.go i H' ∧ ∀ x H2, J.yld i H' x H2 → c.turn P w D σ x H2 (Z (i + 1))
section
variable {X : Cx} {pins : List (Addr × Obj)} {σ : L2.St} {H : Hp} {s : Shared}
theorem word_in {E : Value → Shared → Prop} {D : Addr} {l : List Str} {k : Str} {t : Tok} {Q : Value → Shared → Prop} (I : Inv X pins σ H s) (at_ : H D = some (TSetO X.prog X.w D l)) (few : l.length ≤ 900)
    (q : ∀ s', Inv X pins σ (upd H D (TSetO X.prog X.w D (more l k))) s' → Q .none s') : wpAny (model X.prog X.w) X.A (call (.builtin "set.add") [.ref D, .str k t]) Q E s :=
  tset_add (tset_get I at_) (by show l.length + 1 < 4096; omega) fun h' sb new =>
    q _ (I.write (x := D) (e := D) (o := TSetO X.prog X.w D (more l k)) (t' := s.toks + 1) (by rw [at_]; trivial) (.inl rfl) (fun b u nb e => (sb.2 b nb).trans e) new.there (tsetO_ok new))
/-- within the block the iterator's objects stand free -/
theorem blk_free {s3 : Shared} {H3 H' : Hp} {sc : Scope} {ce : Env} {fp : List Addr} {τ : L2.St} {s' : Shared} (I : Inv (X.blk s3 H3 sc ce fp) [] τ H' s') (n : ∀ b ∈ fp, H' b = none) (b : Addr) (hb : b ∈ fp) : FpOk (X.blk s3 H3 sc ce fp) [] H' b := by
  have e := I.ok.exf b hb
  refine ⟨n b hb, e.1, I.ok.exfs b hb, Or.inl hb, fun y c => e.2 y c, fun p hp => ?_⟩
  have hp' : p ∈ ([] : List (Addr × Obj)) := hp
  cases hp'
/-- a turn's end: the block's own names are forgotten -/
theorem blk_turned {it : Addr} {tg : Expr} {J : It} {tn : Nat → Heap → Prop} {s3 s7 s' : Shared} {H3 H' : Hp} {sc : Scope} {ce : Env} {fp : List Addr} {τ : L2.St} {vs : List Nat} {i : Nat} (T : Turn X.prog X.w X.K tg J fp it tn) (st : tn i s7.heap)
    (I : Inv (X.blk s3 H3 sc ce fp) ([] ++ pinsAt fp s7.heap) τ H' s') (same : wipe τ vs = wipe σ vs) : Inv (X.blk s3 H3 sc ce fp) [] (wipe σ vs) H' s' ∧ tn i s'.heap ∧ ∀ b ∈ fp, H' b = none := by
  have pin : ∀ {b o}, b ∈ fp → s7.heap.get? b = some o → s'.heap.get? b = some o ∧ H' b = none := fun {b o} hb e => by
    have z := I.pin (b, o) (List.mem_append_right _ (List.mem_append_right _ (mem_pinsAt hb e)))
    exact ⟨z.1, z.2.1⟩
  refine ⟨?_, T.keep i _ _ st fun b hb o e => (pin hb e).1, fun b hb => ?_⟩
  · rw [← same]
    exact (Inv.unpinned (pins := []) I).weak (wipe_length τ vs) fun j v e => (wipe_some e).1
  · obtain ⟨o, e, _⟩ := T.obj i _ st b hb
    exact (pin hb e).2
/-- all turns -/
theorem turns_set {c : Clause} {it D : Addr} {elt tg iter : Expr} {ifs : List Expr} {sc : Scope} {pos : Pos} {J : It} {tn : Nat → Heap → Prop} {s3 s4 : Shared} {H3 : Hp} {ce : Env} {fp : List Addr} {R : Result → Shared → Prop} {n : Nat} {Z : Nat → Hp → Prop}
    (calm : X.calm = true) (T : Turn X.prog X.w X.K tg J fp it tn) (pg : PG (X.blk s3 H3 sc ce fp) tg c.g) (pt : PTs (X.blk s3 H3 sc ce fp) ifs c.tt) (pe : PE (X.blk s3 H3 sc ce fp) elt c.te)
    (I : Inv (X.blk s3 H3 sc ce fp) [] (wipe σ c.own) H3 s4) (st : tn 0 s4.heap) (free : ∀ b ∈ fp, H3 b = none) (z0 : Z 0 H3) (stop : ∀ H', Z n H' → J.stop n H' ∧ ∀ s', Inv (X.blk s3 H3 sc ce fp) [] (wipe σ c.own) H' s' → R (.ok .next) s')
    (go : ∀ i H', i < n → Z i H' → J.go i H' ∧ ∀ x H2, J.yld i H' x H2 → c.turn X.prog X.w D σ x H2 (Z (i + 1))) :
    codeAny (model X.prog X.w) X.A (.compLoop (.SetComp elt [⟨tg, iter, ifs, 0⟩] sc pos) 0 (.ref it) (.ref D) ce) R s4 := by
  refine PpSet.compLoopS_any (fun m s' => ∃ (i : Nat) (H' : Hp), m + i = n ∧ Z i H' ∧ Inv (X.blk s3 H3 sc ce fp) [] (wipe σ c.own) H' s' ∧ tn i s'.heap ∧ ∀ b ∈ fp, H' b = none) ?_ n ⟨0, H3, rfl, z0, I, st, free⟩
  rintro m s5 ⟨i, H5, mi, z5, I5, st5, n5⟩
  by_cases last : i < n
  · obtain ⟨jgo, step⟩ := go i H5 last z5
    refine thnF (T.item (X.blk s3 H3 sc ce fp) rfl rfl rfl calm i [] s5 _ H5 (fun _ _ => False) I5 (blk_free I5 n5) st5 jgo) ?_
    rintro _ s6 ⟨u, rfl, h6⟩
    refine thnF h6 ?_
    rintro _ s7 ⟨x, H7, I7, r7, y7, st7, n7⟩
    refine thnF (pg.run _ s7 _ H7 x u _ (I7.pinned (blk_free I7 n7) (T.obj _ _ st7)) r7 (step x H7 y7)) ?_
    rintro _ s8 ⟨τ, H8, I8, same, q8⟩
    refine thnF (pt.run _ s8 τ H8 _ I8 q8) ?_
    rintro b s9 ⟨H9, I9, no, yes⟩
    have next : ∀ (s' : Shared) (H' : Hp), Inv (X.blk s3 H3 sc ce fp) ([] ++ pinsAt fp s7.heap) τ H' s' → Z (i + 1) H' → ∃ m', m' < m ∧ ∃ (i : Nat) (H' : Hp), m' + i = n ∧ Z i H' ∧ Inv (X.blk s3 H3 sc ce fp) [] (wipe σ c.own) H' s' ∧ tn i s'.heap ∧ ∀ b ∈ fp, H' b = none := by
      intro s' H' I' z'
      exact ⟨m - 1, by omega, i + 1, H', by omega, z', blk_turned T st7 I' same⟩
    cases b with
    | false =>
      rw [if_neg Bool.false_ne_true]
      exact next _ _ I9 (no rfl)
    | true =>
      rw [if_pos rfl]
      refine thnF (pe.run _ s9 τ H9 _ I9 (yes rfl)) ?_
      rintro v s10 ⟨y, H10, I10, r10, k, l, rfl, at_, few, z10⟩
      obtain ⟨t, rfl⟩ := r10
      exact word_in (X := X.blk s3 H3 sc ce fp) I10 at_ few fun s11 I11 => next s11 _ I11 z10
  · have e : i = n := by omega
    subst e
    obtain ⟨jstop, fin⟩ := stop H5 z5
    refine thnF (T.done (X.blk s3 H3 sc ce fp) rfl rfl rfl calm i [] s5 _ H5 (fun _ _ => False) I5 (blk_free I5 n5) st5 jstop) ?_
    rintro _ s6 ⟨rfl, I6⟩
    exact fin s6 I6
end
section
variable {X : Cx}
/-- {elt for tg in iter if ..}, elt a text -/
theorem pe_setT (c : Clause) {elt tg iter : Expr} {ifs : List Expr} {sc : Scope} {own : List (PySem.Str × Nat)} {pos : Pos} {wi : TI} (calm : X.calm = true) (hN : X.N.Nodup) (hi : PI X tg iter wi) (ok : BlkOk X.N X.env.scope sc own) (ho : own.map (·.2) = c.own)
    (hg : ∀ (s : Shared) (H : Hp) (C : Addr) (cl : List (PySem.Str × Addr)) (fp : List Addr), PG (X.blk s H sc (compEnvC sc cl C X.env) fp) tg c.g)
    (ht : ∀ (s : Shared) (H : Hp) (C : Addr) (cl : List (PySem.Str × Addr)) (fp : List Addr), PTs (X.blk s H sc (compEnvC sc cl C X.env) fp) ifs c.tt)
    (he : ∀ (s : Shared) (H : Hp) (C : Addr) (cl : List (PySem.Str × Addr)) (fp : List Addr), PE (X.blk s H sc (compEnvC sc cl C X.env) fp) elt c.te)
    (plain : ∀ x, foldedSetIterable iter X.env x = pure x := by intro _; rfl) : PE X (.SetComp elt [⟨tg, iter, ifs, 0⟩] sc pos) (c.all X.prog X.w wi) := by
  constructor
  intro pins s σ H Q I h
  have cells : ∀ y ∈ sc.names, y.2 = .free → ∃ a, X.env.cells.lookup y.1 = some a := fun y hy e => I.ok.has _ (ok.free y hy e)
  rw [PpSet.eval_SetComp]
  refine wpAny_comprehension_free (use := none) rfl plain (closure_ok cells) ok.kind (fun y hy e => (ok.uniq y hy).trans (by rw [e])) (thn (hi.run pins s σ H _ I h) ?_)
  intro xv s1 h1
  refine thn h1 ?_
  rintro itv s2 ⟨it, fp, tn, J, H2, rfl, I2, T, st2, f2, q⟩
  refine PpSet.newSet_ok (newEnv_comp ?_)
  have fresh : H2 s2.heap.objs.size = none := I2.hok.fresh (Nat.le_refl _)
  obtain ⟨n, Z, z0, fin, go⟩ := q _ fresh
  -- the heap with the new set
  have grown : ∀ b o, s2.heap.get? b = some o → (s2.heap.push { cls := .type "set", dict := none, data := .set #[] 0 (.fresh 0 0 (!X.w.params.followText "set-order")) }).get? b = some o := fun b o e => Heap.get?_push_of_some _ e
  have I3 := I2.laid (t' := s2.toks) grown (Nat.le_refl _) (tsetO_ok (P := X.prog) (w := X.w) (H := upd H2 s2.heap.objs.size (TSetO X.prog X.w s2.heap.objs.size [])) (tset_new (h := s2.heap)))
  generalize hD : s2.heap.objs.size = D at *
  generalize hh3 : s2.heap.push { cls := .type "set", dict := none, data := .set #[] 0 (.fresh 0 0 (!X.w.params.followText "set-order")) } = h3 at *
  have sz3 : h3.objs.size = D + 1 := by rw [← hh3, Heap.size_push, hD]
  have below : ∀ b ∈ fp, b < D := fun b hb => by
    obtain ⟨o, e, _⟩ := T.obj _ _ st2 b hb
    rw [← hD]
    exact Heap.lt_size e
  have f3 : ∀ b ∈ fp, FpOk X pins (upd H2 D (TSetO X.prog X.w D [])) b ∧ b < h3.objs.size := fun b hb => by
    have lt := below b hb
    have fb := f2 b hb
    exact ⟨⟨(upd_ne (Nat.ne_of_lt lt)).trans fb.1, fb.2⟩, by rw [sz3]; exact Nat.lt_succ_of_lt lt⟩
  have I4 := block_start I3 ok hN f3
  rw [ho] at I4
  have st4 : tn 0 (pushCells (h3.push { cls := .type "dict", data := .dict #[] }) sc.names) := T.keep _ _ _ st2 fun b _ o e => pushCells_keeps _ _ _ _ (Heap.get?_push_of_some _ (grown b o e))
  refine PpSet.codeAny_compStart_set ?loop (T.self X.A 0 _ _ _ st4 ?loop)
  refine turns_set calm T (hg _ _ _ _ _) (ht _ _ _ _ _) (he _ _ _ _ _) I4 st4 (fun b hb => (f3 b hb).1.1) z0 (fun H' z => ⟨(fin H' z).1, fun s' I' => ?_⟩) go
  have out : Inv X pins σ H' s' := I3.call' (ch := fp) I'.os I'.base I'.hok I'.bare fun b hb => by
    obtain ⟨_, a1, _, a3, a4, a5⟩ := (f3 b hb).1
    exact ⟨a3, a1, a4, a5⟩
  have none_ : H' h3.objs.size = none := I'.free
  obtain ⟨b0, b1, b2, b3, b4, b5⟩ := I3.fpOk (Nat.le_refl _) none_
  obtain ⟨m, hn, _⟩ := I'.loc
  refine ⟨m, hn, fun h'' sb => ⟨.ref D, H', out.turned (t' := s'.toks) (fun b o nb e => (sb.2 b nb).trans e) b0 b1 b3 b4 b5, rfl, (fin H' z).2⟩⟩
end
end My

/-! ## A list or a tuple walked alike -/
namespace My
open PySem PySem.Spec PyProof.Rows L2
/-- a list or a tuple of xs at a -/
def SqA (K : PySem.W.Frag) (H : Hp) (a : Addr) (xs : List V) : Prop := SqL K H a xs ∨ SqT K H a xs
theorem SqA.same {K : PySem.W.Frag} {H H' : Hp} {a : Addr} {xs : List V} (h : SqA K H a xs) (e : Same H H') : SqA K H' a xs := h.elim (fun z => .inl (seqL_same e z)) (fun z => .inr (seqT_same e z))
/-- what is walked is a list or a tuple: J its turns, while G stands -/
def iSeq (K : PySem.W.Frag) (tl : TE) : TI := fun σ H R => tl σ H fun x H1 => ∃ (a : Addr) (xs : List V), x = .ref a ∧ SqA K H1 a xs ∧
  ∀ (J : It) (G : Hp → Prop), G H1 → (∀ H H', Same H H' → G H → G H') → Walk J xs.length G (YAt xs) → R J H1
section
variable {X : Cx} {tg : Expr}
theorem pi_seq {l : Expr} {tl : TE} (hl : PE X l tl) : PI X tg l (iSeq X.K tl) := by
  constructor
  intro pins s σ H R I h
  refine thn (hl.run pins s σ H _ I h) ?_
  rintro v s1 ⟨x, H1, I1, r1, a, xs, rfl, hq, k⟩
  cases r1
  have new : ∀ {o : Obj} (b : Addr), b ∈ [s1.heap.objs.size] → FpOk X pins H1 b := fun {o} b hb => by
    rw [List.mem_singleton.mp hb]
    exact I1.fpOk (Nat.le_refl _) (I1.hok.fresh (Nat.le_refl _))
  rcases hq with hq | hq
  · obtain ⟨its, rv, p, _⟩ := I1.list hq
    refine wpAny_pyIter_list p.isList ⟨s1.heap.objs.size, [s1.heap.objs.size], _, Itl X.K a, H1, rfl, ?_, turn_list a _, ?_, new (o := default), ?_⟩
    · exact I1.kept (t' := s1.toks) fun b o e => Heap.get?_push_of_some _ e
    · exact ⟨_, Heap.get?_push_size _ rfl, rfl, rfl⟩
    · exact k _ (fun H => SqL X.K H a xs) hq (fun H H' e z => seqL_same e z) walk_list
  · obtain ⟨its, rv, p, _⟩ := I1.tuple hq
    have p' : s1.heap.IsTuple a its.toArray := p
    refine wpAny_pyIter_tuple p' ⟨s1.heap.objs.size, [s1.heap.objs.size], _, Itt X.K a, H1, rfl, ?_, turn_tuple a _, ?_, new (o := default), ?_⟩
    · exact I1.kept (t' := s1.toks) fun b o e => Heap.get?_push_of_some _ e
    · exact ⟨_, Heap.get?_push_size _ rfl, rfl, rfl⟩
    · exact k _ (fun H => SqT X.K H a xs) hq (fun H H' e z => seqT_same e z) walk_tup
theorem pi_seqK (K : PySem.W.Frag) {l : Expr} {tl : TE} (hl : PE X l tl) (hK : X.K = K := by rfl) : PI X tg l (iSeq K tl) := hK ▸ pi_seq hl
end
end My

/-! settext2 wants seqwalk (or seqs) ahead -/
/-! ## set(xs), len(a set of texts) as calls of the layer -/
namespace My
open PySem PySem.Spec PyProof.Rows L2
theorem seqs_list {P : Program} {w : World} {h : Heap} {l : Addr} {items : Array Value} (hl : h.IsList l items) : Seqs P w h l "list" "list_iterator" items := by
  have back : ∀ {h : Heap}, (∃ (d : Option Addr) (n : Nat) (sl : Array (Option Value)), h.get? l = some { cls := .type "list", dict := d, data := .seq items n, slots := sl }) → h.IsList l items := fun ⟨_, n, _, e⟩ => ⟨_, e, rfl, n, rfl⟩
  refine ⟨?_, PySem.F.sub_list_set, PySem.F.sub_list_frozenset, by decide, fun A' s1 Q E e q => wpAny_pyIter_list (back e) q, fun A' I hh ne => ⟨_, Walks.list hh I l ne items, fun h2 e1 e2 => ⟨⟨_, e1, rfl, rfl⟩, back e2⟩⟩⟩
  obtain ⟨⟨c, d, dt, sl⟩, e, hc, n, hd⟩ := hl
  cases hc
  cases hd
  exact ⟨d, n, sl, e⟩
theorem seqs_tuple {P : Program} {w : World} {h : Heap} {l : Addr} {items : Array Value} (hl : h.IsTuple l items) : Seqs P w h l "tuple" "tuple_iterator" items := by
  have back : ∀ {h : Heap}, (∃ (d : Option Addr) (n : Nat) (sl : Array (Option Value)), h.get? l = some { cls := .type "tuple", dict := d, data := .seq items n, slots := sl }) → h.IsTuple l items := fun ⟨_, n, _, e⟩ => ⟨_, e, rfl, n, rfl⟩
  refine ⟨?_, PySem.F.sub_tuple_set, PySem.F.sub_tuple_frozenset, by decide, fun A' s1 Q E e q => wpAny_pyIter_tuple (back e) q, fun A' I hh ne => ⟨_, Walks.tuple hh I l ne items, fun h2 e1 e2 => ⟨⟨_, e1, rfl, rfl⟩, back e2⟩⟩⟩
  obtain ⟨⟨c, d, dt, sl⟩, e, hc, n, hd⟩ := hl
  cases hc
  cases hd
  exact ⟨d, n, sl, e⟩
theorem texts_are : ∀ {ys : List Str} {us : List Value}, Vals (ys.map V.str) us → StrsAre us ys
  | [], _, .nil => .nil
  | y :: ys, _, .cons r t => by
    obtain ⟨k, rfl⟩ := r
    exact .cons y k (texts_are t)
/-- set(xs) -/
def rSetT (P : Program) (w : World) (K : PySem.W.Frag) : List V → Hp → VK → Prop := fun vs H Q => ∃ (a : Addr) (xs : List Str), vs = [.ref a] ∧ SqA K H a (xs.map V.str) ∧ xs.length ≤ 1000 ∧
  ∀ (p : Addr) (m : List Str), H p = none → m.Nodup → (∀ y, y ∈ m ↔ y ∈ xs) → Q (.ref p) (upd H p (TSetO P w p m))
/-- len(a set of texts) -/
def rLenT (P : Program) (w : World) : List V → Hp → VK → Prop := fun vs H Q => ∃ (a : Addr) (m : List Str), vs = [.ref a] ∧ H a = some (TSetO P w a m) ∧ Q (.int m.length) H
section
variable {X : Cx}
theorem call_setT (K : PySem.W.Frag) (calm : X.calm = true) (hK : X.K = K := by rfl) : CallR X (.type "set") (rSetT X.prog X.w K) := by
  subst hK
  intro pins s σ H vs us Q I r h
  obtain ⟨a, xs, rfl, hq, few, q⟩ := h
  rw [Vals.ref1 r]
  have fin : ∀ (h' : Heap) (tk : Nat) (m : List Str), TSet X.prog X.w h' s.heap.objs.size m → m.length ≤ xs.length → (∀ y, y ∈ m ↔ y ∈ xs) → (∀ b o, s.heap.get? b = some o → h'.get? b = some o) → EP X pins σ Q (.ref s.heap.objs.size) { s with heap := h', toks := tk } := fun h' tk m R _ mem keep =>
    ⟨.ref s.heap.objs.size, _, I.laid keep (Nat.le_refl _) (tsetO_ok R), rfl, q _ m (I.hok.fresh (Nat.le_refl _)) R.nd mem⟩
  rcases hq with hq | hq
  · obtain ⟨its, rv, pl, _⟩ := I.list hq
    exact set_of (I.ok.hd calm) (seqs_list pl.isList) (by simpa using texts_are rv) few fin
  · obtain ⟨its, rv, pl, _⟩ := I.tuple hq
    exact set_of (I.ok.hd calm) (seqs_tuple (show s.heap.IsTuple a its.toArray from pl)) (by simpa using texts_are rv) few fin
theorem call_lenT : CallR X (.builtin "len") (rLenT X.prog X.w) := by
  intro pins s σ H vs us Q I r h
  obtain ⟨a, m, rfl, at_, q⟩ := h
  rw [Vals.ref1 r]
  obtain ⟨⟨o, es, ep, t, ho, ex, hd, el, pm, few, fit, ri, le⟩, nd⟩ := tset_get I at_
  have n1 : es.size = m.length := by
    have z := pm.length_eq
    rwa [List.length_map, Array.length_toList] at z
  refine call_len_set ho ex hd fit (by have : es.size < 4096 := few; omega) ?_
  exact ⟨.int m.length, H, I.tok _, ⟨_, by rw [n1]⟩, q⟩
end
theorem sub_len : ∀ {xs m : List Str}, m.Nodup → (∀ y ∈ m, y ∈ xs) → m.length ≤ xs.length
  | [], [], _, _ => Nat.le_refl _
  | [], y :: m, _, h => nomatch h y List.mem_cons_self
  | x :: xs, m, nd, h => by
    have h2 : ∀ y ∈ m.erase x, y ∈ xs := fun y hy => by
      have z := nd.mem_erase_iff.mp hy
      exact (List.mem_cons.mp (h y z.2)).resolve_left z.1
    have ih := sub_len (nd.erase x) h2
    have e := List.length_erase (a := x) (l := m)
    rw [List.length_cons]
    split at e <;> omega
/-- a list has as many different members as members just where none stands twice -/
theorem nodup_of_len : ∀ {xs m : List Str}, m.Nodup → (∀ y, y ∈ m ↔ y ∈ xs) → m.length = xs.length → xs.Nodup
  | [], _, _, _, _ => List.nodup_nil
  | x :: xs, m, nd, mem, e => by
    by_cases hx : x ∈ xs
    · have le := sub_len nd (xs := xs) fun y hy => (List.mem_cons.mp ((mem y).mp hy)).elim (fun z => z ▸ hx) id
      rw [e, List.length_cons] at le
      omega
    · have xm : x ∈ m := (mem x).mpr List.mem_cons_self
      have mem2 : ∀ y, y ∈ m.erase x ↔ y ∈ xs := fun y => by
        rw [nd.mem_erase_iff, mem, List.mem_cons]
        constructor
        · rintro ⟨n, z⟩
          exact z.resolve_left n
        · intro z
          exact ⟨fun e => hx (e ▸ z), .inr z⟩
      have e2 : (m.erase x).length = xs.length := by
        rw [List.length_erase_of_mem xm, e, List.length_cons]
        rfl
      exact List.nodup_cons.mpr ⟨hx, nodup_of_len (nd.erase x) mem2 e2⟩
theorem len_nodup {xs m : List Str} (nd : m.Nodup) (mem : ∀ y, y ∈ m ↔ y ∈ xs) : m.length = xs.length ↔ xs.Nodup :=
  ⟨nodup_of_len nd mem, fun nx => Nat.le_antisymm (sub_len nd fun y hy => (mem y).mp hy) (sub_len nx fun y hy => (mem y).mpr hy)⟩
end My

/-! ## enumerate(v), v a list or a tuple -/
namespace PySem
set_option maxHeartbeats 1000000 in
theorem my_meets_enumerate {v : Value} {o : Obj} {H : Heap → Prop} (B : Begins v o H) :
    Meets (Builtin.«enumerate.__new__» ⟨[.type "enumerate", v], []⟩) (fun _ R s => H s.heap ∧
      R (.ok (.ret (.ref (s.heap.push o).objs.size))) { s with heap := (s.heap.push o).push { cls := .type "enumerate", data := .fields #[.none, .bool false, .ref s.heap.objs.size, rawInt 0, .none, .none] } }) :=
  .of_wp fun prog w A R s h => by
    obtain ⟨hp, g, d, tk, os⟩ := s; obtain ⟨h1, h⟩ := h
    have hsub := sub_enumerate
    have q1 : ∀ {A' : Around} {E : Value → Shared → Prop} {Q : Value → Shared → Prop}, Q (.ref hp.objs.size) ⟨hp.push o, g, d, tk, os⟩ → wpAny (model prog w) A' (pyIter v) Q E ⟨hp, g, d, tk, os⟩ :=
      fun q => B.iter prog w _ _ ⟨hp, g, d, tk, os⟩ _ h1 q
    wp_walk using q1
    refine wpAny_stack_any fun st => wpAny_pure ?_
    split
    · rename_i c _ _ _ _ _
      cases (c == Value.type "enumerate")
      · wp_walk using q1
        exact ⟨_, rfl, h⟩
      · wp_walk using q1
        exact ⟨_, rfl, h⟩
    · wp_walk using q1
      exact ⟨_, rfl, h⟩
theorem my_call_enumerate {prog : Program} {w : World} {A : Around} {E : Value → Shared → Prop} {s : Shared} {v : Value} {o : Obj} {H : Heap → Prop} {Q : Value → Shared → Prop} (B : Begins v o H) (h1 : H s.heap)
    (h : ∀ h', IsEnum h' (s.heap.objs.size + 1) s.heap.objs.size 0 .none → h'.get? s.heap.objs.size = some o → h'.objs.size = s.heap.objs.size + 2 →
      (∀ b o, s.heap.get? b = some o → h'.get? b = some o) → Q (.ref (s.heap.objs.size + 1)) { s with heap := h' }) :
    wpAny (model prog w) A (call (.type "enumerate") [v]) Q E s := by
  refine callType_new F.called_enumerate (by decide) (F.typeCall_enumerate_1 _) (F.newCall_enumerate_1 _) (fun obj => F.args_object_init_2 obj _) F.entry_enumerate_new (my_meets_enumerate B) ⟨h1, ?_⟩
  have hz : (s.heap.push o).objs.size = s.heap.objs.size + 1 := Heap.size_push ..
  show _ ∧ _
  rw [hz]
  have he : IsEnum ((s.heap.push o).push { cls := .type "enumerate", data := .fields #[.none, .bool false, .ref s.heap.objs.size, rawInt 0, .none, .none] }) (s.heap.objs.size + 1) s.heap.objs.size 0 .none := by
    have := Heap.get?_push_size (s.heap.push o) (o := { cls := .type "enumerate", data := .fields #[.none, .bool false, .ref s.heap.objs.size, rawInt 0, .none, .none] }) rfl
    rw [hz] at this; exact this
  refine ⟨⟨_, he, rfl⟩, h _ he (Heap.get?_push_of_some _ (Heap.get?_push_size _ B.free)) (by rw [Heap.size_push, hz]) fun b o x => Heap.get?_push_of_some _ (Heap.get?_push_of_some _ x)⟩
end PySem
namespace My
open PySem PySem.Spec PyProof.Rows L2
/-- the tuple at a as it stands at each turn, each item in a new pair -/
def IteT (K : PySem.W.Frag) (a : Addr) : It :=
  ⟨fun i H => ∃ (xs : List V) (x : V), SqT K H a xs ∧ xs[i]? = some x, fun i H v H' => ∃ T x, v = .ref T ∧ H T = none ∧ H' = upd H T (.tup [.int (i : Nat), x]) ∧ ∀ xs, SqT K H a xs → xs[i]? = some x, fun i H => ∃ xs : List V, SqT K H a xs ∧ xs.length ≤ i⟩
theorem turn_enumT {P : Program} {w : World} {K : PySem.W.Frag} {elts : List Expr} {kk : Nat} {tpos : Pos} (a e it : Addr) :
    Turn P w K (.Tuple elts kk tpos) (IteT K a) [e, it] e (fun i h => (∃ old, IsEnum h e it ((i : Nat) : Int) old) ∧ h.IsTupleIter it a i ∧ e ≠ it) where
  mem := by simp
  obj := fun i h st b hb => by
    obtain ⟨⟨old, he⟩, ⟨o, ho, hc, hd⟩, _⟩ := st
    have e' : b = e ∨ b = it := by simpa using hb
    rcases e' with z | z
    · rw [z]; exact ⟨_, he, fun v q => nomatch q⟩
    · rw [z]; exact ⟨o, ho, fun v q => by rw [hd] at q; cases q⟩
  keep := fun i h h' st k => let ⟨⟨old, he⟩, hi, hne⟩ := st; ⟨⟨old, k e (by simp) _ he⟩, hi.at fun o q => k it (by simp) o q, hne⟩
  item := by
    intro X hP hw hK hc i pins s σ H E I hf st hg
    subst hP hw hK
    obtain ⟨⟨old, he⟩, hit, hne⟩ := st
    obtain ⟨xs, x, hq, hx⟩ := hg
    obtain ⟨its, rv, p, hz⟩ := I.tuple hq
    have pT : s.heap.IsTuple a its.toArray := p
    obtain ⟨u, hu, ru⟩ := rv.get hx
    have hel : e < s.heap.objs.size := Heap.lt_size he
    have hil : it < s.heap.objs.size := by obtain ⟨_, q, _⟩ := hit; exact Heap.lt_size q
    have hai : a ≠ it := fun z => by
      obtain ⟨o1, e1, c1, d1⟩ := hit
      obtain ⟨o2, e2, c2, n2, d2⟩ := pT
      rw [z, e1] at e2
      cases e2
      rw [d1] at d2
      cases d2
    have hae : e ≠ a := fun z => by
      obtain ⟨o2, e2, c2, n2, d2⟩ := pT
      rw [← z] at e2
      have he' : s.heap.get? e = _ := he
      rw [he'] at e2
      cases e2
      cases d2
    have hef : e ∉ [it, a] := fun z => by
      rcases List.mem_cons.mp z with z | z
      · exact hne z
      · exact hae (List.mem_singleton.mp z)
    have hi : i < its.toArray.size := by
      have := (List.getElem?_eq_some_iff.mp hu).1
      simpa using this
    refine wpAny_pyNext_enum_itemD (Draws.tuple (A := X.A.in1) (I.ok.hd hc) it a hai its.toArray) he ⟨hit, pT⟩ hi hne hef fun x' h' tk hP ho hit' hT hsz hk => ?_
    have ex : x' = u := by
      have h1 : its.toArray[i]? = some x' := hP
      rw [List.getElem?_toArray, hu] at h1
      exact (Option.some.inj h1).symm
    subst ex
    refine ⟨_, rfl, wpAny_letOwnedTupleGo_enum (s := { s with heap := h', toks := tk + 1 }) ho fun h'' he' sb => ?_⟩
    have hT2 : h''.get? s.heap.objs.size = some { cls := .type "tuple", data := .seq #[.int i tk, x'] } := (sb.2 _ (Nat.ne_of_gt hel)).trans hT
    have new : ObjOk X.prog X.w (upd H s.heap.objs.size (.tup [.int (i : Nat), x])) h'' s.heap.objs.size (.tup [.int (i : Nat), x]) :=
      ⟨by show 2 ≤ sizeLine; decide, [.int i tk, x'], .cons ⟨_, rfl⟩ (.cons ru .nil), ⟨_, hT2, rfl, _, rfl⟩⟩
    have I1 : Inv X pins σ (upd H s.heap.objs.size (.tup [.int (i : Nat), x])) { s with heap := h'', toks := tk + 1 } :=
      I.turnedNew (ch := [e, it]) (fun b ob hb q => (sb.2 b (fun z => hb (by simp [z]))).trans (hk b ob (fun z => hb (by simp [z])) (fun z => hb (by simp [z])) q)) hf (Nat.le_refl _) new
    refine ⟨.ref s.heap.objs.size, _, I1, rfl, ⟨_, x, rfl, I.hok.fresh (Nat.le_refl _), rfl, fun ys hy => by rw [I.tuple_inj hy hq]; exact hx⟩, ⟨⟨x', ?_⟩, hit'.1.at fun o q => (sb.2 it (Ne.symm hne)).trans q, hne⟩, fun b hb => ?_⟩
    · have e1 : ((i + 1 : Nat) : Int) = (i : Int) + 1 := by omega
      rw [e1]; exact he'
    · have hb' : b < s.heap.objs.size := by
        have e' : b = e ∨ b = it := by simpa using hb
        rcases e' with z | z
        · rw [z]; exact hel
        · rw [z]; exact hil
      rw [upd_ne (Nat.ne_of_lt hb')]
      exact (hf b hb).1
  done := by
    intro X hP hw hK hc i pins s σ H E I hf st hg
    subst hP hw hK
    obtain ⟨⟨old, he⟩, hit, hne⟩ := st
    obtain ⟨xs, hq, hx⟩ := hg
    obtain ⟨its, rv, p, hz⟩ := I.tuple hq
    have pT : s.heap.IsTuple a its.toArray := p
    obtain ⟨f0, f1, f2, f3, f4, f5⟩ := hf it (by simp)
    have hl := rv.length
    have D : Draws X.prog X.w X.A.in1 it [it, a] 0 (fun _ _ => True) (fun j h => j = 0 ∧ h.IsTupleIter it a i ∧ h.IsTuple a its.toArray) := {
      live := fun _ _ st => let ⟨o, ho, _⟩ := st.2.1; ⟨o, ho⟩
      frame := fun _ _ _ st hk => ⟨st.1, st.2.1.at fun o e => hk it (by simp) o e, st.2.2.at fun o e => hk a (by simp) o e⟩
      item := fun j s Q E hj => absurd hj (Nat.not_lt_zero _)
      done := fun s Q E st hE => wpAny_nextOf_tuple_end (I.ok.hd hc) st.2.1 st.2.2 (by simp; omega) hE }
    exact wpAny_pyNext_enum_endD D he ⟨rfl, hit, pT⟩ fun h' eb => ⟨rfl, I.turned (t' := s.toks) (fun b o hb q => eb b o hb q) f0 f1 f3 f4 f5⟩
  self := fun A i s Q E st h => let ⟨⟨_, he⟩, _⟩ := st; wpAny_pyIter_enum he h
theorem walk_enumT {K : PySem.W.Frag} {a : Addr} {xs : List V} : Walk (IteT K a) xs.length (fun H => SqT K H a xs) (YPair (fun i => some (.int (i : Nat))) (fun i => xs[i]?)) := by
  refine ⟨fun i _ hi q => ⟨xs, xs[i], q, by simp [hi]⟩, fun _ q => ⟨xs, q, Nat.le_refl _⟩, fun i H v H' _ q y => ?_⟩
  obtain ⟨T, x, h1, h2, h3, h4⟩ := y
  exact ⟨T, .int (i : Nat), x, h1, h2, h3, rfl, h4 xs q⟩
def iEnumA (K : PySem.W.Frag) (ta : TA) : TI := fun σ H R => ta σ H fun vs H1 => ∃ (a : Addr) (xs : List V), vs = [.ref a] ∧ SqA K H1 a xs ∧
  ∀ (J : It) (G : Hp → Prop), G H1 → (∀ H H', Same H H' → G H → G H') → Walk J xs.length G (YPair (fun i => some (.int (i : Nat))) (fun i => xs[i]?)) → R J H1
theorem pi_enumA {X : Cx} (K : PySem.W.Frag) {e : Expr} {ta : TA} {p pos tpos : Pos} {elts : List Expr} {kk : Nat} (hg : Gl X "enumerate") (hm : X.mg "enumerate" = none) (ha : PA X [e] ta) (hK : X.K = K := by rfl) (hs : starEach [e] X.env = [(false, eval e X.env)] := by rfl) :
    PI X (.Tuple elts kk tpos) (.Call (.Name "enumerate" p) [e] [] pos) (iEnumA K ta) := by
  subst hK
  refine ⟨fun pins s σ H R I h => ?_⟩
  refine Call_ (ld_blt I hg hm boot_enumerate (PyProof.Rows.callWith_type1 (thn (ha.run pos pins s σ H _ I h) fun us s1 ⟨vs, H1, I1, r1, q1⟩ => ?_) hs rfl))
  obtain ⟨a, xs, ex, hq, q⟩ := q1
  subst ex
  cases r1 with
  | cons r rr =>
    cases rr
    cases r
    have fresh : ∀ b, b ∈ [s1.heap.objs.size + 1, s1.heap.objs.size] → FpOk X pins H1 b := fun b hb => by
      have e' : b = s1.heap.objs.size + 1 ∨ b = s1.heap.objs.size := by simpa using hb
      have hle : s1.heap.objs.size ≤ b := by
        rcases e' with z | z
        · rw [z]; exact Nat.le_add_right _ _
        · rw [z]; exact Nat.le_refl _
      exact I1.fpOk hle (I1.hok.fresh hle)
    rcases hq with hq | hq
    · obtain ⟨its, rv, p', hz⟩ := I1.list hq
      refine call_enumerate_list p'.isList fun h' he hit hsz hk => wpAny_pyIter_enum he ?_
      have I2 : Inv X pins σ H1 { s1 with heap := h' } := I1.kept (t' := s1.toks) hk
      exact ⟨s1.heap.objs.size + 1, [s1.heap.objs.size + 1, s1.heap.objs.size], _, _, H1, rfl, I2, turn_enum a (s1.heap.objs.size + 1) s1.heap.objs.size, ⟨⟨.none, he⟩, hit, Nat.succ_ne_self _⟩, fresh, q _ (fun H => SqL X.K H a xs) hq (fun H H' e z => seqL_same e z) walk_enum⟩
    · obtain ⟨its, rv, p', hz⟩ := I1.tuple hq
      have pT : s1.heap.IsTuple a its.toArray := p'
      refine my_call_enumerate (begins_tuple a its.toArray) pT fun h' he hit hsz hk => wpAny_pyIter_enum he ?_
      have I2 : Inv X pins σ H1 { s1 with heap := h' } := I1.kept (t' := s1.toks) hk
      exact ⟨s1.heap.objs.size + 1, [s1.heap.objs.size + 1, s1.heap.objs.size], _, _, H1, rfl, I2, turn_enumT a (s1.heap.objs.size + 1) s1.heap.objs.size, ⟨⟨.none, he⟩, ⟨_, hit, rfl, rfl⟩, Nat.succ_ne_self _⟩, fresh, q _ (fun H => SqT X.K H a xs) hq (fun H H' e z => seqT_same e z) walk_enumT⟩
end My

/-! ## Any values: drawn data -/
namespace My
open PySem L2
mutual
/-- a datum at v, all its objects of a kind -/
inductive Da (ok : Addr → Prop) (H : Hp) : V → PyData → Prop
  | non : Da ok H .non .none
  | bl (b : Bool) : Da ok H (.bl b) (.bool b)
  | int (i : Int) : Da ok H (.int i) (.int i)
  | str (x : Str) : Da ok H (.str x) (.str x)
  | lst {a : Addr} {xs : List V} {ds : List PyData} : ok a → H a = some (.lst xs) → DaAll ok H xs ds → Da ok H (.ref a) (.list ds)
  | tup {a : Addr} {xs : List V} {ds : List PyData} : ok a → H a = some (.tup xs) → DaAll ok H xs ds → Da ok H (.ref a) (.tuple ds)
inductive DaAll (ok : Addr → Prop) (H : Hp) : List V → List PyData → Prop
  | nil : DaAll ok H [] []
  | cons {v : V} {vs : List V} {d : PyData} {ds : List PyData} : Da ok H v d → DaAll ok H vs ds → DaAll ok H (v :: vs) (d :: ds)
end
mutual
theorem Da.mono {ok ok' : Addr → Prop} {H H' : Hp} (h1 : ∀ a, ok a → ok' a) (h2 : ∀ a o, ok a → H a = some o → H' a = some o) : ∀ (d : PyData) (v : V), Da ok H v d → Da ok' H' v d
  | .none, _, h => by cases h; exact .non
  | .bool b, _, h => by cases h; exact .bl b
  | .int i, _, h => by cases h; exact .int i
  | .str x, _, h => by cases h; exact .str x
  | .list ds, _, h => by
    cases h with
    | lst k hs ha => exact .lst (h1 _ k) (h2 _ _ k hs) (DaAll.mono h1 h2 ds _ ha)
  | .tuple ds, _, h => by
    cases h with
    | tup k hs ha => exact .tup (h1 _ k) (h2 _ _ k hs) (DaAll.mono h1 h2 ds _ ha)
  | .dict _, _, h => by cases h
theorem DaAll.mono {ok ok' : Addr → Prop} {H H' : Hp} (h1 : ∀ a, ok a → ok' a) (h2 : ∀ a o, ok a → H a = some o → H' a = some o) : ∀ (ds : List PyData) (vs : List V), DaAll ok H vs ds → DaAll ok' H' vs ds
  | [], _, h => by cases h; exact .nil
  | d :: ds, _, h => by
    cases h with
    | cons k1 k2 => exact .cons (Da.mono h1 h2 d _ k1) (DaAll.mono h1 h2 ds _ k2)
end
mutual
theorem Da.dp {K : PySem.W.Frag} {ok : Addr → Prop} {H : Hp} : ∀ (d : PyData) (v : V), Da ok H v d → Dp K H v d
  | .none, _, h => by cases h; exact .non
  | .bool b, _, h => by cases h; exact .bl b
  | .int i, _, h => by cases h; exact .int i
  | .str x, _, h => by cases h; exact .str x
  | .list ds, _, h => by
    cases h with
    | lst k hs ha => exact .lst (SqL.of hs) (DaAll.dp ds _ ha)
  | .tuple ds, _, h => by
    cases h with
    | tup k hs ha => exact .tup (SqT.of hs) (DaAll.dp ds _ ha)
  | .dict _, _, h => by cases h
theorem DaAll.dp {K : PySem.W.Frag} {ok : Addr → Prop} {H : Hp} : ∀ (ds : List PyData) (vs : List V), DaAll ok H vs ds → DpAll K H vs ds
  | [], _, h => by cases h; exact .nil
  | d :: ds, _, h => by
    cases h with
    | cons k1 k2 => exact .cons (Da.dp d _ k1) (DaAll.dp ds _ k2)
end
theorem DaAll.snoc {ok : Addr → Prop} {H : Hp} {v : V} {d : PyData} : ∀ {vs : List V} {ds : List PyData}, DaAll ok H vs ds → Da ok H v d → DaAll ok H (vs ++ [v]) (ds ++ [d])
  | _, _, .nil, h => .cons h .nil
  | _, _, .cons a t, h => .cons a (DaAll.snoc t h)
mutual
/-- all texts and all rows of items are short -/
def shortD : PyData → Bool
  | .str x => decide (x.length ≤ 2000)
  | .list ds => decide (ds.length ≤ 900) && shortDs ds
  | .tuple ds => decide (ds.length ≤ 900) && shortDs ds
  | _ => true
def shortDs : List PyData → Bool
  | [] => true
  | d :: ds => shortD d && shortDs ds
end
theorem shortDs_mem : ∀ {ds : List PyData}, (∀ d ∈ ds, shortD d = true) → shortDs ds = true
  | [], _ => rfl
  | d :: ds, h => by
    unfold shortDs
    rw [h d List.mem_cons_self, shortDs_mem fun x hx => h x (List.mem_cons_of_mem _ hx)]
    rfl
theorem shortDs_of : ∀ {ds : List PyData}, shortDs ds = true → ∀ d ∈ ds, shortD d = true
  | d :: ds, h, x, hx => by
    unfold shortDs at h
    rw [Bool.and_eq_true] at h
    rcases List.mem_cons.mp hx with z | z
    · rw [z]; exact h.1
    · exact shortDs_of h.2 x z
theorem DaAll.size {ok : Addr → Prop} {H : Hp} : ∀ {vs : List V} {ds : List PyData}, DaAll ok H vs ds → vs.length = ds.length
  | _, _, .nil => rfl
  | _, _, .cons _ t => by rw [List.length_cons, List.length_cons, DaAll.size t]
/-- what is said of a drawn datum: its texts are short and of code points, its depth at most k -/
structure GoodD (k : Nat) (d : PyData) : Prop where
  lay : d.canLay0 = true
  dep : d.depth ≤ k
  txt : ∀ x, d = .str x → x.length ≤ 2000
  sht : shortD d = true
theorem GoodD.mono {k l : Nat} {d : PyData} (h : GoodD k d) (e : k ≤ l) : GoodD l d := ⟨h.lay, Nat.le_trans h.dep e, h.txt, h.sht⟩
theorem GoodD.str {x : Str} {k : Nat} (h : okS x = true) : GoodD k (.str x) := by
  have h' := Bool.and_eq_true_iff.mp h
  exact ⟨by simpa [PyData.canLay0] using h'.2, by simp [PyData.depth], fun y e => (by cases e; exact of_decide_eq_true h'.1), h'.1⟩
theorem good_list {k : Nat} : ∀ {ds : List PyData}, ds.length ≤ 900 → (∀ d ∈ ds, GoodD k d) → GoodD (k + 1) (.list ds) ∧ GoodD (k + 1) (.tuple ds) := by
  intro ds hl h
  have sh : (decide (ds.length ≤ 900) && shortDs ds) = true := by rw [decide_eq_true hl, shortDs_mem fun d hd => (h d hd).sht]; rfl
  have h1 : PyData.canLayAll0 ds = true ∧ PyData.depthAll ds ≤ k := by
    clear sh hl
    induction ds with
    | nil => exact ⟨rfl, Nat.zero_le _⟩
    | cons d ds ih =>
      have a := h d List.mem_cons_self
      have b := ih fun x hx => h x (List.mem_cons_of_mem _ hx)
      refine ⟨by simp [PyData.canLayAll0, a.lay, b.1], ?_⟩
      simp only [PyData.depthAll]
      exact Nat.max_le.mpr ⟨a.dep, b.2⟩
  exact ⟨⟨by simpa [PyData.canLay0] using h1.1, by simp only [PyData.depth]; omega, fun _ e => (by cases e), sh⟩, ⟨by simpa [PyData.canLay0] using h1.1, by simp only [PyData.depth]; omega, fun _ e => (by cases e), sh⟩⟩
theorem Da.dv {K : PySem.W.Frag} {ok : Addr → Prop} {H : Hp} {v : V} {d : PyData} {k : Nat} (h : Da ok H v d) (g : GoodD k d) (hk : k ≤ 60) : Dv K H v d := by
  refine ⟨Da.dp d v h, ?_, g.txt⟩
  unfold SeqAt.shaped
  rw [g.lay, decide_eq_true (show d.depth ≤ 64 by have := g.dep; omega)]
  rfl
abbrev s_any : Stmt := top 38
abbrev N_any : List Str := ["_law_box_here", "_law_deep", "_law_form", "_law_some", "_law_k", "_law_words_here", "_law_plain"]
abbrev P_any : List Str := ["_law_box_here", "_law_deep"]
theorem sc_any : FnScope N_any P_any (defScope s_any) := ⟨rfl, rfl, rfl, by decide +kernel, rfl, by decide +kernel, by decide +kernel⟩
structure TxAny (w : World) (K : PySem.W.Frag) (mg : Str → Option Value) extends TxNames w K mg where
  z_tuple : mg "tuple" = none
  f_any : Addr
  d_any : FuncData
  F_any : Fun K "_law_any" "_law_any" s_any f_any d_any
  m_any : mg "_law_any" = some (.ref f_any)
  b_any : Binds K d_any P_any []
def spAny (n : Nat) : Sp := fun vs H Q _ => ∃ b : Addr, vs = [.ref b, .int (n : Int)] ∧ Gr b H H ∧
  ∀ (v : V) (d : PyData) (H' : Hp), Gr b H H' → Da (fun a => H a = none) H' v d → GoodD (n + 1) d → Q v H'
section
variable {P : Program} {w : World} {K : PySem.W.Frag} {mg : Str → Option Value} {base : Heap}
def ANYW : List Str := ["", "a", "none", "any", "same", "keep", "old", "abcde", "Ab", "a b", "x1", "good", "both", "\n", "zz"]
theorem ANYW_ok : ANYW.all okS = true := by decide +kernel
theorem any_step (T : TxAny w K mg) (n : Nat) {lev : Nat} {spR : Sp} (hR : ∀ m, n = m + 1 → spR = spAny m) (G_any : FnOk P w K mg base CX0 lev T.f_any T.d_any P_any spR) (hl : 2 ≤ lev) :
    FnOk P w K mg base CX0 (lev + 1) T.f_any T.d_any P_any (spAny n) := by
  have G_take : FnOk P w K mg base CX0 1 T.f_take T.d_take P_take spTakeG := ok_takeG T.toTxDraw
  have G_pick : FnOk P w K mg base CX0 2 T.f_pick T.d_pick P_pick (spPickG) := ok_pickG T.toTxDraw
  refine T.F_any.ok sc_any (fun vs H Q E h => ?_) (fun cdv A outer s H vs Q E hr' h => ?_)
  · obtain ⟨b, rfl, _⟩ := h
    rfl
  obtain ⟨b, rfl, g0, q⟩ := h
  have hr : Room 2 _ := hr'.mono hl
  refine ⟨_, (pss_cons (ps_set (i := 2) sc_any.nd rfl (Or.inl rfl) (pe_call G_take (hr.mono (by decide)) (by rfl) T.m_take T.F_take.kp T.b_take .nil pass0 (pa_cons (pv 0) (pa_cons pe_int pa_nil))))
      (Evl.pss_cut (ps_if (PW.pt (pw_and (pt_cmpR op_lt (pv 2) pe_int (nomark _)) (pw_and1 (pt_cmpR op_gt (pv 1) pe_int (nomark _))))) (pss_cons (ps_setLc (i := 3) (own := [("_law_k", 4)]) (g := gName 4) (by rfl) sc_any.nd rfl rfl (sw_true rfl rfl rfl (by decide +kernel)) (pi_range1 (by rfl) T.z_range (pa_cons (pe_call G_take (hr.mono (by decide)) (by rfl) T.m_take T.F_take.kp T.b_take .nil pass0 (pa_cons (pv 0) (pa_cons pe_int pa_nil))) pa_nil)) (blkOk_by (own := [("_law_k", 4)]) (N := N_any) (sc := defScope s_any) (by decide +kernel)) (fun _ _ _ _ _ => (pg_name (i := 4) sc_any.nd rfl (Or.inl rfl))) (fun _ _ _ _ _ => pts_nil) (fun _ _ _ _ _ => (pe_call G_any hr' (by rfl) T.m_any T.F_any.kp T.b_any .nil pass0 (pa_cons (pv 0) (pa_cons (pe_op op_sub (pv 1) pe_int) pa_nil)))))
      (pss_one (ps_ret (pe_ifExp (pt_cmpR op_lt (pv 2) pe_int (nomark _)) (pv 3) (pe_callTy (call_tupleK K) (by rfl) T.z_tuple (by decide +kernel) (pa_cons (pv 3) pa_nil)))))) pss_nil)
      (pss_cons (ps_set (i := 5) sc_any.nd rfl (Or.inl rfl) (pe_lst (pa_cons pe_str (pa_cons pe_str (pa_cons pe_str (pa_cons pe_str (pa_cons pe_str (pa_cons pe_str (pa_cons pe_str (pa_cons pe_str (pa_cons pe_str (pa_cons pe_str (pa_cons pe_str (pa_cons pe_str (pa_cons pe_str (pa_cons pe_str (pa_cons pe_str pa_nil)))))))))))))))))
      (pss_cons (ps_set (i := 6) sc_any.nd rfl (Or.inl rfl) (pe_lst (pa_cons pe_non (pa_cons pe_bl (pa_cons pe_bl (pa_cons pe_int (pa_cons pe_int (pa_cons (pe_op op_sub pe_int pe_int) (pa_cons (pe_op op_pow pe_int pe_int) (pa_cons (pe_lst (pa_cons pe_str pa_nil)) (pa_cons (pe_tup (pa_cons pe_str pa_nil)) (pa_cons pe_int pa_nil))))))))))))
      (pss_one (ps_ret (pe_ifExp (pt_cmpR op_lt (pv 2) pe_int (nomark _)) (pe_call G_pick (hr.mono (by decide)) (by rfl) T.m_pick T.F_pick.kp T.b_pick .nil pass0 (pa_cons (pv 0) (pa_cons (pv 5) pa_nil))) (pe_call G_pick (hr.mono (by decide)) (by rfl) T.m_pick T.F_pick.kp T.b_pick .nil pass0 (pa_cons (pv 0) (pa_cons (pv 6) pa_nil)))))))))), ?_⟩
  refine ⟨_, rfl, b, _, rfl, g0, by decide, by decide, fun fo H1 fo0 fo1 g1 => ?_⟩
  refine ⟨fun σ H2 => H2 = H1 ∧ σ = [some (.ref b), some (.int (n : Int)), some (.int fo), none, none, none, none], ?_, ?_⟩
  · refine ⟨_, rfl, _, _, rfl, rfl, _, rfl, ?_⟩
    refine ite2 (fun c1 => ?_) (fun c1 => ?_)
    · refine ⟨_, rfl, _, _, rfl, rfl, _, rfl, ?_⟩
      refine ite2 (fun c2 => ?_) (fun c2 => ?_)
      · have n0 : (0 : Int) < (n : Int) := of_decide_eq_true c2
        obtain ⟨m, rfl⟩ : ∃ m, n = m + 1 := ⟨n - 1, by omega⟩
        refine ⟨_, rfl, b, _, rfl, ⟨fun _ _ _ e => e, g1.box⟩, by decide, by decide, fun k H2 k0 k1 g2 => ⟨k, rfl, by omega, by omega, fun D hD => ?_⟩⟩
        have g12 := g1.trans g2
        refine lc_range (lo := 0) (n := k.toNat) (fun i H' => Gr b H H' ∧ D ≠ b ∧ ∃ (xs : List V) (ds : List PyData), H' D = some (.lst xs) ∧ DaAll (fun a => H a = none ∧ a ≠ D) H' xs ds ∧ xs.length = i ∧ (∀ d ∈ ds, GoodD (m + 1) d)) ⟨g12.new hD _, g12.ne_new hD, [], [], upd_same, .nil, rfl, fun _ h => nomatch h⟩ ?_ ?_
        · rintro i H' hi ⟨g5, nDb, xs, ds, hD', hda, hlen, hgood⟩
          refine ⟨rfl, ?_⟩
          have e := hR m rfl
          subst e
          refine ⟨_, rfl, _, rfl, _, _, rfl, rfl, b, by show [V.ref b, V.int (((m + 1 : Nat) : Int) - 1)] = _; rw [show (((m + 1 : Nat) : Int) - 1) = (m : Int) by omega], ⟨fun _ _ _ e => e, g5.box⟩, fun v d H6 g6 hv gd => ?_⟩
          have hD6 := g6.keep D _ nDb hD'
          refine ⟨xs, hD6, small1000 (by omega), (g5.trans g6).mut (g12.free hD) nDb _, nDb, xs ++ [v], ds ++ [d], upd_same, ?_, by rw [List.length_append, hlen]; rfl, fun y hy => ?_⟩
          · refine DaAll.snoc (DaAll.mono (fun a h => h) (fun a o h e => ?_) ds xs hda) (Da.mono (fun a h => ⟨g5.free h, fun z => by rw [z, hD'] at h; cases h⟩) (fun a o h e => ?_) d v hv)
            · rw [upd_ne h.2]
              exact g6.keep a o (g0.ne_new h.1) e
            · rw [upd_ne (fun z => by rw [z, hD'] at h; cases h)]
              exact e
          · rcases List.mem_append.mp hy with hy | hy
            · exact hgood y hy
            · rw [List.mem_singleton.mp hy]
              exact gd
        · rintro H' ⟨g5, nDb, xs, ds, hD', hda, hlen, hgood⟩
          refine ⟨_, rfl, _, _, rfl, rfl, _, rfl, ?_⟩
          have gl := good_list (by rw [← hda.size, hlen]; omega) hgood
          have hda' : DaAll (fun a => H a = none) H' xs ds := DaAll.mono (fun a h => h.1) (fun a o _ e => e) ds xs hda
          refine ite2 (fun c3 => ?_) (fun c3 => ?_)
          · exact ⟨_, rfl, q _ _ H' g5 (.lst (g12.free hD) hD' hda') gl.1⟩
          · refine ⟨_, rfl, D, xs, rfl, .inl ⟨SqL.of hD', fun p hp => ?_⟩⟩
            exact q _ _ _ (g5.new hp _) (.tup (g5.free hp) upd_same (DaAll.mono (fun a h => h) (fun a o h e => by rw [upd_ne (ne_of_none e hp)]; exact e) ds xs hda')) gl.2
      · exact ⟨rfl, rfl⟩
    · exact ⟨rfl, rfl⟩
  · rintro σ H2 ⟨rfl, rfl⟩
    refine ⟨by show 15 ≤ sizeLine; decide, fun wa hwa => ?_⟩
    have g3 := g1.new hwa (.lst (ANYW.map V.str))
    have aw : At b _ wa (.lst (ANYW.map V.str)) := .mk_new g1 hwa _
    refine ⟨_, _, rfl, rfl, _, _, rfl, rfl, ⟨by decide, by decide, by decide⟩, by show 1 ≤ sizeLine; decide, fun l1 hl1 => ?_⟩
    have g4 := g3.new hl1 (.lst [.str "a"])
    refine ⟨by show 1 ≤ sizeLine; decide, fun l2 hl2 => ?_⟩
    have g5 := g4.new hl2 (.tup [.str "a"])
    refine ⟨by show 10 ≤ sizeLine; decide, fun pl hpl => ?_⟩
    have g6 := g5.new hpl (.lst [.non, .bl true, .bl false, .int 0, .int 1, .int (0 - 1), .int (10 ^ 20), .ref l1, .ref l2, .int 7])
    have ap : At b _ pl (.lst [.non, .bl true, .bl false, .int 0, .int 1, .int (0 - 1), .int (10 ^ 20), .ref l1, .ref l2, .int 7]) := .mk_new g5 hpl _
    have aw6 := ((aw.new (u := .lst [.str "a"]) hl1).new (u := .tup [.str "a"]) hl2).new (u := .lst [.non, .bl true, .bl false, .int 0, .int 1, .int (0 - 1), .int (10 ^ 20), .ref l1, .ref l2, .int 7]) hpl
    refine ⟨_, rfl, _, _, rfl, rfl, _, rfl, ?_⟩
    have gs : ∀ y : Str, okS y = true → GoodD (n + 1) (.str y) := fun y h => GoodD.str h
    have ga : ∀ d ∈ [PyData.str "a"], GoodD n d := fun d hd => by
      rw [List.mem_singleton.mp hd]
      exact GoodD.str (by decide +kernel)
    refine ite2 (fun c3 => ?_) (fun c3 => ?_)
    · refine ⟨_, rfl, _, rfl, b, wa, _, rfl, ⟨fun _ _ _ e => e, g6.box⟩, aw6, by simp [ANYW], by decide, fun x H7 hx g7 => ?_⟩
      obtain ⟨y, hy, rfl⟩ := List.mem_map.mp hx
      exact q _ (.str y) H7 (g6.trans g7) (.str y) (gs y (List.all_eq_true.mp ANYW_ok y hy))
    · refine ⟨_, rfl, _, rfl, b, pl, _, rfl, ⟨fun _ _ _ e => e, g6.box⟩, ap, by simp, by show 10 ≤ 1000; decide, fun x H7 hx g7 => ?_⟩
      have l1a : H7 l1 = some (.lst [.str "a"]) := g7.keep l1 _ (g3.ne_new hl1) (by rw [upd_ne (fun z => by rw [← z, upd_ne (fun z2 => by rw [← z2, upd_same] at hl2; cases hl2), upd_same] at hpl; cases hpl), upd_ne (fun z2 => by rw [← z2, upd_same] at hl2; cases hl2), upd_same])
      have l2a : H7 l2 = some (.tup [.str "a"]) := g7.keep l2 _ (g4.ne_new hl2) (by rw [upd_ne (fun z => by rw [← z, upd_same] at hpl; cases hpl), upd_same])
      have f1 : H l1 = none := g3.free hl1
      have f2 : H l2 = none := g4.free hl2
      have gi : ∀ i : Int, GoodD (n + 1) (.int i) := fun i => ⟨rfl, by simp [PyData.depth], fun _ e => (by cases e), rfl⟩
      have gb : ∀ i : Bool, GoodD (n + 1) (.bool i) := fun i => ⟨rfl, by simp [PyData.depth], fun _ e => (by cases e), rfl⟩
      simp only [List.mem_cons, List.not_mem_nil, or_false] at hx
      rcases hx with rfl | rfl | rfl | rfl | rfl | rfl | rfl | rfl | rfl | rfl
      · exact q _ .none H7 (g6.trans g7) .non ⟨rfl, by simp [PyData.depth], fun _ e => (by cases e), rfl⟩
      · exact q _ _ H7 (g6.trans g7) (.bl _) (gb _)
      · exact q _ _ H7 (g6.trans g7) (.bl _) (gb _)
      · exact q _ _ H7 (g6.trans g7) (.int _) (gi _)
      · exact q _ _ H7 (g6.trans g7) (.int _) (gi _)
      · exact q _ _ H7 (g6.trans g7) (.int _) (gi _)
      · exact q _ _ H7 (g6.trans g7) (.int _) (gi _)
      · exact q _ _ H7 (g6.trans g7) (.lst f1 l1a (.cons (.str _) .nil)) (good_list (by decide) ga).1
      · exact q _ _ H7 (g6.trans g7) (.tup f2 l2a (.cons (.str _) .nil)) (good_list (by decide) ga).2
      · exact q _ _ H7 (g6.trans g7) (.int _) (gi _)
theorem ok_any (T : TxAny w K mg) : ∀ n : Nat, FnOk P w K mg base CX0 (n + 3) T.f_any T.d_any P_any (spAny n)
  | 0 => any_step T 0 (spR := fun _ _ _ _ => False) (fun m e => by omega) ⟨fun _ _ _ _ h => h.elim, fun _ _ _ _ _ _ _ _ _ _ _ _ _ h => h.elim⟩ (Nat.le_refl 2)
  | n + 1 => any_step T (n + 1) (spR := spAny n) (fun m e => by have e' : n = m := by omega
                                                                rw [e']) (ok_any T n) (by omega)
end
end My

/-! ## What is a sequence of names: any values -/
namespace My
open PySem PySem.Spec PyProof.Rows L2
abbrev s_is_sequence : Stmt := top 3
abbrev N_is_sequence : List Str := ["value"]
abbrev P_is_sequence : List Str := ["value"]
theorem sc_is_sequence : FnScope N_is_sequence P_is_sequence (defScope s_is_sequence) := ⟨rfl, rfl, rfl, by decide +kernel, rfl, by decide +kernel, by decide +kernel⟩
abbrev s_are_names : Stmt := top 4
abbrev N_are_names : List Str := ["value", "name"]
abbrev P_are_names : List Str := ["value"]
theorem sc_are_names : FnScope N_are_names P_are_names (defScope s_are_names) := ⟨rfl, rfl, rfl, by decide +kernel, rfl, by decide +kernel, by decide +kernel⟩
abbrev s_are_some_names : Stmt := top 5
abbrev N_are_some_names : List Str := ["value"]
abbrev P_are_some_names : List Str := ["value"]
theorem sc_are_some_names : FnScope N_are_some_names P_are_some_names (defScope s_are_some_names) := ⟨rfl, rfl, rfl, by decide +kernel, rfl, by decide +kernel, by decide +kernel⟩
structure TxSeq (w : World) (K : PySem.W.Frag) (mg : Str → Option Value) extends TxCheck w K mg where
  z_list : mg "list" = none
  z_tuple : mg "tuple" = none
  z_set : mg "set" = none
  f_is_sequence : Addr
  d_is_sequence : FuncData
  F_is_sequence : Fun K "is_sequence" "is_sequence" s_is_sequence f_is_sequence d_is_sequence
  m_is_sequence : mg "is_sequence" = some (.ref f_is_sequence)
  b_is_sequence : Binds K d_is_sequence P_is_sequence []
  f_are_names : Addr
  d_are_names : FuncData
  F_are_names : Fun K "are_names" "are_names" s_are_names f_are_names d_are_names
  m_are_names : mg "are_names" = some (.ref f_are_names)
  b_are_names : Binds K d_are_names P_are_names []
  f_are_some_names : Addr
  d_are_some_names : FuncData
  F_are_some_names : Fun K "are_some_names" "are_some_names" s_are_some_names f_are_some_names d_are_some_names
  m_are_some_names : mg "are_some_names" = some (.ref f_are_some_names)
  b_are_some_names : Binds K d_are_some_names P_are_some_names []
/-- what isinstance(v, (list, tuple)) answers -/
def SeqV (K : PySem.W.Frag) (H : Hp) (v : V) (b : Bool) : Prop := ∃ t, TyX K H v t ∧ PySem.W.kitAny K t [.type "list", .type "tuple"] = some b
def spIsSeq (K : PySem.W.Frag) : Sp := fun vs H Q _ => ∃ (v : V) (b : Bool), vs = [v] ∧ SeqV K H v b ∧ ∀ H', Same H H' → Q (.bl b) H'
def txV : V → Str
  | .str x => x
  | _ => Str.empty
/-- names, each once -/
def namesB (xs : List V) : Bool := xs.all nmV && decide (xs.map txV).Nodup
/-- what are_names answers -/
inductive NamesV (K : PySem.W.Frag) (H : Hp) : V → Bool → Prop where
  | no {v : V} (h : SeqV K H v false) : NamesV K H v false
  | seq {a : Addr} {xs : List V} (h : SqA K H a xs) (e : ∀ x ∈ xs, AnyV K H x) (n : xs.length ≤ 1000) : NamesV K H (.ref a) (namesB xs)
/-- what are_some_names answers -/
inductive SomeV (K : PySem.W.Frag) (H : Hp) : V → Bool → Prop where
  | no {v : V} (h : SeqV K H v false) : SomeV K H v false
  | seq {a : Addr} {xs : List V} (h : SqA K H a xs) (e : ∀ x ∈ xs, AnyV K H x) (n : xs.length ≤ 1000) : SomeV K H (.ref a) (namesB xs && decide (0 < xs.length))
theorem tyx_keep {K : PySem.W.Frag} {H H' : Hp} (e : Same H H') {v : V} {t : Value} (h : TyX K H v t) : TyX K H' v t := by
  cases h with
  | base b =>
    cases b with
    | non => exact .base .non
    | bl x => exact .base (.bl x)
    | int i => exact .base (.int i)
    | str x => exact .base (.str x)
    | flt x => exact .base (.flt x)
    | lst h => exact .base (.lst (e _ _ h))
    | frz h => exact .base (.frz (e _ _ h))
    | tup h => exact .base (.tup (e _ _ h))
    | dK h => exact .base (.dK (e _ _ h))
    | dT h => exact .base (.dT (e _ _ h))
    | ins h c1 c2 c3 c4 c5 => exact .base (.ins (e _ _ h) c1 c2 c3 c4 c5)
  | byt b => exact .byt b
  | set h => exact .set (e _ _ h)
  | kList h c => exact .kList h c
  | kTuple h c => exact .kTuple h c
  | kDict h c => exact .kDict h c
  | fTuple h => exact .fTuple (e _ _ h)
  | fDict h => exact .fDict (e _ _ h)
theorem SeqV.same {K : PySem.W.Frag} {H H' : Hp} {v : V} {b : Bool} (h : SeqV K H v b) (e : Same H H') : SeqV K H' v b := by
  obtain ⟨t, ty, k⟩ := h
  exact ⟨t, tyx_keep e ty, k⟩
theorem AnyV.same {K : PySem.W.Frag} {H H' : Hp} {v : V} (h : AnyV K H v) (e : Same H H') : AnyV K H' v := by
  cases h with
  | str x hx => exact .str x hx
  | oth n ty k => exact .oth n (tyx_keep e ty) k
theorem NamesV.same {K : PySem.W.Frag} {H H' : Hp} {v : V} {b : Bool} (h : NamesV K H v b) (e : Same H H') : NamesV K H' v b := by
  cases h with
  | no h => exact .no (h.same e)
  | seq h a n => exact .seq (h.same e) (fun x hx => (a x hx).same e) n
theorem SomeV.same {K : PySem.W.Frag} {H H' : Hp} {v : V} {b : Bool} (h : SomeV K H v b) (e : Same H H') : SomeV K H' v b := by
  cases h with
  | no h => exact .no (h.same e)
  | seq h a n => exact .seq (h.same e) (fun x hx => (a x hx).same e) n
theorem kit_lt {K : PySem.W.Frag} : PySem.W.kitAny K (.type "list") [.type "list", .type "tuple"] = some true := kitAny_cons (b := true) (kit_ty (show kitB "list" "list" = some true by decide +kernel)) (fun z => nomatch z) (fun _ => rfl)
theorem kit_tt {K : PySem.W.Frag} : PySem.W.kitAny K (.type "tuple") [.type "list", .type "tuple"] = some true :=
  kitAny_cons (b := false) (kit_ty (show kitB "tuple" "list" = some false by decide +kernel)) (fun _ => kitAny_cons (b := true) (kit_ty (show kitB "tuple" "tuple" = some true by decide +kernel)) (fun z => nomatch z) (fun _ => rfl)) (fun z => nomatch z)
theorem SqA.seqV {K : PySem.W.Frag} {H : Hp} {a : Addr} {xs : List V} (h : SqA K H a xs) : SeqV K H (.ref a) true := by
  rcases h with h | h
  · exact ⟨_, tyL h, kit_lt⟩
  · exact ⟨_, tyT h, kit_tt⟩
/-- values that are names all are texts -/
theorem strs_of_nm : ∀ {xs : List V}, xs.all nmV = true → xs = (xs.map txV).map V.str
  | [], _ => rfl
  | x :: xs, h => by
    rw [List.all_cons, Bool.and_eq_true] at h
    have ih := strs_of_nm h.2
    cases x with
    | str y => rw [List.map_cons, List.map_cons, ← ih]; rfl
    | _ => cases h.1
def spAreNames (K : PySem.W.Frag) : Sp := fun vs H Q _ => ∃ (v : V) (b : Bool), vs = [v] ∧ NamesV K H v b ∧ ∀ H', Same H H' → Q (.bl b) H'
def spSomeNames (K : PySem.W.Frag) : Sp := fun vs H Q _ => ∃ (v : V) (b : Bool), vs = [v] ∧ SomeV K H v b ∧ ∀ H', Same H H' → Q (.bl b) H'
section
variable {P : Program} {w : World} {K : PySem.W.Frag} {mg : Str → Option Value} {base : Heap}
theorem ok_is_sequence (T : TxSeq w K mg) : FnOk P w K mg base CX0 1 T.f_is_sequence T.d_is_sequence P_is_sequence (spIsSeq K) := by
  refine T.F_is_sequence.ok sc_is_sequence (fun vs H Q E h => ?_) (fun cdv A outer s H vs Q E hr h => ?_)
  · obtain ⟨v, b, rfl, _⟩ := h
    rfl
  obtain ⟨v, b, rfl, hS, q⟩ := h
  refine ⟨_, (pss_one (ps_ret (pe_callB (call_isiTV K) (by rfl) T.z_isinstance (by decide +kernel) (pa_cons (pv 0) (pa_cons (pe_tup (pa_cons (pe_bltn (v := .ty "list") (by rfl) T.z_list (by decide +kernel) rfl) (pa_cons (pe_bltn (v := .ty "tuple") (by rfl) T.z_tuple (by decide +kernel) rfl) pa_nil))) pa_nil))))), ?_⟩
  refine ⟨_, rfl, by show 2 ≤ sizeLine; decide, fun tp htp => ?_⟩
  have y := same_upd htp (.tup [.ty "list", .ty "tuple"])
  obtain ⟨t, ty, k⟩ := hS.same y
  exact ⟨v, tp, _, t, _, b, rfl, upd_same, .cons (.ty _) (.cons (.ty _) .nil), ty, k, q _ y⟩
theorem ok_are_names (T : TxSeq w K mg) : FnOk P w K mg base CX0 2 T.f_are_names T.d_are_names P_are_names (spAreNames K) := by
  have G_is_name := ok_is_name (P := P) (w := w) (base := base) T.toTxCheck
  have G_is_sequence := ok_is_sequence (P := P) (w := w) (base := base) T
  refine T.F_are_names.ok sc_are_names (fun vs H Q E h => ?_) (fun cdv A outer s H vs Q E hr h => ?_)
  · obtain ⟨v, b, rfl, _⟩ := h
    rfl
  obtain ⟨v, b, rfl, hv, q⟩ := h
  refine ⟨_, (pss_cons (ps_if (PW.pt (pw_or (pt_not (pt_val (pe_call G_is_sequence (hr.mono (by decide)) (by rfl) T.m_is_sequence T.F_is_sequence.kp T.b_is_sequence .nil pass0 (pa_cons (pv 0) pa_nil)))) (pw_or1 (pt_not (pt_val (pe_callB (cr_allK K rfl) (by rfl) T.z_all (by decide +kernel) (pa_cons (pe_lc (own := [("name", 1)]) (g := gName 1) (by rfl) sc_are_names.nd (pi_seqK K (pv 0)) (blkOk_by (own := [("name", 1)]) (N := N_are_names) (sc := defScope s_are_names) (by decide +kernel)) (fun _ _ _ _ _ => (pg_name (i := 1) sc_are_names.nd rfl (Or.inl rfl))) (fun _ _ _ _ _ => pts_nil) (fun _ _ _ _ _ => (pe_call G_is_name (hr.mono (by decide)) (by rfl) T.m_is_name T.F_is_name.kp T.b_is_name .nil pass0 (pa_cons (pv 1) pa_nil)))) pa_nil))))))) (pss_one (ps_ret pe_bl)) pss_nil)
      (pss_one (ps_ret (pe_cmpR op_eq (pe_callB call_lenT (by rfl) T.z_len (by decide +kernel) (pa_cons (pe_callTy (call_setT K rfl) (by rfl) T.z_set (by decide +kernel) (pa_cons (pv 0) pa_nil)) pa_nil)) (pe_callB (call_lenK K) (by rfl) T.z_len (by decide +kernel) (pa_cons (pv 0) pa_nil)) (nomark _))))), ?_⟩
  cases hv with
  | no h =>
    refine ⟨_, rfl, v, false, rfl, h, fun H1 s1 => ⟨_, rfl, ?_⟩⟩
    exact q H1 s1
  | @seq a xs h hx hn =>
    refine ⟨_, rfl, .ref a, true, rfl, h.seqV, fun H1 s1 => ⟨_, rfl, ?_⟩⟩
    refine ⟨_, rfl, a, _, rfl, h.same s1, fun J G g0 gs wk D hD => ?_⟩
    refine lc_it wk (fun i H' => Same H1 H' ∧ H' D = some (.lst ((xs.take i).map fun y => V.bl (nmV y)))) ⟨same_upd hD _, upd_same⟩ (fun i H' _ h => gs _ _ h.1 g0) ?_ ?_
    · rintro i x H2 H3 hi ⟨s2, hD2⟩ ⟨rfl, hx2⟩
      have ax := (hx x (List.mem_of_getElem? hx2)).same (s1.trans s2)
      refine ⟨rfl, ?_⟩
      refine ⟨_, rfl, x, rfl, ax, fun H4 s4 => ?_⟩
      refine ⟨_, s4 _ _ hD2, small1000 (by rw [List.length_map, List.length_take]; omega), ?_, ?_⟩
      · intro b o e
        rw [upd_ne (ne_of_none e hD)]
        exact s4 _ _ (s2 b o e)
      · rw [upd_same, List.take_add_one, hx2, List.map_append]
        rfl
    · rintro H2 ⟨s2, hD2⟩
      have full : (xs.take xs.length).map (fun y => V.bl (nmV y)) = (xs.map nmV).map V.bl := by
        rw [List.take_length, List.map_map]
        rfl
      rw [full] at hD2
      refine ⟨D, _, rfl, SqL.of hD2, _, rfl, ?_⟩
      have e : (xs.map nmV).all id = xs.all nmV := by rw [List.all_map]; rfl
      rw [e]
      have r := q H2 (s1.trans s2)
      cases c : xs.all nmV with
      | false =>
        refine iteT ?_
        unfold namesB at r
        rw [c, Bool.false_and] at r
        exact r
      | true =>
        refine iteF ?_
        have ex := strs_of_nm c
        have h2 := (h.same s1).same s2
        unfold namesB at r
        rw [c, Bool.true_and] at r
        refine ⟨_, rfl, a, xs.map txV, rfl, by rw [← ex]; exact h2, by rw [List.length_map]; exact hn, fun p m np nd mem => ?_⟩
        have s3 := same_upd np (TSetO P w p m)
        refine ⟨p, m, rfl, upd_same, _, rfl, _, _, rfl, h2.same s3, ?_⟩
        have ed : decide (V.int (m.length : Int) = V.int (xs.length : Int)) = decide (xs.map txV).Nodup := by
          have z := len_nodup nd mem
          rw [List.length_map] at z
          by_cases w : (xs.map txV).Nodup
          · rw [decide_eq_true w, z.mpr w]
            exact decide_eq_true rfl
          · rw [decide_eq_false w]
            refine decide_eq_false fun y => w (z.mp ?_)
            injection y with y
            omega
        refine ⟨rfl, ?_⟩
        rw [ed]
        have r' := q _ ((s1.trans s2).trans s3)
        unfold namesB at r'
        rw [c, Bool.true_and] at r'
        exact r'
theorem ok_are_some_names (T : TxSeq w K mg) : FnOk P w K mg base CX0 3 T.f_are_some_names T.d_are_some_names P_are_some_names (spSomeNames K) := by
  have G_are_names := ok_are_names (P := P) (w := w) (base := base) T
  refine T.F_are_some_names.ok sc_are_some_names (fun vs H Q E h => ?_) (fun cdv A outer s H vs Q E hr h => ?_)
  · obtain ⟨v, b, rfl, _⟩ := h
    rfl
  obtain ⟨v, b, rfl, hv, q⟩ := h
  refine ⟨_, (pss_one (ps_ret (pe_and (pe_call G_are_names (hr.mono (by decide)) (by rfl) T.m_are_names T.F_are_names.kp T.b_are_names .nil pass0 (pa_cons (pv 0) pa_nil)) (pe_one (pe_cmpR op_gt (pe_callB (call_lenK K) (by rfl) T.z_len (by decide +kernel) (pa_cons (pv 0) pa_nil)) pe_int (nomark _)))))), ?_⟩
  cases hv with
  | no h =>
    refine ⟨_, rfl, v, false, rfl, .no h, fun H1 s1 => ⟨_, rfl, ?_⟩⟩
    exact q H1 s1
  | @seq a xs h hx hn =>
    refine ⟨_, rfl, .ref a, namesB xs, rfl, .seq h hx hn, fun H1 s1 => ⟨_, rfl, ?_⟩⟩
    have r := q H1 s1
    cases c : namesB xs with
    | false =>
      rw [c, Bool.false_and] at r
      exact r
    | true =>
      rw [c, Bool.true_and] at r
      refine ⟨_, rfl, _, _, rfl, h.same s1, _, _, rfl, rfl, ?_⟩
      have e : decide ((0 : Int) < (xs.length : Int)) = decide (0 < xs.length) := by
        by_cases z : 0 < xs.length
        · rw [decide_eq_true z]; exact decide_eq_true (by omega)
        · rw [decide_eq_false z]; exact decide_eq_false (by omega)
      rw [← e] at r
      exact r
end
end My

/-! ## Pairs of lists, texts compared -/
namespace My
open PySem L2
theorem paired_get {α β : Type} {R : α → β → Prop} : ∀ {xs : List α} {ys : List β} {i : Nat} {x : α}, Paired R xs ys → xs[i]? = some x → ∃ y, ys[i]? = some y ∧ R x y
  | _, _, _, _, .nil, e => by simp at e
  | _, _, 0, _, .cons r _, e => by simp at e; subst e; exact ⟨_, rfl, r⟩
  | _, _, i + 1, x, .cons _ t, e => by
    obtain ⟨y, h1, h2⟩ := paired_get (i := i) (x := x) t (by simpa using e)
    exact ⟨y, by simpa using h1, h2⟩
theorem paired_snoc {α β : Type} {R : α → β → Prop} {x : α} {y : β} : ∀ {xs : List α} {ys : List β}, Paired R xs ys → R x y → Paired R (xs ++ [x]) (ys ++ [y])
  | _, _, .nil, h => .cons h .nil
  | _, _, .cons r t, h => .cons r (paired_snoc t h)
theorem paired_len' {α β : Type} {R : α → β → Prop} : ∀ {xs : List α} {ys : List β}, Paired R xs ys → xs.length = ys.length
  | _, _, .nil => rfl
  | _, _, .cons _ t => by rw [List.length_cons, List.length_cons, paired_len' t]
theorem paired_imp' {α β : Type} {R S : α → β → Prop} (h : ∀ x y, R x y → S x y) : ∀ {xs : List α} {ys : List β}, Paired R xs ys → Paired S xs ys
  | _, _, .nil => .nil
  | _, _, .cons r t => .cons (h _ _ r) (paired_imp' h t)
theorem paired_len {α β : Type} {R : α → β → Prop} {xs : List α} {ys : List β} (h : Paired R xs ys) : xs.length = ys.length := paired_len' h
theorem paired_imp {α β : Type} {R S : α → β → Prop} (h : ∀ x y, R x y → S x y) {xs : List α} {ys : List β} (p : Paired R xs ys) : Paired S xs ys := paired_imp' h p
theorem pair_len {α β : Type} {R : α → β → Prop} {xs : List α} {ys : List β} (h : Paired R xs ys) : xs.length = ys.length := paired_len' h
theorem paired_len2 {α β : Type} {R : α → β → Prop} {xs : List α} {ys : List β} (h : Paired R xs ys) : xs.length = ys.length := paired_len' h
theorem paired_mem {α β : Type} {R : α → β → Prop} {x : α} : ∀ {xs : List α} {ys : List β}, Paired R xs ys → x ∈ xs → ∃ y ∈ ys, R x y
  | _, _, .nil, h => nomatch h
  | _, _, .cons r t, h => by
    rcases List.mem_cons.mp h with h | h
    · subst h
      exact ⟨_, List.mem_cons_self, r⟩
    · obtain ⟨y, h1, h2⟩ := paired_mem t h
      exact ⟨y, List.mem_cons_of_mem _ h1, h2⟩
theorem paired_map {α β γ : Type} {R : α → β → Prop} {S : α → γ → Prop} {f : β → γ} (h : ∀ x y, R x y → S x (f y)) : ∀ {xs : List α} {ys : List β}, Paired R xs ys → Paired S xs (ys.map f)
  | _, _, .nil => .nil
  | _, _, .cons r t => .cons (h _ _ r) (paired_map h t)
theorem str_eq_of {a b : Str} (h : decide (V.str a = V.str b) = true) : a = b := by
  have e := of_decide_eq_true h
  cases e
  rfl
theorem str_ne_of {a b : Str} (h : ¬ decide (V.str a = V.str b) = true) : a ≠ b := fun e => h (by rw [e]; exact decide_eq_true rfl)
theorem dec_str2 {a b : Str} : decide (V.str a = V.str b) = decide (a = b) := by
  by_cases h : a = b
  · subst h
    rw [decide_eq_true rfl, decide_eq_true rfl]
  · rw [decide_eq_false h, decide_eq_false (fun z => h (by cases z; rfl))]
theorem find_step {α β : Type} {f : α → Option β} {l : List α} {i : Nat} {r : α} (h : l[i]? = some r) : (l.drop i).findSome? f = (f r).or ((l.drop (i + 1)).findSome? f) := by
  obtain ⟨hl, e⟩ := List.getElem?_eq_some_iff.mp h
  rw [List.drop_eq_getElem_cons hl, e, List.findSome?_cons]
  cases f r <;> rfl
end My
/-! ## The program: rows -/
namespace My
open PySem L2
abbrev s_is_name_or : Stmt := top 12
abbrev N_is_name_or : List Str := ["value", "words"]
abbrev P_is_name_or : List Str := ["value", "words"]
theorem sc_is_name_or : FnScope N_is_name_or P_is_name_or (defScope s_is_name_or) := ⟨rfl, rfl, rfl, by decide +kernel, rfl, by decide +kernel, by decide +kernel⟩
abbrev s_InvalidRow_init : Stmt := inClass (top 8) 0
abbrev N_InvalidRow_init : List Str := ["self", "word"]
abbrev P_InvalidRow_init : List Str := ["self", "word"]
theorem sc_InvalidRow_init : FnScope N_InvalidRow_init P_InvalidRow_init (defScope s_InvalidRow_init) := ⟨rfl, rfl, rfl, by decide +kernel, rfl, by decide +kernel, by decide +kernel⟩
abbrev s_Begin_init : Stmt := inClass (top 14) 0
abbrev N_Begin_init : List Str := ["self", "mark", "kind", "mood"]
abbrev P_Begin_init : List Str := ["self", "mark", "kind", "mood"]
theorem sc_Begin_init : FnScope N_Begin_init P_Begin_init (defScope s_Begin_init) := ⟨rfl, rfl, rfl, by decide +kernel, rfl, by decide +kernel, by decide +kernel⟩
abbrev s_Send_init : Stmt := inClass (top 15) 0
abbrev N_Send_init : List Str := ["self", "mood", "service", "mark"]
abbrev P_Send_init : List Str := ["self", "mood", "service", "mark"]
theorem sc_Send_init : FnScope N_Send_init P_Send_init (defScope s_Send_init) := ⟨rfl, rfl, rfl, by decide +kernel, rfl, by decide +kernel, by decide +kernel⟩
abbrev s_Back_init : Stmt := inClass (top 16) 0
abbrev N_Back_init : List Str := ["self", "mood", "service", "sign", "then"]
abbrev P_Back_init : List Str := ["self", "mood", "service", "sign", "then"]
theorem sc_Back_init : FnScope N_Back_init P_Back_init (defScope s_Back_init) := ⟨rfl, rfl, rfl, by decide +kernel, rfl, by decide +kernel, by decide +kernel⟩
abbrev s_End_init : Stmt := inClass (top 17) 0
abbrev N_End_init : List Str := ["self", "mood", "outcome", "sign", "part"]
abbrev P_End_init : List Str := ["self", "mood", "outcome", "sign", "part"]
theorem sc_End_init : FnScope N_End_init P_End_init (defScope s_End_init) := ⟨rfl, rfl, rfl, by decide +kernel, rfl, by decide +kernel, by decide +kernel⟩
structure TxRows (w : World) (K : PySem.W.Frag) (mg : Str → Option Value) extends TxCheck w K mg where
  f_is_name_or : Addr
  d_is_name_or : FuncData
  F_is_name_or : Fun K "is_name_or" "is_name_or" s_is_name_or f_is_name_or d_is_name_or
  m_is_name_or : mg "is_name_or" = some (.ref f_is_name_or)
  b_is_name_or : Binds K d_is_name_or P_is_name_or []
  C_InvalidRow : Addr
  m_InvalidRow : mg "InvalidRow" = some (.ref C_InvalidRow)
  oxRow : OexC K C_InvalidRow
  nwRow : PySem.W.findIn K (.ref C_InvalidRow) "word" = some none
  f_InvalidRow_init : Addr
  d_InvalidRow_init : FuncData
  iRow : PySem.W.findIn K (.ref C_InvalidRow) "__init__" = some (some (.ref f_InvalidRow_init))
  tRow : PySem.W.typeIn K (.ref f_InvalidRow_init) = some (.type "function")
  F_InvalidRow_init : Fun K "__init__" "InvalidRow.__init__" s_InvalidRow_init f_InvalidRow_init d_InvalidRow_init
  b_InvalidRow_init : Binds K d_InvalidRow_init P_InvalidRow_init []
  C_Begin : Addr
  m_Begin : mg "Begin" = some (.ref C_Begin)
  c_Begin : Cls K C_Begin
  f_Begin_init : Addr
  d_Begin_init : FuncData
  mk_Begin : Mk K C_Begin f_Begin_init
  F_Begin_init : Fun K "__init__" "Begin.__init__" s_Begin_init f_Begin_init d_Begin_init
  b_Begin_init : Binds K d_Begin_init P_Begin_init []
  n_Begin_mark : NoAttr K C_Begin "mark"
  n_Begin_kind : NoAttr K C_Begin "kind"
  n_Begin_mood : NoAttr K C_Begin "mood"
  C_Send : Addr
  m_Send : mg "Send" = some (.ref C_Send)
  c_Send : Cls K C_Send
  f_Send_init : Addr
  d_Send_init : FuncData
  mk_Send : Mk K C_Send f_Send_init
  F_Send_init : Fun K "__init__" "Send.__init__" s_Send_init f_Send_init d_Send_init
  b_Send_init : Binds K d_Send_init P_Send_init []
  n_Send_mood : NoAttr K C_Send "mood"
  n_Send_service : NoAttr K C_Send "service"
  n_Send_mark : NoAttr K C_Send "mark"
  C_Back : Addr
  m_Back : mg "Back" = some (.ref C_Back)
  c_Back : Cls K C_Back
  f_Back_init : Addr
  d_Back_init : FuncData
  mk_Back : Mk K C_Back f_Back_init
  F_Back_init : Fun K "__init__" "Back.__init__" s_Back_init f_Back_init d_Back_init
  b_Back_init : Binds K d_Back_init P_Back_init []
  n_Back_mood : NoAttr K C_Back "mood"
  n_Back_service : NoAttr K C_Back "service"
  n_Back_sign : NoAttr K C_Back "sign"
  n_Back_then : NoAttr K C_Back "then"
  C_End : Addr
  m_End : mg "End" = some (.ref C_End)
  c_End : Cls K C_End
  f_End_init : Addr
  d_End_init : FuncData
  mk_End : Mk K C_End f_End_init
  F_End_init : Fun K "__init__" "End.__init__" s_End_init f_End_init d_End_init
  b_End_init : Binds K d_End_init P_End_init []
  n_End_mood : NoAttr K C_End "mood"
  n_End_outcome : NoAttr K C_End "outcome"
  n_End_sign : NoAttr K C_End "sign"
  n_End_part : NoAttr K C_End "part"
/-- a sort's class, names of its fields, the moods that a row names -/
def clsOf {w : World} {K : PySem.W.Frag} {mg : Str → Option Value} (T : TxRows w K mg) (s : Str) : Addr := if s = "begin" then T.C_Begin else if s = "send" then T.C_Send else if s = "back" then T.C_Back else T.C_End
def fnOf (s : Str) : List Str := if s = "begin" then ["mark", "kind", "mood"] else if s = "send" then ["mood", "service", "mark"] else if s = "back" then ["mood", "service", "sign", "then"] else ["mood", "outcome", "sign", "part"]
def SORTS : List Str := ["begin", "send", "back", "end"]
def moodsR : Str × List Str → List Str
  | (s, ws) => (if s = "begin" then [ws.getD 2 Str.empty] else [ws.getD 0 Str.empty]) ++ (if s = "back" then [ws.getD 3 Str.empty] else [])
def moodsL (rs : List (Str × List Str)) : List Str := "calm" :: rs.flatMap moodsR
def spXInit (K : PySem.W.Frag) (C : Addr) : Sp := fun vs H Q _ => ∃ (a : Addr) (y : V), vs = [.ref a, y] ∧ H a = some (exo a C none) ∧
  ∀ dx, H dx = none → dx ≠ a → Q .non (upd (upd H dx (exd dx [("word", y)])) a (exo a C (some dx)))
def spNameOr (K : PySem.W.Frag) : Sp := fun vs H Q _ => ∃ (v : V) (d : PyData) (a : Addr) (l : List Str), vs = [v, .ref a] ∧ Dv K H v d ∧ SqT K H a (l.map V.str) ∧ l.all PyData.strOk = true ∧
  ∀ H', Same H H' → Q (.bl (nmD d || txD l d)) H'
section
variable {P : Program} {w : World} {K : PySem.W.Frag} {mg : Str → Option Value} {base : Heap}
theorem ok_is_name_or (T : TxRows w K mg) : FnOk P w K mg base CX0 2 T.f_is_name_or T.d_is_name_or P_is_name_or (spNameOr K) := by
  have G_is_name := ok_is_name (P := P) (w := w) (base := base) T.toTxCheck
  refine T.F_is_name_or.ok sc_is_name_or (fun vs H Q E h => ?_) (fun cdv A outer s H vs Q E hr h => ?_)
  · obtain ⟨v, d, a, l, rfl, _⟩ := h
    rfl
  obtain ⟨v, d, a, l, rfl, hv, hl, ho, q⟩ := h
  refine ⟨_, (pss_one (ps_ret (pe_or (pe_call G_is_name (hr.mono (by decide)) (by rfl) T.m_is_name T.F_is_name.kp T.b_is_name .nil pass0 (pa_cons (pv 0) pa_nil)) (pe_one (pe_cmpR (op_inT K (room65 hr)) (pv 0) (pv 1) (by rfl)))))), ?_⟩
  refine ⟨_, rfl, v, rfl, hv.any, fun H' s1 => ⟨_, rfl, ?_⟩⟩
  rw [hv.nm] at *
  cases e : nmD d with
  | true =>
    have r := q H' s1
    rw [e] at r
    exact r
  | false =>
    refine ⟨_, rfl, _, rfl, d, l.map PyData.str, Dp.same s1 d v hv.dp, .tup (seqT_same s1 hl) (Dp.all_strs l), hv.sh, shaped_strs ho, ?_⟩
    have r := q H' s1
    rw [e, Bool.false_or, ← any_strs] at r
    exact r
theorem ok_xrow (T : TxRows w K mg) : FnOk P w K mg base CX0 1 T.f_InvalidRow_init T.d_InvalidRow_init P_InvalidRow_init (spXInit K T.C_InvalidRow) := by
  refine T.F_InvalidRow_init.ok sc_InvalidRow_init (fun vs H Q E h => ?_) (fun cdv A outer s H vs Q E hr h => ?_)
  · obtain ⟨a, y, rfl, _⟩ := h
    rfl
  obtain ⟨a, y, rfl, ha, q⟩ := h
  refine ⟨_, (pss_one (ps_ost (pv 0) (pv 1))), ?_⟩
  exact ⟨_, rfl, _, rfl, a, T.C_InvalidRow, rfl, T.oxRow, T.nwRow, .inl ⟨ha, fun dx h1 h2 => q dx h1 h2⟩⟩
/-- raise X('word'), X's own __init__ keeping the word -/
theorem mk_word {K : PySem.W.Frag} {C : Addr} {σ : St} {H1 : Hp} {wd : Str} {Q : XK} (q : ∀ (d : Addr) (H' : Hp), Same H1 H' → H1 d = none → H' d = some (.xd [("word", .str wd)]) → Q (.ref C) (some d) H') :
    tMkO C (spXInit K C) [] (tCons (tC (.str wd)) tNil) σ H1 Q := by
  refine ⟨by show 1 ≤ 1000; decide, fun a na => ⟨a, .str wd, rfl, upd_same, fun dx h1 h2 => ⟨rfl, dx, [("word", .str wd)], upd_same, ?_, ?_, ?_⟩⟩⟩
  · rw [upd_ne h2, upd_same]
  · rw [upd_ne h2] at h1
    exact h1
  · rw [upd_ne h2] at h1
    refine q dx _ (fun b u e => ?_) h1 upd_same
    have hb : b ≠ a := ne_of_none e na
    have hd : b ≠ dx := ne_of_none e h1
    rw [upd_ne hd, del_ne hb, upd_ne hb, upd_ne hd, upd_ne hb]
    exact e
def spRow (K : PySem.W.Frag) (C CX : Addr) (names : List Str) (wr : List PyData → Option Str) : Sp := fun vs H Q E => ∃ (p dx : Addr) (as : List V) (ds : List PyData), vs = .ref p :: as ∧ as.length = names.length ∧ Paired (Dv K H) as ds ∧ H p = some (.ins C dx []) ∧
  (∀ H', wr ds = none → H' p = some (.ins C dx (names.zip as)) → (∀ b u, H b = some u → b ≠ p → H' b = some u) → Q .non H') ∧
  (∀ wd d H', wr ds = some wd → Same H H' → H d = none → H' d = some (.xd [("word", .str wd)]) → E (.ref CX) (some d) H')
theorem bnot_eq {b : Bool} (h : (!b) = true) : b = false := by simpa using h
theorem bnot_ne {b : Bool} (h : ¬ (!b) = true) : b = true := by simpa using h
def wBegin : List PyData → Option Str
  | [d0, d1, d2] => if (nmD d0 || txD ["none", "any"] d0) = false then some "mark" else if (nmD d1 || txD ["any"] d1) = false then some "kind" else if nmD d2 = false then some "mood" else none
  | _ => none
theorem ok_Begin_init (T : TxRows w K mg) : FnOk P w K mg base (L2.CX P w) 3 T.f_Begin_init T.d_Begin_init P_Begin_init (spRow K T.C_Begin T.C_InvalidRow ["mark", "kind", "mood"] wBegin) := by
  have G_is_name := ok_is_name (P := P) (w := w) (base := base) T.toTxCheck
  have G_is_name_or := ok_is_name_or (P := P) (w := w) (base := base) T
  have G_InvalidRow_init := ok_xrow (P := P) (w := w) (base := base) T
  refine T.F_Begin_init.okX sc_Begin_init (fun vs H Q E h => ?_) (fun cdv A outer s H vs Q E hr h => ?_)
  · obtain ⟨p, dx, as, ds, rfl, hl, _⟩ := h
    exact congrArg Nat.succ hl
  obtain ⟨p, dx, as, ds, rfl, hl, hd, hp, q, qe⟩ := h
  obtain ⟨x0, x1, x2, rfl⟩ : ∃ x0 x1 x2, as = [x0, x1, x2] := by
    match as, hl with
    | [x0, x1, x2], _ => exact ⟨x0, x1, x2, rfl⟩
  cases hd with
  | cons h0 hd =>
  cases hd with
  | cons h1 hd =>
  cases hd with
  | cons h2 hd =>
  cases hd
  rename_i d0 d1 d2
  refine ⟨_, (pss_cons (ps_if (pt_not (pt_val (pe_call G_is_name_or (hr.mono (by decide)) (by rfl) T.m_is_name_or T.F_is_name_or.kp T.b_is_name_or .nil pass0 (pa_cons (pv 1) (pa_cons (pe_tup (pa_cons pe_str (pa_cons pe_str pa_nil))) pa_nil))))) (pss_one (ps_raise rfl (takes_of rfl rfl rfl rfl) (pmk_oex T.oxRow T.iRow T.tRow G_InvalidRow_init (hr.mono (by decide)) T.b_InvalidRow_init .nil pass0 (by rfl) T.m_InvalidRow (pa_cons pe_str pa_nil)))) pss_nil)
      (pss_cons (ps_if (pt_not (pt_val (pe_call G_is_name_or (hr.mono (by decide)) (by rfl) T.m_is_name_or T.F_is_name_or.kp T.b_is_name_or .nil pass0 (pa_cons (pv 2) (pa_cons (pe_tup (pa_cons pe_str pa_nil)) pa_nil))))) (pss_one (ps_raise rfl (takes_of rfl rfl rfl rfl) (pmk_oex T.oxRow T.iRow T.tRow G_InvalidRow_init (hr.mono (by decide)) T.b_InvalidRow_init .nil pass0 (by rfl) T.m_InvalidRow (pa_cons pe_str pa_nil)))) pss_nil)
      (pss_cons (ps_if (pt_not (pt_val (pe_call G_is_name (hr.mono (by decide)) (by rfl) T.m_is_name T.F_is_name.kp T.b_is_name .nil pass0 (pa_cons (pv 3) pa_nil)))) (pss_one (ps_raise rfl (takes_of rfl rfl rfl rfl) (pmk_oex T.oxRow T.iRow T.tRow G_InvalidRow_init (hr.mono (by decide)) T.b_InvalidRow_init .nil pass0 (by rfl) T.m_InvalidRow (pa_cons pe_str pa_nil)))) pss_nil)
      (pss_cons (ps_fld (pv 0) (pv 1) rfl)
      (pss_cons (ps_fld (pv 0) (pv 2) rfl)
      (pss_one (ps_fld (pv 0) (pv 3) rfl))))))), ?_⟩
  have s0 : Same H H := Same.refl H
  refine ⟨_, rfl, by show 2 ≤ sizeLine; decide, fun t0 ht0 => ⟨x0, d0, t0, ["none", "any"], rfl, h0.same (s0.trans (same_upd ht0 _)), SqT.of upd_same, by decide +kernel, fun H0 z0 => ⟨_, rfl, ?_⟩⟩⟩
  have s1 := s0.trans ((same_upd ht0 _).trans z0)
  refine ite2 (fun c0 => ?_) (fun c0 => ?_)
  · exact mk_word fun d H' s' n' e' => qe "mark" d H' (if_pos (bnot_eq c0)) (s1.trans s') (s1.free n') e'
  refine ⟨_, rfl, by show 1 ≤ sizeLine; decide, fun t1 ht1 => ⟨x1, d1, t1, ["any"], rfl, h1.same (s1.trans (same_upd ht1 _)), SqT.of upd_same, by decide +kernel, fun H1 z1 => ⟨_, rfl, ?_⟩⟩⟩
  have s2 := s1.trans ((same_upd ht1 _).trans z1)
  refine ite2 (fun c1 => ?_) (fun c1 => ?_)
  · exact mk_word fun d H' s' n' e' => qe "kind" d H' ((if_neg (by rw [bnot_ne c0]; decide)).trans (if_pos (bnot_eq c1))) (s2.trans s') (s2.free n') e'
  refine ⟨_, rfl, x2, rfl, (h2.same s2).any, fun H2 z2 => ⟨_, rfl, ?_⟩⟩
  rw [(h2.same s2).nm]
  have s3 := s2.trans z2
  refine ite2 (fun c2 => ?_) (fun c2 => ?_)
  · exact mk_word fun d H' s' n' e' => qe "mood" d H' ((if_neg (by rw [bnot_ne c0]; decide)).trans ((if_neg (by rw [bnot_ne c1]; decide)).trans (if_pos (bnot_eq c2)))) (s3.trans s') (s3.free n') e'
  have hp3 := s3 _ _ hp
  refine ⟨_, rfl, _, rfl, p, T.C_Begin, dx, _, rfl, hp3, T.c_Begin, T.n_Begin_mark, (by show 0 < 1000; decide), ?_⟩
  refine ⟨_, rfl, _, rfl, p, T.C_Begin, dx, _, rfl, upd_same, T.c_Begin, T.n_Begin_kind, (by show 1 < 1000; decide), ?_⟩
  refine ⟨_, rfl, _, rfl, p, T.C_Begin, dx, _, rfl, upd_same, T.c_Begin, T.n_Begin_mood, (by show 2 < 1000; decide), ?_⟩
  rw [upd_upd, upd_upd]
  refine q _ ((if_neg (by rw [bnot_ne c0]; decide)).trans ((if_neg (by rw [bnot_ne c1]; decide)).trans (if_neg (by rw [bnot_ne c2]; decide)))) upd_same fun b u e nb => ?_
  rw [upd_ne nb]
  exact s3 _ _ e
def wSend : List PyData → Option Str
  | [d0, d1, d2] => if (nmD d0 || txD ["any"] d0) = false then some "mood" else if (nmD d1 || txD ["any"] d1) = false then some "service" else if (nmD d2 || txD ["none", "same"] d2) = false then some "mark" else none
  | _ => none
theorem ok_Send_init (T : TxRows w K mg) : FnOk P w K mg base (L2.CX P w) 3 T.f_Send_init T.d_Send_init P_Send_init (spRow K T.C_Send T.C_InvalidRow ["mood", "service", "mark"] wSend) := by
  have G_is_name := ok_is_name (P := P) (w := w) (base := base) T.toTxCheck
  have G_is_name_or := ok_is_name_or (P := P) (w := w) (base := base) T
  have G_InvalidRow_init := ok_xrow (P := P) (w := w) (base := base) T
  refine T.F_Send_init.okX sc_Send_init (fun vs H Q E h => ?_) (fun cdv A outer s H vs Q E hr h => ?_)
  · obtain ⟨p, dx, as, ds, rfl, hl, _⟩ := h
    exact congrArg Nat.succ hl
  obtain ⟨p, dx, as, ds, rfl, hl, hd, hp, q, qe⟩ := h
  obtain ⟨x0, x1, x2, rfl⟩ : ∃ x0 x1 x2, as = [x0, x1, x2] := by
    match as, hl with
    | [x0, x1, x2], _ => exact ⟨x0, x1, x2, rfl⟩
  cases hd with
  | cons h0 hd =>
  cases hd with
  | cons h1 hd =>
  cases hd with
  | cons h2 hd =>
  cases hd
  rename_i d0 d1 d2
  refine ⟨_, (pss_cons (ps_if (pt_not (pt_val (pe_call G_is_name_or (hr.mono (by decide)) (by rfl) T.m_is_name_or T.F_is_name_or.kp T.b_is_name_or .nil pass0 (pa_cons (pv 1) (pa_cons (pe_tup (pa_cons pe_str pa_nil)) pa_nil))))) (pss_one (ps_raise rfl (takes_of rfl rfl rfl rfl) (pmk_oex T.oxRow T.iRow T.tRow G_InvalidRow_init (hr.mono (by decide)) T.b_InvalidRow_init .nil pass0 (by rfl) T.m_InvalidRow (pa_cons pe_str pa_nil)))) pss_nil)
      (pss_cons (ps_if (pt_not (pt_val (pe_call G_is_name_or (hr.mono (by decide)) (by rfl) T.m_is_name_or T.F_is_name_or.kp T.b_is_name_or .nil pass0 (pa_cons (pv 2) (pa_cons (pe_tup (pa_cons pe_str pa_nil)) pa_nil))))) (pss_one (ps_raise rfl (takes_of rfl rfl rfl rfl) (pmk_oex T.oxRow T.iRow T.tRow G_InvalidRow_init (hr.mono (by decide)) T.b_InvalidRow_init .nil pass0 (by rfl) T.m_InvalidRow (pa_cons pe_str pa_nil)))) pss_nil)
      (pss_cons (ps_if (pt_not (pt_val (pe_call G_is_name_or (hr.mono (by decide)) (by rfl) T.m_is_name_or T.F_is_name_or.kp T.b_is_name_or .nil pass0 (pa_cons (pv 3) (pa_cons (pe_tup (pa_cons pe_str (pa_cons pe_str pa_nil))) pa_nil))))) (pss_one (ps_raise rfl (takes_of rfl rfl rfl rfl) (pmk_oex T.oxRow T.iRow T.tRow G_InvalidRow_init (hr.mono (by decide)) T.b_InvalidRow_init .nil pass0 (by rfl) T.m_InvalidRow (pa_cons pe_str pa_nil)))) pss_nil)
      (pss_cons (ps_fld (pv 0) (pv 1) rfl)
      (pss_cons (ps_fld (pv 0) (pv 2) rfl)
      (pss_one (ps_fld (pv 0) (pv 3) rfl))))))), ?_⟩
  have s0 : Same H H := Same.refl H
  refine ⟨_, rfl, by show 1 ≤ sizeLine; decide, fun t0 ht0 => ⟨x0, d0, t0, ["any"], rfl, h0.same (s0.trans (same_upd ht0 _)), SqT.of upd_same, by decide +kernel, fun H0 z0 => ⟨_, rfl, ?_⟩⟩⟩
  have s1 := s0.trans ((same_upd ht0 _).trans z0)
  refine ite2 (fun c0 => ?_) (fun c0 => ?_)
  · exact mk_word fun d H' s' n' e' => qe "mood" d H' (if_pos (bnot_eq c0)) (s1.trans s') (s1.free n') e'
  refine ⟨_, rfl, by show 1 ≤ sizeLine; decide, fun t1 ht1 => ⟨x1, d1, t1, ["any"], rfl, h1.same (s1.trans (same_upd ht1 _)), SqT.of upd_same, by decide +kernel, fun H1 z1 => ⟨_, rfl, ?_⟩⟩⟩
  have s2 := s1.trans ((same_upd ht1 _).trans z1)
  refine ite2 (fun c1 => ?_) (fun c1 => ?_)
  · exact mk_word fun d H' s' n' e' => qe "service" d H' ((if_neg (by rw [bnot_ne c0]; decide)).trans (if_pos (bnot_eq c1))) (s2.trans s') (s2.free n') e'
  refine ⟨_, rfl, by show 2 ≤ sizeLine; decide, fun t2 ht2 => ⟨x2, d2, t2, ["none", "same"], rfl, h2.same (s2.trans (same_upd ht2 _)), SqT.of upd_same, by decide +kernel, fun H2 z2 => ⟨_, rfl, ?_⟩⟩⟩
  have s3 := s2.trans ((same_upd ht2 _).trans z2)
  refine ite2 (fun c2 => ?_) (fun c2 => ?_)
  · exact mk_word fun d H' s' n' e' => qe "mark" d H' ((if_neg (by rw [bnot_ne c0]; decide)).trans ((if_neg (by rw [bnot_ne c1]; decide)).trans (if_pos (bnot_eq c2)))) (s3.trans s') (s3.free n') e'
  have hp3 := s3 _ _ hp
  refine ⟨_, rfl, _, rfl, p, T.C_Send, dx, _, rfl, hp3, T.c_Send, T.n_Send_mood, (by show 0 < 1000; decide), ?_⟩
  refine ⟨_, rfl, _, rfl, p, T.C_Send, dx, _, rfl, upd_same, T.c_Send, T.n_Send_service, (by show 1 < 1000; decide), ?_⟩
  refine ⟨_, rfl, _, rfl, p, T.C_Send, dx, _, rfl, upd_same, T.c_Send, T.n_Send_mark, (by show 2 < 1000; decide), ?_⟩
  rw [upd_upd, upd_upd]
  refine q _ ((if_neg (by rw [bnot_ne c0]; decide)).trans ((if_neg (by rw [bnot_ne c1]; decide)).trans (if_neg (by rw [bnot_ne c2]; decide)))) upd_same fun b u e nb => ?_
  rw [upd_ne nb]
  exact s3 _ _ e
def wBack : List PyData → Option Str
  | [d0, d1, d2, d3] => if (nmD d0 || txD ["any"] d0) = false then some "mood" else if (nmD d1 || txD ["any"] d1) = false then some "service" else if (nmD d2 || txD ["none", "any"] d2) = false then some "sign" else if (nmD d3 || txD ["same"] d3) = false then some "then" else none
  | _ => none
theorem ok_Back_init (T : TxRows w K mg) : FnOk P w K mg base (L2.CX P w) 3 T.f_Back_init T.d_Back_init P_Back_init (spRow K T.C_Back T.C_InvalidRow ["mood", "service", "sign", "then"] wBack) := by
  have G_is_name := ok_is_name (P := P) (w := w) (base := base) T.toTxCheck
  have G_is_name_or := ok_is_name_or (P := P) (w := w) (base := base) T
  have G_InvalidRow_init := ok_xrow (P := P) (w := w) (base := base) T
  refine T.F_Back_init.okX sc_Back_init (fun vs H Q E h => ?_) (fun cdv A outer s H vs Q E hr h => ?_)
  · obtain ⟨p, dx, as, ds, rfl, hl, _⟩ := h
    exact congrArg Nat.succ hl
  obtain ⟨p, dx, as, ds, rfl, hl, hd, hp, q, qe⟩ := h
  obtain ⟨x0, x1, x2, x3, rfl⟩ : ∃ x0 x1 x2 x3, as = [x0, x1, x2, x3] := by
    match as, hl with
    | [x0, x1, x2, x3], _ => exact ⟨x0, x1, x2, x3, rfl⟩
  cases hd with
  | cons h0 hd =>
  cases hd with
  | cons h1 hd =>
  cases hd with
  | cons h2 hd =>
  cases hd with
  | cons h3 hd =>
  cases hd
  rename_i d0 d1 d2 d3
  refine ⟨_, (pss_cons (ps_if (pt_not (pt_val (pe_call G_is_name_or (hr.mono (by decide)) (by rfl) T.m_is_name_or T.F_is_name_or.kp T.b_is_name_or .nil pass0 (pa_cons (pv 1) (pa_cons (pe_tup (pa_cons pe_str pa_nil)) pa_nil))))) (pss_one (ps_raise rfl (takes_of rfl rfl rfl rfl) (pmk_oex T.oxRow T.iRow T.tRow G_InvalidRow_init (hr.mono (by decide)) T.b_InvalidRow_init .nil pass0 (by rfl) T.m_InvalidRow (pa_cons pe_str pa_nil)))) pss_nil)
      (pss_cons (ps_if (pt_not (pt_val (pe_call G_is_name_or (hr.mono (by decide)) (by rfl) T.m_is_name_or T.F_is_name_or.kp T.b_is_name_or .nil pass0 (pa_cons (pv 2) (pa_cons (pe_tup (pa_cons pe_str pa_nil)) pa_nil))))) (pss_one (ps_raise rfl (takes_of rfl rfl rfl rfl) (pmk_oex T.oxRow T.iRow T.tRow G_InvalidRow_init (hr.mono (by decide)) T.b_InvalidRow_init .nil pass0 (by rfl) T.m_InvalidRow (pa_cons pe_str pa_nil)))) pss_nil)
      (pss_cons (ps_if (pt_not (pt_val (pe_call G_is_name_or (hr.mono (by decide)) (by rfl) T.m_is_name_or T.F_is_name_or.kp T.b_is_name_or .nil pass0 (pa_cons (pv 3) (pa_cons (pe_tup (pa_cons pe_str (pa_cons pe_str pa_nil))) pa_nil))))) (pss_one (ps_raise rfl (takes_of rfl rfl rfl rfl) (pmk_oex T.oxRow T.iRow T.tRow G_InvalidRow_init (hr.mono (by decide)) T.b_InvalidRow_init .nil pass0 (by rfl) T.m_InvalidRow (pa_cons pe_str pa_nil)))) pss_nil)
      (pss_cons (ps_if (pt_not (pt_val (pe_call G_is_name_or (hr.mono (by decide)) (by rfl) T.m_is_name_or T.F_is_name_or.kp T.b_is_name_or .nil pass0 (pa_cons (pv 4) (pa_cons (pe_tup (pa_cons pe_str pa_nil)) pa_nil))))) (pss_one (ps_raise rfl (takes_of rfl rfl rfl rfl) (pmk_oex T.oxRow T.iRow T.tRow G_InvalidRow_init (hr.mono (by decide)) T.b_InvalidRow_init .nil pass0 (by rfl) T.m_InvalidRow (pa_cons pe_str pa_nil)))) pss_nil)
      (pss_cons (ps_fld (pv 0) (pv 1) rfl)
      (pss_cons (ps_fld (pv 0) (pv 2) rfl)
      (pss_cons (ps_fld (pv 0) (pv 3) rfl)
      (pss_one (ps_fld (pv 0) (pv 4) rfl))))))))), ?_⟩
  have s0 : Same H H := Same.refl H
  refine ⟨_, rfl, by show 1 ≤ sizeLine; decide, fun t0 ht0 => ⟨x0, d0, t0, ["any"], rfl, h0.same (s0.trans (same_upd ht0 _)), SqT.of upd_same, by decide +kernel, fun H0 z0 => ⟨_, rfl, ?_⟩⟩⟩
  have s1 := s0.trans ((same_upd ht0 _).trans z0)
  refine ite2 (fun c0 => ?_) (fun c0 => ?_)
  · exact mk_word fun d H' s' n' e' => qe "mood" d H' (if_pos (bnot_eq c0)) (s1.trans s') (s1.free n') e'
  refine ⟨_, rfl, by show 1 ≤ sizeLine; decide, fun t1 ht1 => ⟨x1, d1, t1, ["any"], rfl, h1.same (s1.trans (same_upd ht1 _)), SqT.of upd_same, by decide +kernel, fun H1 z1 => ⟨_, rfl, ?_⟩⟩⟩
  have s2 := s1.trans ((same_upd ht1 _).trans z1)
  refine ite2 (fun c1 => ?_) (fun c1 => ?_)
  · exact mk_word fun d H' s' n' e' => qe "service" d H' ((if_neg (by rw [bnot_ne c0]; decide)).trans (if_pos (bnot_eq c1))) (s2.trans s') (s2.free n') e'
  refine ⟨_, rfl, by show 2 ≤ sizeLine; decide, fun t2 ht2 => ⟨x2, d2, t2, ["none", "any"], rfl, h2.same (s2.trans (same_upd ht2 _)), SqT.of upd_same, by decide +kernel, fun H2 z2 => ⟨_, rfl, ?_⟩⟩⟩
  have s3 := s2.trans ((same_upd ht2 _).trans z2)
  refine ite2 (fun c2 => ?_) (fun c2 => ?_)
  · exact mk_word fun d H' s' n' e' => qe "sign" d H' ((if_neg (by rw [bnot_ne c0]; decide)).trans ((if_neg (by rw [bnot_ne c1]; decide)).trans (if_pos (bnot_eq c2)))) (s3.trans s') (s3.free n') e'
  refine ⟨_, rfl, by show 1 ≤ sizeLine; decide, fun t3 ht3 => ⟨x3, d3, t3, ["same"], rfl, h3.same (s3.trans (same_upd ht3 _)), SqT.of upd_same, by decide +kernel, fun H3 z3 => ⟨_, rfl, ?_⟩⟩⟩
  have s4 := s3.trans ((same_upd ht3 _).trans z3)
  refine ite2 (fun c3 => ?_) (fun c3 => ?_)
  · exact mk_word fun d H' s' n' e' => qe "then" d H' ((if_neg (by rw [bnot_ne c0]; decide)).trans ((if_neg (by rw [bnot_ne c1]; decide)).trans ((if_neg (by rw [bnot_ne c2]; decide)).trans (if_pos (bnot_eq c3))))) (s4.trans s') (s4.free n') e'
  have hp3 := s4 _ _ hp
  refine ⟨_, rfl, _, rfl, p, T.C_Back, dx, _, rfl, hp3, T.c_Back, T.n_Back_mood, (by show 0 < 1000; decide), ?_⟩
  refine ⟨_, rfl, _, rfl, p, T.C_Back, dx, _, rfl, upd_same, T.c_Back, T.n_Back_service, (by show 1 < 1000; decide), ?_⟩
  refine ⟨_, rfl, _, rfl, p, T.C_Back, dx, _, rfl, upd_same, T.c_Back, T.n_Back_sign, (by show 2 < 1000; decide), ?_⟩
  refine ⟨_, rfl, _, rfl, p, T.C_Back, dx, _, rfl, upd_same, T.c_Back, T.n_Back_then, (by show 3 < 1000; decide), ?_⟩
  rw [upd_upd, upd_upd, upd_upd]
  refine q _ ((if_neg (by rw [bnot_ne c0]; decide)).trans ((if_neg (by rw [bnot_ne c1]; decide)).trans ((if_neg (by rw [bnot_ne c2]; decide)).trans (if_neg (by rw [bnot_ne c3]; decide))))) upd_same fun b u e nb => ?_
  rw [upd_ne nb]
  exact s4 _ _ e
def wEnd : List PyData → Option Str
  | [d0, d1, d2, d3] => if (nmD d0 || txD ["any"] d0) = false then some "mood" else if txD ["good", "bad", "any"] d1 = false then some "outcome" else if (nmD d2 || txD ["none"] d2) = false then some "sign" else if txD ["keep", "drop"] d3 = false then some "part" else none
  | _ => none
theorem ok_End_init (T : TxRows w K mg) : FnOk P w K mg base (L2.CX P w) 3 T.f_End_init T.d_End_init P_End_init (spRow K T.C_End T.C_InvalidRow ["mood", "outcome", "sign", "part"] wEnd) := by
  have G_is_name := ok_is_name (P := P) (w := w) (base := base) T.toTxCheck
  have G_is_name_or := ok_is_name_or (P := P) (w := w) (base := base) T
  have G_InvalidRow_init := ok_xrow (P := P) (w := w) (base := base) T
  refine T.F_End_init.okX sc_End_init (fun vs H Q E h => ?_) (fun cdv A outer s H vs Q E hr h => ?_)
  · obtain ⟨p, dx, as, ds, rfl, hl, _⟩ := h
    exact congrArg Nat.succ hl
  obtain ⟨p, dx, as, ds, rfl, hl, hd, hp, q, qe⟩ := h
  obtain ⟨x0, x1, x2, x3, rfl⟩ : ∃ x0 x1 x2 x3, as = [x0, x1, x2, x3] := by
    match as, hl with
    | [x0, x1, x2, x3], _ => exact ⟨x0, x1, x2, x3, rfl⟩
  cases hd with
  | cons h0 hd =>
  cases hd with
  | cons h1 hd =>
  cases hd with
  | cons h2 hd =>
  cases hd with
  | cons h3 hd =>
  cases hd
  rename_i d0 d1 d2 d3
  refine ⟨_, (pss_cons (ps_if (pt_not (pt_val (pe_call G_is_name_or (hr.mono (by decide)) (by rfl) T.m_is_name_or T.F_is_name_or.kp T.b_is_name_or .nil pass0 (pa_cons (pv 1) (pa_cons (pe_tup (pa_cons pe_str pa_nil)) pa_nil))))) (pss_one (ps_raise rfl (takes_of rfl rfl rfl rfl) (pmk_oex T.oxRow T.iRow T.tRow G_InvalidRow_init (hr.mono (by decide)) T.b_InvalidRow_init .nil pass0 (by rfl) T.m_InvalidRow (pa_cons pe_str pa_nil)))) pss_nil)
      (pss_cons (ps_if (pt_cmpR (op_notInT K (room65 hr)) (pv 2) (pe_tup (pa_cons pe_str (pa_cons pe_str (pa_cons pe_str pa_nil)))) (by rfl)) (pss_one (ps_raise rfl (takes_of rfl rfl rfl rfl) (pmk_oex T.oxRow T.iRow T.tRow G_InvalidRow_init (hr.mono (by decide)) T.b_InvalidRow_init .nil pass0 (by rfl) T.m_InvalidRow (pa_cons pe_str pa_nil)))) pss_nil)
      (pss_cons (ps_if (pt_not (pt_val (pe_call G_is_name_or (hr.mono (by decide)) (by rfl) T.m_is_name_or T.F_is_name_or.kp T.b_is_name_or .nil pass0 (pa_cons (pv 3) (pa_cons (pe_tup (pa_cons pe_str pa_nil)) pa_nil))))) (pss_one (ps_raise rfl (takes_of rfl rfl rfl rfl) (pmk_oex T.oxRow T.iRow T.tRow G_InvalidRow_init (hr.mono (by decide)) T.b_InvalidRow_init .nil pass0 (by rfl) T.m_InvalidRow (pa_cons pe_str pa_nil)))) pss_nil)
      (pss_cons (ps_if (pt_cmpR (op_notInT K (room65 hr)) (pv 4) (pe_tup (pa_cons pe_str (pa_cons pe_str pa_nil))) (by rfl)) (pss_one (ps_raise rfl (takes_of rfl rfl rfl rfl) (pmk_oex T.oxRow T.iRow T.tRow G_InvalidRow_init (hr.mono (by decide)) T.b_InvalidRow_init .nil pass0 (by rfl) T.m_InvalidRow (pa_cons pe_str pa_nil)))) pss_nil)
      (pss_cons (ps_fld (pv 0) (pv 1) rfl)
      (pss_cons (ps_fld (pv 0) (pv 2) rfl)
      (pss_cons (ps_fld (pv 0) (pv 3) rfl)
      (pss_one (ps_fld (pv 0) (pv 4) rfl))))))))), ?_⟩
  have s0 : Same H H := Same.refl H
  refine ⟨_, rfl, by show 1 ≤ sizeLine; decide, fun t0 ht0 => ⟨x0, d0, t0, ["any"], rfl, h0.same (s0.trans (same_upd ht0 _)), SqT.of upd_same, by decide +kernel, fun H0 z0 => ⟨_, rfl, ?_⟩⟩⟩
  have s1 := s0.trans ((same_upd ht0 _).trans z0)
  refine ite2 (fun c0 => ?_) (fun c0 => ?_)
  · exact mk_word fun d H' s' n' e' => qe "mood" d H' (if_pos (bnot_eq c0)) (s1.trans s') (s1.free n') e'
  refine ⟨_, rfl, by show 3 ≤ sizeLine; decide, fun t1 ht1 => ⟨d1, (["good", "bad", "any"] : List Str).map PyData.str, (h1.same (s1.trans (same_upd ht1 _))).dp, .tup (SqT.of upd_same) (Dp.all_strs ["good", "bad", "any"]), h1.sh, shaped_strs (by decide +kernel), _, rfl, ?_⟩⟩
  have s2 := s1.trans (same_upd ht1 (.tup ((["good", "bad", "any"] : List Str).map V.str)))
  refine ite2 (fun c1 => ?_) (fun c1 => ?_)
  · exact mk_word fun d H' s' n' e' => qe "outcome" d H' ((if_neg (by rw [bnot_ne c0]; decide)).trans (if_pos (by rw [← any_strs]; exact bnot_eq c1))) (s2.trans s') (s2.free n') e'
  refine ⟨_, rfl, by show 1 ≤ sizeLine; decide, fun t2 ht2 => ⟨x2, d2, t2, ["none"], rfl, h2.same (s2.trans (same_upd ht2 _)), SqT.of upd_same, by decide +kernel, fun H2 z2 => ⟨_, rfl, ?_⟩⟩⟩
  have s3 := s2.trans ((same_upd ht2 _).trans z2)
  refine ite2 (fun c2 => ?_) (fun c2 => ?_)
  · exact mk_word fun d H' s' n' e' => qe "sign" d H' ((if_neg (by rw [bnot_ne c0]; decide)).trans ((if_neg (by rw [← any_strs]; rw [bnot_ne c1]; decide)).trans (if_pos (bnot_eq c2)))) (s3.trans s') (s3.free n') e'
  refine ⟨_, rfl, by show 2 ≤ sizeLine; decide, fun t3 ht3 => ⟨d3, (["keep", "drop"] : List Str).map PyData.str, (h3.same (s3.trans (same_upd ht3 _))).dp, .tup (SqT.of upd_same) (Dp.all_strs ["keep", "drop"]), h3.sh, shaped_strs (by decide +kernel), _, rfl, ?_⟩⟩
  have s4 := s3.trans (same_upd ht3 (.tup ((["keep", "drop"] : List Str).map V.str)))
  refine ite2 (fun c3 => ?_) (fun c3 => ?_)
  · exact mk_word fun d H' s' n' e' => qe "part" d H' ((if_neg (by rw [bnot_ne c0]; decide)).trans ((if_neg (by rw [← any_strs]; rw [bnot_ne c1]; decide)).trans ((if_neg (by rw [bnot_ne c2]; decide)).trans (if_pos (by rw [← any_strs]; exact bnot_eq c3))))) (s4.trans s') (s4.free n') e'
  have hp3 := s4 _ _ hp
  refine ⟨_, rfl, _, rfl, p, T.C_End, dx, _, rfl, hp3, T.c_End, T.n_End_mood, (by show 0 < 1000; decide), ?_⟩
  refine ⟨_, rfl, _, rfl, p, T.C_End, dx, _, rfl, upd_same, T.c_End, T.n_End_outcome, (by show 1 < 1000; decide), ?_⟩
  refine ⟨_, rfl, _, rfl, p, T.C_End, dx, _, rfl, upd_same, T.c_End, T.n_End_sign, (by show 2 < 1000; decide), ?_⟩
  refine ⟨_, rfl, _, rfl, p, T.C_End, dx, _, rfl, upd_same, T.c_End, T.n_End_part, (by show 3 < 1000; decide), ?_⟩
  rw [upd_upd, upd_upd, upd_upd]
  refine q _ ((if_neg (by rw [bnot_ne c0]; decide)).trans ((if_neg (by rw [← any_strs]; rw [bnot_ne c1]; decide)).trans ((if_neg (by rw [bnot_ne c2]; decide)).trans (if_neg (by rw [← any_strs]; rw [bnot_ne c3]; decide))))) upd_same fun b u e nb => ?_
  rw [upd_ne nb]
  exact s4 _ _ e
end
end My

/-! ## Services made: words ascending, rows, the arguments kept -/
namespace My
open PySem PySem.Spec PyProof.Rows L2
abbrev s_ascending : Stmt := top 27
abbrev N_ascending : List Str := ["words", "word"]
abbrev P_ascending : List Str := ["words"]
theorem sc_ascending : FnScope N_ascending P_ascending (defScope s_ascending) := ⟨rfl, rfl, rfl, by decide +kernel, rfl, by decide +kernel, by decide +kernel⟩
abbrev s_are_rows : Stmt := top 28
abbrev N_are_rows : List Str := ["value", "row"]
abbrev P_are_rows : List Str := ["value"]
theorem sc_are_rows : FnScope N_are_rows P_are_rows (defScope s_are_rows) := ⟨rfl, rfl, rfl, by decide +kernel, rfl, by decide +kernel, by decide +kernel⟩
abbrev s_own_bits : Stmt := top 25
abbrev N_own_bits : List Str := ["bad", "kept"]
abbrev P_own_bits : List Str := ["bad", "kept"]
theorem sc_own_bits : FnScope N_own_bits P_own_bits (defScope s_own_bits) := ⟨rfl, rfl, rfl, by decide +kernel, rfl, by decide +kernel, by decide +kernel⟩
abbrev s_end_in : Stmt := top 29
abbrev N_end_in : List Str := ["ends", "mood", "bad", "outcome", "in_mood", "for_outcome", "sign", "part"]
abbrev P_end_in : List Str := ["ends", "mood", "bad"]
theorem sc_end_in : FnScope N_end_in P_end_in (defScope s_end_in) := ⟨rfl, rfl, rfl, by decide +kernel, rfl, by decide +kernel, by decide +kernel⟩
abbrev s_endings_in : Stmt := top 30
abbrev N_endings_in : List Str := ["ends", "mood", "found", "bad", "sign", "kept", "own", "near"]
abbrev P_endings_in : List Str := ["ends", "mood"]
theorem sc_endings_in : FnScope N_endings_in P_endings_in (defScope s_endings_in) := ⟨rfl, rfl, rfl, by decide +kernel, rfl, by decide +kernel, by decide +kernel⟩
abbrev s_InvalidService_init : Stmt := inClass (top 9) 0
abbrev N_InvalidService_init : List Str := ["self", "word"]
abbrev P_InvalidService_init : List Str := ["self", "word"]
theorem sc_InvalidService_init : FnScope N_InvalidService_init P_InvalidService_init (defScope s_InvalidService_init) := ⟨rfl, rfl, rfl, by decide +kernel, rfl, by decide +kernel, by decide +kernel⟩
abbrev s_Service_init : Stmt := inClass (top 31) 0
abbrev N_Service_init : List Str := ["self", "name", "kinds", "waits", "leaves", "rows", "led_to", "row", "mood"]
abbrev P_Service_init : List Str := ["self", "name", "kinds", "waits", "leaves", "rows"]
theorem sc_Service_init : FnScope N_Service_init P_Service_init (defScope s_Service_init) := ⟨rfl, rfl, rfl, by decide +kernel, rfl, by decide +kernel, by decide +kernel⟩
structure TxSvc (w : World) (K : PySem.W.Frag) (mg : Str → Option Value) extends TxSeq w K mg, TxRows w K mg where
  z_sorted : mg "sorted" = none
  f_ascending : Addr
  d_ascending : FuncData
  F_ascending : Fun K "ascending" "ascending" s_ascending f_ascending d_ascending
  m_ascending : mg "ascending" = some (.ref f_ascending)
  b_ascending : Binds K d_ascending P_ascending []
  f_are_rows : Addr
  d_are_rows : FuncData
  F_are_rows : Fun K "are_rows" "are_rows" s_are_rows f_are_rows d_are_rows
  m_are_rows : mg "are_rows" = some (.ref f_are_rows)
  b_are_rows : Binds K d_are_rows P_are_rows []
  C_Row : Addr
  m_Row : mg "Row" = some (.ref C_Row)
  ty_Begin : ∀ (H : Hp) (a dx : Addr) (fs : List (Str × V)), H a = some (.ins C_Begin dx fs) → TyX K H (.ref a) (.ref C_Begin)
  ty_Send : ∀ (H : Hp) (a dx : Addr) (fs : List (Str × V)), H a = some (.ins C_Send dx fs) → TyX K H (.ref a) (.ref C_Send)
  ty_Back : ∀ (H : Hp) (a dx : Addr) (fs : List (Str × V)), H a = some (.ins C_Back dx fs) → TyX K H (.ref a) (.ref C_Back)
  ty_End : ∀ (H : Hp) (a dx : Addr) (fs : List (Str × V)), H a = some (.ins C_End dx fs) → TyX K H (.ref a) (.ref C_End)
  kr_Begin : PySem.W.kitOne K (.ref C_Begin) (.ref C_Row) = some true
  kr_Send : PySem.W.kitOne K (.ref C_Send) (.ref C_Row) = some true
  kr_Back : PySem.W.kitOne K (.ref C_Back) (.ref C_Row) = some true
  kr_End : PySem.W.kitOne K (.ref C_End) (.ref C_Row) = some true
  kk_Begin_Begin : PySem.W.kitOne K (.ref C_Begin) (.ref C_Begin) = some true
  kk_Begin_Send : PySem.W.kitOne K (.ref C_Begin) (.ref C_Send) = some false
  kk_Begin_Back : PySem.W.kitOne K (.ref C_Begin) (.ref C_Back) = some false
  kk_Begin_End : PySem.W.kitOne K (.ref C_Begin) (.ref C_End) = some false
  kk_Send_Begin : PySem.W.kitOne K (.ref C_Send) (.ref C_Begin) = some false
  kk_Send_Send : PySem.W.kitOne K (.ref C_Send) (.ref C_Send) = some true
  kk_Send_Back : PySem.W.kitOne K (.ref C_Send) (.ref C_Back) = some false
  kk_Send_End : PySem.W.kitOne K (.ref C_Send) (.ref C_End) = some false
  kk_Back_Begin : PySem.W.kitOne K (.ref C_Back) (.ref C_Begin) = some false
  kk_Back_Send : PySem.W.kitOne K (.ref C_Back) (.ref C_Send) = some false
  kk_Back_Back : PySem.W.kitOne K (.ref C_Back) (.ref C_Back) = some true
  kk_Back_End : PySem.W.kitOne K (.ref C_Back) (.ref C_End) = some false
  kk_End_Begin : PySem.W.kitOne K (.ref C_End) (.ref C_Begin) = some false
  kk_End_Send : PySem.W.kitOne K (.ref C_End) (.ref C_Send) = some false
  kk_End_Back : PySem.W.kitOne K (.ref C_End) (.ref C_Back) = some false
  kk_End_End : PySem.W.kitOne K (.ref C_End) (.ref C_End) = some true
  C_InvalidService : Addr
  m_InvalidService : mg "InvalidService" = some (.ref C_InvalidService)
  oxSvc : OexC K C_InvalidService
  nwSvc : PySem.W.findIn K (.ref C_InvalidService) "word" = some none
  f_InvalidService_init : Addr
  d_InvalidService_init : FuncData
  iSvc : PySem.W.findIn K (.ref C_InvalidService) "__init__" = some (some (.ref f_InvalidService_init))
  tSvc : PySem.W.typeIn K (.ref f_InvalidService_init) = some (.type "function")
  F_InvalidService_init : Fun K "__init__" "InvalidService.__init__" s_InvalidService_init f_InvalidService_init d_InvalidService_init
  b_InvalidService_init : Binds K d_InvalidService_init P_InvalidService_init []
  C_Service : Addr
  m_Service : mg "Service" = some (.ref C_Service)
  c_Service : Cls K C_Service
  f_Service_init : Addr
  d_Service_init : FuncData
  mk_Service : Mk K C_Service f_Service_init
  e_waits : Addr
  e_leaves : Addr
  e_rows : Addr
  t_waits : ∀ H : Hp, SqT K H e_waits []
  t_leaves : ∀ H : Hp, SqT K H e_leaves []
  t_rows : ∀ H : Hp, SqT K H e_rows []
  F_Service_init : FunD K "__init__" "Service.__init__" (defArgs s_Service_init) (defBody s_Service_init) (defScope s_Service_init) [.ref e_waits, .ref e_leaves, .ref e_rows] [] f_Service_init d_Service_init
  n_Service_name : NoAttr K C_Service "name"
  n_Service_kinds : NoAttr K C_Service "kinds"
  n_Service_waits : NoAttr K C_Service "waits"
  n_Service_leaves : NoAttr K C_Service "leaves"
  n_Service_rows : NoAttr K C_Service "rows"
  n_Service_moods : NoAttr K C_Service "moods"
  n_Service__begins : NoAttr K C_Service "_begins"
  n_Service__sends : NoAttr K C_Service "_sends"
  n_Service__backs : NoAttr K C_Service "_backs"
  n_Service__ends : NoAttr K C_Service "_ends"
  n_Service_endings : NoAttr K C_Service "endings"
  tk_BAD : Tok
  m_BAD : mg "BAD" = some (.int 1 tk_BAD)
  tk_DROPPED : Tok
  m_DROPPED : mg "DROPPED" = some (.int 2 tk_DROPPED)
  tk_KEPT : Tok
  m_KEPT : mg "KEPT" = some (.int 4 tk_KEPT)
  tk_LOST : Tok
  m_LOST : mg "LOST" = some (.int 16 tk_LOST)
  tk_NEAR : Tok
  m_NEAR : mg "NEAR" = some (.int 32 tk_NEAR)
  tk_HIDDEN : Tok
  m_HIDDEN : mg "HIDDEN" = some (.int 64 tk_HIDDEN)
  f_own_bits : Addr
  d_own_bits : FuncData
  F_own_bits : Fun K "own_bits" "own_bits" s_own_bits f_own_bits d_own_bits
  m_own_bits : mg "own_bits" = some (.ref f_own_bits)
  b_own_bits : Binds K d_own_bits P_own_bits []
  f_end_in : Addr
  d_end_in : FuncData
  F_end_in : Fun K "end_in" "end_in" s_end_in f_end_in d_end_in
  m_end_in : mg "end_in" = some (.ref f_end_in)
  b_end_in : Binds K d_end_in P_end_in []
  f_endings_in : Addr
  d_endings_in : FuncData
  F_endings_in : Fun K "endings_in" "endings_in" s_endings_in f_endings_in d_endings_in
  m_endings_in : mg "endings_in" = some (.ref f_endings_in)
  b_endings_in : Binds K d_endings_in P_endings_in []
/-- words that stand for others -/
def ODDW2 : List Str := ["any", "same"]
def spAsc (K : PySem.W.Frag) : Sp := fun vs H Q _ => ∃ (a : Addr) (l : List Str), vs = [.ref a] ∧ SqA K H a (l.map V.str) ∧ l.length ≤ 60 ∧
  ∀ (ys : List Str) (p : Addr) (H' : Hp), Same H H' → H p = none → H' p = some (.tup (ys.map V.str)) → ys.Nodup → sortedS ys = true → (∀ y, y ∈ ys ↔ y ∈ l ∧ ODDW2.contains y = false) → Q (.ref p) H'
/-- a row at v: its sort, its words -/
inductive RwAt {w : World} {K : PySem.W.Frag} {mg : Str → Option Value} (T : TxSvc w K mg) (H : Hp) : V → Str × List Str → Prop
  | beg {a dx : Addr} {x y z : Str} (ha : H a = some (.ins T.C_Begin dx [("mark", .str x), ("kind", .str y), ("mood", .str z)])) : RwAt T H (.ref a) ("begin", [x, y, z])
  | snd {a dx : Addr} {x y z : Str} (ha : H a = some (.ins T.C_Send dx [("mood", .str x), ("service", .str y), ("mark", .str z)])) : RwAt T H (.ref a) ("send", [x, y, z])
  | bck {a dx : Addr} {x y z t : Str} (ha : H a = some (.ins T.C_Back dx [("mood", .str x), ("service", .str y), ("sign", .str z), ("then", .str t)])) : RwAt T H (.ref a) ("back", [x, y, z, t])
  | end_ {a dx : Addr} {x y z t : Str} (ha : H a = some (.ins T.C_End dx [("mood", .str x), ("outcome", .str y), ("sign", .str z), ("part", .str t)])) : RwAt T H (.ref a) ("end", [x, y, z, t])
theorem RwAt.keepF {w : World} {K : PySem.W.Frag} {mg : Str → Option Value} {T : TxSvc w K mg} {H H' : Hp} {v : V} {r : Str × List Str} (h : RwAt T H v r) (k : ∀ a C dx f fs, H a = some (.ins C dx (f :: fs)) → H' a = some (.ins C dx (f :: fs))) : RwAt T H' v r := by
  cases h with
  | beg ha => exact .beg (k _ _ _ _ _ ha)
  | snd ha => exact .snd (k _ _ _ _ _ ha)
  | bck ha => exact .bck (k _ _ _ _ _ ha)
  | end_ ha => exact .end_ (k _ _ _ _ _ ha)
theorem RwAt.same {w : World} {K : PySem.W.Frag} {mg : Str → Option Value} {T : TxSvc w K mg} {H H' : Hp} {v : V} {r : Str × List Str} (h : RwAt T H v r) (e : Same H H') : RwAt T H' v r := h.keepF fun a _ _ _ _ q => e a _ q
theorem RwAt.keep {w : World} {K : PySem.W.Frag} {mg : Str → Option Value} {T : TxSvc w K mg} {H H' : Hp} {v : V} {r : Str × List Str} (h : RwAt T H v r) (k : ∀ a C dx fs, H a = some (.ins C dx fs) → H' a = some (.ins C dx fs)) : RwAt T H' v r := h.keepF fun a C dx f fs => k a C dx (f :: fs)
/-- a row of these words at v -/
def RowIs {w : World} {K : PySem.W.Frag} {mg : Str → Option Value} (T : TxSvc w K mg) (H : Hp) (v : V) (r : Str × List Str) : Prop := ∃ (p dx : Addr), v = .ref p ∧ H p = some (.ins (clsOf T.toTxRows r.1) dx ((fnOf r.1).zip (r.2.map V.str)))
theorem RwAt.is {w : World} {K : PySem.W.Frag} {mg : Str → Option Value} {T : TxSvc w K mg} {H : Hp} {v : V} {r : Str × List Str} (h : RwAt T H v r) : RowIs T H v r := by
  cases h with
  | beg ha => exact ⟨_, _, rfl, ha⟩
  | snd ha => exact ⟨_, _, rfl, ha⟩
  | bck ha => exact ⟨_, _, rfl, ha⟩
  | end_ ha => exact ⟨_, _, rfl, ha⟩
theorem rw_is {w : World} {K : PySem.W.Frag} {mg : Str → Option Value} (T : TxSvc w K mg) {so : Str} (hso : so ∈ SORTS) {ws : List Str} (hl : ws.length = (fnOf so).length) {H : Hp} {p dx : Addr} (h : H p = some (.ins (clsOf T.toTxRows so) dx ((fnOf so).zip (ws.map V.str)))) : RwAt T H (.ref p) (so, ws) := by
  simp only [SORTS, List.mem_cons, List.not_mem_nil, or_false] at hso
  rcases hso with rfl | rfl | rfl | rfl
  · rw [show clsOf T.toTxRows "begin" = T.C_Begin by unfold clsOf; rw [if_pos rfl]] at h
    match ws, hl with
    | [x, y, z], _ => exact .beg h
  · rw [show clsOf T.toTxRows "send" = T.C_Send by unfold clsOf; rw [if_neg (by decide), if_pos rfl]] at h
    match ws, hl with
    | [x, y, z], _ => exact .snd h
  · rw [show clsOf T.toTxRows "back" = T.C_Back by unfold clsOf; rw [if_neg (by decide), if_neg (by decide), if_pos rfl]] at h
    match ws, hl with
    | [x, y, z, t], _ => exact .bck h
  · rw [show clsOf T.toTxRows "end" = T.C_End by unfold clsOf; rw [if_neg (by decide), if_neg (by decide), if_neg (by decide)]] at h
    match ws, hl with
    | [x, y, z, t], _ => exact .end_ h
theorem RwAt.not_bare {w : World} {K : PySem.W.Frag} {mg : Str → Option Value} {T : TxSvc w K mg} {H : Hp} {x C dx : Addr} {m : Str × List Str} (h : RwAt T H (.ref x) m) (hx : H x = some (.ins C dx [])) : False := by
  cases h with
  | beg ha => rw [hx] at ha; cases ha
  | snd ha => rw [hx] at ha; cases ha
  | bck ha => rw [hx] at ha; cases ha
  | end_ ha => rw [hx] at ha; cases ha
/-- all but what stands at p stays -/
def Kp (p : Addr) (H H' : Hp) : Prop := ∀ b u, b ≠ p → H b = some u → H' b = some u
theorem Kp.refl {p : Addr} {H : Hp} : Kp p H H := fun _ _ _ e => e
theorem Kp.same {p : Addr} {H H1 H2 : Hp} (k : Kp p H H1) (e : Same H1 H2) : Kp p H H2 := fun b u n z => e _ _ (k b u n z)
theorem Kp.put {p : Addr} {H H1 : Hp} (k : Kp p H H1) (o : HO) : Kp p H (upd H1 p o) := fun b u n z => by rw [upd_ne n]; exact k b u n z
theorem Kp.trans {p : Addr} {H H1 H2 : Hp} (x : Kp p H H1) (y : Kp p H1 H2) : Kp p H H2 := fun b u n z => y b u n (x b u n z)
theorem ins_ne {p b : Addr} {H : Hp} {C dx : Addr} {fs : List (Str × V)} {o : HO} (hp : H p = some (.ins C dx fs)) (hb : H b = some o) (n : ∀ C dx fs, o ≠ .ins C dx fs) : b ≠ p := fun e => by
  rw [e, hp] at hb
  exact n _ _ _ (Option.some.inj hb).symm
theorem SqA.kp {K : PySem.W.Frag} {p a : Addr} {H H' : Hp} {C dx : Addr} {fs : List (Str × V)} {xs : List V} (h : SqA K H a xs) (hp : H p = some (.ins C dx fs)) (k : Kp p H H') : SqA K H' a xs := by
  rcases h with ((h | ⟨o, h⟩) | h) | ((h | ⟨o, h⟩) | h)
  · exact .inl (.inl (.inl (k _ _ (ins_ne hp h (fun _ _ _ z => by cases z)) h)))
  · exact .inl (.inl (.inr ⟨o, k _ _ (ins_ne hp h (fun _ _ _ z => by cases z)) h⟩))
  · exact .inl (.inr h)
  · exact .inr (.inl (.inl (k _ _ (ins_ne hp h (fun _ _ _ z => by cases z)) h)))
  · exact .inr (.inl (.inr ⟨o, k _ _ (ins_ne hp h (fun _ _ _ z => by cases z)) h⟩))
  · exact .inr (.inr h)
theorem sqT_kp {K : PySem.W.Frag} {p a : Addr} {H H' : Hp} {C dx : Addr} {fs : List (Str × V)} {xs : List V} (h : SqT K H a xs) (hp : H p = some (.ins C dx fs)) (k : Kp p H H') : SqT K H' a xs := by
  rcases h with (h | ⟨o, h⟩) | h
  · exact .inl (.inl (k _ _ (ins_ne hp h (fun _ _ _ z => by cases z)) h))
  · exact .inl (.inr ⟨o, k _ _ (ins_ne hp h (fun _ _ _ z => by cases z)) h⟩)
  · exact .inr h
/-- a row is no service that is being made -/
theorem RwAt.kp {w : World} {K : PySem.W.Frag} {mg : Str → Option Value} {T : TxSvc w K mg} {H H' : Hp} {p C dx : Addr} {v : V} {r : Str × List Str} (h : RwAt T H v r) (hp : H p = some (.ins C dx [])) (k : Kp p H H') : RwAt T H' v r := h.keepF fun a _ _ _ _ q => k a _ (fun z => by
  rw [z, hp] at q
  cases q) q
/-- a tuple of words at v; a list of such at p -/
def TupAt (H : Hp) (v : V) (ws : List Str) : Prop := ∃ a, v = .ref a ∧ H a = some (.tup (ws.map V.str))
structure TupsAt (H : Hp) (p : Addr) (wss : List (List Str)) : Prop where
  ex : ∃ vs, H p = some (.lst vs) ∧ Paired (TupAt H) vs wss
theorem TupAt.same {H H' : Hp} {v : V} {ws : List Str} (h : TupAt H v ws) (e : Same H H') : TupAt H' v ws := by
  obtain ⟨a, h1, h2⟩ := h
  exact ⟨a, h1, e _ _ h2⟩
theorem TupsAt.same {H H' : Hp} {p : Addr} {wss : List (List Str)} (h : TupsAt H p wss) (e : Same H H') : TupsAt H' p wss := by
  obtain ⟨vs, h1, h2⟩ := h.ex
  exact ⟨vs, e _ _ h1, paired_imp (fun _ _ z => z.same e) h2⟩
theorem TupsAt.kp {H H' : Hp} {p q C dx : Addr} {fs : List (Str × V)} {wss : List (List Str)} (h : TupsAt H p wss) (hq : H q = some (.ins C dx fs)) (k : Kp q H H') : TupsAt H' p wss := by
  obtain ⟨vs, h1, h2⟩ := h.ex
  refine ⟨vs, k _ _ (ins_ne hq h1 (fun _ _ _ z => by cases z)) h1, paired_imp (fun _ _ z => ?_) h2⟩
  obtain ⟨a, e1, e2⟩ := z
  exact ⟨a, e1, k _ _ (ins_ne hq e2 (fun _ _ _ z => by cases z)) e2⟩
/-- one more -/
theorem TupsAt.more {H : Hp} {p t : Addr} {wss : List (List Str)} {ws : List Str} (h : TupsAt H p wss) (ht : H t = none) : ∃ vs, upd H t (.tup (ws.map V.str)) p = some (.lst vs) ∧ vs.length = wss.length ∧ TupsAt (upd (upd H t (.tup (ws.map V.str))) p (.lst (vs ++ [.ref t]))) p (wss ++ [ws]) := by
  obtain ⟨vs, h1, h2⟩ := h.ex
  have np : p ≠ t := ne_of_none h1 ht
  refine ⟨vs, by rw [upd_ne np]; exact h1, paired_len h2, vs ++ [.ref t], upd_same, paired_snoc (paired_imp (fun _ _ z => ?_) h2) ⟨t, rfl, by rw [upd_ne np.symm, upd_same]⟩⟩
  obtain ⟨a, e1, e2⟩ := z
  exact ⟨a, e1, by rw [upd_ne (fun z => by rw [z, h1] at e2; cases e2), upd_ne (ne_of_none e2 ht)]; exact e2⟩
/-- the words of the rows of a sort -/
def wordsOf (s : Str) (rs : List (Str × List Str)) : List (List Str) := (rs.filter fun r => decide (r.1 = s)).map (·.2)
theorem wordsOf_len (s : Str) (rs : List (Str × List Str)) : (wordsOf s rs).length ≤ rs.length := by
  unfold wordsOf
  rw [List.length_map]
  exact List.length_filter_le _ _
theorem wordsOf_yes {s : Str} {rs : List (Str × List Str)} {i : Nat} {ws : List Str} (h : rs[i]? = some (s, ws)) : wordsOf s (rs.take (i + 1)) = wordsOf s (rs.take i) ++ [ws] := by
  unfold wordsOf
  rw [List.take_add_one, h, Option.toList_some, List.filter_append, List.map_append, List.filter_cons_of_pos (by simp)]
  rfl
theorem wordsOf_no {s s' : Str} {rs : List (Str × List Str)} {i : Nat} {ws : List Str} (h : rs[i]? = some (s', ws)) (n : s' ≠ s) : wordsOf s (rs.take (i + 1)) = wordsOf s (rs.take i) := by
  unfold wordsOf
  rw [List.take_add_one, h, Option.toList_some, List.filter_append, List.map_append, List.filter_cons_of_neg (by simpa using n)]
  simp
theorem tuple_of {K : PySem.W.Frag} {H : Hp} {a : Addr} {xs : List V} {Q : VK} (h : SqA K H a xs) (q : ∀ t H', Same H H' → SqT K H' t xs → Q (.ref t) H') : rTupO K [.ref a] H Q := by
  rcases h with h | h
  · exact ⟨a, xs, rfl, .inl ⟨h, fun l hl => q l _ (same_upd hl _) (SqT.of upd_same)⟩⟩
  · exact ⟨a, xs, rfl, .inr ⟨h, q a H (Same.refl H) h⟩⟩
/-- what are_rows answers -/
inductive RowsV (K : PySem.W.Frag) (CR : Addr) (H : Hp) : V → Bool → Prop where
  | no {v : V} (h : SeqV K H v false) : RowsV K CR H v false
  | seq {a : Addr} {xs : List V} {bs : List Bool} (h : SqA K H a xs) (e : Paired (fun x b => ∃ t, TyX K H x t ∧ PySem.W.kitOne K t (.ref CR) = some b) xs bs) (n : xs.length ≤ 900) : RowsV K CR H (.ref a) (bs.all id)
theorem RowsV.same {K : PySem.W.Frag} {CR : Addr} {H H' : Hp} {v : V} {b : Bool} (h : RowsV K CR H v b) (s : Same H H') : RowsV K CR H' v b := by
  have mono : ∀ {xs : List V} {bs : List Bool}, Paired (fun x b => ∃ t, TyX K H x t ∧ PySem.W.kitOne K t (.ref CR) = some b) xs bs → Paired (fun x b => ∃ t, TyX K H' x t ∧ PySem.W.kitOne K t (.ref CR) = some b) xs bs := by
    intro xs bs p
    induction p with
    | nil => exact .nil
    | cons r _ ih =>
      obtain ⟨t, ty, k⟩ := r
      exact .cons ⟨t, tyx_keep s ty, k⟩ ih
  cases h with
  | no h => exact .no (h.same s)
  | seq h e n => exact .seq (h.same s) (mono e) n
def spAreRows {w : World} {K : PySem.W.Frag} {mg : Str → Option Value} (T : TxSvc w K mg) : Sp := fun vs H Q _ => ∃ (v : V) (b : Bool), vs = [v] ∧ RowsV K T.C_Row H v b ∧ ∀ H', Same H H' → Q (.bl b) H'
/-- where a service keeps its rows by sort, and the ends of its moods -/
structure SvcOwn where
  b : Addr
  s : Addr
  k : Addr
  e : Addr
  d : Addr
/-- its fields -/
abbrev svcFs (y : Str) (k2 w2 l2 r2 m2 : Addr) (o : SvcOwn) : List (Str × V) := [("name", .str y), ("kinds", .ref k2), ("waits", .ref w2), ("leaves", .ref l2), ("rows", .ref r2), ("moods", .ref m2), ("_begins", .ref o.b), ("_sends", .ref o.s), ("_backs", .ref o.k), ("_ends", .ref o.e), ("endings", .ref o.d)]
/-- how a call ends in a mood -/
def endF (m o : Str) : List Str → Option (Str × Str)
  | [x, y, z, t] => if ((decide (x = m) || decide (x = "any")) && (decide (y = o) || decide (y = "any"))) = true then some (z, t) else none
  | _ => none
def outW (bad : Bool) : Str := if bad then "bad" else "good"
def endV (m : Str) (bad : Bool) (wss : List (List Str)) : Str × Bool := match wss.findSome? (endF m (outW bad)) with
  | none => ("none", false)
  | some z => (z.1, decide (z.2 = "keep"))
def ownB (bad kept : Bool) : Int × Int := if kept then ((if bad then 37 else 36), 0) else ((if bad then 83 else 66), 32)
/-- both ends of a mood at t -/
def EndAt (H : Hp) (wss : List (List Str)) (m : Str) (t : Addr) : Prop := ∃ a1 a2 : Addr, H t = some (.tup [.ref a1, .ref a2]) ∧
  H a1 = some (.tup [.bl false, .str (endV m false wss).1, .int (ownB false (endV m false wss).2).1, .int (ownB false (endV m false wss).2).2]) ∧
  H a2 = some (.tup [.bl true, .str (endV m true wss).1, .int (ownB true (endV m true wss).2).1, .int (ownB true (endV m true wss).2).2])
theorem EndAt.same {H H' : Hp} {wss : List (List Str)} {m : Str} {t : Addr} (h : EndAt H wss m t) (e : Same H H') : EndAt H' wss m t := by
  obtain ⟨a1, a2, h1, h2, h3⟩ := h
  exact ⟨a1, a2, e _ _ h1, e _ _ h2, e _ _ h3⟩
/-- the dict of the ends of these moods at d -/
structure EndsAt (H : Hp) (wss : List (List Str)) (d : Addr) (ys : List Str) : Prop where
  ex : ∃ kvs, H d = some (.dK kvs) ∧ Paired (fun (kv : Key × V) y => kv.1 = .inr y ∧ ∃ t, kv.2 = .ref t ∧ EndAt H wss y t) kvs ys
/-- what a service keeps of its rows -/
structure Keeps (H H' : Hp) (o : SvcOwn) (rs : List (Str × List Str)) (ys : List Str) : Prop where
  fresh : H o.b = none ∧ H o.s = none ∧ H o.k = none ∧ H o.e = none ∧ H o.d = none
  b : TupsAt H' o.b (wordsOf "begin" rs)
  s : TupsAt H' o.s (wordsOf "send" rs)
  k : TupsAt H' o.k (wordsOf "back" rs)
  e : TupsAt H' o.e (wordsOf "end" rs)
  d : EndsAt H' (wordsOf "end" rs) o.d ys
/-- the word of the first wrong argument -/
def wrSvc (b0 b1 b2 b3 b4 : Bool) : Option Str := if b0 = false then some "name" else if b1 = false then some "kinds" else if b2 = false then some "waits" else if b3 = false then some "leaves" else if b4 = false then some "rows" else none
def spOwn : Sp := fun vs H Q _ => ∃ bad kept : Bool, vs = [.bl bad, .bl kept] ∧ ∀ t, H t = none → Q (.ref t) (upd H t (.tup [.int (ownB bad kept).1, .int (ownB bad kept).2]))
def spEndIn : Sp := fun vs H Q _ => ∃ (e : Addr) (wss : List (List Str)) (m : Str) (bad : Bool), vs = [.ref e, .str m, .bl bad] ∧ TupsAt H e wss ∧ (∀ ws ∈ wss, ws.length = 4) ∧ ∀ t, H t = none → Q (.ref t) (upd H t (.tup [.str (endV m bad wss).1, .bl (endV m bad wss).2]))
def spEndings : Sp := fun vs H Q _ => ∃ (e : Addr) (wss : List (List Str)) (m : Str), vs = [.ref e, .str m] ∧ TupsAt H e wss ∧ (∀ ws ∈ wss, ws.length = 4) ∧ ∀ t H', Same H H' → H t = none → EndAt H' wss m t → Q (.ref t) H'
def spSvcInit {w : World} {K : PySem.W.Frag} {mg : Str → Option Value} (T : TxSvc w K mg) : Sp := fun vs H Q E => ∃ (p dx : Addr) (n k wt lv rw : V) (b1 b2 b3 b4 : Bool), vs = [.ref p, n, k, wt, lv, rw] ∧ H p = some (.ins T.C_Service dx []) ∧
  AnyV K H n ∧ SomeV K H k b1 ∧ NamesV K H wt b2 ∧ NamesV K H lv b3 ∧ RowsV K T.C_Row H rw b4 ∧
  (wrSvc (nmV n) b1 b2 b3 b4 = none → ∃ (y : Str) (ka wa la ra : Addr) (lk lw ll : List Str) (xs : List V) (rs : List (Str × List Str)), n = .str y ∧ k = .ref ka ∧ wt = .ref wa ∧ lv = .ref la ∧ rw = .ref ra ∧
    SqA K H ka (lk.map V.str) ∧ SqA K H wa (lw.map V.str) ∧ SqA K H la (ll.map V.str) ∧ SqA K H ra xs ∧ Paired (RwAt T H) xs rs ∧ rs.length ≤ 28 ∧
    ∀ (H' : Hp) (k2 w2 l2 r2 m2 : Addr) (o : SvcOwn) (ys : List Str), Kp p H H' → H' p = some (.ins T.C_Service dx (svcFs y k2 w2 l2 r2 m2 o)) →
      SqT K H' k2 (lk.map V.str) → SqT K H' w2 (lw.map V.str) → SqT K H' l2 (ll.map V.str) → SqT K H' r2 xs → SqT K H' m2 (ys.map V.str) → ys.Nodup → sortedS ys = true → (∀ z, z ∈ ys ↔ z ∈ moodsL rs ∧ ODDW2.contains z = false) → Keeps H H' o rs ys → Q .non H') ∧
  (∀ wd d H', wrSvc (nmV n) b1 b2 b3 b4 = some wd → Same H H' → H d = none → H' d = some (.xd [("word", .str wd)]) → E (.ref T.C_InvalidService) (some d) H')
/-- what tuple(xs) asks -/
structure TupQ (K : PySem.W.Frag) (vs : List V) (H : Hp) (Q : VK) : Prop where
  ex : ∃ (a : Addr) (xs : List V), vs = [.ref a] ∧ SqA K H a xs ∧ ∀ t H', Same H H' → SqT K H' t xs → Q (.ref t) H'
theorem call_tupQ {X : Cx} (K : PySem.W.Frag) (hK : X.K = K := by rfl) : CallR X (.type "tuple") (TupQ K) := by
  subst hK
  intro pins s σ H xs us Q I r h
  obtain ⟨a, ys, rfl, hq, q⟩ := h.ex
  exact call_tuple_of pins s σ H _ us Q I r (tuple_of hq q)
section
variable {X : Cx}
theorem pa_starK (K : PySem.W.Frag) {e : Expr} {es : List Expr} {te : TE} {t : TA} {p : Pos} (he : PE X e te) (hr : PA X es t) (hK : X.K = K := by rfl) (hs : starEach (.Starred e p :: es) X.env = (true, eval e X.env) :: starEach es X.env := by rfl) : PA X (.Starred e p :: es) (StX.tStar K te t) := hK ▸ StX.pa_star he hr hs
end
section
variable {P : Program} {w : World} {K : PySem.W.Frag} {mg : Str → Option Value} {base : Heap}
theorem ok_ascending (T : TxSvc w K mg) : FnOk P w K mg base CX0 1 T.f_ascending T.d_ascending P_ascending (spAsc K) := by
  refine T.F_ascending.ok sc_ascending (fun vs H Q E h => ?_) (fun cdv A outer s H vs Q E hr h => ?_)
  · obtain ⟨a, l, rfl, _⟩ := h
    rfl
  obtain ⟨a, l, rfl, hS, hl, q⟩ := h
  refine ⟨_, (pss_one (ps_ret (pe_callTy (call_tupleK K) (by rfl) T.z_tuple (by decide +kernel) (pa_cons (pe_callB (cr_sortedTS rfl) (by rfl) T.z_sorted (by decide +kernel) (pa_cons (pe_setT ⟨gName 1, _, _, _⟩ (by rfl) sc_ascending.nd (pi_seqK K (pv 0)) (blkOk_by (own := [("word", 1)]) (N := N_ascending) (sc := defScope s_ascending) (by decide +kernel)) rfl (fun _ _ _ _ _ => (pg_name (i := 1) sc_ascending.nd rfl (Or.inl rfl))) (fun _ _ _ _ _ => pts_one (pt_cmpR (op_notInK K) (pv 1) (pe_tup (pa_cons pe_str (pa_cons pe_str pa_nil))) (by rfl))) (fun _ _ _ _ _ => (pv 1))) pa_nil)) pa_nil)))), ?_⟩
  refine ⟨_, rfl, a, _, rfl, hS, fun J G g0 gs wk D hD => ⟨(l.map V.str).length, fun i H' => Same H H' ∧ ∃ z : List Str, H' D = some (TSetO P w D z) ∧ z.length ≤ i ∧ ∀ y, y ∈ z ↔ y ∈ l.take i ∧ ODDW2.contains y = false, ?_, ?_, ?_⟩⟩
  · exact ⟨same_upd hD _, [], upd_same, Nat.le_refl _, fun y => by simp⟩
  · rintro H1 ⟨s1, z, hD1, zl, zm⟩
    rw [List.length_map] at zl
    refine ⟨wk.stops _ (gs _ _ s1 g0), D, z, rfl, hD1, by omega, fun ys sp pm nd so hsp => ?_⟩
    refine ⟨sp, _, rfl, .inl ⟨SqL.of upd_same, fun t ht => ?_⟩⟩
    have s2 := (s1.trans (same_upd hsp (.lst (ys.map V.str)))).trans (same_upd ht (.tup (ys.map V.str)))
    refine q ys t _ s2 ((s1.trans (same_upd hsp (.lst (ys.map V.str)))).free ht) upd_same (pm.nodup_iff.mpr nd) so fun y => ?_
    rw [pm.mem_iff, zm, List.length_map, List.take_length]
  · rintro i H1 hi ⟨s1, z, hD1, zl, zm⟩
    refine ⟨wk.goes i _ hi (gs _ _ s1 g0), fun x H2 hyy => ?_⟩
    obtain ⟨rfl, hx⟩ := wk.yields i _ _ _ hi (gs _ _ s1 g0) hyy
    rw [List.getElem?_map] at hx
    obtain ⟨y, hy, rfl⟩ : ∃ y, l[i]? = some y ∧ V.str y = x := by
      cases e : l[i]? with
      | none => rw [e] at hx; cases hx
      | some z => rw [e] at hx; cases hx; exact ⟨z, rfl, rfl⟩
    rw [List.length_map] at hi
    refine ⟨rfl, ?_⟩
    refine ⟨_, rfl, by show 2 ≤ sizeLine; decide, fun t ht => ⟨t, ODDW2.map V.str, rfl, .inr (SqT.of upd_same), rfl, by decide +kernel, _, rfl, ?_⟩⟩
    have s2 := s1.trans (same_upd ht (.tup [.str "any", .str "same"]))
    have hD2 := same_upd ht (.tup [.str "any", .str "same"]) _ _ hD1
    rw [inV_strs]
    have tk : ∀ v, v ∈ l.take (i + 1) ↔ v ∈ l.take i ∨ v = y := fun v => by
      rw [List.take_add_one, hy, List.mem_append]
      simp
    refine ⟨fun c => ?_, fun c => ⟨_, rfl, y, z, rfl, hD2, by omega, ?_⟩⟩
    · have c' : ODDW2.contains y = true := by simpa using c
      refine ⟨s2, z, hD2, by omega, fun v => ?_⟩
      rw [zm, tk]
      constructor
      · exact fun h => ⟨.inl h.1, h.2⟩
      · rintro ⟨h1 | h1, h2⟩
        · exact ⟨h1, h2⟩
        · rw [h1, c'] at h2
          cases h2
    · have c' : ODDW2.contains y = false := by simpa using c
      refine ⟨fun b o e => ?_, more z y, upd_same, ?_, fun v => ?_⟩
      · rw [upd_ne (ne_of_none e hD)]
        exact s2 b o e
      · unfold more
        split
        · omega
        · simp only [List.length_cons]
          omega
      · have mm : v ∈ more z y ↔ v ∈ z ∨ v = y := by
          unfold more
          split
          · rename_i h1
            exact ⟨.inl, fun h2 => h2.elim id fun e => e ▸ h1⟩
          · rw [List.mem_cons]
            exact Or.comm
        rw [mm, zm, tk]
        constructor
        · rintro (h1 | h1)
          · exact ⟨.inl h1.1, h1.2⟩
          · exact ⟨.inr h1, h1 ▸ c'⟩
        · rintro ⟨h1 | h1, h2⟩
          · exact .inl ⟨h1, h2⟩
          · exact .inr h1
theorem row_ty (T : TxSvc w K mg) {H : Hp} {v : V} {r : Str × List Str} (h : RwAt T H v r) : ∃ C, TyX K H v (.ref C) ∧ PySem.W.kitOne K (.ref C) (.ref T.C_Row) = some true ∧ PySem.W.kitOne K (.ref C) (.ref T.C_Back) = some (decide (r.1 = "back")) := by
  cases h with
  | beg ha => exact ⟨_, T.ty_Begin _ _ _ _ ha, T.kr_Begin, T.kk_Begin_Back⟩
  | snd ha => exact ⟨_, T.ty_Send _ _ _ _ ha, T.kr_Send, T.kk_Send_Back⟩
  | bck ha => exact ⟨_, T.ty_Back _ _ _ _ ha, T.kr_Back, T.kk_Back_Back⟩
  | end_ ha => exact ⟨_, T.ty_End _ _ _ _ ha, T.kr_End, T.kk_End_Back⟩
theorem ok_are_rows (T : TxSvc w K mg) : FnOk P w K mg base CX0 2 T.f_are_rows T.d_are_rows P_are_rows (spAreRows T) := by
  have G_is_sequence := ok_is_sequence (P := P) (w := w) (base := base) T.toTxSeq
  refine T.F_are_rows.ok sc_are_rows (fun vs H Q E h => ?_) (fun cdv A outer s H vs Q E hr h => ?_)
  · obtain ⟨v, b, rfl, _⟩ := h
    rfl
  obtain ⟨v, b, rfl, hR, q⟩ := h
  refine ⟨_, (pss_one (ps_ret (pe_and (pe_call G_is_sequence (hr.mono (by decide)) (by rfl) T.m_is_sequence T.F_is_sequence.kp T.b_is_sequence .nil pass0 (pa_cons (pv 0) pa_nil)) (pe_one (pe_callB (cr_allK K rfl) (by rfl) T.z_all (by decide +kernel) (pa_cons (pe_lc (own := [("row", 1)]) (g := gName 1) (by rfl) sc_are_rows.nd (pi_seqK K (pv 0)) (blkOk_by (own := [("row", 1)]) (N := N_are_rows) (sc := defScope s_are_rows) (by decide +kernel)) (fun _ _ _ _ _ => (pg_name (i := 1) sc_are_rows.nd rfl (Or.inl rfl))) (fun _ _ _ _ _ => pts_nil) (fun _ _ _ _ _ => (pe_callB (call_isiV K) (by rfl) T.z_isinstance (by decide +kernel) (pa_cons (pv 1) (pa_cons (pe_glob (v := .ref T.C_Row) (by rfl) T.m_Row rfl) pa_nil))))) pa_nil)))))), ?_⟩
  cases hR with
  | no h =>
    refine ⟨_, rfl, v, false, rfl, h, fun H1 s1 => ⟨_, rfl, ?_⟩⟩
    exact q H1 s1
  | @seq a xs bs h e n =>
    refine ⟨_, rfl, .ref a, true, rfl, h.seqV, fun H1 s1 => ⟨_, rfl, ?_⟩⟩
    refine ⟨_, rfl, a, xs, rfl, h.same s1, fun J G g0 gs wk D hD => ?_⟩
    refine lc_it wk (fun i H' => Same H1 H' ∧ H' D = some (.lst ((bs.take i).map V.bl))) ⟨same_upd hD _, upd_same⟩ (fun i H' _ h => gs _ _ h.1 g0) ?_ ?_
    · rintro i x H2 H3 hi ⟨s2, hD2⟩ ⟨rfl, hx⟩
      obtain ⟨bb, hb, t, ty, kr⟩ := paired_get e hx
      refine ⟨rfl, ?_⟩
      refine ⟨_, rfl, x, .ref T.C_Row, t, _, bb, rfl, .own _, tyx_keep (s1.trans s2) ty, kr, ?_⟩
      refine ⟨_, hD2, small1000 (by rw [List.length_map, List.length_take]; omega), ?_, ?_⟩
      · intro b o e
        rw [upd_ne (ne_of_none e hD)]
        exact s2 b o e
      · rw [upd_same, List.take_add_one, hb, List.map_append]
        rfl
    · rintro H2 ⟨s2, hD2⟩
      have ln : xs.length = bs.length := pair_len e
      rw [ln, List.take_length] at hD2
      refine ⟨D, _, rfl, SqL.of hD2, ?_⟩
      exact q H2 (s1.trans s2)
theorem ok_xsvc (T : TxSvc w K mg) : FnOk P w K mg base CX0 1 T.f_InvalidService_init T.d_InvalidService_init P_InvalidService_init (spXInit K T.C_InvalidService) := by
  refine T.F_InvalidService_init.ok sc_InvalidService_init (fun vs H Q E h => ?_) (fun cdv A outer s H vs Q E hr h => ?_)
  · obtain ⟨a, y, rfl, _⟩ := h
    rfl
  obtain ⟨a, y, rfl, ha, q⟩ := h
  refine ⟨_, (pss_one (ps_ost (pv 0) (pv 1))), ?_⟩
  exact ⟨_, rfl, _, rfl, a, T.C_InvalidService, rfl, T.oxSvc, T.nwSvc, .inl ⟨ha, fun dx h1 h2 => q dx h1 h2⟩⟩
theorem paired_rw (T : TxSvc w K mg) {H H' : Hp} {p C dx : Addr} (hp : H p = some (.ins C dx [])) (k : Kp p H H') {xs : List V} {rs : List (Str × List Str)} (h : Paired (RwAt T H) xs rs) : Paired (RwAt T H') xs rs := paired_imp (fun _ _ z => z.kp hp k) h
theorem paired_rwS (T : TxSvc w K mg) {H H' : Hp} (k : Same H H') {xs : List V} {rs : List (Str × List Str)} (h : Paired (RwAt T H) xs rs) : Paired (RwAt T H') xs rs := paired_imp (fun _ _ z => z.same k) h
end
end My

/-! ## How calls end: the program's own look -/
namespace My
open PySem PySem.Spec PyProof.Rows L2
section
variable {P : Program} {w : World} {K : PySem.W.Frag} {mg : Str → Option Value} {base : Heap}
/-- x == y or x == 'any' -/
theorem or_eq {σ : L2.St} {H : Hp} {i j : Nat} {x m s : Str} {k : Bool → Hp → Prop} (hi : σ[i]? = some (some (.str x))) (hj : σ[j]? = some (some (.str m))) (h : k (decide (x = m) || decide (x = s)) H) :
    tOr (tTest (tOp rEq (tVar i) (tVar j))) (tTest (tOp rEq (tVar i) (tC (V.str s)))) σ H k := by
  refine ⟨_, hi, _, hj, rfl, _, rfl, ?_⟩
  rw [dec_str2]
  cases c : decide (x = m) with
  | true =>
    rw [c] at h
    exact h
  | false =>
    rw [c] at h
    refine ⟨_, hi, rfl, _, rfl, ?_⟩
    rw [dec_str2]
    exact h
theorem ok_own_bits (T : TxSvc w K mg) : FnOk P w K mg base CX0 1 T.f_own_bits T.d_own_bits P_own_bits spOwn := by
  refine T.F_own_bits.ok sc_own_bits (fun vs H Q E h => ?_) (fun cdv A outer s H vs Q E hr h => ?_)
  · obtain ⟨bad, kept, rfl, _⟩ := h
    rfl
  obtain ⟨bad, kept, rfl, q⟩ := h
  refine ⟨_, (pss_cons (ps_if (pt_val (pv 1)) (pss_one (ps_ret (pe_tup (pa_cons (pe_op op_or (pe_op op_or (pe_ifExp (pt_val (pv 0)) (pe_glob (v := .int 1) (by rfl) T.m_BAD ⟨_, rfl⟩) pe_int) (pe_glob (v := .int 4) (by rfl) T.m_KEPT ⟨_, rfl⟩)) (pe_glob (v := .int 32) (by rfl) T.m_NEAR ⟨_, rfl⟩)) (pa_cons pe_int pa_nil))))) pss_nil)
      (pss_one (ps_ret (pe_tup (pa_cons (pe_op op_or (pe_op op_or (pe_ifExp (pt_val (pv 0)) (pe_op op_or (pe_glob (v := .int 1) (by rfl) T.m_BAD ⟨_, rfl⟩) (pe_glob (v := .int 16) (by rfl) T.m_LOST ⟨_, rfl⟩)) pe_int) (pe_glob (v := .int 2) (by rfl) T.m_DROPPED ⟨_, rfl⟩)) (pe_glob (v := .int 64) (by rfl) T.m_HIDDEN ⟨_, rfl⟩)) (pa_cons (pe_glob (v := .int 32) (by rfl) T.m_NEAR ⟨_, rfl⟩) pa_nil)))))), ?_⟩
  refine ⟨_, rfl, _, rfl, ?_⟩
  cases kept with
  | true =>
    cases bad with
    | true => exact ⟨_, rfl, _, rfl, _, _, rfl, rfl, _, _, rfl, rfl, by show 2 ≤ sizeLine; decide, fun t ht => q t ht⟩
    | false => exact ⟨_, rfl, _, rfl, _, _, rfl, rfl, _, _, rfl, rfl, by show 2 ≤ sizeLine; decide, fun t ht => q t ht⟩
  | false =>
    cases bad with
    | true => exact ⟨_, rfl, _, rfl, _, _, rfl, rfl, _, _, rfl, rfl, _, _, rfl, rfl, by show 2 ≤ sizeLine; decide, fun t ht => q t ht⟩
    | false => exact ⟨_, rfl, _, rfl, _, _, rfl, rfl, _, _, rfl, rfl, by show 2 ≤ sizeLine; decide, fun t ht => q t ht⟩
theorem endF_yes {m o x y z t : Str} (h1 : (decide (x = m) || decide (x = "any")) = true) (h2 : (decide (y = o) || decide (y = "any")) = true) : endF m o [x, y, z, t] = some (z, t) := if_pos (by rw [h1, h2]; rfl)
theorem endF_no1 {m o x y z t : Str} (h1 : (decide (x = m) || decide (x = "any")) = false) : endF m o [x, y, z, t] = none := if_neg (by rw [h1]; intro q; cases q)
theorem endF_no2 {m o x y z t : Str} (h1 : (decide (y = o) || decide (y = "any")) = false) : endF m o [x, y, z, t] = none := if_neg (by rw [h1, Bool.and_false]; intro q; cases q)
theorem ok_end_in (T : TxSvc w K mg) : FnOk P w K mg base CX0 1 T.f_end_in T.d_end_in P_end_in spEndIn := by
  refine T.F_end_in.ok sc_end_in (fun vs H Q E h => ?_) (fun cdv A outer s H vs Q E hr h => ?_)
  · obtain ⟨e, wss, m, bad, rfl, _⟩ := h
    rfl
  obtain ⟨e, wss, m, bad, rfl, he, h4, q⟩ := h
  obtain ⟨vs, hvs, pr⟩ := he.ex
  refine ⟨_, (Evl.pss_cut (ps_set (i := 3) sc_end_in.nd rfl (Or.inl rfl) (pe_ifExp (pt_val (pv 2)) pe_str pe_str))
      (pss_cons (ps_for PassesOwn.never rfl (pi_listK K (pv 0)) (pg_tup rfl (pgs_cons (pg_name (i := 4) sc_end_in.nd rfl (Or.inl rfl)) (pgs_cons (pg_name (i := 5) sc_end_in.nd rfl (Or.inl rfl)) (pgs_cons (pg_name (i := 6) sc_end_in.nd rfl (Or.inl rfl)) (pgs_cons (pg_name (i := 7) sc_end_in.nd rfl (Or.inl rfl)) pgs_nil))))) (pss_one (ps_if (PW.pt (pw_and (PW.pt (pw_or (pt_cmpR op_eq (pv 4) (pv 1) (nomark _)) (pw_or1 (pt_cmpR op_eq (pv 4) pe_str (nomark _))))) (pw_and1 (PW.pt (pw_or (pt_cmpR op_eq (pv 5) (pv 3) (nomark _)) (pw_or1 (pt_cmpR op_eq (pv 5) pe_str (nomark _)))))))) (pss_one (ps_ret (pe_tup (pa_cons (pv 6) (pa_cons (pe_cmpR op_eq (pv 7) pe_str (nomark _)) pa_nil))))) pss_nil)))
      (pss_one (ps_ret (pe_tup (pa_cons pe_str (pa_cons pe_bl pa_nil))))))), ?_⟩
  refine ⟨fun σ H' => H' = H ∧ σ = [some (.ref e), some (.str m), some (.bl bad), some (.str (outW bad)), none, none, none, none], ?_, ?_⟩
  · refine ⟨_, rfl, _, rfl, ?_⟩
    cases bad with
    | true => exact ⟨rfl, rfl⟩
    | false => exact ⟨rfl, rfl⟩
  rintro σ H1 ⟨rfl, rfl⟩
  unfold endV at q
  refine ⟨_, rfl, e, rfl, ⟨_, SqL.of hvs⟩, for_list (K := K) (a := e) (xs := vs) (fun i σ H' => (∃ a b c d : Option V, σ = [some (.ref e), some (.str m), some (.bl bad), some (.str (outW bad)), a, b, c, d]) ∧ H' = H1 ∧ wss.findSome? (endF m (outW bad)) = (wss.drop i).findSome? (endF m (outW bad)))
    ⟨⟨none, none, none, none, rfl⟩, rfl, rfl⟩ (fun i σ H' _ h => SqL.of (by rw [h.2.1]; exact hvs)) ?_ ?_⟩
  · rintro i x σ H2 hi ⟨⟨a, b, c, d, rfl⟩, rfl, eq⟩
    obtain ⟨ws, hw, t0, rfl, ht0⟩ := paired_get pr hi
    rw [find_step hw] at eq
    have l4 := h4 ws (List.mem_of_getElem? hw)
    match ws, l4 with
    | [x, y, z, t], _ =>
    refine ⟨t0, _, rfl, SqT.of ht0, rfl, _, _, rfl, _, _, rfl, _, _, rfl, _, _, rfl, rfl, ?_⟩
    refine or_eq (by rfl) (by rfl) ?_
    refine ite2 (fun c1 => ?_) (fun c1 => ?_)
    · refine or_eq (by rfl) (by rfl) ?_
      refine ite2 (fun c2 => ?_) (fun c2 => ?_)
      · rw [eq, endF_yes c1 c2] at q
        refine ⟨_, rfl, _, rfl, rfl, by show 2 ≤ sizeLine; decide, fun t' ht => ?_⟩
        rw [dec_str2]
        exact q t' ht
      · exact ⟨⟨_, _, _, _, rfl⟩, rfl, by rw [eq, endF_no2 (Bool.eq_false_iff.mpr c2)]; rfl⟩
    · exact ⟨⟨_, _, _, _, rfl⟩, rfl, by rw [eq, endF_no1 (Bool.eq_false_iff.mpr c1)]; rfl⟩
  · rintro σ H2 ⟨⟨a, b, c, d, rfl⟩, rfl, eq⟩
    rw [eq, List.drop_of_length_le (Nat.le_of_eq (paired_len pr).symm)] at q
    exact ⟨by show 2 ≤ sizeLine; decide, fun t' ht => q t' ht⟩
theorem ok_endings_in (T : TxSvc w K mg) : FnOk P w K mg base CX0 2 T.f_endings_in T.d_endings_in P_endings_in spEndings := by
  have G_end_in := ok_end_in (P := P) (w := w) (base := base) T
  have G_own_bits := ok_own_bits (P := P) (w := w) (base := base) T
  refine T.F_endings_in.ok sc_endings_in (fun vs H Q E h => ?_) (fun cdv A outer s H vs Q E hr h => ?_)
  · obtain ⟨e, wss, m, rfl, _⟩ := h
    rfl
  obtain ⟨e, wss, m, rfl, he, h4, q⟩ := h
  refine ⟨_, (pss_cons (ps_set (i := 2) sc_endings_in.nd rfl (Or.inl rfl) (pe_lst pa_nil))
      (pss_cons (ps_for PassesOwn.never rfl (pi_tupK K (pe_tup (pa_cons pe_bl (pa_cons pe_bl pa_nil)))) (pg_name (i := 3) sc_endings_in.nd rfl (Or.inl rfl)) (pss_cons (ps_asg (pe_call G_end_in (hr.mono (by decide)) (by rfl) T.m_end_in T.F_end_in.kp T.b_end_in .nil pass0 (pa_cons (pv 0) (pa_cons (pv 1) (pa_cons (pv 3) pa_nil)))) (pg_tup rfl (pgs_cons (pg_name (i := 4) sc_endings_in.nd rfl (Or.inl rfl)) (pgs_cons (pg_name (i := 5) sc_endings_in.nd rfl (Or.inl rfl)) pgs_nil))))
      (pss_cons (ps_asg (pe_call G_own_bits (hr.mono (by decide)) (by rfl) T.m_own_bits T.F_own_bits.kp T.b_own_bits .nil pass0 (pa_cons (pv 3) (pa_cons (pv 5) pa_nil))) (pg_tup rfl (pgs_cons (pg_name (i := 6) sc_endings_in.nd rfl (Or.inl rfl)) (pgs_cons (pg_name (i := 7) sc_endings_in.nd rfl (Or.inl rfl)) pgs_nil))))
      (pss_one (ps_expr (pe_bm PySem.F.plainAttrs_list PySem.F.slot_list_append PySem.F.type_list_append mt_append (pv 2) (pa_cons (pe_tup (pa_cons (pv 3) (pa_cons (pv 4) (pa_cons (pv 6) (pa_cons (pv 7) pa_nil))))) pa_nil)))))))
      (pss_one (ps_ret (pe_callTy (call_tupleK K) (by rfl) T.z_tuple (by decide +kernel) (pa_cons (pv 2) pa_nil)))))), ?_⟩
  let B : Bool → HO := fun bad => .tup [.bl bad, .str (endV m bad wss).1, .int (ownB bad (endV m bad wss).2).1, .int (ownB bad (endV m bad wss).2).2]
  refine ⟨Nat.zero_le _, fun fo hfo => ?_⟩
  refine ⟨by show 2 ≤ sizeLine; decide, fun tp htp => ⟨tp, rfl, ⟨_, SqT.of upd_same⟩, for_tup (K := K) (a := tp) (xs := [.bl false, .bl true]) (fun i σ H' => (∃ v3 v4 v5 v6 v7 : Option V, σ = [some (.ref e), some (.str m), some (.ref fo), v3, v4, v5, v6, v7]) ∧ Same H H' ∧ H' tp = some (.tup [.bl false, .bl true]) ∧
    ∃ as : List Addr, H' fo = some (.lst (as.map V.ref)) ∧ Paired (fun a bad => H' a = some (B bad)) as (([false, true] : List Bool).take i))
    ⟨⟨none, none, none, none, none, rfl⟩, (same_upd hfo _).trans (same_upd htp _), upd_same, [], same_upd htp _ _ _ upd_same, .nil⟩ (fun i σ H' _ h => SqT.of h.2.2.1) ?_ ?_⟩⟩
  · rintro i x σ H2 hi ⟨⟨v3, v4, v5, v6, v7, rfl⟩, s2, htp2, as, hfo2, pr⟩
    obtain ⟨bad, rfl, hb⟩ : ∃ bad, x = .bl bad ∧ ([false, true] : List Bool)[i]? = some bad := by
      match i, hi with
      | 0, hi => exact ⟨false, by simpa using hi.symm, rfl⟩
      | 1, hi => exact ⟨true, by simpa using hi.symm, rfl⟩
    have al : as.length ≤ 2 := by
      rw [paired_len pr, List.length_take]
      show min i 2 ≤ 2
      omega
    refine ⟨_, rfl, _, rfl, _, rfl, e, wss, m, bad, rfl, he.same s2, h4, fun t1 ht1 => ?_⟩
    have s3 := same_upd ht1 (.tup [.str (endV m bad wss).1, .bl (endV m bad wss).2])
    refine ⟨t1, _, rfl, SqT.of upd_same, rfl, _, _, rfl, _, _, rfl, rfl, ?_⟩
    refine ⟨_, rfl, _, rfl, bad, (endV m bad wss).2, rfl, fun t2 ht2 => ?_⟩
    have s4 := s3.trans (same_upd ht2 (.tup [.int (ownB bad (endV m bad wss).2).1, .int (ownB bad (endV m bad wss).2).2]))
    refine ⟨t2, _, rfl, SqT.of upd_same, rfl, _, _, rfl, _, _, rfl, rfl, ?_⟩
    refine ⟨_, rfl, .inl ⟨rfl, _, SqL.of (s4 _ _ hfo2)⟩, _, rfl, _, rfl, _, rfl, _, rfl, by show 4 ≤ sizeLine; decide, fun t5 ht5 => ?_⟩
    have s5 := s4.trans (same_upd ht5 (B bad))
    refine ⟨fo, _, _, rfl, rfl, s5 _ _ hfo2, small1000 (by rw [List.length_map]; omega), ⟨_, _, _, _, _, rfl⟩, fun b o eb => ?_, ?_, as ++ [t5], ?_, ?_⟩
    · rw [upd_ne (ne_of_none eb hfo)]
      exact s5 _ _ (s2 _ _ eb)
    · rw [upd_ne (fun z => by rw [z, hfo2] at htp2; cases htp2)]
      exact s5 _ _ htp2
    · rw [upd_same, List.map_append]
      rfl
    · rw [List.take_add_one, hb]
      refine paired_snoc (paired_imp (fun a bd z => ?_) pr) ?_
      · rw [upd_ne (fun z2 => by rw [z2, hfo2] at z; cases z)]
        exact s5 _ _ z
      · rw [upd_ne (fun z2 => by rw [z2, s4 _ _ hfo2] at ht5; cases ht5)]
        exact upd_same
  · rintro σ H2 ⟨⟨v3, v4, v5, v6, v7, rfl⟩, s2, htp2, as, hfo2, pr⟩
    match as, pr with
    | [a1, a2], .cons r1 (.cons r2 .nil) =>
    refine ⟨_, rfl, fo, _, rfl, .inl ⟨SqL.of hfo2, fun t ht => ?_⟩⟩
    have s3 := same_upd ht (.tup [.ref a1, .ref a2])
    exact q t _ (s2.trans s3) (s2.free ht) ⟨a1, a2, upd_same, s3 _ _ r1, s3 _ _ r2⟩
end
end My

/-! ## A service is made, or refused -/
namespace My
open PySem PySem.Spec PyProof.Rows L2
section
variable {P : Program} {w : World} {K : PySem.W.Frag} {mg : Str → Option Value} {base : Heap}
/-- the mood that a row names first; where it leads to -/
def mood1 (r : Str × List Str) : Str := if r.1 = "begin" then r.2.getD 2 Str.empty else r.2.getD 0 Str.empty
def then1 (r : Str × List Str) : List Str := if r.1 = "back" then [r.2.getD 3 Str.empty] else []
theorem then1_len (r : Str × List Str) : (then1 r).length ≤ 1 := by
  unfold then1
  split
  · exact Nat.le_refl 1
  · exact Nat.zero_le _
theorem thens_len : ∀ rs : List (Str × List Str), (rs.flatMap then1).length ≤ rs.length
  | [] => Nat.le_refl _
  | r :: rs => by
    rw [List.flatMap_cons, List.length_append, List.length_cons]
    have := thens_len rs
    have := then1_len r
    omega
theorem moods_mem {z : Str} : ∀ rs : List (Str × List Str), z ∈ rs.map mood1 ++ rs.flatMap then1 ↔ z ∈ rs.flatMap moodsR
  | [] => Iff.rfl
  | r :: rs => by
    have ih := moods_mem (z := z) rs
    have e : moodsR r = mood1 r :: then1 r := by
      obtain ⟨s, ws⟩ := r
      unfold moodsR mood1 then1
      by_cases h : s = "begin"
      · simp [h]
      · simp [h]
    rw [List.map_cons, List.flatMap_cons, List.flatMap_cons, List.mem_append (s := moodsR r), ← ih, e]
    simp only [List.cons_append, List.mem_cons, List.mem_append]
    constructor
    · rintro (h | h | h | h)
      · exact .inl (.inl h)
      · exact .inr (.inl h)
      · exact .inl (.inr h)
      · exact .inr (.inr h)
    · rintro ((h | h) | h | h)
      · exact .inl h
      · exact .inr (.inr (.inl h))
      · exact .inr (.inl h)
      · exact .inr (.inr (.inr h))
theorem row_mood (T : TxSvc w K mg) {H : Hp} {v : V} {r : Str × List Str} (h : RwAt T H v r) : ∃ (a C dx : Addr) (fs : List (Str × V)), v = .ref a ∧ H a = some (.ins C dx fs) ∧ Cls K C ∧ NoAttr K C "mood" ∧ fs.lookup ("mood" : Str) = some (.str (mood1 r)) := by
  cases h with
  | beg ha => exact ⟨_, _, _, _, rfl, ha, T.c_Begin, T.n_Begin_mood, rfl⟩
  | snd ha => exact ⟨_, _, _, _, rfl, ha, T.c_Send, T.n_Send_mood, rfl⟩
  | bck ha => exact ⟨_, _, _, _, rfl, ha, T.c_Back, T.n_Back_mood, rfl⟩
  | end_ ha => exact ⟨_, _, _, _, rfl, ha, T.c_End, T.n_End_mood, rfl⟩
theorem ends4 {T : TxSvc w K mg} {H : Hp} {xs : List V} {rs : List (Str × List Str)} (h : Paired (RwAt T H) xs rs) : ∀ ws ∈ wordsOf "end" rs, ws.length = 4 := by
  intro ws hw
  obtain ⟨r, hr, rfl⟩ := List.mem_map.mp hw
  obtain ⟨hr1, hr2⟩ := List.mem_filter.mp hr
  have hr2 := of_decide_eq_true hr2
  have all : ∀ {xs : List V} {rs : List (Str × List Str)}, Paired (RwAt T H) xs rs → ∀ r ∈ rs, r.1 = "end" → r.2.length = 4 := by
    intro xs rs p
    induction p with
    | nil => exact fun r h => nomatch h
    | cons q _ ih =>
      intro r hr e
      rcases List.mem_cons.mp hr with z | z
      · subst z
        cases q with
        | beg _ => exact absurd (show ("begin" : Str) = "end" from e) (by decide)
        | snd _ => exact absurd (show ("send" : Str) = "end" from e) (by decide)
        | bck _ => exact absurd (show ("back" : Str) = "end" from e) (by decide)
        | end_ _ => rfl
      · exact ih r z e
  exact all h r hr1 hr2
theorem kp_free {p D : Addr} {H H' : Hp} {o : HO} (k : Kp p H H') (hp : H' p = some o) (h : H' D = none) : H D = none := by
  cases q : H D with
  | none => rfl
  | some u =>
    rw [k D u (fun z => by rw [z, hp] at h; cases h) q] at h
    cases h
theorem nodup_sub {ys : List Str} : ∀ {l : List Str}, ys.Nodup → (∀ y ∈ ys, y ∈ l) → ys.length ≤ l.length := by
  induction ys with
  | nil => exact fun _ _ => Nat.zero_le _
  | cons y ys ih =>
    intro l nd sub
    have hy := sub y List.mem_cons_self
    obtain ⟨n1, n2⟩ := List.nodup_cons.mp nd
    have h := ih (l := l.erase y) n2 fun z hz => (List.mem_erase_of_ne (fun e => n1 (by rw [← e]; exact hz))).mpr (sub z (List.mem_cons_of_mem _ hz))
    rw [List.length_erase_of_mem hy] at h
    have : 0 < l.length := List.length_pos_of_mem hy
    rw [List.length_cons]
    omega
theorem putK_new {kvs : List (Key × V)} {k : Key} {v : V} (h : ∀ kv ∈ kvs, kv.1 ≠ k) : putK kvs k v = kvs ++ [(k, v)] := by
  unfold putK
  rw [if_neg]
  intro z
  obtain ⟨kv, h1, h2⟩ := List.any_eq_true.mp z
  exact h kv h1 (of_decide_eq_true h2)
theorem nodup_take {ys : List Str} {i : Nat} {z : Str} (nd : ys.Nodup) (h : ys[i]? = some z) : z ∉ ys.take i := by
  obtain ⟨hl, e⟩ := List.getElem?_eq_some_iff.mp h
  have e2 : ys = ys.take i ++ (z :: ys.drop (i + 1)) := by rw [← e, ← List.drop_eq_getElem_cons hl, List.take_append_drop]
  rw [e2] at nd
  intro q
  exact (List.nodup_append.mp nd).2.2 z q z List.mem_cons_self rfl
theorem EndAt.put {H : Hp} {wss : List (List Str)} {m : Str} {t d : Addr} {kvs kvs' : List (Key × V)} (h : EndAt H wss m t) (hd : H d = some (.dK kvs)) : EndAt (upd H d (.dK kvs')) wss m t := by
  obtain ⟨a1, a2, h1, h2, h3⟩ := h
  have ne : ∀ {a : Addr} {xs : List V}, H a = some (.tup xs) → a ≠ d := fun e z => by
    rw [z, hd] at e
    cases e
  exact ⟨a1, a2, by rw [upd_ne (ne h1)]; exact h1, by rw [upd_ne (ne h2)]; exact h2, by rw [upd_ne (ne h3)]; exact h3⟩
theorem EndAt.kp {H H' : Hp} {wss : List (List Str)} {m : Str} {t p C dx : Addr} {fs : List (Str × V)} (h : EndAt H wss m t) (hp : H p = some (.ins C dx fs)) (k : Kp p H H') : EndAt H' wss m t := by
  obtain ⟨a1, a2, h1, h2, h3⟩ := h
  have ne : ∀ {a : Addr} {xs : List V}, H a = some (.tup xs) → a ≠ p := fun e => ins_ne hp e (fun _ _ _ z => by cases z)
  exact ⟨a1, a2, k _ _ (ne h1) h1, k _ _ (ne h2) h2, k _ _ (ne h3) h3⟩
theorem ok_Service_init (T : TxSvc w K mg) : FnOk P w K mg base (L2.CX P w) 5 T.f_Service_init T.d_Service_init P_Service_init (spSvcInit T) := by
  have G_is_name := ok_is_name (P := P) (w := w) (base := base) T.toTxCheck
  have G_are_names := ok_are_names (P := P) (w := w) (base := base) T.toTxSeq
  have G_are_some_names := ok_are_some_names (P := P) (w := w) (base := base) T.toTxSeq
  have G_are_rows := ok_are_rows (P := P) (w := w) (base := base) T
  have G_ascending := ok_ascending (P := P) (w := w) (base := base) T
  have G_InvalidService_init := ok_xsvc (P := P) (w := w) (base := base) T
  have G_endings_in := ok_endings_in (P := P) (w := w) (base := base) T
  refine T.F_Service_init.ok sc_Service_init (fun vs H Q E h => ?_) (fun cdv A outer s H vs Q E hr h => ?_)
  · obtain ⟨p, dx, n, k, wt, lv, rw, b1, b2, b3, b4, rfl, _⟩ := h
    rfl
  obtain ⟨p, dx, n, k, wt, lv, rw, b1, b2, b3, b4, rfl, hp, hn, hk, hw, hl, hr5, q, qe⟩ := h
  refine ⟨_, (pss_cons (ps_if (pt_not (pt_val (pe_call G_is_name (hr.mono (by decide)) (by rfl) T.m_is_name T.F_is_name.kp T.b_is_name .nil pass0 (pa_cons (pv 1) pa_nil)))) (pss_one (ps_raise rfl (takes_of rfl rfl rfl rfl) (pmk_oex T.oxSvc T.iSvc T.tSvc G_InvalidService_init (hr.mono (by decide)) T.b_InvalidService_init .nil pass0 (by rfl) T.m_InvalidService (pa_cons pe_str pa_nil)))) pss_nil)
      (pss_cons (ps_if (pt_not (pt_val (pe_call G_are_some_names (hr.mono (by decide)) (by rfl) T.m_are_some_names T.F_are_some_names.kp T.b_are_some_names .nil pass0 (pa_cons (pv 2) pa_nil)))) (pss_one (ps_raise rfl (takes_of rfl rfl rfl rfl) (pmk_oex T.oxSvc T.iSvc T.tSvc G_InvalidService_init (hr.mono (by decide)) T.b_InvalidService_init .nil pass0 (by rfl) T.m_InvalidService (pa_cons pe_str pa_nil)))) pss_nil)
      (pss_cons (ps_if (pt_not (pt_val (pe_call G_are_names (hr.mono (by decide)) (by rfl) T.m_are_names T.F_are_names.kp T.b_are_names .nil pass0 (pa_cons (pv 3) pa_nil)))) (pss_one (ps_raise rfl (takes_of rfl rfl rfl rfl) (pmk_oex T.oxSvc T.iSvc T.tSvc G_InvalidService_init (hr.mono (by decide)) T.b_InvalidService_init .nil pass0 (by rfl) T.m_InvalidService (pa_cons pe_str pa_nil)))) pss_nil)
      (pss_cons (ps_if (pt_not (pt_val (pe_call G_are_names (hr.mono (by decide)) (by rfl) T.m_are_names T.F_are_names.kp T.b_are_names .nil pass0 (pa_cons (pv 4) pa_nil)))) (pss_one (ps_raise rfl (takes_of rfl rfl rfl rfl) (pmk_oex T.oxSvc T.iSvc T.tSvc G_InvalidService_init (hr.mono (by decide)) T.b_InvalidService_init .nil pass0 (by rfl) T.m_InvalidService (pa_cons pe_str pa_nil)))) pss_nil)
      (pss_cons (ps_if (pt_not (pt_val (pe_call G_are_rows (hr.mono (by decide)) (by rfl) T.m_are_rows T.F_are_rows.kp T.b_are_rows .nil pass0 (pa_cons (pv 5) pa_nil)))) (pss_one (ps_raise rfl (takes_of rfl rfl rfl rfl) (pmk_oex T.oxSvc T.iSvc T.tSvc G_InvalidService_init (hr.mono (by decide)) T.b_InvalidService_init .nil pass0 (by rfl) T.m_InvalidService (pa_cons pe_str pa_nil)))) pss_nil)
      (pss_cons (ps_fld (pv 0) (pv 1) rfl)
      (pss_cons (ps_fld (pv 0) (pe_callTy (call_tupQ K) (by rfl) T.z_tuple (by decide +kernel) (pa_cons (pv 2) pa_nil)) rfl)
      (pss_cons (ps_fld (pv 0) (pe_callTy (call_tupQ K) (by rfl) T.z_tuple (by decide +kernel) (pa_cons (pv 3) pa_nil)) rfl)
      (pss_cons (ps_fld (pv 0) (pe_callTy (call_tupQ K) (by rfl) T.z_tuple (by decide +kernel) (pa_cons (pv 4) pa_nil)) rfl)
      (pss_cons (ps_fld (pv 0) (pe_callTy (call_tupQ K) (by rfl) T.z_tuple (by decide +kernel) (pa_cons (pv 5) pa_nil)) rfl)
      (pss_cons (ps_setLc (i := 6) (own := [("row", 7)]) (g := gName 7) (by rfl) sc_Service_init.nd rfl rfl (sw_true rfl rfl rfl (by decide +kernel)) (pi_seqK K (pv 5)) (blkOk_by (own := [("row", 7)]) (N := N_Service_init) (sc := defScope s_Service_init) (by decide +kernel)) (fun _ _ _ _ _ => (pg_name (i := 7) sc_Service_init.nd rfl (Or.inl rfl))) (fun _ _ _ _ _ => pts_one (by exact (pt_val (pe_callB (call_isiV K) (by rfl) T.z_isinstance (by decide +kernel) (pa_cons (pv 7) (pa_cons (pe_glob (v := .ref T.C_Back) (by rfl) T.m_Back rfl) pa_nil)))))) (fun _ _ _ _ _ => (pe_fldK K (pv 7))))
      (pss_cons (ps_fld (pv 0) (pe_call G_ascending (hr.mono (by decide)) (by rfl) T.m_ascending T.F_ascending.kp T.b_ascending .nil pass0 (pa_cons (pe_lst (pa_cons pe_str (pa_starK K (pe_lc (own := [("row", 7)]) (g := gName 7) (by rfl) sc_Service_init.nd (pi_seqK K (pv 5)) (blkOk_by (own := [("row", 7)]) (N := N_Service_init) (sc := defScope s_Service_init) (by decide +kernel)) (fun _ _ _ _ _ => (pg_name (i := 7) sc_Service_init.nd rfl (Or.inl rfl))) (fun _ _ _ _ _ => pts_nil) (fun _ _ _ _ _ => (pe_fldK K (pv 7)))) (pa_starK K (pv 6) pa_nil)))) pa_nil)) rfl)
      (pss_cons (ps_fld (pv 0) (pe_lc (own := [("row", 7)]) (g := gName 7) (by rfl) sc_Service_init.nd (pi_seqK K (pv 5)) (blkOk_by (own := [("row", 7)]) (N := N_Service_init) (sc := defScope s_Service_init) (by decide +kernel)) (fun _ _ _ _ _ => (pg_name (i := 7) sc_Service_init.nd rfl (Or.inl rfl))) (fun _ _ _ _ _ => pts_one (by exact (pt_val (pe_callB (call_isiV K) (by rfl) T.z_isinstance (by decide +kernel) (pa_cons (pv 7) (pa_cons (pe_glob (v := .ref T.C_Begin) (by rfl) T.m_Begin rfl) pa_nil)))))) (fun _ _ _ _ _ => (pe_tup (pa_cons (pe_fldK K (pv 7)) (pa_cons (pe_fldK K (pv 7)) (pa_cons (pe_fldK K (pv 7)) pa_nil)))))) rfl)
      (pss_cons (ps_fld (pv 0) (pe_lc (own := [("row", 7)]) (g := gName 7) (by rfl) sc_Service_init.nd (pi_seqK K (pv 5)) (blkOk_by (own := [("row", 7)]) (N := N_Service_init) (sc := defScope s_Service_init) (by decide +kernel)) (fun _ _ _ _ _ => (pg_name (i := 7) sc_Service_init.nd rfl (Or.inl rfl))) (fun _ _ _ _ _ => pts_one (by exact (pt_val (pe_callB (call_isiV K) (by rfl) T.z_isinstance (by decide +kernel) (pa_cons (pv 7) (pa_cons (pe_glob (v := .ref T.C_Send) (by rfl) T.m_Send rfl) pa_nil)))))) (fun _ _ _ _ _ => (pe_tup (pa_cons (pe_fldK K (pv 7)) (pa_cons (pe_fldK K (pv 7)) (pa_cons (pe_fldK K (pv 7)) pa_nil)))))) rfl)
      (pss_cons (ps_fld (pv 0) (pe_lc (own := [("row", 7)]) (g := gName 7) (by rfl) sc_Service_init.nd (pi_seqK K (pv 5)) (blkOk_by (own := [("row", 7)]) (N := N_Service_init) (sc := defScope s_Service_init) (by decide +kernel)) (fun _ _ _ _ _ => (pg_name (i := 7) sc_Service_init.nd rfl (Or.inl rfl))) (fun _ _ _ _ _ => pts_one (by exact (pt_val (pe_callB (call_isiV K) (by rfl) T.z_isinstance (by decide +kernel) (pa_cons (pv 7) (pa_cons (pe_glob (v := .ref T.C_Back) (by rfl) T.m_Back rfl) pa_nil)))))) (fun _ _ _ _ _ => (pe_tup (pa_cons (pe_fldK K (pv 7)) (pa_cons (pe_fldK K (pv 7)) (pa_cons (pe_fldK K (pv 7)) (pa_cons (pe_fldK K (pv 7)) pa_nil))))))) rfl)
      (pss_cons (ps_fld (pv 0) (pe_lc (own := [("row", 7)]) (g := gName 7) (by rfl) sc_Service_init.nd (pi_seqK K (pv 5)) (blkOk_by (own := [("row", 7)]) (N := N_Service_init) (sc := defScope s_Service_init) (by decide +kernel)) (fun _ _ _ _ _ => (pg_name (i := 7) sc_Service_init.nd rfl (Or.inl rfl))) (fun _ _ _ _ _ => pts_one (by exact (pt_val (pe_callB (call_isiV K) (by rfl) T.z_isinstance (by decide +kernel) (pa_cons (pv 7) (pa_cons (pe_glob (v := .ref T.C_End) (by rfl) T.m_End rfl) pa_nil)))))) (fun _ _ _ _ _ => (pe_tup (pa_cons (pe_fldK K (pv 7)) (pa_cons (pe_fldK K (pv 7)) (pa_cons (pe_fldK K (pv 7)) (pa_cons (pe_fldK K (pv 7)) pa_nil))))))) rfl)
      (pss_one (ps_fld (pv 0) (pe_dc (own := [("mood", 8)]) (g := gName 8) (by rfl) sc_Service_init.nd (pi_tupK K (pe_fldK K (pv 0))) (blkOk_by (own := [("mood", 8)]) (N := N_Service_init) (sc := defScope s_Service_init) (by decide +kernel)) (fun _ _ _ _ _ => (pg_name (i := 8) sc_Service_init.nd rfl (Or.inl rfl))) (fun _ _ _ _ _ => pts_nil) (fun _ _ _ _ _ => (pv 8)) (fun _ _ _ _ _ => (pe_call G_endings_in (hr.mono (by decide)) (by rfl) T.m_endings_in T.F_endings_in.kp T.b_endings_in .nil pass0 (pa_cons (pe_fldK K (pv 0)) (pa_cons (pv 8) pa_nil))))) rfl)))))))))))))))))), ?_⟩
  have bad : ∀ {b : Bool} {α : Prop}, b = false → b = true → α := fun h1 h2 => by rw [h1] at h2; cases h2
  refine ⟨_, rfl, n, rfl, hn, fun H1 s1 => ⟨_, rfl, ?_⟩⟩
  refine ite2 (fun c => ?_) (fun c0 => ?_)
  · exact mk_word fun d H' s' n' e' => qe "name" d H' (by unfold wrSvc; rw [if_pos (bnot_eq c)]) (s1.trans s') (s1.free n') e'
  have w0 : ¬ nmV n = false := fun z => bad z (bnot_ne c0)
  refine ⟨_, rfl, k, b1, rfl, hk.same s1, fun H2 s2 => ⟨_, rfl, ?_⟩⟩
  have t2 := s1.trans s2
  refine ite2 (fun c => ?_) (fun c1 => ?_)
  · exact mk_word fun d H' s' n' e' => qe "kinds" d H' (by unfold wrSvc; rw [if_neg w0, if_pos (bnot_eq c)]) (t2.trans s') (t2.free n') e'
  have w1 : ¬ b1 = false := fun z => bad z (bnot_ne c1)
  refine ⟨_, rfl, wt, b2, rfl, hw.same t2, fun H3 s3 => ⟨_, rfl, ?_⟩⟩
  have t3 := t2.trans s3
  refine ite2 (fun c => ?_) (fun c2 => ?_)
  · exact mk_word fun d H' s' n' e' => qe "waits" d H' (by unfold wrSvc; rw [if_neg w0, if_neg w1, if_pos (bnot_eq c)]) (t3.trans s') (t3.free n') e'
  have w2 : ¬ b2 = false := fun z => bad z (bnot_ne c2)
  refine ⟨_, rfl, lv, b3, rfl, hl.same t3, fun H4 s4 => ⟨_, rfl, ?_⟩⟩
  have t4 := t3.trans s4
  refine ite2 (fun c => ?_) (fun c3 => ?_)
  · exact mk_word fun d H' s' n' e' => qe "leaves" d H' (by unfold wrSvc; rw [if_neg w0, if_neg w1, if_neg w2, if_pos (bnot_eq c)]) (t4.trans s') (t4.free n') e'
  have w3 : ¬ b3 = false := fun z => bad z (bnot_ne c3)
  refine ⟨_, rfl, rw, b4, rfl, hr5.same t4, fun H5 s5 => ⟨_, rfl, ?_⟩⟩
  have t5 := t4.trans s5
  refine ite2 (fun c => ?_) (fun c4 => ?_)
  · exact mk_word fun d H' s' n' e' => qe "rows" d H' (by unfold wrSvc; rw [if_neg w0, if_neg w1, if_neg w2, if_neg w3, if_pos (bnot_eq c)]) (t5.trans s') (t5.free n') e'
  have w4 : ¬ b4 = false := fun z => bad z (bnot_ne c4)
  obtain ⟨y, ka, wa, la, ra, lk, lw, ll0, xs, rs, rfl, rfl, rfl, rfl, rfl, hK, hW, hL, hR, hrows, hms, fin⟩ := q (by unfold wrSvc; rw [if_neg w0, if_neg w1, if_neg w2, if_neg w3, if_neg w4])
  have lxs := paired_len2 hrows
  · skip
    have hp5 := t5 _ _ hp
    have k5 : Kp p H5 H5 := Kp.refl
    -- the fields, one by one
    refine ⟨_, rfl, _, rfl, p, T.C_Service, dx, _, rfl, hp5, T.c_Service, T.n_Service_name, (by show 0 < 1000; decide), ?_⟩
    have k6 := k5.put (.ins T.C_Service dx [("name", .str y)])
    refine ⟨_, rfl, ⟨ka, _, rfl, (hK.same t5).kp hp5 k6, fun k2 H7 s7 c7 => ?_⟩⟩
    have p7 := s7 _ _ (upd_same (H := H5) (a := p) (o := .ins T.C_Service dx [("name", .str y)]))
    have k7 := k6.same s7
    refine ⟨_, rfl, p, T.C_Service, dx, _, rfl, p7, T.c_Service, T.n_Service_kinds, (by show 1 < 1000; decide), ?_⟩
    have k8 := k7.put (.ins T.C_Service dx [("name", .str y), ("kinds", .ref k2)])
    have j8 : Kp p H7 _ := Kp.refl.put (.ins T.C_Service dx [("name", .str y), ("kinds", .ref k2)])
    refine ⟨_, rfl, ⟨wa, _, rfl, (hW.same t5).kp hp5 k8, fun w2 H9 s9 c9 => ?_⟩⟩
    have p9 := s9 _ _ (upd_same (H := H7) (a := p) (o := .ins T.C_Service dx [("name", .str y), ("kinds", .ref k2)]))
    have k9 := k8.same s9
    have j9 := j8.same s9
    refine ⟨_, rfl, p, T.C_Service, dx, _, rfl, p9, T.c_Service, T.n_Service_waits, (by show 2 < 1000; decide), ?_⟩
    have k10 := k9.put (.ins T.C_Service dx [("name", .str y), ("kinds", .ref k2), ("waits", .ref w2)])
    have j10 : Kp p H9 _ := Kp.refl.put (.ins T.C_Service dx [("name", .str y), ("kinds", .ref k2), ("waits", .ref w2)])
    refine ⟨_, rfl, ⟨la, _, rfl, (hL.same t5).kp hp5 k10, fun e2 H11 s11 c11 => ?_⟩⟩
    have p11 := s11 _ _ (upd_same (H := H9) (a := p) (o := .ins T.C_Service dx [("name", .str y), ("kinds", .ref k2), ("waits", .ref w2)]))
    have k11 := k10.same s11
    have j11 := j10.same s11
    refine ⟨_, rfl, p, T.C_Service, dx, _, rfl, p11, T.c_Service, T.n_Service_leaves, (by show 3 < 1000; decide), ?_⟩
    have k12 := k11.put (.ins T.C_Service dx [("name", .str y), ("kinds", .ref k2), ("waits", .ref w2), ("leaves", .ref e2)])
    have j12 : Kp p H11 _ := Kp.refl.put (.ins T.C_Service dx [("name", .str y), ("kinds", .ref k2), ("waits", .ref w2), ("leaves", .ref e2)])
    refine ⟨_, rfl, ⟨ra, _, rfl, (hR.same t5).kp hp5 k12, fun r2 H13 s13 c13 => ?_⟩⟩
    have p13 := s13 _ _ (upd_same (H := H11) (a := p) (o := .ins T.C_Service dx [("name", .str y), ("kinds", .ref k2), ("waits", .ref w2), ("leaves", .ref e2)]))
    have k13 := k12.same s13
    have j13 := j12.same s13
    refine ⟨_, rfl, p, T.C_Service, dx, _, rfl, p13, T.c_Service, T.n_Service_rows, (by show 4 < 1000; decide), ?_⟩
    have k14 := k13.put (.ins T.C_Service dx [("name", .str y), ("kinds", .ref k2), ("waits", .ref w2), ("leaves", .ref e2), ("rows", .ref r2)])
    have j14 : Kp p H13 _ := Kp.refl.put (.ins T.C_Service dx [("name", .str y), ("kinds", .ref k2), ("waits", .ref w2), ("leaves", .ref e2), ("rows", .ref r2)])
    have p14 : upd H13 p (.ins T.C_Service dx [("name", .str y), ("kinds", .ref k2), ("waits", .ref w2), ("leaves", .ref e2), ("rows", .ref r2)]) p = some (.ins T.C_Service dx [("name", .str y), ("kinds", .ref k2), ("waits", .ref w2), ("leaves", .ref e2), ("rows", .ref r2)]) := upd_same
    have rows14 := paired_rw T hp5 k14 (paired_rwS T t5 hrows)
    have sq14 := (hR.same t5).kp hp5 k14
    have cK := sqT_kp (sqT_kp (sqT_kp (sqT_kp c7 p7 j9) p9 j11) p11 j13) p13 j14
    have cW := sqT_kp (sqT_kp (sqT_kp c9 p9 j11) p11 j13) p13 j14
    have cL := sqT_kp (sqT_kp c11 p11 j13) p13 j14
    have cR := sqT_kp c13 p13 j14
    have kAll : Kp p H (upd H13 p (.ins T.C_Service dx [("name", .str y), ("kinds", .ref k2), ("waits", .ref w2), ("leaves", .ref e2), ("rows", .ref r2)])) := fun b u n e => k14 b u n (t5 b u e)
    generalize hH14 : upd H13 p (.ins T.C_Service dx (putF "rows" (.ref r2) [("name", .str y), ("kinds", .ref k2), ("waits", .ref w2), ("leaves", .ref e2)])) = H14
    have e14 : upd H13 p (.ins T.C_Service dx [("name", .str y), ("kinds", .ref k2), ("waits", .ref w2), ("leaves", .ref e2), ("rows", .ref r2)]) = H14 := hH14
    rw [e14] at p14 rows14 sq14 cK cW cL cR kAll
    clear k14 j14 k13 j13 k12 j12 k11 j11 k10 j10 k9 j9 k8 j8 k7 k6 k5
    refine ⟨_, rfl, ra, xs, rfl, sq14, fun J G g0 gs wk D hD => ?_⟩
    refine lc_it wk (fun i H' => Same H14 H' ∧ H' D = some (.lst (((rs.take i).flatMap then1).map V.str))) ⟨same_upd hD _, upd_same⟩ (fun i H' _ h => gs _ _ h.1 g0) ?_ ?_
    · rintro i x H2 H3 hi ⟨s2, hD2⟩ ⟨rfl, hx⟩
      obtain ⟨r, hr1, hrw⟩ := paired_get rows14 hx
      have hrw2 := hrw.same s2
      have tk : (rs.take (i + 1)).flatMap then1 = (rs.take i).flatMap then1 ++ then1 r := by
        rw [List.take_add_one, hr1, List.flatMap_append]
        simp
      have few : ((rs.take i).flatMap then1).length ≤ rs.length := Nat.le_trans (thens_len _) (List.length_take_le' _ _)
      refine ⟨rfl, ?_⟩
      rw [tk]
      cases hrw2 with
      | @beg a dx2 x y z ha =>
        refine ⟨_, rfl, .ref a, .ref T.C_Back, .ref T.C_Begin, _, false, rfl, .own _, T.ty_Begin _ _ _ _ ha, T.kk_Begin_Back, _, rfl, iteF ⟨s2, ?_⟩⟩
        rw [show then1 ("begin", [x, y, z]) = [] from rfl, List.append_nil]
        exact hD2
      | @snd a dx2 x y z ha =>
        refine ⟨_, rfl, .ref a, .ref T.C_Back, .ref T.C_Send, _, false, rfl, .own _, T.ty_Send _ _ _ _ ha, T.kk_Send_Back, _, rfl, iteF ⟨s2, ?_⟩⟩
        rw [show then1 ("send", [x, y, z]) = [] from rfl, List.append_nil]
        exact hD2
      | @end_ a dx2 x y z t ha =>
        refine ⟨_, rfl, .ref a, .ref T.C_Back, .ref T.C_End, _, false, rfl, .own _, T.ty_End _ _ _ _ ha, T.kk_End_Back, _, rfl, iteF ⟨s2, ?_⟩⟩
        rw [show then1 ("end", [x, y, z, t]) = [] from rfl, List.append_nil]
        exact hD2
      | @bck a dx2 x y z t ha =>
        refine ⟨_, rfl, .ref a, .ref T.C_Back, .ref T.C_Back, _, true, rfl, .own _, T.ty_Back _ _ _ _ ha, T.kk_Back_Back, _, rfl, iteT ?_⟩
        refine ⟨_, rfl, a, T.C_Back, dx2, _, _, rfl, ha, T.c_Back, T.n_Back_then, rfl, _, hD2, small1000 (by rw [List.length_map]; omega), fun b o e => ?_, ?_⟩
        · rw [upd_ne (ne_of_none e hD)]
          exact s2 b o e
        · rw [upd_same, List.map_append]
          rfl
    rintro H2 ⟨s2, hD2⟩
    have lms : xs.length = rs.length := lxs
    rw [lms, List.take_length] at hD2
    refine ⟨_, rfl, ra, xs, rfl, sq14.same s2, fun J2 G2 g2 gs2 wk2 D2 hD3 => ?_⟩
    refine lc_it wk2 (fun i H' => Same H2 H' ∧ H' D2 = some (.lst (((rs.take i).map mood1).map V.str))) ⟨same_upd hD3 _, upd_same⟩ (fun i H' _ h => gs2 _ _ h.1 g2) ?_ ?_
    · rintro i x H3 H4 hi ⟨s3, hD4⟩ ⟨rfl, hx⟩
      obtain ⟨r, hr1, hrw⟩ := paired_get rows14 hx
      obtain ⟨a, C, dx2, fs, rfl, ha, cl, na, hm⟩ := row_mood T (hrw.same (s2.trans s3))
      have few : ((rs.take i).map mood1).length ≤ rs.length := by rw [List.length_map]; exact List.length_take_le' _ _
      refine ⟨rfl, ?_⟩
      refine ⟨_, rfl, a, C, dx2, fs, _, rfl, ha, cl, na, hm, _, hD4, small1000 (by rw [List.length_map]; omega), fun b o e => ?_, ?_⟩
      · rw [upd_ne (ne_of_none e hD3)]
        exact s3 b o e
      · rw [upd_same, List.take_add_one, hr1, List.map_append, List.map_append]
        rfl
    rintro H3 ⟨s3, hD4⟩
    rw [lms, List.take_length] at hD4
    have s23 := s2.trans s3
    have fl : (rs.flatMap then1).length ≤ rs.length := thens_len _
    refine ⟨D2, _, rfl, .inr (SqL.of hD4), _, rfl, D, _, rfl, .inr (SqL.of (s3 _ _ hD2)), ?_, fun ll hll => ?_⟩
    · simp only [List.length_cons, List.length_append, List.length_map, List.length_nil]
      rw [sizeLine_eq]
      omega
    have s4 := s23.trans (same_upd hll (.lst (V.str "calm" :: (((rs.map mood1).map V.str) ++ (((rs.flatMap then1).map V.str) ++ [])))))
    have eL : (V.str "calm" :: (((rs.map mood1).map V.str) ++ (((rs.flatMap then1).map V.str) ++ []))) = ((("calm" : Str) :: (rs.map mood1 ++ rs.flatMap then1)).map V.str) := by
      rw [List.append_nil, List.map_cons, List.map_append]
    have lenL : (("calm" : Str) :: (rs.map mood1 ++ rs.flatMap then1)).length ≤ 57 := by
      simp only [List.length_cons, List.length_append, List.length_map]
      omega
    refine ⟨ll, ("calm" : Str) :: (rs.map mood1 ++ rs.flatMap then1), rfl, .inl (SqL.of (by rw [← eL]; exact upd_same)), by omega, fun ys m2 H5 s5 nm2 hm2 nd so mem0 => ?_⟩
    have yl : ys.length ≤ 57 := Nat.le_trans (nodup_sub nd fun y hy => ((mem0 y).mp hy).1) lenL
    have mem : ∀ z, z ∈ ys ↔ z ∈ moodsL rs ∧ ODDW2.contains z = false := fun z => by
      rw [mem0]
      unfold moodsL
      rw [List.mem_cons, List.mem_cons, moods_mem]
    clear mem0
    have s6 := s4.trans s5
    have p6 := s6 _ _ p14
    refine ⟨_, rfl, p, T.C_Service, dx, _, rfl, p6, T.c_Service, T.n_Service_moods, (by show 5 < 1000; decide), ?_⟩
    -- what is carried on
    let Base : Hp → Prop := fun A => Kp p H A ∧ SqT K A k2 (lk.map V.str) ∧ SqT K A w2 (lw.map V.str) ∧ SqT K A e2 (ll0.map V.str) ∧ SqT K A r2 xs ∧ SqT K A m2 (ys.map V.str)
    have bS : ∀ {A B : Hp}, Base A → Same A B → Base B := fun h s => ⟨h.1.same s, seqT_same s h.2.1, seqT_same s h.2.2.1, seqT_same s h.2.2.2.1, seqT_same s h.2.2.2.2.1, seqT_same s h.2.2.2.2.2⟩
    have bK : ∀ {A B : Hp} {C dx : Addr} {fs : List (Str × V)}, Base A → A p = some (.ins C dx fs) → Kp p A B → Base B := fun h e k => ⟨h.1.trans k, sqT_kp h.2.1 e k, sqT_kp h.2.2.1 e k, sqT_kp h.2.2.2.1 e k, sqT_kp h.2.2.2.2.1 e k, sqT_kp h.2.2.2.2.2 e k⟩
    have base6 : Base H5 := ⟨kAll.same s6, seqT_same s6 cK, seqT_same s6 cW, seqT_same s6 cL, seqT_same s6 cR, SqT.of hm2⟩
    have base7 := bK base6 p6 (Kp.refl.put (.ins T.C_Service dx [("name", .str y), ("kinds", .ref k2), ("waits", .ref w2), ("leaves", .ref e2), ("rows", .ref r2), ("moods", .ref m2)]))
    have rowsB : ∀ {A : Hp}, Base A → Paired (RwAt T A) xs rs := fun h => paired_rw T hp h.1 hrows
    have sqB : ∀ {A : Hp}, Base A → SqA K A ra xs := fun h => hR.kp hp h.1
    have n4 := ends4 hrows
    clear base6 cK cW cL cR kAll rows14 sq14
    have pX := upd_same (H := H5) (a := p) (o := .ins T.C_Service dx [("name", .str y), ("kinds", .ref k2), ("waits", .ref w2), ("leaves", .ref e2), ("rows", .ref r2), ("moods", .ref m2)])
    generalize hX : upd H5 p (.ins T.C_Service dx (putF "moods" (.ref m2) [("name", .str y), ("kinds", .ref k2), ("waits", .ref w2), ("leaves", .ref e2), ("rows", .ref r2)])) = HX
    have eX : upd H5 p (.ins T.C_Service dx [("name", .str y), ("kinds", .ref k2), ("waits", .ref w2), ("leaves", .ref e2), ("rows", .ref r2), ("moods", .ref m2)]) = HX := hX
    rw [eX] at base7 pX
    clear hX eX
    -- _begins
    refine ⟨_, rfl, ra, xs, rfl, sqB base7, fun J3 G3 g3 gs3 wk3 Dbegin hDbegin => ?_⟩
    refine lc_it wk3 (fun i H' => Same HX H' ∧ TupsAt H' Dbegin (wordsOf "begin" (rs.take i))) ⟨same_upd hDbegin _, ⟨[], upd_same, .nil⟩⟩ (fun i H' _ h => gs3 _ _ h.1 g3) ?_ ?_
    · rintro i x H3 H4 hi ⟨s3, tp⟩ ⟨rfl, hx⟩
      obtain ⟨r, hr1, hrw⟩ := paired_get (rowsB base7) hx
      have few : (wordsOf "begin" (rs.take i)).length ≤ 28 := Nat.le_trans (wordsOf_len _ _) (Nat.le_trans (List.length_take_le' _ _) hms)
      refine ⟨rfl, ?_⟩
      cases hrw.same s3 with
      | @beg a dx2 x y z ha =>
        refine ⟨_, rfl, .ref a, .ref T.C_Begin, .ref T.C_Begin, _, true, rfl, .own _, T.ty_Begin _ _ _ _ ha, T.kk_Begin_Begin, _, rfl, iteT ?_⟩
        refine ⟨_, rfl, a, T.C_Begin, dx2, _, _, rfl, ha, T.c_Begin, T.n_Begin_mark, rfl, _, rfl, a, T.C_Begin, dx2, _, _, rfl, ha, T.c_Begin, T.n_Begin_kind, rfl, _, rfl, a, T.C_Begin, dx2, _, _, rfl, ha, T.c_Begin, T.n_Begin_mood, rfl, by show 3 ≤ sizeLine; decide, fun t9 ht => ?_⟩
        obtain ⟨vs, h1, h2, h3⟩ := tp.more (ws := [x, y, z]) ht
        refine ⟨vs, h1, small1000 (by omega), fun b o e => ?_, by rw [wordsOf_yes hr1]; exact h3⟩
        rw [upd_ne (ne_of_none e hDbegin)]
        exact same_upd ht _ _ _ (s3 b o e)
      | @snd a dx2 x y z ha =>
        refine ⟨_, rfl, .ref a, .ref T.C_Begin, .ref T.C_Send, _, false, rfl, .own _, T.ty_Send _ _ _ _ ha, T.kk_Send_Begin, _, rfl, iteF ⟨s3, ?_⟩⟩
        rw [wordsOf_no hr1 (by decide)]
        exact tp
      | @bck a dx2 x y z t ha =>
        refine ⟨_, rfl, .ref a, .ref T.C_Begin, .ref T.C_Back, _, false, rfl, .own _, T.ty_Back _ _ _ _ ha, T.kk_Back_Begin, _, rfl, iteF ⟨s3, ?_⟩⟩
        rw [wordsOf_no hr1 (by decide)]
        exact tp
      | @end_ a dx2 x y z t ha =>
        refine ⟨_, rfl, .ref a, .ref T.C_Begin, .ref T.C_End, _, false, rfl, .own _, T.ty_End _ _ _ _ ha, T.kk_End_Begin, _, rfl, iteF ⟨s3, ?_⟩⟩
        rw [wordsOf_no hr1 (by decide)]
        exact tp
    rintro HA0 ⟨sA0, tpbegin⟩
    rw [lms, List.take_length] at tpbegin
    have frbegin := kp_free base7.1 pX hDbegin
    have pA0 := sA0 _ _ pX
    refine ⟨_, rfl, p, T.C_Service, dx, _, rfl, pA0, T.c_Service, T.n_Service__begins, (by show 6 < 1000; decide), ?_⟩
    have kB0 : Kp p HA0 (upd HA0 p (.ins T.C_Service dx [("name", .str y), ("kinds", .ref k2), ("waits", .ref w2), ("leaves", .ref e2), ("rows", .ref r2), ("moods", .ref m2), ("_begins", .ref Dbegin)])) := Kp.refl.put _
    have pB0 := upd_same (H := HA0) (a := p) (o := .ins T.C_Service dx [("name", .str y), ("kinds", .ref k2), ("waits", .ref w2), ("leaves", .ref e2), ("rows", .ref r2), ("moods", .ref m2), ("_begins", .ref Dbegin)])
    have base8 := bK (bS base7 sA0) pA0 kB0
    have tqbegin := tpbegin.kp pA0 kB0
    generalize hX : upd HA0 p (.ins T.C_Service dx (putF "_begins" (.ref Dbegin) [("name", .str y), ("kinds", .ref k2), ("waits", .ref w2), ("leaves", .ref e2), ("rows", .ref r2), ("moods", .ref m2)])) = HB0
    have eX : upd HA0 p (.ins T.C_Service dx [("name", .str y), ("kinds", .ref k2), ("waits", .ref w2), ("leaves", .ref e2), ("rows", .ref r2), ("moods", .ref m2), ("_begins", .ref Dbegin)]) = HB0 := hX
    rw [eX] at base8 pB0 tqbegin kB0
    clear hX eX
    -- _sends
    refine ⟨_, rfl, ra, xs, rfl, sqB base8, fun J4 G4 g4 gs4 wk4 Dsend hDsend => ?_⟩
    refine lc_it wk4 (fun i H' => Same HB0 H' ∧ TupsAt H' Dsend (wordsOf "send" (rs.take i))) ⟨same_upd hDsend _, ⟨[], upd_same, .nil⟩⟩ (fun i H' _ h => gs4 _ _ h.1 g4) ?_ ?_
    · rintro i x H3 H4 hi ⟨s3, tp⟩ ⟨rfl, hx⟩
      obtain ⟨r, hr1, hrw⟩ := paired_get (rowsB base8) hx
      have few : (wordsOf "send" (rs.take i)).length ≤ 28 := Nat.le_trans (wordsOf_len _ _) (Nat.le_trans (List.length_take_le' _ _) hms)
      refine ⟨rfl, ?_⟩
      cases hrw.same s3 with
      | @beg a dx2 x y z ha =>
        refine ⟨_, rfl, .ref a, .ref T.C_Send, .ref T.C_Begin, _, false, rfl, .own _, T.ty_Begin _ _ _ _ ha, T.kk_Begin_Send, _, rfl, iteF ⟨s3, ?_⟩⟩
        rw [wordsOf_no hr1 (by decide)]
        exact tp
      | @snd a dx2 x y z ha =>
        refine ⟨_, rfl, .ref a, .ref T.C_Send, .ref T.C_Send, _, true, rfl, .own _, T.ty_Send _ _ _ _ ha, T.kk_Send_Send, _, rfl, iteT ?_⟩
        refine ⟨_, rfl, a, T.C_Send, dx2, _, _, rfl, ha, T.c_Send, T.n_Send_mood, rfl, _, rfl, a, T.C_Send, dx2, _, _, rfl, ha, T.c_Send, T.n_Send_service, rfl, _, rfl, a, T.C_Send, dx2, _, _, rfl, ha, T.c_Send, T.n_Send_mark, rfl, by show 3 ≤ sizeLine; decide, fun t9 ht => ?_⟩
        obtain ⟨vs, h1, h2, h3⟩ := tp.more (ws := [x, y, z]) ht
        refine ⟨vs, h1, small1000 (by omega), fun b o e => ?_, by rw [wordsOf_yes hr1]; exact h3⟩
        rw [upd_ne (ne_of_none e hDsend)]
        exact same_upd ht _ _ _ (s3 b o e)
      | @bck a dx2 x y z t ha =>
        refine ⟨_, rfl, .ref a, .ref T.C_Send, .ref T.C_Back, _, false, rfl, .own _, T.ty_Back _ _ _ _ ha, T.kk_Back_Send, _, rfl, iteF ⟨s3, ?_⟩⟩
        rw [wordsOf_no hr1 (by decide)]
        exact tp
      | @end_ a dx2 x y z t ha =>
        refine ⟨_, rfl, .ref a, .ref T.C_Send, .ref T.C_End, _, false, rfl, .own _, T.ty_End _ _ _ _ ha, T.kk_End_Send, _, rfl, iteF ⟨s3, ?_⟩⟩
        rw [wordsOf_no hr1 (by decide)]
        exact tp
    rintro HA1 ⟨sA1, tpsend⟩
    rw [lms, List.take_length] at tpsend
    have frsend := kp_free base8.1 pB0 hDsend
    have pA1 := sA1 _ _ pB0
    refine ⟨_, rfl, p, T.C_Service, dx, _, rfl, pA1, T.c_Service, T.n_Service__sends, (by show 7 < 1000; decide), ?_⟩
    have kB1 : Kp p HA1 (upd HA1 p (.ins T.C_Service dx [("name", .str y), ("kinds", .ref k2), ("waits", .ref w2), ("leaves", .ref e2), ("rows", .ref r2), ("moods", .ref m2), ("_begins", .ref Dbegin), ("_sends", .ref Dsend)])) := Kp.refl.put _
    have pB1 := upd_same (H := HA1) (a := p) (o := .ins T.C_Service dx [("name", .str y), ("kinds", .ref k2), ("waits", .ref w2), ("leaves", .ref e2), ("rows", .ref r2), ("moods", .ref m2), ("_begins", .ref Dbegin), ("_sends", .ref Dsend)])
    have base9 := bK (bS base8 sA1) pA1 kB1
    have tqsend := tpsend.kp pA1 kB1
    have tqbegin := (tqbegin.same sA1).kp pA1 kB1
    generalize hX : upd HA1 p (.ins T.C_Service dx (putF "_sends" (.ref Dsend) [("name", .str y), ("kinds", .ref k2), ("waits", .ref w2), ("leaves", .ref e2), ("rows", .ref r2), ("moods", .ref m2), ("_begins", .ref Dbegin)])) = HB1
    have eX : upd HA1 p (.ins T.C_Service dx [("name", .str y), ("kinds", .ref k2), ("waits", .ref w2), ("leaves", .ref e2), ("rows", .ref r2), ("moods", .ref m2), ("_begins", .ref Dbegin), ("_sends", .ref Dsend)]) = HB1 := hX
    rw [eX] at base9 pB1 tqbegin tqsend kB1
    clear hX eX
    -- _backs
    refine ⟨_, rfl, ra, xs, rfl, sqB base9, fun J5 G5 g5 gs5 wk5 Dback hDback => ?_⟩
    refine lc_it wk5 (fun i H' => Same HB1 H' ∧ TupsAt H' Dback (wordsOf "back" (rs.take i))) ⟨same_upd hDback _, ⟨[], upd_same, .nil⟩⟩ (fun i H' _ h => gs5 _ _ h.1 g5) ?_ ?_
    · rintro i x H3 H4 hi ⟨s3, tp⟩ ⟨rfl, hx⟩
      obtain ⟨r, hr1, hrw⟩ := paired_get (rowsB base9) hx
      have few : (wordsOf "back" (rs.take i)).length ≤ 28 := Nat.le_trans (wordsOf_len _ _) (Nat.le_trans (List.length_take_le' _ _) hms)
      refine ⟨rfl, ?_⟩
      cases hrw.same s3 with
      | @beg a dx2 x y z ha =>
        refine ⟨_, rfl, .ref a, .ref T.C_Back, .ref T.C_Begin, _, false, rfl, .own _, T.ty_Begin _ _ _ _ ha, T.kk_Begin_Back, _, rfl, iteF ⟨s3, ?_⟩⟩
        rw [wordsOf_no hr1 (by decide)]
        exact tp
      | @snd a dx2 x y z ha =>
        refine ⟨_, rfl, .ref a, .ref T.C_Back, .ref T.C_Send, _, false, rfl, .own _, T.ty_Send _ _ _ _ ha, T.kk_Send_Back, _, rfl, iteF ⟨s3, ?_⟩⟩
        rw [wordsOf_no hr1 (by decide)]
        exact tp
      | @bck a dx2 x y z t ha =>
        refine ⟨_, rfl, .ref a, .ref T.C_Back, .ref T.C_Back, _, true, rfl, .own _, T.ty_Back _ _ _ _ ha, T.kk_Back_Back, _, rfl, iteT ?_⟩
        refine ⟨_, rfl, a, T.C_Back, dx2, _, _, rfl, ha, T.c_Back, T.n_Back_mood, rfl, _, rfl, a, T.C_Back, dx2, _, _, rfl, ha, T.c_Back, T.n_Back_service, rfl, _, rfl, a, T.C_Back, dx2, _, _, rfl, ha, T.c_Back, T.n_Back_sign, rfl, _, rfl, a, T.C_Back, dx2, _, _, rfl, ha, T.c_Back, T.n_Back_then, rfl, by show 4 ≤ sizeLine; decide, fun t9 ht => ?_⟩
        obtain ⟨vs, h1, h2, h3⟩ := tp.more (ws := [x, y, z, t]) ht
        refine ⟨vs, h1, small1000 (by omega), fun b o e => ?_, by rw [wordsOf_yes hr1]; exact h3⟩
        rw [upd_ne (ne_of_none e hDback)]
        exact same_upd ht _ _ _ (s3 b o e)
      | @end_ a dx2 x y z t ha =>
        refine ⟨_, rfl, .ref a, .ref T.C_Back, .ref T.C_End, _, false, rfl, .own _, T.ty_End _ _ _ _ ha, T.kk_End_Back, _, rfl, iteF ⟨s3, ?_⟩⟩
        rw [wordsOf_no hr1 (by decide)]
        exact tp
    rintro HA2 ⟨sA2, tpback⟩
    rw [lms, List.take_length] at tpback
    have frback := kp_free base9.1 pB1 hDback
    have pA2 := sA2 _ _ pB1
    refine ⟨_, rfl, p, T.C_Service, dx, _, rfl, pA2, T.c_Service, T.n_Service__backs, (by show 8 < 1000; decide), ?_⟩
    have kB2 : Kp p HA2 (upd HA2 p (.ins T.C_Service dx [("name", .str y), ("kinds", .ref k2), ("waits", .ref w2), ("leaves", .ref e2), ("rows", .ref r2), ("moods", .ref m2), ("_begins", .ref Dbegin), ("_sends", .ref Dsend), ("_backs", .ref Dback)])) := Kp.refl.put _
    have pB2 := upd_same (H := HA2) (a := p) (o := .ins T.C_Service dx [("name", .str y), ("kinds", .ref k2), ("waits", .ref w2), ("leaves", .ref e2), ("rows", .ref r2), ("moods", .ref m2), ("_begins", .ref Dbegin), ("_sends", .ref Dsend), ("_backs", .ref Dback)])
    have base10 := bK (bS base9 sA2) pA2 kB2
    have tqback := tpback.kp pA2 kB2
    have tqbegin := (tqbegin.same sA2).kp pA2 kB2
    have tqsend := (tqsend.same sA2).kp pA2 kB2
    generalize hX : upd HA2 p (.ins T.C_Service dx (putF "_backs" (.ref Dback) [("name", .str y), ("kinds", .ref k2), ("waits", .ref w2), ("leaves", .ref e2), ("rows", .ref r2), ("moods", .ref m2), ("_begins", .ref Dbegin), ("_sends", .ref Dsend)])) = HB2
    have eX : upd HA2 p (.ins T.C_Service dx [("name", .str y), ("kinds", .ref k2), ("waits", .ref w2), ("leaves", .ref e2), ("rows", .ref r2), ("moods", .ref m2), ("_begins", .ref Dbegin), ("_sends", .ref Dsend), ("_backs", .ref Dback)]) = HB2 := hX
    rw [eX] at base10 pB2 tqbegin tqsend tqback kB2
    clear hX eX
    -- _ends
    refine ⟨_, rfl, ra, xs, rfl, sqB base10, fun J6 G6 g6 gs6 wk6 Dend hDend => ?_⟩
    refine lc_it wk6 (fun i H' => Same HB2 H' ∧ TupsAt H' Dend (wordsOf "end" (rs.take i))) ⟨same_upd hDend _, ⟨[], upd_same, .nil⟩⟩ (fun i H' _ h => gs6 _ _ h.1 g6) ?_ ?_
    · rintro i x H3 H4 hi ⟨s3, tp⟩ ⟨rfl, hx⟩
      obtain ⟨r, hr1, hrw⟩ := paired_get (rowsB base10) hx
      have few : (wordsOf "end" (rs.take i)).length ≤ 28 := Nat.le_trans (wordsOf_len _ _) (Nat.le_trans (List.length_take_le' _ _) hms)
      refine ⟨rfl, ?_⟩
      cases hrw.same s3 with
      | @beg a dx2 x y z ha =>
        refine ⟨_, rfl, .ref a, .ref T.C_End, .ref T.C_Begin, _, false, rfl, .own _, T.ty_Begin _ _ _ _ ha, T.kk_Begin_End, _, rfl, iteF ⟨s3, ?_⟩⟩
        rw [wordsOf_no hr1 (by decide)]
        exact tp
      | @snd a dx2 x y z ha =>
        refine ⟨_, rfl, .ref a, .ref T.C_End, .ref T.C_Send, _, false, rfl, .own _, T.ty_Send _ _ _ _ ha, T.kk_Send_End, _, rfl, iteF ⟨s3, ?_⟩⟩
        rw [wordsOf_no hr1 (by decide)]
        exact tp
      | @bck a dx2 x y z t ha =>
        refine ⟨_, rfl, .ref a, .ref T.C_End, .ref T.C_Back, _, false, rfl, .own _, T.ty_Back _ _ _ _ ha, T.kk_Back_End, _, rfl, iteF ⟨s3, ?_⟩⟩
        rw [wordsOf_no hr1 (by decide)]
        exact tp
      | @end_ a dx2 x y z t ha =>
        refine ⟨_, rfl, .ref a, .ref T.C_End, .ref T.C_End, _, true, rfl, .own _, T.ty_End _ _ _ _ ha, T.kk_End_End, _, rfl, iteT ?_⟩
        refine ⟨_, rfl, a, T.C_End, dx2, _, _, rfl, ha, T.c_End, T.n_End_mood, rfl, _, rfl, a, T.C_End, dx2, _, _, rfl, ha, T.c_End, T.n_End_outcome, rfl, _, rfl, a, T.C_End, dx2, _, _, rfl, ha, T.c_End, T.n_End_sign, rfl, _, rfl, a, T.C_End, dx2, _, _, rfl, ha, T.c_End, T.n_End_part, rfl, by show 4 ≤ sizeLine; decide, fun t9 ht => ?_⟩
        obtain ⟨vs, h1, h2, h3⟩ := tp.more (ws := [x, y, z, t]) ht
        refine ⟨vs, h1, small1000 (by omega), fun b o e => ?_, by rw [wordsOf_yes hr1]; exact h3⟩
        rw [upd_ne (ne_of_none e hDend)]
        exact same_upd ht _ _ _ (s3 b o e)
    rintro HA3 ⟨sA3, tpend⟩
    rw [lms, List.take_length] at tpend
    have frend := kp_free base10.1 pB2 hDend
    have pA3 := sA3 _ _ pB2
    refine ⟨_, rfl, p, T.C_Service, dx, _, rfl, pA3, T.c_Service, T.n_Service__ends, (by show 9 < 1000; decide), ?_⟩
    have kB3 : Kp p HA3 (upd HA3 p (.ins T.C_Service dx [("name", .str y), ("kinds", .ref k2), ("waits", .ref w2), ("leaves", .ref e2), ("rows", .ref r2), ("moods", .ref m2), ("_begins", .ref Dbegin), ("_sends", .ref Dsend), ("_backs", .ref Dback), ("_ends", .ref Dend)])) := Kp.refl.put _
    have pB3 := upd_same (H := HA3) (a := p) (o := .ins T.C_Service dx [("name", .str y), ("kinds", .ref k2), ("waits", .ref w2), ("leaves", .ref e2), ("rows", .ref r2), ("moods", .ref m2), ("_begins", .ref Dbegin), ("_sends", .ref Dsend), ("_backs", .ref Dback), ("_ends", .ref Dend)])
    have base11 := bK (bS base10 sA3) pA3 kB3
    have tqend := tpend.kp pA3 kB3
    have tqbegin := (tqbegin.same sA3).kp pA3 kB3
    have tqsend := (tqsend.same sA3).kp pA3 kB3
    have tqback := (tqback.same sA3).kp pA3 kB3
    generalize hX : upd HA3 p (.ins T.C_Service dx (putF "_ends" (.ref Dend) [("name", .str y), ("kinds", .ref k2), ("waits", .ref w2), ("leaves", .ref e2), ("rows", .ref r2), ("moods", .ref m2), ("_begins", .ref Dbegin), ("_sends", .ref Dsend), ("_backs", .ref Dback)])) = HB3
    have eX : upd HA3 p (.ins T.C_Service dx [("name", .str y), ("kinds", .ref k2), ("waits", .ref w2), ("leaves", .ref e2), ("rows", .ref r2), ("moods", .ref m2), ("_begins", .ref Dbegin), ("_sends", .ref Dsend), ("_backs", .ref Dback), ("_ends", .ref Dend)]) = HB3 := hX
    rw [eX] at base11 pB3 tqbegin tqsend tqback tqend kB3
    clear hX eX
    -- the ends of all moods
    refine ⟨_, rfl, p, T.C_Service, dx, _, _, rfl, pB3, T.c_Service, T.n_Service_moods, rfl, m2, rfl, ⟨_, base11.2.2.2.2.2⟩, fun Dd hDd => dc_tup (K := K) (a := m2) (xs := ys.map V.str) (fun i H' => Same HB3 H' ∧ ∃ kvs, H' Dd = some (.dK kvs) ∧ Paired (fun (kv : Key × V) y => kv.1 = .inr y ∧ ∃ t, kv.2 = .ref t ∧ EndAt H' (wordsOf "end" rs) y t) kvs (ys.take i)) ⟨same_upd hDd _, [], upd_same, .nil⟩ (fun i H' _ h => seqT_same h.1 base11.2.2.2.2.2) ?_ ?_⟩
    · rintro i x H3 hx ⟨s3, kvs, hkv, pr⟩
      rw [List.getElem?_map] at hx
      obtain ⟨z, hz, rfl⟩ : ∃ z, ys[i]? = some z ∧ V.str z = x := by
        cases e : ys[i]? with
        | none => rw [e] at hx; cases hx
        | some z => rw [e] at hx; cases hx; exact ⟨z, rfl, rfl⟩
      have kvl : kvs.length ≤ 57 := by rw [paired_len pr, List.length_take]; omega
      have hp3 := s3 _ _ pB3
      refine ⟨rfl, ?_⟩
      refine ⟨_, rfl, _, rfl, p, T.C_Service, dx, _, _, rfl, hp3, T.c_Service, T.n_Service__ends, rfl, _, rfl, Dend, wordsOf "end" rs, z, rfl, tqend.same s3, n4, fun t9 H4 s4 nt9 e4 => ⟨kvs, .inr z, rfl, s4 _ _ hkv, small1000 (by omega), ?_⟩⟩
      have pk : putK kvs (.inr z) (.ref t9) = kvs ++ [(.inr z, .ref t9)] := putK_new fun kv hkv2 e => by
        obtain ⟨y2, hy2, e2, _⟩ := paired_mem pr hkv2
        rw [e2] at e
        injection e with e
        exact nodup_take nd hz (e ▸ hy2)
      rw [pk]
      refine ⟨fun b o e => ?_, kvs ++ [(.inr z, .ref t9)], upd_same, ?_⟩
      · rw [upd_ne (ne_of_none e hDd)]
        exact s4 _ _ (s3 _ _ e)
      · rw [List.take_add_one, hz]
        refine paired_snoc (paired_imp (fun kv y2 q => ?_) pr) ⟨rfl, t9, rfl, e4.put (s4 _ _ hkv)⟩
        obtain ⟨q1, t8, q2, q3⟩ := q
        exact ⟨q1, t8, q2, (q3.same s4).put (s4 _ _ hkv)⟩
    rintro HZ ⟨sZ, kvs, hkv, pr⟩
    rw [List.length_map, List.take_length] at pr
    have frd := kp_free base11.1 pB3 hDd
    have pA4 := sZ _ _ pB3
    refine ⟨_, rfl, p, T.C_Service, dx, _, rfl, pA4, T.c_Service, T.n_Service_endings, (by show 10 < 1000; decide), ?_⟩
    have kB4 : Kp p HZ (upd HZ p (.ins T.C_Service dx (svcFs y k2 w2 e2 r2 m2 ⟨Dbegin, Dsend, Dback, Dend, Dd⟩))) := Kp.refl.put _
    have baseF := bK (bS base11 sZ) pA4 kB4
    refine fin _ k2 w2 e2 r2 m2 ⟨Dbegin, Dsend, Dback, Dend, Dd⟩ ys baseF.1 upd_same baseF.2.1 baseF.2.2.1 baseF.2.2.2.1 baseF.2.2.2.2.1 baseF.2.2.2.2.2 nd so mem ⟨⟨frbegin, frsend, frback, frend, frd⟩, (tqbegin.same sZ).kp pA4 kB4, (tqsend.same sZ).kp pA4 kB4, (tqback.same sZ).kp pA4 kB4, (tqend.same sZ).kp pA4 kB4, ⟨kvs, kB4 _ _ (ins_ne pA4 hkv (fun _ _ _ z => by cases z)) hkv, paired_imp (fun kv y2 q => ?_) pr⟩⟩
    obtain ⟨q1, t8, q2, q3⟩ := q
    exact ⟨q1, t8, q2, q3.kp pA4 kB4⟩
end
end My

/-! ## The law's rows: the words that may stand, rows drawn -/
namespace My
open PySem L2
def ws_begin : List (Str × List Str) := [("mark", ["none", "any"]), ("kind", ["any"]), ("mood", [])]
def ws_send : List (Str × List Str) := [("mood", ["any"]), ("service", ["any"]), ("mark", ["none", "same"])]
def ws_back : List (Str × List Str) := [("mood", ["any"]), ("service", ["any"]), ("sign", ["none", "any"]), ("then", ["same"])]
def ws_end : List (Str × List Str) := [("mood", ["any"]), ("outcome", ["good", "bad", "any"]), ("sign", ["none"]), ("part", ["keep", "drop"])]
/-- the words of a sort -/
def wsOf (s : Str) : List (Str × List Str) := if s = "begin" then ws_begin else if s = "send" then ws_send else if s = "back" then ws_back else ws_end
/-- the list of pairs stands at p, made of objects of a kind -/
def WordsAt (ok : Addr → Prop) (H : Hp) (p : Addr) (ws : List (Str × List Str)) : Prop :=
  ∃ vs : List V, H p = some (.lst vs) ∧ Paired (fun v w => ∃ (a l : Addr), v = V.ref a ∧ H a = some (.tup [.str w.1, .ref l]) ∧ H l = some (.lst (w.2.map V.str)) ∧ ok a ∧ ok l) vs ws
abbrev s_words : Stmt := top 41
abbrev N_words : List Str := ["_law_row_here"]
abbrev P_words : List Str := ["_law_row_here"]
theorem sc_words : FnScope N_words P_words (defScope s_words) := ⟨rfl, rfl, rfl, by decide +kernel, rfl, by decide +kernel, by decide +kernel⟩
structure TxWords (w : World) (K : PySem.W.Frag) (mg : Str → Option Value) extends TxNames w K mg where
  f_words : Addr
  d_words : FuncData
  F_words : Fun K "_law_words" "_law_words" s_words f_words d_words
  m_words : mg "_law_words" = some (.ref f_words)
  b_words : Binds K d_words P_words []
def spWords (K : PySem.W.Frag) : Sp := fun vs H Q _ => ∃ (a : Addr) (s : Str) (r : List V), vs = [.ref a] ∧ (SqL K H a (.str s :: r) ∨ SqT K H a (.str s :: r)) ∧
  ∀ (p : Addr) (H' : Hp), Same H H' → H p = none → WordsAt (fun a => H a = none) H' p (wsOf s) → Q (.ref p) H'
section
variable {P : Program} {w : World} {K : PySem.W.Frag} {mg : Str → Option Value} {base : Heap}
theorem rIx_first {K : PySem.W.Frag} {H : Hp} {a : Addr} {s : Str} {r : List V} {Q : VK} (h : SqL K H a (.str s :: r) ∨ SqT K H a (.str s :: r)) (q : Q (.str s) H) : rIx K (.ref a) (.int 0) H Q := by
  rcases h with h | h
  · exact .inl ⟨a, _, 0, _, rfl, rfl, h, atI_nat (j := 0) rfl, q⟩
  · exact .inr (.inl ⟨a, _, 0, _, rfl, rfl, h, atI_nat (j := 0) rfl, q⟩)
theorem ok_words (T : TxWords w K mg) : FnOk P w K mg base CX0 1 T.f_words T.d_words P_words (spWords K) := by
  refine T.F_words.ok sc_words (fun vs H Q E h => ?_) (fun cdv A outer s H vs Q E hr h => ?_)
  · obtain ⟨a, s, r, rfl, _⟩ := h
    rfl
  obtain ⟨a, so, r, rfl, hS, q⟩ := h
  refine ⟨_, (pss_cons (ps_if (pt_cmpR op_eq (pe_ix ix_seq (pv 0) pe_int (fun _ _ => rfl)) pe_str (nomark _)) (pss_one (ps_ret (pe_lst (pa_cons (pe_tup (pa_cons pe_str (pa_cons (pe_lst (pa_cons pe_str (pa_cons pe_str pa_nil))) pa_nil))) (pa_cons (pe_tup (pa_cons pe_str (pa_cons (pe_lst (pa_cons pe_str pa_nil)) pa_nil))) (pa_cons (pe_tup (pa_cons pe_str (pa_cons (pe_lst pa_nil) pa_nil))) pa_nil)))))) pss_nil)
      (pss_cons (ps_if (pt_cmpR op_eq (pe_ix ix_seq (pv 0) pe_int (fun _ _ => rfl)) pe_str (nomark _)) (pss_one (ps_ret (pe_lst (pa_cons (pe_tup (pa_cons pe_str (pa_cons (pe_lst (pa_cons pe_str pa_nil)) pa_nil))) (pa_cons (pe_tup (pa_cons pe_str (pa_cons (pe_lst (pa_cons pe_str pa_nil)) pa_nil))) (pa_cons (pe_tup (pa_cons pe_str (pa_cons (pe_lst (pa_cons pe_str (pa_cons pe_str pa_nil))) pa_nil))) pa_nil)))))) pss_nil)
      (pss_cons (ps_if (pt_cmpR op_eq (pe_ix ix_seq (pv 0) pe_int (fun _ _ => rfl)) pe_str (nomark _)) (pss_one (ps_ret (pe_lst (pa_cons (pe_tup (pa_cons pe_str (pa_cons (pe_lst (pa_cons pe_str pa_nil)) pa_nil))) (pa_cons (pe_tup (pa_cons pe_str (pa_cons (pe_lst (pa_cons pe_str pa_nil)) pa_nil))) (pa_cons (pe_tup (pa_cons pe_str (pa_cons (pe_lst (pa_cons pe_str (pa_cons pe_str pa_nil))) pa_nil))) (pa_cons (pe_tup (pa_cons pe_str (pa_cons (pe_lst (pa_cons pe_str pa_nil)) pa_nil))) pa_nil))))))) pss_nil)
      (pss_one (ps_ret (pe_lst (pa_cons (pe_tup (pa_cons pe_str (pa_cons (pe_lst (pa_cons pe_str pa_nil)) pa_nil))) (pa_cons (pe_tup (pa_cons pe_str (pa_cons (pe_lst (pa_cons pe_str (pa_cons pe_str (pa_cons pe_str pa_nil)))) pa_nil))) (pa_cons (pe_tup (pa_cons pe_str (pa_cons (pe_lst (pa_cons pe_str pa_nil)) pa_nil))) (pa_cons (pe_tup (pa_cons pe_str (pa_cons (pe_lst (pa_cons pe_str (pa_cons pe_str pa_nil))) pa_nil))) pa_nil)))))))))), ?_⟩
  refine ⟨_, rfl, rIx_first hS ⟨rfl, _, rfl, ?_⟩⟩
  refine ite2 (fun c => ?_) (fun c => ?_)
  · have e := str_eq_of c
    subst e
    have z0 : Same H H := Same.refl H
    refine ⟨by show 2 ≤ sizeLine; decide, fun l0 hl0 => ⟨by show 2 ≤ sizeLine; decide, fun t0 ht0 => ?_⟩⟩
    have y0 := (same_upd hl0 (.lst ((["none", "any"] : List Str).map V.str))).trans (same_upd ht0 (.tup [.str "mark", .ref l0]))
    have z1 := z0.trans y0
    have fl0 : H l0 = none := z0.free hl0
    have ft0 : H t0 = none := (z0.trans (same_upd hl0 (.lst ((["none", "any"] : List Str).map V.str)))).free ht0
    have al0 := (same_upd ht0 (.tup [.str "mark", .ref l0])) _ _ (upd_same (a := l0) (o := .lst ((["none", "any"] : List Str).map V.str)))
    refine ⟨by show 1 ≤ sizeLine; decide, fun l1 hl1 => ⟨by show 2 ≤ sizeLine; decide, fun t1 ht1 => ?_⟩⟩
    have y1 := (same_upd hl1 (.lst ((["any"] : List Str).map V.str))).trans (same_upd ht1 (.tup [.str "kind", .ref l1]))
    have z2 := z1.trans y1
    have fl1 : H l1 = none := z1.free hl1
    have ft1 : H t1 = none := (z1.trans (same_upd hl1 (.lst ((["any"] : List Str).map V.str)))).free ht1
    have al1 := (same_upd ht1 (.tup [.str "kind", .ref l1])) _ _ (upd_same (a := l1) (o := .lst ((["any"] : List Str).map V.str)))
    refine ⟨by show 0 ≤ sizeLine; decide, fun l2 hl2 => ⟨by show 2 ≤ sizeLine; decide, fun t2 ht2 => ?_⟩⟩
    have y2 := (same_upd hl2 (.lst (([] : List Str).map V.str))).trans (same_upd ht2 (.tup [.str "mood", .ref l2]))
    have z3 := z2.trans y2
    have fl2 : H l2 = none := z2.free hl2
    have ft2 : H t2 = none := (z2.trans (same_upd hl2 (.lst (([] : List Str).map V.str)))).free ht2
    have al2 := (same_upd ht2 (.tup [.str "mood", .ref l2])) _ _ (upd_same (a := l2) (o := .lst (([] : List Str).map V.str)))
    refine ⟨by show 3 ≤ sizeLine; decide, fun p hp => ?_⟩
    have yp := same_upd hp (.lst [.ref t0, .ref t1, .ref t2])
    exact q p _ (z3.trans yp) (z3.free hp) ⟨_, upd_same, .cons ⟨t0, l0, rfl, ((y1.trans y2).trans yp) _ _ upd_same, ((y1.trans y2).trans yp) _ _ al0, ft0, fl0⟩ (.cons ⟨t1, l1, rfl, (y2.trans yp) _ _ upd_same, (y2.trans yp) _ _ al1, ft1, fl1⟩ (.cons ⟨t2, l2, rfl, yp _ _ upd_same, yp _ _ al2, ft2, fl2⟩ (.nil)))⟩
  refine ⟨_, rfl, rIx_first hS ⟨rfl, _, rfl, ?_⟩⟩
  refine ite2 (fun c2 => ?_) (fun c2 => ?_)
  · have e := str_eq_of c2
    subst e
    have z0 : Same H H := Same.refl H
    refine ⟨by show 1 ≤ sizeLine; decide, fun l0 hl0 => ⟨by show 2 ≤ sizeLine; decide, fun t0 ht0 => ?_⟩⟩
    have y0 := (same_upd hl0 (.lst ((["any"] : List Str).map V.str))).trans (same_upd ht0 (.tup [.str "mood", .ref l0]))
    have z1 := z0.trans y0
    have fl0 : H l0 = none := z0.free hl0
    have ft0 : H t0 = none := (z0.trans (same_upd hl0 (.lst ((["any"] : List Str).map V.str)))).free ht0
    have al0 := (same_upd ht0 (.tup [.str "mood", .ref l0])) _ _ (upd_same (a := l0) (o := .lst ((["any"] : List Str).map V.str)))
    refine ⟨by show 1 ≤ sizeLine; decide, fun l1 hl1 => ⟨by show 2 ≤ sizeLine; decide, fun t1 ht1 => ?_⟩⟩
    have y1 := (same_upd hl1 (.lst ((["any"] : List Str).map V.str))).trans (same_upd ht1 (.tup [.str "service", .ref l1]))
    have z2 := z1.trans y1
    have fl1 : H l1 = none := z1.free hl1
    have ft1 : H t1 = none := (z1.trans (same_upd hl1 (.lst ((["any"] : List Str).map V.str)))).free ht1
    have al1 := (same_upd ht1 (.tup [.str "service", .ref l1])) _ _ (upd_same (a := l1) (o := .lst ((["any"] : List Str).map V.str)))
    refine ⟨by show 2 ≤ sizeLine; decide, fun l2 hl2 => ⟨by show 2 ≤ sizeLine; decide, fun t2 ht2 => ?_⟩⟩
    have y2 := (same_upd hl2 (.lst ((["none", "same"] : List Str).map V.str))).trans (same_upd ht2 (.tup [.str "mark", .ref l2]))
    have z3 := z2.trans y2
    have fl2 : H l2 = none := z2.free hl2
    have ft2 : H t2 = none := (z2.trans (same_upd hl2 (.lst ((["none", "same"] : List Str).map V.str)))).free ht2
    have al2 := (same_upd ht2 (.tup [.str "mark", .ref l2])) _ _ (upd_same (a := l2) (o := .lst ((["none", "same"] : List Str).map V.str)))
    refine ⟨by show 3 ≤ sizeLine; decide, fun p hp => ?_⟩
    have yp := same_upd hp (.lst [.ref t0, .ref t1, .ref t2])
    exact q p _ (z3.trans yp) (z3.free hp) ⟨_, upd_same, .cons ⟨t0, l0, rfl, ((y1.trans y2).trans yp) _ _ upd_same, ((y1.trans y2).trans yp) _ _ al0, ft0, fl0⟩ (.cons ⟨t1, l1, rfl, (y2.trans yp) _ _ upd_same, (y2.trans yp) _ _ al1, ft1, fl1⟩ (.cons ⟨t2, l2, rfl, yp _ _ upd_same, yp _ _ al2, ft2, fl2⟩ (.nil)))⟩
  refine ⟨_, rfl, rIx_first hS ⟨rfl, _, rfl, ?_⟩⟩
  refine ite2 (fun c3 => ?_) (fun c3 => ?_)
  · have e := str_eq_of c3
    subst e
    have z0 : Same H H := Same.refl H
    refine ⟨by show 1 ≤ sizeLine; decide, fun l0 hl0 => ⟨by show 2 ≤ sizeLine; decide, fun t0 ht0 => ?_⟩⟩
    have y0 := (same_upd hl0 (.lst ((["any"] : List Str).map V.str))).trans (same_upd ht0 (.tup [.str "mood", .ref l0]))
    have z1 := z0.trans y0
    have fl0 : H l0 = none := z0.free hl0
    have ft0 : H t0 = none := (z0.trans (same_upd hl0 (.lst ((["any"] : List Str).map V.str)))).free ht0
    have al0 := (same_upd ht0 (.tup [.str "mood", .ref l0])) _ _ (upd_same (a := l0) (o := .lst ((["any"] : List Str).map V.str)))
    refine ⟨by show 1 ≤ sizeLine; decide, fun l1 hl1 => ⟨by show 2 ≤ sizeLine; decide, fun t1 ht1 => ?_⟩⟩
    have y1 := (same_upd hl1 (.lst ((["any"] : List Str).map V.str))).trans (same_upd ht1 (.tup [.str "service", .ref l1]))
    have z2 := z1.trans y1
    have fl1 : H l1 = none := z1.free hl1
    have ft1 : H t1 = none := (z1.trans (same_upd hl1 (.lst ((["any"] : List Str).map V.str)))).free ht1
    have al1 := (same_upd ht1 (.tup [.str "service", .ref l1])) _ _ (upd_same (a := l1) (o := .lst ((["any"] : List Str).map V.str)))
    refine ⟨by show 2 ≤ sizeLine; decide, fun l2 hl2 => ⟨by show 2 ≤ sizeLine; decide, fun t2 ht2 => ?_⟩⟩
    have y2 := (same_upd hl2 (.lst ((["none", "any"] : List Str).map V.str))).trans (same_upd ht2 (.tup [.str "sign", .ref l2]))
    have z3 := z2.trans y2
    have fl2 : H l2 = none := z2.free hl2
    have ft2 : H t2 = none := (z2.trans (same_upd hl2 (.lst ((["none", "any"] : List Str).map V.str)))).free ht2
    have al2 := (same_upd ht2 (.tup [.str "sign", .ref l2])) _ _ (upd_same (a := l2) (o := .lst ((["none", "any"] : List Str).map V.str)))
    refine ⟨by show 1 ≤ sizeLine; decide, fun l3 hl3 => ⟨by show 2 ≤ sizeLine; decide, fun t3 ht3 => ?_⟩⟩
    have y3 := (same_upd hl3 (.lst ((["same"] : List Str).map V.str))).trans (same_upd ht3 (.tup [.str "then", .ref l3]))
    have z4 := z3.trans y3
    have fl3 : H l3 = none := z3.free hl3
    have ft3 : H t3 = none := (z3.trans (same_upd hl3 (.lst ((["same"] : List Str).map V.str)))).free ht3
    have al3 := (same_upd ht3 (.tup [.str "then", .ref l3])) _ _ (upd_same (a := l3) (o := .lst ((["same"] : List Str).map V.str)))
    refine ⟨by show 4 ≤ sizeLine; decide, fun p hp => ?_⟩
    have yp := same_upd hp (.lst [.ref t0, .ref t1, .ref t2, .ref t3])
    exact q p _ (z4.trans yp) (z4.free hp) ⟨_, upd_same, .cons ⟨t0, l0, rfl, (((y1.trans y2).trans y3).trans yp) _ _ upd_same, (((y1.trans y2).trans y3).trans yp) _ _ al0, ft0, fl0⟩ (.cons ⟨t1, l1, rfl, ((y2.trans y3).trans yp) _ _ upd_same, ((y2.trans y3).trans yp) _ _ al1, ft1, fl1⟩ (.cons ⟨t2, l2, rfl, (y3.trans yp) _ _ upd_same, (y3.trans yp) _ _ al2, ft2, fl2⟩ (.cons ⟨t3, l3, rfl, yp _ _ upd_same, yp _ _ al3, ft3, fl3⟩ (.nil))))⟩
  have e : wsOf so = ws_end := by
    unfold wsOf
    rw [if_neg (str_ne_of c), if_neg (str_ne_of c2), if_neg (str_ne_of c3)]
  rw [e] at q
  have z0 : Same H H := Same.refl H
  refine ⟨by show 1 ≤ sizeLine; decide, fun l0 hl0 => ⟨by show 2 ≤ sizeLine; decide, fun t0 ht0 => ?_⟩⟩
  have y0 := (same_upd hl0 (.lst ((["any"] : List Str).map V.str))).trans (same_upd ht0 (.tup [.str "mood", .ref l0]))
  have z1 := z0.trans y0
  have fl0 : H l0 = none := z0.free hl0
  have ft0 : H t0 = none := (z0.trans (same_upd hl0 (.lst ((["any"] : List Str).map V.str)))).free ht0
  have al0 := (same_upd ht0 (.tup [.str "mood", .ref l0])) _ _ (upd_same (a := l0) (o := .lst ((["any"] : List Str).map V.str)))
  refine ⟨by show 3 ≤ sizeLine; decide, fun l1 hl1 => ⟨by show 2 ≤ sizeLine; decide, fun t1 ht1 => ?_⟩⟩
  have y1 := (same_upd hl1 (.lst ((["good", "bad", "any"] : List Str).map V.str))).trans (same_upd ht1 (.tup [.str "outcome", .ref l1]))
  have z2 := z1.trans y1
  have fl1 : H l1 = none := z1.free hl1
  have ft1 : H t1 = none := (z1.trans (same_upd hl1 (.lst ((["good", "bad", "any"] : List Str).map V.str)))).free ht1
  have al1 := (same_upd ht1 (.tup [.str "outcome", .ref l1])) _ _ (upd_same (a := l1) (o := .lst ((["good", "bad", "any"] : List Str).map V.str)))
  refine ⟨by show 1 ≤ sizeLine; decide, fun l2 hl2 => ⟨by show 2 ≤ sizeLine; decide, fun t2 ht2 => ?_⟩⟩
  have y2 := (same_upd hl2 (.lst ((["none"] : List Str).map V.str))).trans (same_upd ht2 (.tup [.str "sign", .ref l2]))
  have z3 := z2.trans y2
  have fl2 : H l2 = none := z2.free hl2
  have ft2 : H t2 = none := (z2.trans (same_upd hl2 (.lst ((["none"] : List Str).map V.str)))).free ht2
  have al2 := (same_upd ht2 (.tup [.str "sign", .ref l2])) _ _ (upd_same (a := l2) (o := .lst ((["none"] : List Str).map V.str)))
  refine ⟨by show 2 ≤ sizeLine; decide, fun l3 hl3 => ⟨by show 2 ≤ sizeLine; decide, fun t3 ht3 => ?_⟩⟩
  have y3 := (same_upd hl3 (.lst ((["keep", "drop"] : List Str).map V.str))).trans (same_upd ht3 (.tup [.str "part", .ref l3]))
  have z4 := z3.trans y3
  have fl3 : H l3 = none := z3.free hl3
  have ft3 : H t3 = none := (z3.trans (same_upd hl3 (.lst ((["keep", "drop"] : List Str).map V.str)))).free ht3
  have al3 := (same_upd ht3 (.tup [.str "part", .ref l3])) _ _ (upd_same (a := l3) (o := .lst ((["keep", "drop"] : List Str).map V.str)))
  refine ⟨by show 4 ≤ sizeLine; decide, fun p hp => ?_⟩
  have yp := same_upd hp (.lst [.ref t0, .ref t1, .ref t2, .ref t3])
  exact q p _ (z4.trans yp) (z4.free hp) ⟨_, upd_same, .cons ⟨t0, l0, rfl, (((y1.trans y2).trans y3).trans yp) _ _ upd_same, (((y1.trans y2).trans y3).trans yp) _ _ al0, ft0, fl0⟩ (.cons ⟨t1, l1, rfl, ((y2.trans y3).trans yp) _ _ upd_same, ((y2.trans y3).trans yp) _ _ al1, ft1, fl1⟩ (.cons ⟨t2, l2, rfl, (y3.trans yp) _ _ upd_same, (y3.trans yp) _ _ al2, ft2, fl2⟩ (.cons ⟨t3, l3, rfl, yp _ _ upd_same, yp _ _ al3, ft3, fl3⟩ (.nil))))⟩
end
end My

/-! ## A row drawn -/
namespace My
open PySem L2
def POOLW : List Str := ["mark", "kind", "mood", "service", "sign"]
/-- the lists of names that a row's words are drawn from, by their words -/
structure Pools (b : Addr) (H : Hp) (pd : Addr) (pf : Str → List Str) : Prop where
  at_ : ∃ kvs : List (Key × V), At b H pd (.dK kvs) ∧ ∀ x ∈ POOLW, ∃ l, valV kvs (Sum.inr x) = some (.ref l) ∧ At b H l (.lst ((pf x).map V.str))
  ne : ∀ x ∈ POOLW, pf x ≠ [] ∧ (pf x).length ≤ 100 ∧ ∀ y ∈ pf x, isNm y = true
theorem Pools.gr {b : Addr} {H H' : Hp} {pd : Addr} {pf : Str → List Str} (h : Pools b H pd pf) (g : Gr b H H') : Pools b H' pd pf := by
  obtain ⟨kvs, h1, h2⟩ := h.at_
  refine ⟨⟨kvs, h1.gr g, fun x hx => ?_⟩, h.ne⟩
  obtain ⟨l, e, a⟩ := h2 x hx
  exact ⟨l, e, a.gr g⟩
/-- a word that may stand: one of the others, or a name where the word is none of those two -/
def fitW (y : Str) (w : Str × List Str) : Prop := y ∈ w.2 ∨ (w.1 ≠ "outcome" ∧ w.1 ≠ "part" ∧ isNm y = true)
/-- the words of each sort: where nothing else may stand a name is asked for; each but those two has its pool -/
def wsGood (ws : List (Str × List Str)) : Bool := ws.all fun w => decide (w.2.length ≤ 3) && (if w.1 = "outcome" ∨ w.1 = "part" then decide (w.2 ≠ []) else decide ((if w.1 = ("then" : Str) then ("mood" : Str) else w.1) ∈ POOLW))
theorem wsOf_good : ∀ s ∈ SORTS, wsGood (wsOf s) = true ∧ (wsOf s).length ≤ 4 := by decide +kernel
abbrev s_drawn_row : Stmt := top 42
abbrev N_drawn_row : List Str := ["_law_box_here", "_law_sort", "_law_pools", "_law_found", "_law_word", "_law_others", "_law_names_here", "_law_near"]
abbrev P_drawn_row : List Str := ["_law_box_here", "_law_sort", "_law_pools"]
theorem sc_drawn_row : FnScope N_drawn_row P_drawn_row (defScope s_drawn_row) := ⟨rfl, rfl, rfl, by decide +kernel, rfl, by decide +kernel, by decide +kernel⟩
structure TxDrawn (w : World) (K : PySem.W.Frag) (mg : Str → Option Value) extends TxWords w K mg where
  z_tuple : mg "tuple" = none
  f_drawn_row : Addr
  d_drawn_row : FuncData
  F_drawn_row : Fun K "_law_drawn_row" "_law_drawn_row" s_drawn_row f_drawn_row d_drawn_row
  m_drawn_row : mg "_law_drawn_row" = some (.ref f_drawn_row)
  b_drawn_row : Binds K d_drawn_row P_drawn_row []
def spDrawn : Sp := fun vs H Q _ => ∃ (b pd : Addr) (s : Str) (pf : Str → List Str), vs = [.ref b, .str s, .ref pd] ∧ Gr b H H ∧ s ∈ SORTS ∧ Pools b H pd pf ∧
  ∀ (p : Addr) (ys : List Str) (H' : Hp), Gr b H H' → H p = none → At b H' p (.tup (.str s :: ys.map V.str)) → Paired fitW ys (wsOf s) → Q (.ref p) H'
section
variable {P : Program} {w : World} {K : PySem.W.Frag} {mg : Str → Option Value} {base : Heap}
theorem ok_drawn (T : TxDrawn w K mg) : FnOk P w K mg base CX0 3 T.f_drawn_row T.d_drawn_row P_drawn_row spDrawn := by
  have G_take : FnOk P w K mg base CX0 1 T.f_take T.d_take P_take spTakeG := ok_takeG T.toTxDraw
  have G_pick : FnOk P w K mg base CX0 2 T.f_pick T.d_pick P_pick (spPickG) := ok_pickG T.toTxDraw
  have G_words : FnOk P w K mg base CX0 1 T.f_words T.d_words P_words (spWords K) := ok_words T.toTxWords
  refine T.F_drawn_row.ok sc_drawn_row (fun vs H Q E h => ?_) (fun cdv A outer s H vs Q E hr h => ?_)
  · obtain ⟨b, pd, so, pf, rfl, _⟩ := h
    rfl
  obtain ⟨b, pd, so, pf, rfl, g0, hso, hP, q⟩ := h
  refine ⟨_, (pss_cons (ps_set (i := 3) sc_drawn_row.nd rfl (Or.inl rfl) (pe_lst (pa_cons (pv 1) pa_nil)))
      (pss_cons (ps_for PassesOwn.never rfl (pi_listK K (pe_call G_words (hr.mono (by decide)) (by rfl) T.m_words T.F_words.kp T.b_words .nil pass0 (pa_cons (pe_tup (pa_cons (pv 1) pa_nil)) pa_nil))) (pg_tup rfl (pgs_cons (pg_name (i := 4) sc_drawn_row.nd rfl (Or.inl rfl)) (pgs_cons (pg_name (i := 5) sc_drawn_row.nd rfl (Or.inl rfl)) pgs_nil))) (Evl.pss_cut (ps_set (i := 6) sc_drawn_row.nd rfl (Or.inl rfl) (pe_ifExp (pt_cmpR (op_notInK K) (pv 4) (pe_tup (pa_cons pe_str (pa_cons pe_str pa_nil))) (by rfl)) (pe_dget (hu_of hr) (pv 2) (pe_ifExp (pt_cmpR op_eq (pv 4) pe_str (nomark _)) pe_str (pv 4)) (fun _ _ => rfl)) (pe_lst pa_nil)))
      (Evl.pss_cut (ps_set (i := 7) sc_drawn_row.nd rfl (Or.inl rfl) (pe_ifExp (PW.pt (pw_or (pt_cmpR (op_eqEK K hr.units0) (pv 6) (pe_lst pa_nil) (nomark _)) (pw_or1 (PW.pt (pw_and (pt_cmpR (op_neEK K hr.units0) (pv 5) (pe_lst pa_nil) (nomark _)) (pw_and1 (pt_cmpR op_eq (pe_call G_take (hr.mono (by decide)) (by rfl) T.m_take T.F_take.kp T.b_take .nil pass0 (pa_cons (pv 0) (pa_cons pe_int pa_nil))) pe_int (nomark _)))))))) (pv 5) (pv 6)))
      (pss_one (ps_expr (pe_bm PySem.F.plainAttrs_list PySem.F.slot_list_append PySem.F.type_list_append mt_append (pv 3) (pa_cons (pe_call G_pick (hr.mono (by decide)) (by rfl) T.m_pick T.F_pick.kp T.b_pick .nil pass0 (pa_cons (pv 0) (pa_cons (pv 7) pa_nil))) pa_nil)))))))
      (pss_one (ps_ret (pe_callTy (call_tupleK K) (by rfl) T.z_tuple (by decide +kernel) (pa_cons (pv 3) pa_nil)))))), ?_⟩
  refine ⟨_, rfl, by show 1 ≤ sizeLine; decide, fun fo hfo => ?_⟩
  have g1 := g0.new hfo (.lst [.str so])
  have nfb := g0.ne_new hfo
  refine ⟨_, rfl, by show 1 ≤ sizeLine; decide, fun tu htu => ⟨tu, so, [], rfl, .inr (SqT.of upd_same), fun wl H2 s2 hwl hW => ?_⟩⟩
  have y1 := (same_upd htu (.tup [.str so])).trans s2
  obtain ⟨ws, hws, prs⟩ := hW
  have fo2 : H2 fo = some (.lst [.str so]) := y1 _ _ upd_same
  obtain ⟨bw, bs, bc, hb1⟩ := g1.box
  have g2 : Gr b H H2 := g1.trans (Same.gr y1 hb1)
  have good := wsOf_good so hso
  have ff : H fo = none := hfo
  have wfo : wl ≠ fo := fun z => by rw [z, upd_ne (fun z2 => by rw [← z2, upd_same] at htu; cases htu), upd_same] at hwl; cases hwl
  have wlb : wl ≠ b := fun z => by rw [z, upd_ne (fun z2 => by rw [← z2, hb1] at htu; cases htu), hb1] at hwl; cases hwl
  refine ⟨wl, rfl, ⟨_, SqL.of hws⟩, for_list (K := K) (a := wl) (xs := ws) (fun i σ H' => ∃ (ys : List Str) (v4 v5 v6 v7 : Option V), σ = [some (.ref b), some (.str so), some (.ref pd), some (.ref fo), v4, v5, v6, v7] ∧ Gr b H H' ∧
      (∀ a o, a ≠ b → a ≠ fo → H2 a = some o → H' a = some o) ∧ H' fo = some (.lst (.str so :: ys.map V.str)) ∧ Paired fitW ys ((wsOf so).take i) ∧ ys.length = i)
    ⟨[], none, none, none, none, rfl, g2, fun _ _ _ _ e => e, fo2, .nil, rfl⟩ (fun i σ H' _ ⟨_, _, _, _, _, _, _, k, _⟩ => SqL.of (k wl _ wlb wfo hws)) ?_ ?_⟩
  · rintro i x σ H3 hi ⟨ys, v4, v5, v6, v7, rfl, g3, k3, fo3, pr3, yl⟩
    obtain ⟨⟨wd, ls⟩, hw, a, l, rfl, ha, hl, oka, okl⟩ := paired_get prs hi
    have bo : upd (upd H fo (.lst [.str so])) tu (.tup [.str so]) b = some (bx bw bs bc) := by rw [upd_ne (fun z2 => by rw [← z2, hb1] at htu; cases htu)]; exact hb1
    have foo : upd (upd H fo (.lst [.str so])) tu (.tup [.str so]) fo = some (.lst [.str so]) := by rw [upd_ne (fun z2 => by rw [← z2, upd_same] at htu; cases htu)]; exact upd_same
    have nb : ∀ {c : Addr}, upd (upd H fo (.lst [.str so])) tu (.tup [.str so]) c = none → c ≠ b ∧ c ≠ fo := fun {c} e => ⟨(ne_of_none bo e).symm, (ne_of_none foo e).symm⟩
    have ha3 := k3 a _ (nb oka).1 (nb oka).2 ha
    have hl3 : At b H3 l (.lst (ls.map V.str)) := ⟨(nb okl).1, k3 l _ (nb okl).1 (nb okl).2 hl⟩
    have gw : decide (ls.length ≤ 3) = true ∧ (if wd = "outcome" ∨ wd = "part" then decide (ls ≠ []) else decide ((if wd = ("then" : Str) then ("mood" : Str) else wd) ∈ POOLW)) = true := by
      have h1 := List.all_eq_true.mp good.1 (wd, ls) (List.mem_of_getElem? hw)
      exact Bool.and_eq_true_iff.mp h1
    have ll : ls.length ≤ 3 := of_decide_eq_true gw.1
    have nla : l ≠ fo := (nb okl).2
    refine ⟨a, _, rfl, SqT.of ha3, rfl, _, _, rfl, _, _, rfl, rfl, ?_⟩
    refine ⟨fun σ H4 => ∃ (nl : Addr) (nms : List Str), σ = [some (.ref b), some (.str so), some (.ref pd), some (.ref fo), some (.str wd), some (.ref l), some (.ref nl), v7] ∧ Gr b H3 H4 ∧ At b H4 nl (.lst (nms.map V.str)) ∧ nl ≠ fo ∧
      nms.length ≤ 100 ∧ (nms = [] → ls ≠ []) ∧ (∀ y ∈ nms, fitW y (wd, ls)), ?_, ?_⟩
    · refine ⟨_, rfl, by show 2 ≤ sizeLine; decide, fun t4 ht4 => ⟨t4, _, rfl, .inr (SqT.of upd_same), rfl, by decide +kernel, _, rfl, ?_⟩⟩
      have r3 : Gr b H3 H3 := ⟨fun _ _ _ e => e, g3.box⟩
      have g4 := r3.new ht4 (.tup [.str "outcome", .str "part"])
      have t4o : t4 ≠ fo := fun z => by rw [z, fo3] at ht4; cases ht4
      have inw : inV (.str wd) [.str "outcome", .str "part"] = (["outcome", "part"] : List Str).contains wd := inV_strs wd ["outcome", "part"]
      refine ite2 (fun c => ?_) (fun c => ?_)
      · have nin : (["outcome", "part"] : List Str).contains wd = false := by
          have c' : (!inV (.str wd) [.str "outcome", .str "part"]) = true := c
          rw [inw] at c'
          simpa using c'
        have n1 : ¬ (wd = "outcome" ∨ wd = "part") := by
          intro z
          rcases z with z | z <;> subst z <;> revert nin <;> decide +kernel
        have gw2 : (if wd = ("then" : Str) then ("mood" : Str) else wd) ∈ POOLW := by
          have h := gw.2
          rw [if_neg n1] at h
          exact of_decide_eq_true h
        obtain ⟨kvs, hk0, hks⟩ := hP.at_
        have hk := (hk0.gr g3).gr g4
        have fin : ∀ x ∈ POOLW, ∃ l', DGet (upd H3 t4 (.tup [.str "outcome", .str "part"])) pd (kV (Sum.inr x)) (some (.ref l')) ∧
            ∃ (nl : Addr) (nms : List Str), (V.ref l') = .ref nl ∧ At b (upd H3 t4 (.tup [.str "outcome", .str "part"])) nl (.lst (nms.map V.str)) ∧ nl ≠ fo ∧ nms.length ≤ 100 ∧ (nms = [] → ls ≠ []) ∧ (∀ y ∈ nms, fitW y (wd, ls)) := by
          intro x hx
          obtain ⟨l', e, hl'⟩ := hks x hx
          obtain ⟨p1, p2, p3⟩ := hP.ne x hx
          refine ⟨l', ?_, l', pf x, rfl, (hl'.gr g3).gr g4, hl'.nep ff, p2, fun z => absurd z p1, fun y hy => .inr ⟨fun z => n1 (.inl z), fun z => n1 (.inr z), p3 y hy⟩⟩
          rw [← e]
          exact DGet.k hk.at_
        refine ⟨_, rfl, _, rfl, rfl, _, rfl, ?_⟩
        refine ite2 (fun c2 => ?_) (fun c2 => ?_)
        · have e2 := str_eq_of c2
          rw [if_pos e2] at gw2
          obtain ⟨l', hd, nl, nms, e, h1, h2, h3, h4, h5⟩ := fin _ gw2
          cases e
          exact ⟨pd, _, rfl, hd, l', nms, rfl, g4, h1, h2, h3, h4, h5⟩
        · have e2 := str_ne_of c2
          rw [if_neg e2] at gw2
          obtain ⟨l', hd, nl, nms, e, h1, h2, h3, h4, h5⟩ := fin _ gw2
          cases e
          exact ⟨_, rfl, pd, _, rfl, hd, l', nms, rfl, g4, h1, h2, h3, h4, h5⟩
      · have yin : (["outcome", "part"] : List Str).contains wd = true := by
          cases h : (["outcome", "part"] : List Str).contains wd with
          | true => rfl
          | false =>
            refine absurd ?_ c
            show (!inV (.str wd) [.str "outcome", .str "part"]) = true
            rw [inw, h]
            rfl
        have y1 : wd = "outcome" ∨ wd = "part" := by
          have h1 := List.contains_iff_mem.mp yin
          rcases List.mem_cons.mp h1 with h2 | h2
          · exact .inl h2
          · exact .inr (List.mem_singleton.mp h2)
        refine ⟨Nat.zero_le _, fun el hel => ⟨el, [], rfl, g4.new hel _, .mk_new g4 hel _, fun z => ?_, Nat.zero_le _, fun _ => ?_, fun _ h => nomatch h⟩⟩
        · rw [z, upd_ne t4o.symm, fo3] at hel
          cases hel
        · have h := gw.2
          rw [if_pos y1] at h
          exact of_decide_eq_true h
    · rintro σ H4 ⟨nl, nms, rfl, g4, hn4, nnf, nl100, nne, nfit⟩
      refine ⟨fun σ H5 => ∃ (el : Addr) (es : List Str), σ = [some (.ref b), some (.str so), some (.ref pd), some (.ref fo), some (.str wd), some (.ref l), some (.ref nl), some (.ref el)] ∧ Gr b H3 H5 ∧ At b H5 el (.lst (es.map V.str)) ∧ el ≠ fo ∧
        es ≠ [] ∧ es.length ≤ 100 ∧ (∀ y ∈ es, fitW y (wd, ls)), ?_, ?_⟩
      · have gl4 : At b H4 l (.lst (ls.map V.str)) := hl3.gr g4
        have r4 : Gr b H4 H4 := ⟨fun _ _ _ e => e, g4.box⟩
        have lfit : ∀ y ∈ ls, fitW y (wd, ls) := fun y hy => .inl hy
        refine ⟨_, rfl, Nat.zero_le _, fun e1 he1 => ⟨nl, e1, nms.map V.str, rfl, rfl, (hn4.new he1).l, SqL.of upd_same, _, rfl, ?_⟩⟩
        have g5 := r4.new he1 (.lst [])
        refine ite2 (fun c => ?_) (fun c => ?_)
        · have n0 : nms = [] := by
            have c' : (nms.map V.str).isEmpty = true := c
            simpa using c'
          exact ⟨_, rfl, l, ls, rfl, g4.trans g5, gl4.gr g5, nla, nne n0, by omega, lfit⟩
        · have n0 : nms ≠ [] := fun z => c (by rw [z]; rfl)
          refine ⟨_, rfl, Nat.zero_le _, fun e2 he2 => ⟨l, e2, ls.map V.str, rfl, rfl, ((gl4.gr g5).new he2).l, SqL.of upd_same, _, rfl, ?_⟩⟩
          have g6 := g5.new he2 (.lst [])
          refine ite2 (fun c2 => ?_) (fun c2 => ?_)
          · have l0 : ls ≠ [] := fun z => by
              have c' : (!(ls.map V.str).isEmpty) = true := c2
              rw [z] at c'
              cases c'
            refine ⟨_, rfl, b, _, rfl, ⟨fun _ _ _ e => e, g6.box⟩, by decide, by decide, fun d H7 d0 d1 g7 => ⟨rfl, _, rfl, ?_⟩⟩
            refine ite2 (fun c3 => ?_) (fun c3 => ?_)
            · exact ⟨_, rfl, l, ls, rfl, (g4.trans g6).trans g7, (gl4.gr g6).gr g7, nla, l0, by omega, lfit⟩
            · exact ⟨_, rfl, nl, nms, rfl, (g4.trans g6).trans g7, (hn4.gr g6).gr g7, nnf, n0, nl100, nfit⟩
          · exact ⟨_, rfl, nl, nms, rfl, g4.trans g6, hn4.gr g6, nnf, n0, nl100, nfit⟩
      · rintro σ H5 ⟨el, es, rfl, g5, he5, nef, ene, el100, efit⟩
        have fo5 : H5 fo = some (.lst (.str so :: ys.map V.str)) := g5.keep _ _ nfb fo3
        refine ⟨_, rfl, .inl ⟨rfl, _, SqL.of fo5⟩, _, rfl, _, rfl, b, el, _, rfl, ⟨fun _ _ _ e => e, g5.box⟩, he5, by simpa using ene, by rw [List.length_map]; omega, fun x H6 hx g6 => ?_⟩
        obtain ⟨y, hy, rfl⟩ := List.mem_map.mp hx
        have fo6 := g6.keep _ _ nfb fo5
        have pr4 : Paired fitW (ys ++ [y]) ((wsOf so).take (i + 1)) := by
          rw [List.take_add_one, hw]
          exact paired_snoc pr3 (efit y hy)
        have yl4 : (ys ++ [y]).length = i + 1 := by rw [List.length_append, yl]; rfl
        have i4 : i < 4 := by
          have h1 := (List.getElem?_eq_some_iff.mp hw).1
          have h2 := good.2
          omega
        refine ⟨fo, _, _, rfl, rfl, fo6, small1000 (by simp; omega), ?_⟩
        refine ⟨ys ++ [y], _, _, _, _, rfl, (g3.trans (g5.trans g6)).mut ff nfb _, fun c o nb nf e => ?_, ?_, pr4, yl4⟩
        · rw [upd_ne nf]
          exact g6.keep c o nb (g5.keep c o nb (k3 c o nb nf e))
        · rw [upd_same, List.map_append]
          rfl
  · rintro σ H3 ⟨ys, v4, v5, v6, v7, rfl, g3, k3, fo3, pr3, yl⟩
    refine ⟨_, rfl, fo, _, rfl, .inl ⟨SqL.of fo3, fun p hp => ?_⟩⟩
    rw [show ws.length = (wsOf so).length from prs.length, List.take_length] at pr3
    exact q p ys _ (g3.new hp _) (g3.free hp) (.mk_new g3 hp _) pr3
end
end My

/-! ## The law makes a row of its words -/
namespace My
open PySem L2
abbrev s_row : Stmt := top 40
abbrev N_row : List Str := ["_law_row_here"]
abbrev P_row : List Str := ["_law_row_here"]
theorem sc_row : FnScope N_row P_row (defScope s_row) := ⟨rfl, rfl, rfl, by decide +kernel, rfl, by decide +kernel, by decide +kernel⟩
structure TxLawRow (w : World) (K : PySem.W.Frag) (mg : Str → Option Value) extends TxRows w K mg where
  f_row : Addr
  d_row : FuncData
  F_row : Fun K "_law_row" "_law_row" s_row f_row d_row
  m_row : mg "_law_row" = some (.ref f_row)
  b_row : Binds K d_row P_row []
/-- the word of the first wrong argument -/
def wrOf (s : Str) : List PyData → Option Str := if s = "begin" then wBegin else if s = "send" then wSend else if s = "back" then wBack else wEnd
def spLawRow {w : World} {K : PySem.W.Frag} {mg : Str → Option Value} (T : TxRows w K mg) : Sp := fun vs H Q E => ∃ (a : Addr) (s : Str) (as : List V) (ds : List PyData), vs = [.ref a] ∧ (SqL K H a (.str s :: as) ∨ SqT K H a (.str s :: as)) ∧ as.length = (fnOf s).length ∧ Paired (Dv K H) as ds ∧
  (∀ p dx H', wrOf s ds = none → Same H H' → H p = none → H' p = some (.ins (clsOf T s) dx ((fnOf s).zip as)) → Q (.ref p) H') ∧
  (∀ wd d H', wrOf s ds = some wd → Same H H' → H d = none → H' d = some (.xd [("word", .str wd)]) → E (.ref T.C_InvalidRow) (some d) H')
theorem rIx_at {K : PySem.W.Frag} {H : Hp} {a : Addr} {xs : List V} {j : Nat} {v : V} {Q : VK} (h : SqL K H a xs ∨ SqT K H a xs) (e : xs[j]? = some v) (q : Q v H) : rIx K (.ref a) (.int (j : Int)) H Q := by
  rcases h with h | h
  · exact .inl ⟨a, _, _, _, rfl, rfl, h, atI_nat e, q⟩
  · exact .inr (.inl ⟨a, _, _, _, rfl, rfl, h, atI_nat e, q⟩)
theorem paired_dv {K : PySem.W.Frag} {H H' : Hp} (e : Same H H') : ∀ {as : List V} {ds : List PyData}, Paired (Dv K H) as ds → Paired (Dv K H') as ds
  | _, _, .nil => .nil
  | _, _, .cons h t => .cons (h.same e) (paired_dv e t)
section
variable {P : Program} {w : World} {K : PySem.W.Frag} {mg : Str → Option Value} {base : Heap}
/-- what C(..) asks where C's __init__ is a row's -/
theorem row_made {C CX : Addr} {names : List Str} {wr : List PyData → Option Str} {H : Hp} {as : List V} {ds : List PyData} {Q : VK} {E : XK} (hl : as.length = names.length) (hd : Paired (Dv K H) as ds)
    (q : ∀ p dx H', wr ds = none → Same H H' → H p = none → H' p = some (.ins C dx (names.zip as)) → Q (.ref p) H') (qe : ∀ wd d H', wr ds = some wd → Same H H' → H d = none → H' d = some (.xd [("word", .str wd)]) → E (.ref CX) (some d) H') :
    ∀ x dx, H x = none → H dx = none → dx ≠ x → spRow K C CX names wr (.ref x :: as) (upd (upd H dx (.own x)) x (.ins C dx [])) (fun v H2 => v = .non ∧ Q (.ref x) H2) E := by
  intro x dx nx nd ne
  have s0 : Same H (upd (upd H dx (.own x)) x (.ins C dx [])) := fun b o e => by rw [upd_ne (ne_of_none e nx), upd_ne (ne_of_none e nd)]; exact e
  refine ⟨x, dx, as, ds, rfl, hl, paired_dv s0 hd, upd_same, fun H' e1 e2 k => ⟨rfl, q x dx H' e1 (Same.made nx nd k) nx e2⟩, fun wd d H' e1 s1 n1 e2 => qe wd d H' e1 (s0.trans s1) (s0.free n1) e2⟩
theorem ok_row (T : TxLawRow w K mg) : FnOk P w K mg base (L2.CX P w) 5 T.f_row T.d_row P_row (spLawRow T.toTxRows) := by
  have G_Begin_init := ok_Begin_init (P := P) (w := w) (base := base) T.toTxRows
  have G_Send_init := ok_Send_init (P := P) (w := w) (base := base) T.toTxRows
  have G_Back_init := ok_Back_init (P := P) (w := w) (base := base) T.toTxRows
  have G_End_init := ok_End_init (P := P) (w := w) (base := base) T.toTxRows
  refine T.F_row.okX sc_row (fun vs H Q E h => ?_) (fun cdv A outer s H vs Q E hr h => ?_)
  · obtain ⟨a, so, as, ds, rfl, _⟩ := h
    rfl
  obtain ⟨a, so, as, ds, rfl, hS, hl, hd, q, qe⟩ := h
  refine ⟨_, (pss_cons (ps_if (pt_cmpR op_eq (pe_ix ix_seq (pv 0) pe_int (fun _ _ => rfl)) pe_str (nomark _)) (pss_one (ps_ret (pe_make T.mk_Begin G_Begin_init (hr.mono (by decide)) (by rfl) T.m_Begin T.b_Begin_init .nil (passes_call (W := fun cls d _ H => E cls d H) (takes_of rfl rfl rfl rfl) (fun _ _ _ _ h => h)) (pa_cons (pe_ix ix_seq (pv 0) pe_int (fun _ _ => rfl)) (pa_cons (pe_ix ix_seq (pv 0) pe_int (fun _ _ => rfl)) (pa_cons (pe_ix ix_seq (pv 0) pe_int (fun _ _ => rfl)) pa_nil)))))) pss_nil)
      (pss_cons (ps_if (pt_cmpR op_eq (pe_ix ix_seq (pv 0) pe_int (fun _ _ => rfl)) pe_str (nomark _)) (pss_one (ps_ret (pe_make T.mk_Send G_Send_init (hr.mono (by decide)) (by rfl) T.m_Send T.b_Send_init .nil (passes_call (W := fun cls d _ H => E cls d H) (takes_of rfl rfl rfl rfl) (fun _ _ _ _ h => h)) (pa_cons (pe_ix ix_seq (pv 0) pe_int (fun _ _ => rfl)) (pa_cons (pe_ix ix_seq (pv 0) pe_int (fun _ _ => rfl)) (pa_cons (pe_ix ix_seq (pv 0) pe_int (fun _ _ => rfl)) pa_nil)))))) pss_nil)
      (pss_cons (ps_if (pt_cmpR op_eq (pe_ix ix_seq (pv 0) pe_int (fun _ _ => rfl)) pe_str (nomark _)) (pss_one (ps_ret (pe_make T.mk_Back G_Back_init (hr.mono (by decide)) (by rfl) T.m_Back T.b_Back_init .nil (passes_call (W := fun cls d _ H => E cls d H) (takes_of rfl rfl rfl rfl) (fun _ _ _ _ h => h)) (pa_cons (pe_ix ix_seq (pv 0) pe_int (fun _ _ => rfl)) (pa_cons (pe_ix ix_seq (pv 0) pe_int (fun _ _ => rfl)) (pa_cons (pe_ix ix_seq (pv 0) pe_int (fun _ _ => rfl)) (pa_cons (pe_ix ix_seq (pv 0) pe_int (fun _ _ => rfl)) pa_nil))))))) pss_nil)
      (pss_one (ps_ret (pe_make T.mk_End G_End_init (hr.mono (by decide)) (by rfl) T.m_End T.b_End_init .nil (passes_call (W := fun cls d _ H => E cls d H) (takes_of rfl rfl rfl rfl) (fun _ _ _ _ h => h)) (pa_cons (pe_ix ix_seq (pv 0) pe_int (fun _ _ => rfl)) (pa_cons (pe_ix ix_seq (pv 0) pe_int (fun _ _ => rfl)) (pa_cons (pe_ix ix_seq (pv 0) pe_int (fun _ _ => rfl)) (pa_cons (pe_ix ix_seq (pv 0) pe_int (fun _ _ => rfl)) pa_nil)))))))))), ?_⟩
  refine ⟨_, rfl, rIx_at (j := 0) hS rfl ⟨rfl, _, rfl, ?_⟩⟩
  refine ite2 (fun c => ?_) (fun c => ?_)
  · have e := str_eq_of c
    subst e
    obtain ⟨x0, x1, x2, rfl⟩ : ∃ x0 x1 x2, as = [x0, x1, x2] := by
      match as, hl with
      | [x0, x1, x2], _ => exact ⟨x0, x1, x2, rfl⟩
    exact ⟨_, rfl, rIx_at (j := 1) hS rfl ⟨_, rfl, rIx_at (j := 2) hS rfl ⟨_, rfl, rIx_at (j := 3) hS rfl (row_made rfl hd q qe)⟩⟩⟩
  refine ⟨_, rfl, rIx_at (j := 0) hS rfl ⟨rfl, _, rfl, ?_⟩⟩
  refine ite2 (fun c2 => ?_) (fun c2 => ?_)
  · have e := str_eq_of c2
    subst e
    obtain ⟨x0, x1, x2, rfl⟩ : ∃ x0 x1 x2, as = [x0, x1, x2] := by
      match as, hl with
      | [x0, x1, x2], _ => exact ⟨x0, x1, x2, rfl⟩
    exact ⟨_, rfl, rIx_at (j := 1) hS rfl ⟨_, rfl, rIx_at (j := 2) hS rfl ⟨_, rfl, rIx_at (j := 3) hS rfl (row_made rfl hd q qe)⟩⟩⟩
  refine ⟨_, rfl, rIx_at (j := 0) hS rfl ⟨rfl, _, rfl, ?_⟩⟩
  refine ite2 (fun c3 => ?_) (fun c3 => ?_)
  · have e := str_eq_of c3
    subst e
    obtain ⟨x0, x1, x2, x3, rfl⟩ : ∃ x0 x1 x2 x3, as = [x0, x1, x2, x3] := by
      match as, hl with
      | [x0, x1, x2, x3], _ => exact ⟨x0, x1, x2, x3, rfl⟩
    exact ⟨_, rfl, rIx_at (j := 1) hS rfl ⟨_, rfl, rIx_at (j := 2) hS rfl ⟨_, rfl, rIx_at (j := 3) hS rfl ⟨_, rfl, rIx_at (j := 4) hS rfl (row_made rfl hd q qe)⟩⟩⟩⟩
  have e1 : fnOf so = (["mood", "outcome", "sign", "part"] : List Str) := by unfold fnOf; rw [if_neg (str_ne_of c), if_neg (str_ne_of c2), if_neg (str_ne_of c3)]
  have e2 : wrOf so = wEnd := by unfold wrOf; rw [if_neg (str_ne_of c), if_neg (str_ne_of c2), if_neg (str_ne_of c3)]
  have e3 : clsOf T.toTxRows so = T.C_End := by unfold clsOf; rw [if_neg (str_ne_of c), if_neg (str_ne_of c2), if_neg (str_ne_of c3)]
  rw [e1] at hl
  rw [e1, e2, e3] at q
  rw [e2] at qe
  obtain ⟨x0, x1, x2, x3, rfl⟩ : ∃ x0 x1 x2 x3, as = [x0, x1, x2, x3] := by
    match as, hl with
    | [x0, x1, x2, x3], _ => exact ⟨x0, x1, x2, x3, rfl⟩
  exact ⟨_, rfl, rIx_at (j := 1) hS rfl ⟨_, rfl, rIx_at (j := 2) hS rfl ⟨_, rfl, rIx_at (j := 3) hS rfl ⟨_, rfl, rIx_at (j := 4) hS rfl (row_made rfl hd q qe)⟩⟩⟩⟩
end
end My

/-! ## The law's own look at names -/
namespace My
open PySem L2
abbrev s_is_name_law : Stmt := top 43
abbrev N_is_name_law : List Str := ["_law_value", "_law_barred", "_law_sign"]
abbrev P_is_name_law : List Str := ["_law_value"]
theorem sc_is_name_law : FnScope N_is_name_law P_is_name_law (defScope s_is_name_law) := ⟨rfl, rfl, rfl, by decide +kernel, rfl, by decide +kernel, by decide +kernel⟩
structure TxLawName (w : World) (K : PySem.W.Frag) (mg : Str → Option Value) where
  z_len : mg "len" = none
  z_isinstance : mg "isinstance" = none
  z_str : mg "str" = none
  f_is_name_law : Addr
  d_is_name_law : FuncData
  F_is_name_law : Fun K "_law_is_name" "_law_is_name" s_is_name_law f_is_name_law d_is_name_law
  m_is_name_law : mg "_law_is_name" = some (.ref f_is_name_law)
  b_is_name_law : Binds K d_is_name_law P_is_name_law []
theorem all_filter {α : Type} (p : α → Bool) : ∀ l : List α, l.all p = (l.filter fun c => !p c).isEmpty
  | [] => rfl
  | x :: l => by
    rw [List.all_cons, List.filter_cons]
    cases h : p x with
    | true =>
      rw [if_neg (by decide), ← all_filter p l]
      rfl
    | false =>
      rw [if_pos (by decide)]
      rfl
theorem map_empty {α β : Type} (f : α → β) (l : List α) : (l.map f).isEmpty = l.isEmpty := by cases l <;> rfl
theorem tyx_same {K : PySem.W.Frag} {H H' : Hp} (e : Same H H') {v : V} {t : Value} (h : TyX K H v t) : TyX K H' v t := by
  cases h with
  | base b =>
    cases b with
    | non => exact .base .non
    | bl x => exact .base (.bl x)
    | int i => exact .base (.int i)
    | str x => exact .base (.str x)
    | flt x => exact .base (.flt x)
    | lst h => exact .base (.lst (e _ _ h))
    | frz h => exact .base (.frz (e _ _ h))
    | tup h => exact .base (.tup (e _ _ h))
    | dK h => exact .base (.dK (e _ _ h))
    | dT h => exact .base (.dT (e _ _ h))
    | ins h cl a b c d => exact .base (.ins (e _ _ h) cl a b c d)
  | byt b => exact .byt b
  | set h => exact .set (e _ _ h)
  | kList h c => exact .kList h c
  | kTuple h c => exact .kTuple h c
  | kDict h c => exact .kDict h c
  | fTuple h => exact .fTuple (e _ _ h)
  | fDict h => exact .fDict (e _ _ h)
section
variable {P : Program} {w : World} {K : PySem.W.Frag} {mg : Str → Option Value} {base : Heap}
theorem ok_law_is_name (T : TxLawName w K mg) : FnOk P w K mg base CX0 1 T.f_is_name_law T.d_is_name_law P_is_name_law (spIsName K) := by
  refine T.F_is_name_law.ok sc_is_name_law (fun vs H Q E h => ?_) (fun cdv A outer s H vs Q E hr h => ?_)
  · obtain ⟨v, rfl, _⟩ := h
    rfl
  obtain ⟨v, rfl, hv, q⟩ := h
  refine ⟨_, (pss_cons (ps_set (i := 1) sc_is_name_law.nd rfl (Or.inl rfl) (pe_lst (pa_cons pe_str (pa_cons pe_str (pa_cons pe_str (pa_cons pe_str (pa_cons pe_str (pa_cons pe_str (pa_cons pe_str (pa_cons pe_str (pa_cons pe_str (pa_cons pe_str pa_nil))))))))))))
      (pss_cons (ps_if (PW.pt (pw_or (pt_not (pt_val (pe_callB (call_isiV K) (by rfl) T.z_isinstance (by decide +kernel) (pa_cons (pv 0) (pa_cons (pe_bltn (v := .ty "str") (by rfl) T.z_str (by decide +kernel) rfl) pa_nil))))) (pw_or (pt_not (pt_chain op_lt op_lt pe_int (pe_callB call_len_str (by rfl) T.z_len (by decide +kernel) (pa_cons (pv 0) pa_nil)) pe_int)) (pw_or1 (pt_cmpR (op_inK K) (pv 0) (pv 1) (by rfl)))))) (pss_one (ps_ret pe_bl)) pss_nil)
      (pss_one (ps_ret (pe_cmpR (op_eqEK K hr.units0) (pe_lc (own := [("_law_sign", 2)]) (g := gName 2) (by rfl) sc_is_name_law.nd (pi_str (pv 0)) (blkOk_by (own := [("_law_sign", 2)]) (N := N_is_name_law) (sc := defScope s_is_name_law) (by decide +kernel)) (fun _ _ _ _ _ => (pg_name (i := 2) sc_is_name_law.nd rfl (Or.inl rfl))) (fun _ _ _ _ _ => pts_one (by exact (pt_cmpR op_notIn_sign (pv 2) pe_str (by rfl)))) (fun _ _ _ _ _ => (pv 2))) (pe_lst pa_nil) (nomark _)))))), ?_⟩
  refine ⟨by show 10 ≤ sizeLine; decide, fun bl hbl => ?_⟩
  have s1 := same_upd hbl (.lst (BAR.map V.str))
  cases hv with
  | oth n ty k =>
    have e : nmV v = false := by cases v <;> first | rfl | exact absurd rfl (n _)
    refine ⟨_, rfl, v, .ty "str", _, _, _, rfl, .ty _, ?_, k, _, rfl, ?_⟩
    · exact tyx_same s1 ty
    have r := q _ s1
    rw [e] at r
    exact r
  | str x hx =>
    have hz : x.length ≤ sizeLine := by rw [sizeLine_eq]; omega
    have no : ∀ H', Same H H' → isNm x = false → Q (.bl false) H' := fun H' s' e => by
      have r := q H' s'
      rwa [show nmV (.str x) = false from e] at r
    refine ⟨_, rfl, .str x, .ty "str", _, _, true, rfl, .ty _, .base (.str x), kit_ty (by decide +kernel), _, rfl, ?_⟩
    refine ⟨_, rfl, x, rfl, hz, _, _, rfl, rfl, _, rfl, ?_⟩
    refine ite2 (fun c => ?_) (fun c => ?_)
    · have h1 : (0 : Int) < (x.length : Int) := of_decide_eq_true c
      refine ⟨_, _, rfl, rfl, _, rfl, ?_⟩
      refine ite2 (fun c => ?_) (fun c => ?_)
      · have h4 : ¬ (x.length : Int) < 5 := of_decide_eq_false (by simpa using c)
        exact no _ s1 (by unfold isNm; rw [show decide (x.length ≤ 4) = false from decide_eq_false (by omega)]; simp)
      · have h4 : (x.length : Int) < 5 := of_decide_eq_true (by simpa using c)
        refine ⟨_, rfl, _, rfl, bl, BAR.map V.str, rfl, .inl (SqL.of upd_same), rfl, by decide +kernel, _, rfl, ?_⟩
        refine ite2 (fun c => ?_) (fun c => ?_)
        · have hb : BAR.contains x = true := by
            have c' : inV (.str x) (BAR.map V.str) = true := c
            rwa [inV_strs] at c'
          exact no _ s1 (by unfold isNm; rw [hb]; simp)
        · have hb : BAR.contains x = false := by
            have c' : ¬ inV (.str x) (BAR.map V.str) = true := c
            rw [inV_strs] at c'
            exact Bool.eq_false_iff.mpr c'
          refine ⟨_, rfl, x, rfl, fun D hD => lc_it walk_str (fun i H' => Same H H' ∧ H' D = some (.lst ((((x.cps.toList.take i).filter fun c => !decide (c ∈ ABC.cps.toList))).map fun c => V.str ⟨#[c]⟩))) ⟨s1.trans (same_upd hD _), upd_same⟩ (fun _ _ _ _ => trivial) ?_ ?_⟩
          · rintro i v H1 H2 hi ⟨s1', hD1⟩ ⟨rfl, c, hc, rfl⟩
            have hi' : i ≤ 4 := by have : i < x.length := hi; omega
            have hc' : x.cps.toList[i]? = some c := by rw [Array.getElem?_toList]; exact hc
            refine ⟨rfl, ?_⟩
            refine ⟨_, rfl, c, ABC, rfl, rfl, _, rfl, ?_⟩
            refine ite2 (fun c2 => ?_) (fun c2 => ?_)
            · refine ⟨_, rfl, _, hD1, small1000 ?_, ?_, ?_⟩
              · rw [List.length_map]
                exact Nat.le_trans (List.length_filter_le _ _) (by rw [List.length_take]; omega)
              · intro b o e
                rw [upd_ne (ne_of_none (s1 b o e) hD)]
                exact s1' b o e
              · have c3 : (!decide (c ∈ ABC.cps.toList)) = true := c2
                have f1 : ([c] : List Nat).filter (fun c => !decide (c ∈ ABC.cps.toList)) = [c] := by rw [List.filter_cons, if_pos c3]; rfl
                rw [upd_same, List.take_add_one, hc', List.filter_append, show (some c).toList = [c] from rfl, f1, List.map_append]
                rfl
            · refine ⟨s1', ?_⟩
              have c3 : (!decide (c ∈ ABC.cps.toList)) = false := Bool.eq_false_iff.mpr c2
              have f1 : ([c] : List Nat).filter (fun c => !decide (c ∈ ABC.cps.toList)) = [] := by rw [List.filter_cons, if_neg (by rw [c3]; decide)]; rfl
              rw [hD1, List.take_add_one, hc', List.filter_append, show (some c).toList = [c] from rfl, f1, List.append_nil]
          · rintro H' ⟨s1', hD1⟩
            refine ⟨Nat.zero_le _, fun e he => ⟨D, e, _, rfl, rfl, SqL.of (by rw [upd_ne (ne_of_none hD1 he)]; exact hD1), SqL.of upd_same, ?_⟩⟩
            have r := q _ (s1'.trans (same_upd he (.lst [])))
            have e2 : nmV (.str x) = (((x.cps.toList.take x.cps.size).filter fun c => !decide (c ∈ ABC.cps.toList)).map fun c => V.str ⟨#[c]⟩).isEmpty := by
              show isNm x = _
              unfold isNm
              rw [decide_eq_true (show 1 ≤ x.length by omega), decide_eq_true (show x.length ≤ 4 by omega), hb, List.take_of_length_le (by simp), map_empty, ← all_filter]
              rfl
            rw [e2] at r
            exact r
    · have h1 : ¬ (0 : Int) < (x.length : Int) := of_decide_eq_false (Bool.eq_false_iff.mpr c)
      refine ⟨_, rfl, ?_⟩
      exact no _ s1 (by unfold isNm; rw [show decide (1 ≤ x.length) = false from decide_eq_false (by omega)]; simp)
end
end My

/-! ## isinstance of a caught error that has a dict of its own -/
namespace PySem.W
open PySem PySem.Spec PySem.Calls PyProof.Rows
section
variable {prog : Program} {w : World} {A : Around} {E : Value → Shared → Prop} {s : Shared} {K : Frag} {x D : Addr} {ox dd : Obj}
theorem my_classD {Q : Option Value → Shared → Prop} (c1 : findIn K (.ref D) "__getattribute__" = some (some (.builtin "BaseException.__getattribute__"))) (c2 : findIn K (.ref D) "__getattr__" = some none)
    (c3 : subIn K (.ref D) (.type "BaseException") = some true) (c4 : hasDictIn K D = true) (c5 : findIn K (.ref D) "__class__" = some (some (.builtin "object.__class__")))
    (c6 : specialIn K (.builtin "object.__class__") "__get__" = some (some (.builtin "getset_descriptor.__get__"))) (c7 : takesIn K (.builtin "object.__class__") = some true) (c8 : mroIn K D (.type "object") = some true)
    (Y : K.In s.heap) (J : InstAt s.heap x ox D (some dd)) (q : Q (some (.ref D)) { s with toks := s.toks + 1 }) : wpAny (model prog w) A (getAttr? (.ref x) "__class__") Q E s := by
  have fo : findObj K D (some dd) "__class__" = some (.bind (.builtin "getset_descriptor.__get__") (.builtin "object.__class__")) := findObj_data (by obtain ⟨cd, e, _⟩ := any_some c4; rw [e]; rfl) c5 c6 c7
  obtain ⟨hh, gg, dr, tt, oo⟩ := s
  have M0 := J.type (M := model prog w); have M1 := looks_findIn (M := model prog w) Y c1; have M2 := looks_findIn (M := model prog w) Y c2; have M3 := looks_find (M := model prog w) Y J fo
  have isb : Looks (model prog w) hh (isInstance (.ref x) (.type "BaseException")) true := M0.andThen (looks_subIn Y c3)
  have n2 : (Value.builtin "BaseException.__getattribute__" == Value.builtin "object.__getattribute__") = false := by decide +kernel
  have n1 : (onTheHeap (Value.ref D) && Value.builtin "BaseException.__getattribute__" == Value.builtin "object.__getattribute__") = false := by rw [n2]; rfl
  unfold getAttr? getAttrBy? getAttrBy; refine wpAny_bind (wpAny_mkText (wpAny_bind (wpAny_attempt (wpAny_holding (wpAny_bind (M0.at (wpAny_bind (M1.at ?_))))))))
  show wpAny _ _ (if (onTheHeap (Value.ref D) && Value.builtin "BaseException.__getattribute__" == Value.builtin "object.__getattribute__") = true then _ else _) _ _ _; rw [n1, if_neg Bool.false_ne_true]
  unfold getAttrByItsOwn hookBefore; refine wpAny_bind ?_; rw [if_pos (show onTheHeap (Value.ref D) = true from rfl)]; refine M2.at ?_
  refine wpAny_bind (wpAny_attempt (wpAny_holding ?_)); unfold callGetattribute; rw [show (false && onTheHeap (Value.builtin "BaseException.__getattribute__")) = false from rfl, if_neg Bool.false_ne_true]
  unfold boundAndCalled; rw [PySem.F.excAttr_ValueError.ga.bind (.ref x)]; refine wpAny_bind (wpAny_pure ?_)
  show wpAny _ _ (call (.builtin "BaseException.__getattribute__") [.ref x, .str "__class__" tt]) _ _ _
  refine wpAny_call (codeAny_call_builtin PySem.F.excAttr_ValueError.ga.plain PySem.F.entry_bexc_ga (@check_slot (model prog w) _ _ ⟨hh, gg, dr, tt + 1, oo⟩ "BaseException.__getattribute__" "BaseException" "__getattribute__" (.ref x) [.str "__class__" tt] [] _ (by decide +kernel) (by decide +kernel) isb (PySem.F.args_bexc_ga (.ref x) (.str "__class__" tt)) ?_))
  unfold Builtin.«object.__getattribute__»; refine wpAny_bind (wpAny_of_eq (a := ((Value.ref x : Value), [Value.str "__class__" tt])) (by first | rfl | (simp only [slotArgs]; rfl)) (wpAny_bind (wpAny_pure (wpAny_bind (M0.at (wpAny_bind (M3.at ?_)))))))
  show wpAny _ _ (holding [Value.builtin "object.__class__"] (call (.builtin "getset_descriptor.__get__") [.builtin "object.__class__", .ref x, .ref D]) >>= ret) _ _ _
  refine wpAny_bind (wpAny_holding (wpAny_call (class_get (s := ⟨hh, gg, dr, tt + 1, oo⟩) (ox := ox) (od := some dd) Y J c8 (wpAny_pure ?_))))
  show wpAny _ _ (handedOut (.ref D)) _ _ _; rw [handedOut_of (v := .ref D) rfl]
  first | exact wpAny_pure (wpAny_pure q) | exact wpAny_pure q | exact wpAny_pure (wpAny_bind (wpAny_pure (wpAny_pure q)))
theorem my_kitD (c1 : findIn K (.ref D) "__getattribute__" = some (some (.builtin "BaseException.__getattribute__"))) (c2 : findIn K (.ref D) "__getattr__" = some none)
    (c3 : subIn K (.ref D) (.type "BaseException") = some true) (c4 : hasDictIn K D = true) (c5 : findIn K (.ref D) "__class__" = some (some (.builtin "object.__class__")))
    (c6 : specialIn K (.builtin "object.__class__") "__get__" = some (some (.builtin "getset_descriptor.__get__"))) (c7 : takesIn K (.builtin "object.__class__") = some true) (c8 : mroIn K D (.type "object") = some true) :
    KitX K (.ref x) (.ref D) (fun h => InstAt h x ox D (some dd)) where
  ty := fun _ _ _ J => J.type
  it := fun _ _ Y _ => by
    obtain ⟨cd, e, _⟩ := any_some c4; unfold clsIn at e
    split at e
    · rename_i a1 a2 a3 a4 e2
      intro A2 Q2 E2 s2 k q; unfold isType loadHead; exact wpAny_bind (wpAny_loadPart (k _ _ (Y _ _ e2)) (wpAny_pure q))
    · cases e
  ne := (handS_kitx_exc (x := x) (ox := ox) c1 c2 c3 c4 c5 c6 c7 c8).ne
  ca := fun Y J k => my_classD c1 c2 c3 c4 c5 c6 c7 c8 Y J k
end
end PySem.W
namespace My
open PySem L2
/-- isinstance(e, c), e the error that the suite holds, with its own dict -/
def rIsD (K : PySem.W.Frag) (a : Addr) (cls : Value) (d : Option Addr) : List V → Hp → VK → Prop := fun xs H Q => ∃ (D dd : Addr) (fs : List (Str × V)) (c : V) (cv : Value) (b : Bool), xs = [.ref a, c] ∧ cls = .ref D ∧ d = some dd ∧ H dd = some (.xd fs) ∧ ExcC K D ∧ (∀ u, RelV c u → u = cv) ∧
  PySem.W.kitOne K (.ref D) cv = some b ∧ Q (.bl b) H
theorem call_isD {X : Cx} {a : Addr} {cls : Value} {d : Option Addr} {oe : Obj} {pn : List (Addr × Obj)} (hz : Zc cls d oe) (hf : ∃ vs, oe.data = .fields vs) : CallR (X.suite a ((a, oe) :: pn)) (.builtin "isinstance") (rIsD X.K a cls d) := by
  intro pins s σ H xs us Q I r h
  obtain ⟨D, dd, fs, c, cv, b, rfl, e1, e2, hd, C, hcv, e, q⟩ := h
  subst e1 e2
  cases r with
  | cons rx rr =>
  cases rr with
  | cons rt rr =>
  cases rr
  cases rx
  have ec := hcv _ rt
  subst ec
  obtain ⟨hget, _⟩ := I.pin (a, oe) (List.mem_append_left _ List.mem_cons_self)
  obtain ⟨mA, hns, hr⟩ := I.hok dd _ hd
  obtain ⟨od, ho, hl⟩ := lookIn_ns hns
  obtain ⟨vs, hv⟩ := hf
  have J : PySem.W.InstAt s.heap a oe D (some od) := ⟨hget, hz.1, by unfold PySem.W.notCls; rw [hv] <;> rfl, by rw [hz.2]; exact ho⟩
  exact PySem.W.kia_one (PySem.W.my_kitD C.hg C.hk C.hs C.hd C.ha C.hn C.ht C.hm) I.kIn J e (fun z => nomatch z) fun tk => ⟨.bl b, H, I.tok tk, rfl, q⟩
end My

/-! ## C(e, ..) within try, where the suite's words may hang on the slots -/
namespace My
open PySem PySem.Spec PyProof.Rows L2
def tMakeS (C : Addr) (sp : Sp) (dvs : List V) (E : L2.St → XK) (t : TA) : TE := fun σ H Q => t σ H fun vs H1 => ∀ x dx, H1 x = none → H1 dx = none → dx ≠ x →
  sp (.ref x :: (vs ++ dvs)) (upd (upd H1 dx (.own x)) x (.ins C dx [])) (fun v H2 => v = .non ∧ Q (.ref x) H2) (E σ)
section
variable {X : Cx} {CX : CXT} {k : Nat} {f C : Addr} {fd : FuncData} {ps : List Str} {sp : Sp} {E : L2.St → XK} {x : Str} {p pos : Pos} {e : Expr} {es : List Expr} {t : TA} {ds : List Value} {dvs : List V}
set_option maxHeartbeats 400000 in
theorem make_at {pins : List (Addr × Obj)} {σ : L2.St} {H : Hp} {s : Shared} {Q : VK} {us : List Value} {vs : List V} (M : Mk X.K C f) (F : FnOk X.prog X.w X.K X.mg X.base CX k f fd ps sp) (room : Room (k + 1) X.A) (bd : Binds X.K fd ps ds) (dv : Vals dvs ds) (out : PassesAt CX X σ (E σ)) (I : Inv X pins σ H s) (r : Vals vs us)
    (h : ∀ x dx, H x = none → H dx = none → dx ≠ x → sp (.ref x :: (vs ++ dvs)) (upd (upd H dx (.own x)) x (.ins C dx [])) (fun v H2 => v = .non ∧ Q (.ref x) H2) (E σ)) : wpAny (model X.prog X.w) X.A (call (.ref C) us) (EP X pins σ Q) X.xe s := by
  have todo := h (s.heap.objs.size + 1) s.heap.objs.size (I.hok.fresh (Nat.le_succ _)) (I.hok.fresh (Nat.le_refl _)) (Nat.ne_of_lt (Nat.lt_succ_self _))
  have J := Inv.made (C := C) I
  have rs : Vals (V.ref (s.heap.objs.size + 1) :: (vs ++ dvs)) (Value.ref (s.heap.objs.size + 1) :: (us ++ ds)) := .cons rfl (r.append dv)
  have many : (Value.ref (s.heap.objs.size + 1) :: us ++ ds).length = ps.length := rs.length ▸ F.len _ _ _ _ todo
  have body := F.run _ X.stack _ _ ⟨Value.ref (s.heap.objs.size + 1) :: us, []⟩ (Value.ref (s.heap.objs.size + 1) :: (us ++ ds)) _ _ (E σ) (room.make C us []) (J.env0.make C us []) (bd _ (Value.ref (s.heap.objs.size + 1) :: us) J.kIn many) rs todo
  refine wpAny_call (make_map (f := f) I.kIn M.makes M.init (beq_iff_eq.mp M.fn) (codeAny_mono body fun q s' hq => ?_))
  match q, hq with
  | .error e, hq => exact out pins _ _ e s' J hq
  | .ok (.ret u), hq =>
    obtain ⟨v, H2, J2, rv, ev, z⟩ := J.after hq
    rw [ev] at rv
    exact ⟨rv, V.ref (s.heap.objs.size + 1), H2, J2, rfl, z⟩
theorem pe_makeS (M : Mk X.K C f) (F : FnOk X.prog X.w X.K X.mg X.base CX k f fd ps sp) (room : Room (k + 1) X.A) (gl : Gl X x) (gm : X.mg x = some (.ref C)) (bd : Binds X.K fd ps ds) (dv : Vals dvs ds) (out : ∀ σ, PassesAt CX X σ (E σ)) (ha : PA X (e :: es) t)
    (db : (x == ("__debug__" : Str)) = false := by decide) (e1 : starEach (e :: es) X.env = (false, eval e X.env) :: starEach es X.env := by rfl) (e2 : (backTo pos (starEach es X.env)).any (·.1) = false := by rfl) : PE X (.Call (.Name x p) (e :: es) [] pos) (tMakeS C sp dvs E t) :=
  ⟨fun pins s σ H Q I h => wpAny_Call_Name_kw (ld_glob I gl gm (PySem.W.callWith_K (h₀ := X.base) I.ok.mod.kin M.kp (thn (ha.run pos pins s σ H _ I h) fun us s1 ⟨vs, H1, I1, r, q⟩ => ⟨I1.kIn, make_at M F room bd dv (out σ) I1 r q⟩) e1 e2) db)⟩
end
end My

/-! ## The law's own look at sequences of names -/
namespace My
open PySem L2
abbrev s_are_names_law : Stmt := top 44
abbrev N_are_names_law : List Str := ["_law_value", "_law_fewest", "_law_at", "_law_name"]
abbrev P_are_names_law : List Str := ["_law_value", "_law_fewest"]
theorem sc_are_names_law : FnScope N_are_names_law P_are_names_law (defScope s_are_names_law) := ⟨rfl, rfl, rfl, by decide +kernel, rfl, by decide +kernel, by decide +kernel⟩
structure TxLawSeq (w : World) (K : PySem.W.Frag) (mg : Str → Option Value) extends TxLawName w K mg where
  z_list : mg "list" = none
  z_tuple : mg "tuple" = none
  z_enumerate : mg "enumerate" = none
  f_are_names_law : Addr
  d_are_names_law : FuncData
  F_are_names_law : Fun K "_law_are_names" "_law_are_names" s_are_names_law f_are_names_law d_are_names_law
  m_are_names_law : mg "_law_are_names" = some (.ref f_are_names_law)
  b_are_names_law : Binds K d_are_names_law P_are_names_law []
/-- what the law's look answers: few names at least, each once -/
inductive ArgV (K : PySem.W.Frag) (H : Hp) (few : Nat) : V → Bool → Prop where
  | no {v : V} (h : SeqV K H v false) : ArgV K H few v false
  | seq {a : Addr} {xs : List V} (h : SqA K H a xs) (e : ∀ x ∈ xs, AnyV K H x) (n : xs.length ≤ 1000) : ArgV K H few (.ref a) (namesB xs && decide (few ≤ xs.length))
theorem ArgV.same {K : PySem.W.Frag} {H H' : Hp} {few : Nat} {v : V} {b : Bool} (h : ArgV K H few v b) (e : Same H H') : ArgV K H' few v b := by
  cases h with
  | no h => exact .no (h.same e)
  | seq h a n => exact .seq (h.same e) (fun x hx => (a x hx).same e) n
theorem ArgV.names {K : PySem.W.Frag} {H : Hp} {v : V} {b : Bool} (h : ArgV K H 0 v b) : NamesV K H v b := by
  cases h with
  | no h => exact .no h
  | @seq a xs h e n =>
    have z := NamesV.seq h e n
    rw [show decide (0 ≤ xs.length) = true from decide_eq_true (Nat.zero_le _), Bool.and_true]
    exact z
theorem ArgV.some {K : PySem.W.Frag} {H : Hp} {v : V} {b : Bool} (h : ArgV K H 1 v b) : SomeV K H v b := by
  cases h with
  | no h => exact .no h
  | seq h e n => exact .seq h e n
theorem namesB_all {xs : List V} (h : namesB xs = true) : xs.all nmV = true ∧ (xs.map txV).Nodup := by
  unfold namesB at h
  rw [Bool.and_eq_true] at h
  exact ⟨h.1, of_decide_eq_true h.2⟩
theorem namesB_of {xs : List V} (h : xs.all nmV = true) (n : (xs.map txV).Nodup) : namesB xs = true := by
  unfold namesB
  rw [h, decide_eq_true n]
  rfl
theorem namesB_take {xs : List V} (i : Nat) (h : namesB xs = true) : namesB (xs.take i) = true := by
  obtain ⟨h1, h2⟩ := namesB_all h
  refine namesB_of (List.all_eq_true.mpr fun x hx => List.all_eq_true.mp h1 x (List.mem_of_mem_take hx)) ?_
  rw [List.map_take]
  exact h2.sublist (List.take_sublist _ _)
theorem namesB_snoc {xs : List V} {i : Nat} {x : V} (e : xs[i]? = some x) (h : namesB (xs.take i) = true) : namesB (xs.take (i + 1)) = (nmV x && !((xs.take i).map txV).contains (txV x)) := by
  obtain ⟨h1, h2⟩ := namesB_all h
  rw [List.take_add_one, e]
  unfold namesB
  rw [List.all_append, List.map_append, h1]
  show ((true && (nmV x && true)) && _) = _
  rw [Bool.true_and, Bool.and_true]
  congr 1
  cases c : ((xs.take i).map txV).contains (txV x) with
  | true =>
    refine decide_eq_false fun z => ?_
    have m := List.contains_iff_mem.mp c
    exact (List.nodup_append.mp z).2.2 _ m _ (by show _ ∈ [txV x]; exact List.mem_singleton.mpr rfl) rfl
  | false =>
    refine decide_eq_true (List.nodup_append.mpr ⟨h2, (by show ([txV x] : List Str).Nodup; simp), fun a ha b hb z => ?_⟩)
    have hb' : b = txV x := List.mem_singleton.mp hb
    rw [z, hb'] at ha
    have m := List.contains_iff_mem.mpr ha
    rw [c] at m
    cases m
theorem names_flat {xs : List V} (h : xs.all nmV = true) : xs.all flatV = true ∧ ∀ y, inV (.str y) xs = (xs.map txV).contains y := by
  have e := strs_of_nm h
  refine ⟨?_, fun y => ?_⟩
  · rw [e, List.all_map]
    exact List.all_eq_true.mpr fun _ _ => rfl
  · conv => lhs; rw [e]
    exact inV_strs y _
theorem cut_to {xs : List V} {i : Nat} (h : i ≤ xs.length) : cutV xs none (some (i : Int)) = xs.take i := by
  unfold cutV
  rw [HT.sIx_nat, HT.sIx_none, Nat.min_eq_left h]
  simp
theorem nmV_str {x : V} (h : nmV x = true) : ∃ y, x = .str y := by
  cases x with
  | str y => exact ⟨y, rfl⟩
  | _ => cases h
def spLawAre (K : PySem.W.Frag) : Sp := fun vs H Q _ => ∃ (v : V) (few : Nat) (b : Bool), vs = [v, .int (few : Int)] ∧ ArgV K H few v b ∧ ∀ H', Same H H' → Q (.bl b) H'
section
variable {P : Program} {w : World} {K : PySem.W.Frag} {mg : Str → Option Value} {base : Heap}
theorem ok_law_are (T : TxLawSeq w K mg) : FnOk P w K mg base CX0 2 T.f_are_names_law T.d_are_names_law P_are_names_law (spLawAre K) := by
  have G_is_name_law := ok_law_is_name (P := P) (w := w) (base := base) T.toTxLawName
  refine T.F_are_names_law.ok sc_are_names_law (fun vs H Q E h => ?_) (fun cdv A outer s H vs Q E hr h => ?_)
  · obtain ⟨v, few, b, rfl, _⟩ := h
    rfl
  obtain ⟨v, few, b, rfl, hv, q⟩ := h
  refine ⟨_, (pss_cons (ps_if (PW.pt (pw_or (pt_not (pt_val (pe_callB (call_isiTV K) (by rfl) T.z_isinstance (by decide +kernel) (pa_cons (pv 0) (pa_cons (pe_tup (pa_cons (pe_bltn (v := .ty "list") (by rfl) T.z_list (by decide +kernel) rfl) (pa_cons (pe_bltn (v := .ty "tuple") (by rfl) T.z_tuple (by decide +kernel) rfl) pa_nil))) pa_nil))))) (pw_or1 (pt_cmpR op_lt (pe_callB (call_lenK K) (by rfl) T.z_len (by decide +kernel) (pa_cons (pv 0) pa_nil)) (pv 1) (nomark _))))) (pss_one (ps_ret pe_bl)) pss_nil)
      (pss_cons (ps_for PassesOwn.never rfl (pi_enumA K (by rfl) T.z_enumerate (pa_cons (pv 0) pa_nil)) (pg_tup rfl (pgs_cons (pg_name (i := 2) sc_are_names_law.nd rfl (Or.inl rfl)) (pgs_cons (pg_name (i := 3) sc_are_names_law.nd rfl (Or.inl rfl)) pgs_nil))) (pss_one (ps_if (PW.pt (pw_or (pt_not (pt_val (pe_call G_is_name_law (hr.mono (by decide)) (by rfl) T.m_is_name_law T.F_is_name_law.kp T.b_is_name_law .nil pass0 (pa_cons (pv 3) pa_nil)))) (pw_or1 (pt_cmpR (op_inK K) (pv 3) (pe_slice (SlR.or (sl_listK K) (sl_tupK K)) (pv 0) po_none (po_some (pv 2))) (by rfl))))) (pss_one (ps_ret pe_bl)) pss_nil)))
      (pss_one (ps_ret pe_bl)))), ?_⟩
  cases hv with
  | no h =>
    refine ⟨_, rfl, by show 2 ≤ sizeLine; decide, fun tp htp => ?_⟩
    have y := same_upd htp (.tup [.ty "list", .ty "tuple"])
    obtain ⟨t, ty, k⟩ := h.same y
    refine ⟨v, tp, _, t, _, false, rfl, upd_same, .cons (.ty _) (.cons (.ty _) .nil), ty, k, _, rfl, ?_⟩
    exact q _ y
  | @seq a xs h hx hn =>
    refine ⟨_, rfl, by show 2 ≤ sizeLine; decide, fun tp htp => ?_⟩
    have y := same_upd htp (.tup [.ty "list", .ty "tuple"])
    obtain ⟨t, ty, k⟩ := (h.seqV).same y
    refine ⟨.ref a, tp, _, t, _, true, rfl, upd_same, .cons (.ty _) (.cons (.ty _) .nil), ty, k, ?_⟩
    refine ⟨_, rfl, ?_⟩
    refine ⟨_, rfl, a, xs, rfl, h.same y, _, rfl, _, _, rfl, rfl, _, rfl, ?_⟩
    generalize upd H tp (.tup [.ty "list", .ty "tuple"]) = H0 at y
    refine ite2 (fun c => ?_) (fun c => ?_)
    · have n : ¬ few ≤ xs.length := fun z => by
        have c' := of_decide_eq_true c
        omega
      have r := q _ y
      rw [decide_eq_false n, Bool.and_false] at r
      exact r
    have ln : few ≤ xs.length := by
      have c' : ¬ ((xs.length : Int) < (few : Int)) := fun z => c (decide_eq_true z)
      omega
    rw [decide_eq_true ln, Bool.and_true] at q
    refine ⟨_, rfl, a, xs, rfl, h.same y, fun J G g0 gs wk => for_it wk (fun i σ H' => ∃ (v2 v3 : Option V), σ = [some (.ref a), some (.int (few : Int)), v2, v3] ∧ Same H0 H' ∧ namesB (xs.take i) = true) ⟨none, none, rfl, Same.refl _, rfl⟩
      (fun i σ H' _ ⟨_, _, _, k, _⟩ => gs _ _ k g0) ?_ ?_⟩
    · rintro i x σ H2 H3 hi ⟨v2, v3, rfl, s2, eq⟩ ⟨tq, x1, x2, rfl, htq, rfl, hx1, hx2⟩
      cases hx1
      have s3 := s2.trans (same_upd htq (.tup [.int (i : Int), x2]))
      refine ⟨tq, _, rfl, SqT.of upd_same, rfl, _, _, rfl, _, _, rfl, rfl, ?_⟩
      have ax := (hx x2 (List.mem_of_getElem? hx2)).same (y.trans s3)
      refine ⟨_, rfl, x2, rfl, ax, fun H4 s4 => ⟨_, rfl, ?_⟩⟩
      have sn := namesB_snoc hx2 eq
      have t4 := s3.trans s4
      have no : ∀ H', Same H0 H' → namesB (xs.take (i + 1)) = false → Q (.bl false) H' := fun H' s' e => by
        have r := q H' (y.trans s')
        cases e2 : namesB xs with
        | false => rwa [e2] at r
        | true => rw [namesB_take (i + 1) e2] at e; cases e
      refine ite2 (fun c => ?_) (fun c => ?_)
      · refine no H4 t4 ?_
        rw [sn, bnot_eq c]
        rfl
      have nm2 : nmV x2 = true := bnot_ne c
      obtain ⟨z, rfl⟩ := nmV_str nm2
      rw [nm2, Bool.true_and] at sn
      have hil : i ≤ xs.length := by omega
      obtain ⟨fl, inn⟩ := names_flat (namesB_all eq).1
      refine ⟨_, rfl, _, rfl, _, rfl, (i : Int), rfl, ?_⟩
      have hS := (h.same y).same t4
      rcases hS with hS | hS
      · refine .inl ⟨a, xs, rfl, hS, fun p hp => ?_⟩
        rw [cut_to hil]
        refine ⟨p, xs.take i, rfl, .inl (SqL.of upd_same), rfl, fl, _, rfl, ?_⟩
        rw [inn]
        have t5 := t4.trans (same_upd hp (.lst (xs.take i)))
        refine ite2 (fun c => ?_) (fun c => ?_)
        · refine no _ t5 ?_
          have c' : ((xs.take i).map txV).contains z = true := c
          rw [sn, show txV (.str z) = z from rfl, c']
          rfl
        · refine ⟨_, _, rfl, t5, ?_⟩
          have c' : ¬ ((xs.take i).map txV).contains z = true := c
          rw [sn, show txV (.str z) = z from rfl, Bool.eq_false_iff.mpr c']
          rfl
      · refine .inr ⟨a, xs, rfl, hS, fun zz => ?_, fun p hp => ?_⟩
        · have z2 := zz.2
          rw [HT.sIx_nat, Nat.min_eq_left hil] at z2
          omega
        rw [cut_to hil]
        refine ⟨p, xs.take i, rfl, .inr (SqT.of upd_same), rfl, fl, _, rfl, ?_⟩
        rw [inn]
        have t5 := t4.trans (same_upd hp (.tup (xs.take i)))
        refine ite2 (fun c => ?_) (fun c => ?_)
        · refine no _ t5 ?_
          have c' : ((xs.take i).map txV).contains z = true := c
          rw [sn, show txV (.str z) = z from rfl, c']
          rfl
        · refine ⟨_, _, rfl, t5, ?_⟩
          have c' : ¬ ((xs.take i).map txV).contains z = true := c
          rw [sn, show txV (.str z) = z from rfl, Bool.eq_false_iff.mpr c']
          rfl
    · rintro σ H2 ⟨v2, v3, rfl, s2, eq⟩
      rw [List.take_length] at eq
      rw [eq] at q
      exact q _ (y.trans s2)
end
end My

/-! ## The law's first wrong argument of a service -/
namespace My
open PySem L2
abbrev s_wrong : Stmt := top 45
abbrev N_wrong : List Str := ["_law_some", "_law_is_row_bad", "_law_word", "_law_value", "_law_fewest"]
abbrev P_wrong : List Str := ["_law_some", "_law_is_row_bad"]
theorem sc_wrong : FnScope N_wrong P_wrong (defScope s_wrong) := ⟨rfl, rfl, rfl, by decide +kernel, rfl, by decide +kernel, by decide +kernel⟩
structure TxWrongS (w : World) (K : PySem.W.Frag) (mg : Str → Option Value) extends TxLawSeq w K mg where
  f_wrong : Addr
  d_wrong : FuncData
  F_wrong : Fun K "_law_wrong" "_law_wrong" s_wrong f_wrong d_wrong
  m_wrong : mg "_law_wrong" = some (.ref f_wrong)
  b_wrong : Binds K d_wrong P_wrong []
def optV : Option Str → V
  | none => .non
  | some x => .str x
theorem dec_opt (x y : Option Str) : decide (optV x = optV y) = decide (x = y) := by
  cases x <;> cases y <;> simp [optV]
theorem scal_opt (x y : Option Str) : scal (optV x) (optV y) = true := by
  cases x <;> cases y <;> rfl
theorem ixl_at {K : PySem.W.Frag} {H : Hp} {a : Addr} {xs : List V} {j : Nat} {v : V} {Q : VK} (h : SqL K H a xs) (e : xs[j]? = some v) (q : Q v H) : rIxL K (.ref a) (.int (j : Int)) H Q := ⟨a, _, _, _, rfl, rfl, h, atI_nat e, q⟩
def spWrongS (K : PySem.W.Frag) : Sp := fun vs H Q _ => ∃ (a : Addr) (n k wt lv rw : V) (b1 b2 b3 bad : Bool), vs = [.ref a, .bl bad] ∧ SqL K H a [n, k, wt, lv, rw] ∧ AnyV K H n ∧ ArgV K H 1 k b1 ∧ ArgV K H 0 wt b2 ∧ ArgV K H 0 lv b3 ∧
  ∀ H', Same H H' → Q (optV (wrSvc (nmV n) b1 b2 b3 (!bad))) H'
section
variable {P : Program} {w : World} {K : PySem.W.Frag} {mg : Str → Option Value} {base : Heap}
theorem ok_wrongS (T : TxWrongS w K mg) : FnOk P w K mg base CX0 3 T.f_wrong T.d_wrong P_wrong (spWrongS K) := by
  have G_is_name_law := ok_law_is_name (P := P) (w := w) (base := base) T.toTxLawName
  have G_are_names_law := ok_law_are (P := P) (w := w) (base := base) T.toTxLawSeq
  refine T.F_wrong.ok sc_wrong (fun vs H Q E h => ?_) (fun cdv A outer s H vs Q E hr h => ?_)
  · obtain ⟨a, n, k, wt, lv, rw, b1, b2, b3, bad, rfl, _⟩ := h
    rfl
  obtain ⟨a, n, k, wt, lv, rw, b1, b2, b3, bad, rfl, hS, hn, hk, hw, hl, q⟩ := h
  refine ⟨_, (pss_cons (ps_if (pt_not (pt_val (pe_call G_is_name_law (hr.mono (by decide)) (by rfl) T.m_is_name_law T.F_is_name_law.kp T.b_is_name_law .nil pass0 (pa_cons (pe_ix (ix_listK K) (pv 0) pe_int (fun _ _ => rfl)) pa_nil)))) (pss_one (ps_ret pe_str)) pss_nil)
      (pss_cons (ps_for PassesOwn.never rfl (pi_tupK K (pe_tup (pa_cons (pe_tup (pa_cons pe_str (pa_cons (pe_ix (ix_listK K) (pv 0) pe_int (fun _ _ => rfl)) (pa_cons pe_int pa_nil)))) (pa_cons (pe_tup (pa_cons pe_str (pa_cons (pe_ix (ix_listK K) (pv 0) pe_int (fun _ _ => rfl)) (pa_cons pe_int pa_nil)))) (pa_cons (pe_tup (pa_cons pe_str (pa_cons (pe_ix (ix_listK K) (pv 0) pe_int (fun _ _ => rfl)) (pa_cons pe_int pa_nil)))) pa_nil))))) (pg_tup rfl (pgs_cons (pg_name (i := 2) sc_wrong.nd rfl (Or.inl rfl)) (pgs_cons (pg_name (i := 3) sc_wrong.nd rfl (Or.inl rfl)) (pgs_cons (pg_name (i := 4) sc_wrong.nd rfl (Or.inl rfl)) pgs_nil)))) (pss_one (ps_if (pt_not (pt_val (pe_call G_are_names_law (hr.mono (by decide)) (by rfl) T.m_are_names_law T.F_are_names_law.kp T.b_are_names_law .nil pass0 (pa_cons (pv 3) (pa_cons (pv 4) pa_nil))))) (pss_one (ps_ret (pv 2))) pss_nil)))
      (pss_one (ps_ret (pe_ifExp (pt_val (pv 1)) pe_str pe_non))))), ?_⟩
  refine ⟨_, rfl, ixl_at (j := 0) hS rfl ⟨_, rfl, hn, fun H1 s1 => ⟨_, rfl, ?_⟩⟩⟩
  refine ite2 (fun c => ?_) (fun c => ?_)
  · have r := q _ s1
    unfold wrSvc at r
    rw [if_pos (bnot_eq c)] at r
    exact r
  have w0 : ¬ nmV n = false := fun z => by rw [bnot_ne c] at z; cases z
  have hS1 := seqL_same s1 hS
  refine ⟨_, rfl, ixl_at (j := 1) hS1 rfl ⟨by show 3 ≤ sizeLine; decide, fun t1 ht1 => ?_⟩⟩
  have s2 := s1.trans (same_upd ht1 (.tup [.str "kinds", k, .int 1]))
  refine ⟨_, rfl, ixl_at (j := 2) (seqL_same s2 hS) rfl ⟨by show 3 ≤ sizeLine; decide, fun t2 ht2 => ?_⟩⟩
  have s3 := s2.trans (same_upd ht2 (.tup [.str "waits", wt, .int 0]))
  refine ⟨_, rfl, ixl_at (j := 3) (seqL_same s3 hS) rfl ⟨by show 3 ≤ sizeLine; decide, fun t3 ht3 => ?_⟩⟩
  have s4 := s3.trans (same_upd ht3 (.tup [.str "leaves", lv, .int 0]))
  refine ⟨by show 3 ≤ sizeLine; decide, fun tp htp => ?_⟩
  have s5 := s4.trans (same_upd htp (.tup [.ref t1, .ref t2, .ref t3]))
  have y5 := same_upd htp (.tup [.ref t1, .ref t2, .ref t3])
  have y4 := (same_upd ht3 (.tup [.str "leaves", lv, .int 0])).trans y5
  have f3 := y5 _ _ (upd_same (a := t3))
  have f2 := y4 _ _ (upd_same (a := t2))
  have f1 := ((same_upd ht2 (.tup [.str "waits", wt, .int 0])).trans y4) _ _ (upd_same (a := t1))
  have fp := upd_same (H := upd (upd (upd H1 t1 (.tup [.str "kinds", k, .int 1])) t2 (.tup [.str "waits", wt, .int 0])) t3 (.tup [.str "leaves", lv, .int 0])) (a := tp) (o := .tup [.ref t1, .ref t2, .ref t3])
  generalize upd (upd (upd (upd H1 t1 (.tup [.str "kinds", k, .int 1])) t2 (.tup [.str "waits", wt, .int 0])) t3 (.tup [.str "leaves", lv, .int 0])) tp (.tup [.ref t1, .ref t2, .ref t3]) = H0 at s5 f1 f2 f3 fp
  clear y5 y4 s2 s3 s4
  have items : ∀ (i : Nat) (x : V), ([.ref t1, .ref t2, .ref t3] : List V)[i]? = some x → ∃ (p : Addr) (wd : Str) (v : V) (few : Nat) (b : Bool), x = .ref p ∧ H0 p = some (.tup [.str wd, v, .int (few : Int)]) ∧ ArgV K H0 few v b ∧
      ((1 ≤ i → b1 = true) ∧ (2 ≤ i → b2 = true) ∧ (3 ≤ i → b3 = true) → (b = false → ∀ H', Same H0 H' → Q (.str wd) H') ∧ (b = true → (1 ≤ i + 1 → b1 = true) ∧ (2 ≤ i + 1 → b2 = true) ∧ (3 ≤ i + 1 → b3 = true))) := by
    intro i x hx
    match i, hx with
    | 0, hx =>
      cases hx
      refine ⟨t1, _, k, 1, b1, rfl, f1, hk.same s5, fun _ => ⟨fun e H' s' => ?_, fun e => ⟨fun _ => e, fun z => absurd z (by omega), fun z => absurd z (by omega)⟩⟩⟩
      have r := q _ (s5.trans s')
      unfold wrSvc at r
      rw [if_neg w0, if_pos e] at r
      exact r
    | 1, hx =>
      cases hx
      refine ⟨t2, _, wt, 0, b2, rfl, f2, hw.same s5, fun pre => ⟨fun e H' s' => ?_, fun e => ⟨fun _ => pre.1 (by omega), fun _ => e, fun z => absurd z (by omega)⟩⟩⟩
      have r := q _ (s5.trans s')
      have e1 := pre.1 (by omega)
      unfold wrSvc at r
      rw [if_neg w0, if_neg (by rw [e1]; decide), if_pos e] at r
      exact r
    | 2, hx =>
      cases hx
      refine ⟨t3, _, lv, 0, b3, rfl, f3, hl.same s5, fun pre => ⟨fun e H' s' => ?_, fun e => ⟨fun _ => pre.1 (by omega), fun _ => pre.2.1 (by omega), fun _ => e⟩⟩⟩
      have r := q _ (s5.trans s')
      have e1 := pre.1 (by omega)
      have e2 := pre.2.1 (by omega)
      unfold wrSvc at r
      rw [if_neg w0, if_neg (by rw [e1]; decide), if_neg (by rw [e2]; decide), if_pos e] at r
      exact r
    | j + 3, hx => simp at hx
  refine ⟨tp, rfl, ⟨_, SqT.of fp⟩, for_it (walk_tup (K := K) (a := tp) (xs := [.ref t1, .ref t2, .ref t3])) (fun i σ H' => ∃ (v2 v3 v4 : Option V), σ = [some (.ref a), some (.bl bad), v2, v3, v4] ∧ Same H0 H' ∧ ((1 ≤ i → b1 = true) ∧ (2 ≤ i → b2 = true) ∧ (3 ≤ i → b3 = true)))
    ⟨none, none, none, rfl, Same.refl _, fun z => absurd z (by omega), fun z => absurd z (by omega), fun z => absurd z (by omega)⟩ (fun i σ H' _ ⟨_, _, _, _, z, _⟩ => SqT.of (z _ _ fp)) ?_ ?_⟩
  · rintro i x σ H2 H3 hi ⟨v2, v3, v4, rfl, z2, pre⟩ ⟨rfl, hx⟩
    obtain ⟨p, wd, v, few, b, rfl, hp, hv, go⟩ := items i x hx
    obtain ⟨g1, g2⟩ := go pre
    refine ⟨p, _, rfl, SqT.of (z2 _ _ hp), rfl, _, _, rfl, _, _, rfl, _, _, rfl, rfl, ?_⟩
    refine ⟨_, rfl, _, rfl, v, few, b, rfl, hv.same z2, fun H4 z4 => ⟨_, rfl, ?_⟩⟩
    cases b with
    | false => exact ⟨_, rfl, g1 rfl H4 (z2.trans z4)⟩
    | true => exact ⟨_, _, _, rfl, z2.trans z4, g2 rfl⟩
  · rintro σ H2 ⟨v2, v3, v4, rfl, z2, e1, e2, e3⟩
    have r := q _ (s5.trans z2)
    have e1 := e1 (by show 1 ≤ 3; decide)
    have e2 := e2 (by show 2 ≤ 3; decide)
    have e3 := e3 (by show 3 ≤ 3; decide)
    unfold wrSvc at r
    rw [if_neg w0, if_neg (by rw [e1]; decide), if_neg (by rw [e2]; decide), if_neg (by rw [e3]; decide)] at r
    cases bad with
    | false => exact ⟨_, rfl, _, rfl, r⟩
    | true => exact ⟨_, rfl, _, rfl, r⟩
end
end My

/-! ## A service refused: the law's look -/
namespace My
open PySem PySem.Spec PyProof.Rows L2
abbrev s_refused : Stmt := top 46
abbrev N_refused : List Str := ["_law_some", "_law_found", "e"]
abbrev P_refused : List Str := ["_law_some"]
theorem sc_refused : FnScope N_refused P_refused (defScope s_refused) := ⟨rfl, rfl, rfl, by decide +kernel, rfl, by decide +kernel, by decide +kernel⟩
structure TxRefS (w : World) (K : PySem.W.Frag) (mg : Str → Option Value) extends TxSvc w K mg where
  C_TraceError : Addr
  m_TraceError : mg "TraceError" = some (.ref C_TraceError)
  C_InvalidBook : Addr
  m_InvalidBook : mg "InvalidBook" = some (.ref C_InvalidBook)
  ke_ST : PySem.W.kitOne K (.ref C_InvalidService) (.ref C_TraceError) = some true
  ke_SB : PySem.W.kitOne K (.ref C_InvalidService) (.ref C_InvalidBook) = some false
  exSvc : ExcC K C_InvalidService
  xfSvc : XfC K C_InvalidService
  teSvc : PySem.W.exmOne K (.ref C_InvalidService) (.ref C_InvalidService) = some true
  f_refused : Addr
  d_refused : FuncData
  F_refused : Fun K "_law_refused" "_law_refused" s_refused f_refused d_refused
  m_refused : mg "_law_refused" = some (.ref f_refused)
  b_refused : Binds K d_refused P_refused []
/-- what is asked of the arguments: names as ArgV says, the rows known where they are all rows -/
structure SvcArgs {w : World} {K : PySem.W.Frag} {mg : Str → Option Value} (T : TxSvc w K mg) (H : Hp) (n k wt lv rw : V) (b1 b2 b3 b4 : Bool) : Prop where
  an : AnyV K H n
  ak : ArgV K H 1 k b1
  aw : ArgV K H 0 wt b2
  al : ArgV K H 0 lv b3
  ar : RowsV K T.C_Row H rw b4
  ok : b4 = true → ∃ (ra : Addr) (xs : List V) (ms : List (Str × List Str)), rw = .ref ra ∧ SqA K H ra xs ∧ Paired (RwAt T H) xs ms ∧ ms.length ≤ 28
theorem SvcArgs.same {w : World} {K : PySem.W.Frag} {mg : Str → Option Value} {T : TxSvc w K mg} {H H' : Hp} {n k wt lv rw : V} {b1 b2 b3 b4 : Bool} (h : SvcArgs T H n k wt lv rw b1 b2 b3 b4) (e : Same H H') : SvcArgs T H' n k wt lv rw b1 b2 b3 b4 :=
  ⟨h.an.same e, h.ak.same e, h.aw.same e, h.al.same e, h.ar.same e, fun z => by
    obtain ⟨ra, xs, ms, e1, e2, e3, e4⟩ := h.ok z
    exact ⟨ra, xs, ms, e1, e2.same e, paired_rwS T e e3, e4⟩⟩
theorem arg_strs {K : PySem.W.Frag} {H : Hp} {few : Nat} {v : V} (h : ArgV K H few v true) : ∃ (a : Addr) (l : List Str), v = .ref a ∧ SqA K H a (l.map V.str) := by
  generalize hb : true = b at h
  cases h with
  | no h => cases hb
  | @seq a xs h e n =>
    have hb' := (Bool.and_eq_true_iff.mp hb.symm).1
    exact ⟨a, xs.map txV, rfl, by rw [← strs_of_nm (namesB_all hb').1]; exact h⟩
theorem wr_none {b0 b1 b2 b3 b4 : Bool} (h : wrSvc b0 b1 b2 b3 b4 = none) : b0 = true ∧ b1 = true ∧ b2 = true ∧ b3 = true ∧ b4 = true := by
  revert h
  cases b0 <;> cases b1 <;> cases b2 <;> cases b3 <;> cases b4 <;> decide +kernel
def spRefS {w : World} {K : PySem.W.Frag} {mg : Str → Option Value} (T : TxSvc w K mg) : Sp := fun vs H Q _ => ∃ (a : Addr) (n k wt lv rw : V) (b1 b2 b3 b4 : Bool), vs = [.ref a] ∧ SqL K H a [n, k, wt, lv, rw] ∧ SvcArgs T H n k wt lv rw b1 b2 b3 b4 ∧
  ∀ H', Same H H' → Q (optV (wrSvc (nmV n) b1 b2 b3 b4)) H'
section
variable {P : Program} {w : World} {K : PySem.W.Frag} {mg : Str → Option Value} {base : Heap}
theorem ixl_tc {H : Hp} {a : Addr} {xs : List V} {j : Nat} {v : V} {σ : L2.St} {Q : VK} (h : SqL K H a xs) (e : xs[j]? = some v) (q : Q v H) : tC (V.int (j : Int)) σ H fun y H2 => rIxL K (.ref a) y H2 Q := ixl_at h e q
/-- what Service(..) asks -/
theorem svc_asked (T : TxSvc w K mg) {H : Hp} {n k wt lv rw : V} {b1 b2 b3 b4 : Bool} {Q : Hp → Prop} {E : XK} {x dx : Addr} (nx : H x = none) (nd : H dx = none) (ne : dx ≠ x) (h : SvcArgs T H n k wt lv rw b1 b2 b3 b4)
    (q : ∀ H', wrSvc (nmV n) b1 b2 b3 b4 = none → Same H H' → Q H') (qe : ∀ wd d H', wrSvc (nmV n) b1 b2 b3 b4 = some wd → Same H H' → H d = none → H' d = some (.xd [("word", .str wd)]) → E (.ref T.C_InvalidService) (some d) H') :
    spSvcInit T [.ref x, n, k, wt, lv, rw] (upd (upd H dx (.own x)) x (.ins T.C_Service dx [])) (fun v H2 => v = .non ∧ Q H2) E := by
  have s0 : Same H (upd (upd H dx (.own x)) x (.ins T.C_Service dx [])) := fun b o e => by rw [upd_ne (ne_of_none e nx), upd_ne (ne_of_none e nd)]; exact e
  have h' := h.same s0
  refine ⟨x, dx, n, k, wt, lv, rw, b1, b2, b3, b4, rfl, upd_same, h'.an, h'.ak.some, h'.aw.names, h'.al.names, h'.ar, fun e => ?_, fun wd d H' e s1 n1 e2 => qe wd d H' e (s0.trans s1) (s0.free n1) e2⟩
  obtain ⟨e0, rfl, rfl, rfl, rfl⟩ := wr_none e
  obtain ⟨y, rfl⟩ := nmV_str e0
  obtain ⟨ka, lk, rfl, hk⟩ := arg_strs h'.ak
  obtain ⟨wa, lw, rfl, hw⟩ := arg_strs h'.aw
  obtain ⟨la, ll, rfl, hl⟩ := arg_strs h'.al
  obtain ⟨ra, xs, ms, rfl, hra, hrw, hms⟩ := h'.ok rfl
  refine ⟨y, ka, wa, la, ra, lk, lw, ll, xs, ms, rfl, rfl, rfl, rfl, rfl, hk, hw, hl, hra, hrw, hms, fun H' k2 w2 l2 r2 m2 o ys kp _ _ _ _ _ _ _ _ _ _ => ⟨rfl, q H' e fun b o eb => ?_⟩⟩
  exact kp b o (ne_of_none eb nx) (s0 b o eb)
set_option maxHeartbeats 400000 in
theorem ok_refS (T : TxRefS w K mg) (zi : mg "isinstance" = none) : FnOk P w K mg base CX0 7 T.f_refused T.d_refused P_refused (spRefS T.toTxSvc) := by
  have G_Service_init := ok_Service_init (P := P) (w := w) (base := base) T.toTxSvc
  obtain ⟨dsS, hvS, hbS⟩ := T.F_Service_init.binds1 (ps := P_Service_init) 6 3 (by simp) rfl (fun TT kV doc pm an cdv ct us its h1 h2 => by
    match us, h1, its, h2 with
    | [_, _, _, _, _, _], _, [_, _, _], _ => exact ⟨_, rfl, rfl⟩)
  refine T.F_refused.ok sc_refused (fun vs H Q E h => ?_) (fun cdv A outer s H vs Q E hr h => ?_)
  · obtain ⟨a, n, k, wt, lv, rw, b1, b2, b3, b4, rfl, _⟩ := h
    rfl
  obtain ⟨a, n, k, wt, lv, rw, b1, b2, b3, b4, rfl, hS, hA, q⟩ := h
  refine ⟨_, (pss_cons (ps_set (i := 1) sc_refused.nd rfl (Or.inl rfl) pe_non)
      (pss_cons (ps_try_as (i := 2) rfl rfl sc_refused.nd rfl rfl ⟨rfl, by decide, .inl T.m_InvalidService⟩ takes0 (fun W pn xe tk _ => (pss_cons (ps_set (i := 1) sc_refused.nd rfl (Or.inl rfl) (pe_makeS T.mk_Service G_Service_init (hr.mono (by decide)) (by rfl) T.m_Service hbS hvS (fun σ => passAt tk σ) (pa_cons (pe_ix (ix_listK K) (pv 0) pe_int (fun _ _ => rfl)) (pa_cons (pe_ix (ix_listK K) (pv 0) pe_int (fun _ _ => rfl)) (pa_cons (pe_ix (ix_listK K) (pv 0) pe_int (fun _ _ => rfl)) (pa_cons (pe_ix (ix_listK K) (pv 0) pe_int (fun _ _ => rfl)) (pa_cons (pe_ix (ix_listK K) (pv 0) pe_int (fun _ _ => rfl)) pa_nil)))))))
      (pss_one (ps_set (i := 1) sc_refused.nd rfl (Or.inl rfl) pe_non)))) (fun a oe cls d pn hz hf => (pss_one (ps_set (i := 1) sc_refused.nd rfl (Or.inl rfl) (pe_ifExp (PW.pt (pw_and (pt_val (pe_callB (call_isD hz hf) (by rfl) T.z_isinstance (by decide +kernel) (pa_cons (pv 2) (pa_cons (pe_glob (v := .ref T.C_TraceError) (by rfl) T.m_TraceError rfl) pa_nil)))) (pw_and1 (pt_not (pt_val (pe_callB (call_isD hz hf) (by rfl) T.z_isinstance (by decide +kernel) (pa_cons (pv 2) (pa_cons (pe_glob (v := .ref T.C_InvalidBook) (by rfl) T.m_InvalidBook rfl) pa_nil)))))))) (pe_xf T.xfSvc T.nwSvc hz hf (pv 2)) pe_str)))))
      (pss_one (ps_ret (pv 1))))), ?_⟩
  refine ⟨_, rfl, ixl_tc (j := 0) hS rfl ?_⟩
  refine ⟨_, rfl, ixl_tc (j := 1) hS rfl ?_⟩
  refine ⟨_, rfl, ixl_tc (j := 2) hS rfl ?_⟩
  refine ⟨_, rfl, ixl_tc (j := 3) hS rfl ?_⟩
  refine ⟨_, rfl, ixl_tc (j := 4) hS rfl ?_⟩
  intro x dx nx nd ne
  refine svc_asked T.toTxSvc nx nd ne hA (fun H1 e1 s1 => ?_) (fun wd d H1 e1 s1 n1 hx => ?_)
  · have r := q H1 s1
    rw [e1] at r
    exact ⟨_, rfl, r⟩
  · refine ⟨true, T.teSvc, fun _ a0 na => ?_, fun z => nomatch z⟩
    have r := q H1 s1
    rw [e1] at r
    refine ⟨_, rfl, T.C_InvalidService, d, _, .ref T.C_TraceError, _, true, rfl, rfl, rfl, hx, T.exSvc, fun u h => h, T.ke_ST, _, rfl, ?_⟩
    refine ⟨_, rfl, T.C_InvalidService, d, _, .ref T.C_InvalidBook, _, false, rfl, rfl, rfl, hx, T.exSvc, fun u h => h, T.ke_SB, _, rfl, ?_⟩
    exact ⟨_, rfl, rfl, rfl, d, _, _, rfl, hx, rfl, _, rfl, r⟩
end
end My

/-! ## Drawn rows are no wrong ones; what the loops share -/
namespace My
open PySem L2
/-- the first word whose value is none that may stand -/
def lw : List (Str × List Str) → List PyData → Option Str
  | (w, ls) :: ws, d :: ds => if txD ls d = false ∧ ((w = "outcome" ∨ w = "part") ∨ nmD d = false) then some w else lw ws ds
  | _, _ => none
theorem gr_same {b : Addr} {H H1 H2 : Hp} {o : HO} (s : Same H H1) (n : H1 b = none) (g : Gr b (upd H1 b o) H2) : Same H H2 := fun a u e => by
  have na : a ≠ b := fun z => by
    have z1 := s a u e
    rw [z, n] at z1
    cases z1
  exact g.keep a u na (by rw [upd_ne na]; exact s a u e)
theorem gr_box {b : Addr} {H1 : Hp} {w s c : Int} : Gr b (upd H1 b (bx w s c)) (upd H1 b (bx w s c)) := ⟨fun _ _ _ e => e, w, s, c, upd_same⟩
theorem gr_self {b : Addr} {H H' : Hp} (g : Gr b H H') : Gr b H' H' := ⟨fun _ _ _ e => e, g.box⟩
/-- max(1, min(n, len)) -/
theorem many_turns {n : Int} {l : Nat} (h : 1 ≤ n) (hn : n ≤ 10) : let m : Int := if (l : Int) < n then (l : Int) else n
    let t : Int := if m > 1 then m else 1
    1 ≤ t ∧ t ≤ n := by
  intro m t
  constructor
  · show 1 ≤ (if m > 1 then m else 1)
    split <;> omega
  · show (if m > 1 then m else 1) ≤ n
    have : m ≤ n := by
      show (if (l : Int) < n then (l : Int) else n) ≤ n
      split <;> omega
    split <;> omega
/-- the two readings of a row agree -/
theorem lw_wr {s : Str} (hs : s ∈ SORTS) {ds : List PyData} (hl : ds.length = (wsOf s).length) : lw (wsOf s) ds = wrOf s ds := by
  have t0 : ∀ d, txD [] d = false := fun d => by cases d <;> rfl
  simp only [SORTS, List.mem_cons, List.not_mem_nil, or_false] at hs
  rcases hs with rfl | rfl | rfl | rfl
  · match ds, hl with
    | [a, b, c], _ =>
      show lw ws_begin [a, b, c] = wBegin [a, b, c]
      simp only [ws_begin, lw, wBegin, t0]
      cases nmD a <;> cases txD ["none", "any"] a <;> cases nmD b <;> cases txD ["any"] b <;> cases nmD c <;> first | rfl | decide +kernel
  · match ds, hl with
    | [a, b, c], _ =>
      show lw ws_send [a, b, c] = wSend [a, b, c]
      simp only [ws_send, lw, wSend]
      cases nmD a <;> cases txD ["any"] a <;> cases nmD b <;> cases txD ["any"] b <;> cases nmD c <;> cases txD ["none", "same"] c <;> first | rfl | decide +kernel
  · match ds, hl with
    | [a, b, c, d], _ =>
      show lw ws_back [a, b, c, d] = wBack [a, b, c, d]
      simp only [ws_back, lw, wBack]
      cases nmD a <;> cases txD ["any"] a <;> cases nmD b <;> cases txD ["any"] b <;> cases nmD c <;> cases txD ["none", "any"] c <;> cases nmD d <;> cases txD ["same"] d <;> first | rfl | decide +kernel
  · match ds, hl with
    | [a, b, c, d], _ =>
      show lw ws_end [a, b, c, d] = wEnd [a, b, c, d]
      simp only [ws_end, lw, wEnd]
      cases nmD a <;> cases txD ["any"] a <;> cases nmD b <;> cases txD ["good", "bad", "any"] b <;> cases nmD c <;> cases txD ["none"] c <;> cases nmD d <;> cases txD ["keep", "drop"] d <;> first | rfl | decide +kernel
theorem fn_ws : ∀ s ∈ SORTS, (fnOf s).length = (wsOf s).length := by decide +kernel
theorem abc_lt : ∀ c ∈ ABC.cps.toList, c < 0x110000 ∧ c ≠ 32 := by decide +kernel
/-- a short word of code points without a blank -/
def okW (x : Str) : Bool := okS x && decide (x.length ≤ 10) && x.cps.toList.all fun c => decide (c ≠ 32)
theorem isNm_okW {x : Str} (h : isNm x = true) : okW x = true := by
  have l := (isNm_len h).2
  unfold isNm at h
  have h4 := (Bool.and_eq_true_iff.mp h).2
  have h5 := List.all_eq_true.mp h4
  unfold okW okS
  rw [Bool.and_eq_true_iff, Bool.and_eq_true_iff, Bool.and_eq_true_iff]
  refine ⟨⟨⟨decide_eq_true (by omega), ?_⟩, decide_eq_true (by omega)⟩, List.all_eq_true.mpr fun c hc => decide_eq_true (abc_lt c (of_decide_eq_true (h5 c hc))).2⟩
  unfold PyData.strOk
  rw [← Array.all_toList, List.all_eq_true]
  exact fun c hc => decide_eq_true (abc_lt c (of_decide_eq_true (h5 c hc))).1
theorem ws_okW : ∀ s ∈ SORTS, ∀ w ∈ wsOf s, w.2.all okW = true := by decide +kernel
theorem ws_len : ∀ s ∈ SORTS, 3 ≤ (wsOf s).length := by decide +kernel
theorem so_okW : ∀ s ∈ SORTS, okW s = true := by decide +kernel
/-- a drawn row: its sort, its words -/
structure GoodR (r : Str × List Str) : Prop where
  so : r.1 ∈ SORTS
  fit : Paired fitW r.2 (wsOf r.1)
theorem GoodR.len {r : Str × List Str} (g : GoodR r) : r.2.length = (wsOf r.1).length := paired_len g.fit
theorem GoodR.len2 {r : Str × List Str} (g : GoodR r) : r.2.length = (fnOf r.1).length := g.len.trans (fn_ws _ g.so).symm
theorem GoodR.okW {r : Str × List Str} (g : GoodR r) : ∀ y ∈ r.2, okW y = true := fun y hy => by
  obtain ⟨w, hw, f⟩ := paired_mem g.fit hy
  rcases f with f | f
  · exact List.all_eq_true.mp (ws_okW _ g.so w hw) y f
  · exact isNm_okW f.2.2
theorem lw_fit : ∀ {ys : List Str} {ws : List (Str × List Str)}, Paired fitW ys ws → lw ws (ys.map PyData.str) = none
  | _, _, .nil => rfl
  | _, _, .cons (a := y) (b := w) f t => by
    show (if txD w.2 (.str y) = false ∧ ((w.1 = "outcome" ∨ w.1 = "part") ∨ nmD (.str y) = false) then some w.1 else lw _ _) = none
    rw [if_neg, lw_fit t]
    rintro ⟨h1, h2⟩
    rcases f with f | f
    · have : w.2.contains y = true := List.contains_iff_mem.mpr f
      have h1' : w.2.contains y = false := h1
      rw [this] at h1'
      cases h1'
    · rcases h2 with (h2 | h2) | h2
      · exact f.1 h2
      · exact f.2.1 h2
      · have h2' : isNm y = false := h2
        rw [f.2.2] at h2'
        cases h2'
theorem GoodR.wr {r : Str × List Str} (g : GoodR r) : wrOf r.1 (r.2.map PyData.str) = none := by
  rw [← lw_wr g.so (by rw [List.length_map]; exact g.len)]
  exact lw_fit g.fit
theorem okW_S {x : Str} (h : okW x = true) : okS x = true := (Bool.and_eq_true_iff.mp (Bool.and_eq_true_iff.mp h).1).1
theorem okW_l {x : Str} (h : okW x = true) : x.length ≤ 10 := of_decide_eq_true (Bool.and_eq_true_iff.mp (Bool.and_eq_true_iff.mp h).1).2
theorem okW_b {x : Str} (h : okW x = true) : 32 ∉ x.cps.toList := fun z => of_decide_eq_true (List.all_eq_true.mp (Bool.and_eq_true_iff.mp h).2 32 z) rfl
theorem dvs_strs {K : PySem.W.Frag} {H : Hp} : ∀ {ys : List Str}, (∀ y ∈ ys, okW y = true) → Paired (Dv K H) (ys.map V.str) (ys.map PyData.str)
  | [], _ => .nil
  | y :: ys, h => .cons (Dv.str (okW_S (h y List.mem_cons_self))) (dvs_strs fun z hz => h z (List.mem_cons_of_mem _ hz))
end My

/-! ## The arguments of services that the law draws -/
namespace My
open PySem L2
theorem seq_non {K : PySem.W.Frag} : PySem.W.kitAny K (.type "NoneType") [.type "list", .type "tuple"] = some false := kitAny_cons (b := false) (kit_ty (show kitB "NoneType" "list" = some false by decide +kernel)) (fun _ => kitAny_cons (b := false) (kit_ty (show kitB "NoneType" "tuple" = some false by decide +kernel)) (fun _ => rfl) (fun z => nomatch z)) (fun z => nomatch z)
theorem seq_bool {K : PySem.W.Frag} : PySem.W.kitAny K (.type "bool") [.type "list", .type "tuple"] = some false := kitAny_cons (b := false) (kit_ty (show kitB "bool" "list" = some false by decide +kernel)) (fun _ => kitAny_cons (b := false) (kit_ty (show kitB "bool" "tuple" = some false by decide +kernel)) (fun _ => rfl) (fun z => nomatch z)) (fun z => nomatch z)
theorem seq_int {K : PySem.W.Frag} : PySem.W.kitAny K (.type "int") [.type "list", .type "tuple"] = some false := kitAny_cons (b := false) (kit_ty (show kitB "int" "list" = some false by decide +kernel)) (fun _ => kitAny_cons (b := false) (kit_ty (show kitB "int" "tuple" = some false by decide +kernel)) (fun _ => rfl) (fun z => nomatch z)) (fun z => nomatch z)
theorem seq_str {K : PySem.W.Frag} : PySem.W.kitAny K (.type "str") [.type "list", .type "tuple"] = some false := kitAny_cons (b := false) (kit_ty (show kitB "str" "list" = some false by decide +kernel)) (fun _ => kitAny_cons (b := false) (kit_ty (show kitB "str" "tuple" = some false by decide +kernel)) (fun _ => rfl) (fun z => nomatch z)) (fun z => nomatch z)
section
variable {K : PySem.W.Frag} {ok : Addr → Prop} {H : Hp}
theorem Da.ty {v : V} {d : PyData} (h : Da ok H v d) : TyX K H v (.type (tyD d)) := Dp.ty (Da.dp d v h)
theorem Da.any {v : V} {d : PyData} (h : Da ok H v d) (s : shortD d = true) : AnyV K H v := by
  have t := h.ty (K := K)
  cases h with
  | str x => exact .str x (of_decide_eq_true s)
  | non => exact .oth (fun _ e => by cases e) t (kit_ty (show kitB "NoneType" "str" = some false by decide +kernel))
  | bl b => exact .oth (fun _ e => by cases e) t (kit_ty (show kitB "bool" "str" = some false by decide +kernel))
  | int i => exact .oth (fun _ e => by cases e) t (kit_ty (show kitB "int" "str" = some false by decide +kernel))
  | lst _ _ _ => exact .oth (fun _ e => by cases e) t (kit_ty (show kitB "list" "str" = some false by decide +kernel))
  | tup _ _ _ => exact .oth (fun _ e => by cases e) t (kit_ty (show kitB "tuple" "str" = some false by decide +kernel))
theorem DaAll.anys : ∀ {vs : List V} {ds : List PyData}, DaAll ok H vs ds → shortDs ds = true → ∀ x ∈ vs, AnyV K H x
  | _, _, .cons h t, s, x, hx => by
    unfold shortDs at s
    rw [Bool.and_eq_true] at s
    rcases List.mem_cons.mp hx with z | z
    · rw [z]; exact h.any s.1
    · exact DaAll.anys t s.2 x z
theorem Da.argV {v : V} {d : PyData} (few : Nat) (h : Da ok H v d) (s : shortD d = true) : ∃ b, ArgV K H few v b := by
  have t := h.ty (K := K)
  cases h with
  | str x => exact ⟨_, .no ⟨_, t, seq_str⟩⟩
  | non => exact ⟨_, .no ⟨_, t, seq_non⟩⟩
  | bl b => exact ⟨_, .no ⟨_, t, seq_bool⟩⟩
  | int i => exact ⟨_, .no ⟨_, t, seq_int⟩⟩
  | lst _ ha hd =>
    unfold shortD at s
    rw [Bool.and_eq_true] at s
    have l := of_decide_eq_true s.1
    exact ⟨_, .seq (.inl (SqL.of ha)) (hd.anys s.2) (by rw [hd.size]; omega)⟩
  | tup _ ha hd =>
    unfold shortD at s
    rw [Bool.and_eq_true] at s
    have l := of_decide_eq_true s.1
    exact ⟨_, .seq (.inr (SqT.of ha)) (hd.anys s.2) (by rw [hd.size]; omega)⟩
theorem DaAll.put {v : V} {d : PyData} : ∀ {vs : List V} {ds : List PyData} (j : Nat), DaAll ok H vs ds → Da ok H v d → DaAll ok H (vs.set j v) (ds.set j d)
  | _, _, _, .nil, _ => .nil
  | _, _, 0, .cons _ t, h => .cons h t
  | _, _, j + 1, .cons a t, h => .cons a (DaAll.put j t h)
theorem DaAll.strs : ∀ l : List Str, DaAll ok H (l.map V.str) (l.map PyData.str)
  | [] => .nil
  | x :: l => .cons (.str x) (DaAll.strs l)
end
theorem goods {k : Nat} : ∀ {l : List Str}, (∀ y ∈ l, okS y = true) → ∀ d ∈ l.map PyData.str, GoodD k d := fun h d hd => by
  obtain ⟨y, hy, rfl⟩ := List.mem_map.mp hd
  exact GoodD.str (h y hy)
structure TxRw (w : World) (K : PySem.W.Frag) (mg : Str → Option Value) extends TxSvc w K mg where
  ks_str : PySem.W.kitOne K (.type "str") (.ref C_Row) = some false
  ks_non : PySem.W.kitOne K (.type "NoneType") (.ref C_Row) = some false
  ks_list : PySem.W.kitOne K (.type "list") (.ref C_Row) = some false
/-- what stands as rows: rows, or no such thing -/
inductive RwV {w : World} {K : PySem.W.Frag} {mg : Str → Option Value} (T : TxSvc w K mg) (b sm : Addr) (H : Hp) : V → Bool → Prop
  | rows {ra : Addr} {xs : List V} {ms : List (Str × List Str)} (nb : ra ≠ b) (ns : ra ≠ sm) (h : H ra = some (.lst xs)) (e : Paired (RwAt T H) xs ms) (l : ms.length ≤ 20) : RwV T b sm H (.ref ra) true
  | non : RwV T b sm H .non false
  | str (x : Str) : RwV T b sm H (.str x) false
  | int (i : Int) : RwV T b sm H (.int i) false
  | more {ra : Addr} {xs : List V} {ms : List (Str × List Str)} (x : Str) (nb : ra ≠ b) (ns : ra ≠ sm) (h : H ra = some (.lst (xs ++ [.str x]))) (e : Paired (RwAt T H) xs ms) (l : ms.length ≤ 20) : RwV T b sm H (.ref ra) false
  | one {ra : Addr} (nb : ra ≠ b) (ns : ra ≠ sm) (h : H ra = some (.lst [.non])) : RwV T b sm H (.ref ra) false
  | deep {ra rb : Addr} {xs : List V} (nb : ra ≠ b) (ns : ra ≠ sm) (h : H ra = some (.lst [.ref rb])) (nb2 : rb ≠ b) (ns2 : rb ≠ sm) (h2 : H rb = some (.lst xs)) : RwV T b sm H (.ref ra) false
section
variable {w : World} {K : PySem.W.Frag} {mg : Str → Option Value} {b sm : Addr} {H H' : Hp}
theorem rws_keep {T : TxSvc w K mg} (k : ∀ a C dx fs, H a = some (.ins C dx fs) → H' a = some (.ins C dx fs)) : ∀ {xs : List V} {ms : List (Str × List Str)}, Paired (RwAt T H) xs ms → Paired (RwAt T H') xs ms
  | _, _, .nil => .nil
  | _, _, .cons r t => .cons (r.keep k) (rws_keep k t)
/-- all but the box and the list of arguments stays -/
theorem RwV.keep {T : TxSvc w K mg} {v : V} {c : Bool} (h : RwV T b sm H v c) (k : ∀ a o, a ≠ b → a ≠ sm → H a = some o → H' a = some o) (hb : ∀ C dx fs, H b ≠ some (.ins C dx fs)) (hs : ∀ C dx fs, H sm ≠ some (.ins C dx fs)) : RwV T b sm H' v c := by
  have ki : ∀ a C dx fs, H a = some (.ins C dx fs) → H' a = some (.ins C dx fs) := fun a C dx fs e => k a _ (fun z => hb _ _ _ (z ▸ e)) (fun z => hs _ _ _ (z ▸ e)) e
  cases h with
  | rows nb ns h e l => exact .rows nb ns (k _ _ nb ns h) (rws_keep ki e) l
  | non => exact .non
  | str x => exact .str x
  | int i => exact .int i
  | more x nb ns h e l => exact .more x nb ns (k _ _ nb ns h) (rws_keep ki e) l
  | one nb ns h => exact .one nb ns (k _ _ nb ns h)
  | deep nb ns h nb2 ns2 h2 => exact .deep nb ns (k _ _ nb ns h) nb2 ns2 (k _ _ nb2 ns2 h2)
theorem rws_kit (T : TxSvc w K mg) : ∀ {xs : List V} {ms : List (Str × List Str)}, Paired (RwAt T H) xs ms → Paired (fun x b => ∃ t, TyX K H x t ∧ PySem.W.kitOne K t (.ref T.C_Row) = some b) xs (xs.map fun _ => true)
  | _, _, .nil => .nil
  | _, _, .cons r t => .cons (by obtain ⟨C, h1, h2, _⟩ := row_ty T r; exact ⟨_, h1, h2⟩) (rws_kit T t)
theorem all_true : ∀ xs : List V, (xs.map fun _ => true).all id = true
  | [] => rfl
  | _ :: xs => by rw [List.map_cons, List.all_cons, all_true xs]; rfl
theorem RwV.rowsV (T : TxRw w K mg) {v : V} {c : Bool} (h : RwV T.toTxSvc b sm H v c) : RowsV K T.C_Row H v c ∧ (c = true → ∃ (ra : Addr) (xs : List V) (ms : List (Str × List Str)), v = .ref ra ∧ SqA K H ra xs ∧ Paired (RwAt T.toTxSvc H) xs ms ∧ ms.length ≤ 28) := by
  have no : ∀ {p : Prop}, false = true → p := fun z => nomatch z
  cases h with
  | @rows ra xs ms nb ns h e l =>
    have r := RowsV.seq (CR := T.C_Row) (.inl (SqL.of (K := K) h)) (rws_kit T.toTxSvc e) (by rw [pair_len e]; omega)
    rw [all_true] at r
    exact ⟨r, fun _ => ⟨ra, xs, ms, rfl, .inl (SqL.of h), e, by omega⟩⟩
  | non => exact ⟨.no ⟨_, .base .non, seq_non⟩, no⟩
  | str x => exact ⟨.no ⟨_, .base (.str x), seq_str⟩, no⟩
  | int i => exact ⟨.no ⟨_, .base (.int i), seq_int⟩, no⟩
  | @more ra xs ms x nb ns h e l =>
    have r := RowsV.seq (CR := T.C_Row) (.inl (SqL.of (K := K) h)) (paired_snoc (rws_kit T.toTxSvc e) ⟨_, .base (.str x), T.ks_str⟩) (by rw [List.length_append, pair_len e, List.length_singleton]; omega)
    rw [List.all_append, all_true] at r
    exact ⟨r, no⟩
  | one nb ns h => exact ⟨RowsV.seq (CR := T.C_Row) (bs := [false]) (.inl (SqL.of (K := K) h)) (.cons ⟨_, .base .non, T.ks_non⟩ .nil) (by show 1 ≤ 900; decide), no⟩
  | deep nb ns h nb2 ns2 h2 => exact ⟨RowsV.seq (CR := T.C_Row) (bs := [false]) (.inl (SqL.of (K := K) h)) (.cons ⟨_, tyL (SqL.of h2), T.ks_list⟩ .nil) (by show 1 ≤ 900; decide), no⟩
/-- the list of the arguments -/
structure ArgsAt (T : TxSvc w K mg) (b sm : Addr) (H : Hp) (bad : Bool) : Prop where
  ex : ∃ (as : List V) (ds : List PyData) (rw : V), H sm = some (.lst (as ++ [rw])) ∧ as.length = 4 ∧ DaAll (fun a => a ≠ b ∧ a ≠ sm) H as ds ∧ (∀ d ∈ ds, GoodD 4 d) ∧ RwV T b sm H rw (!bad)
  nb : sm ≠ b
theorem ArgsAt.args (T : TxRw w K mg) {bad : Bool} (h : ArgsAt T.toTxSvc b sm H bad) : ∃ (n k wt lv rw : V) (b1 b2 b3 : Bool), H sm = some (.lst [n, k, wt, lv, rw]) ∧ SvcArgs T.toTxSvc H n k wt lv rw b1 b2 b3 (!bad) := by
  obtain ⟨as, ds, rw, hs, hl, hd, hg, hr⟩ := h.ex
  match as, hl with
  | [n, k, wt, lv], _ =>
    cases hd with
    | @cons _ _ d0 _ h0 hd =>
    cases hd with
    | @cons _ _ d1 _ h1 hd =>
    cases hd with
    | @cons _ _ d2 _ h2 hd =>
    cases hd with
    | @cons _ _ d3 _ h3 hd =>
    obtain ⟨b1, a1⟩ := h1.argV (K := K) 1 (hg _ (by simp)).sht
    obtain ⟨b2, a2⟩ := h2.argV (K := K) 0 (hg d2 (by simp)).sht
    obtain ⟨b3, a3⟩ := h3.argV (K := K) 0 (hg d3 (by simp)).sht
    obtain ⟨r1, r2⟩ := hr.rowsV T
    exact ⟨n, k, wt, lv, rw, b1, b2, b3, hs, h0.any (hg d0 (by simp)).sht, a1, a2, a3, r1, r2⟩
/-- a draw leaves them as they are -/
theorem ArgsAt.gr {T : TxSvc w K mg} {bad : Bool} (h : ArgsAt T b sm H bad) (g0 : Gr b H H) (g : Gr b H H') : ArgsAt T b sm H' bad := by
  obtain ⟨as, ds, rw, hs, hl, hd, hg, hr⟩ := h.ex
  obtain ⟨w, s, c, hb⟩ := g0.box
  exact ⟨⟨as, ds, rw, g.keep _ _ h.nb hs, hl, DaAll.mono (fun _ z => z) (fun a o z e => g.keep a o z.1 e) ds as hd, hg, hr.keep (fun a o n1 _ e => g.keep a o n1 e) (fun C dx fs z => by rw [hb] at z; cases z) (fun C dx fs z => by rw [hs] at z; cases z)⟩, h.nb⟩
end
theorem rw_of {w : World} {K : PySem.W.Frag} {mg : Str → Option Value} (T : TxSvc w K mg) {so : Str} (hso : so ∈ SORTS) {ws : List Str} (hl : ws.length = (fnOf so).length) {H : Hp} {p dx : Addr} (h : H p = some (.ins (clsOf T.toTxRows so) dx ((fnOf so).zip (ws.map V.str)))) : ∃ m, RwAt T H (.ref p) m := ⟨_, rw_is T hso hl h⟩
end My
namespace My
open PySem L2
section
variable {w : World} {K : PySem.W.Frag} {mg : Str → Option Value} {b sm : Addr} {H H' : Hp}
theorem set_last {xs : List V} {n : Nat} {rw x : V} (h : xs.length = n) : (xs ++ [rw]).set n x = xs ++ [x] := by
  subst h
  simp
theorem ArgsAt.put {T : TxSvc w K mg} {bad : Bool} (h : ArgsAt T b sm H bad) (g0 : Gr b H H) {xs : List V} (hs : H sm = some (.lst xs)) {j : Nat} (hj : j < 4) {x : V} {d : PyData} (hx : Da (fun a => a ≠ b ∧ a ≠ sm) H x d) (gd : GoodD 4 d) : ArgsAt T b sm (upd H sm (.lst (xs.set j x))) bad := by
  obtain ⟨as, ds, rw, hs', hl, hd, hg, hr⟩ := h.ex
  obtain ⟨w, s, c, hb⟩ := g0.box
  rw [hs'] at hs
  cases hs
  have k : ∀ a o, a ≠ b ∧ a ≠ sm → H a = some o → upd H sm (.lst ((as ++ [rw]).set j x)) a = some o := fun a o z e => by rw [upd_ne z.2]; exact e
  refine ⟨⟨as.set j x, ds.set j d, rw, ?_, by rw [List.length_set]; exact hl, DaAll.put j (DaAll.mono (fun _ z => z) k ds as hd) (Da.mono (fun _ z => z) k d x hx), fun y hy => ?_, hr.keep (fun a o n1 n2 e => k a o ⟨n1, n2⟩ e) (fun C dx fs z => by rw [hb] at z; cases z) (fun C dx fs z => by rw [hs'] at z; cases z)⟩, h.nb⟩
  · rw [upd_same, List.set_append_left _ _ (by omega)]
  · rcases List.mem_or_eq_of_mem_set hy with hy | hy
    · exact hg y hy
    · rw [hy]; exact gd
theorem ArgsAt.put4 {T : TxSvc w K mg} {bad : Bool} (h : ArgsAt T b sm H bad) (g0 : Gr b H H) {xs : List V} (hs : H sm = some (.lst xs)) {x : V} (hx : RwV T b sm H x false) : ArgsAt T b sm (upd H sm (.lst (xs.set 4 x))) true := by
  obtain ⟨as, ds, rw, hs', hl, hd, hg, hr⟩ := h.ex
  obtain ⟨w, s, c, hb⟩ := g0.box
  rw [hs'] at hs
  cases hs
  have k : ∀ a o, a ≠ b ∧ a ≠ sm → H a = some o → upd H sm (.lst ((as ++ [rw]).set 4 x)) a = some o := fun a o z e => by rw [upd_ne z.2]; exact e
  exact ⟨⟨as, ds, x, by rw [upd_same, set_last hl], hl, DaAll.mono (fun _ z => z) k ds as hd, hg, hx.keep (fun a o n1 n2 e => k a o ⟨n1, n2⟩ e) (fun C dx fs z => by rw [hb] at z; cases z) (fun C dx fs z => by rw [hs'] at z; cases z)⟩, h.nb⟩
theorem ArgsAt.lst {T : TxSvc w K mg} {bad : Bool} (h : ArgsAt T b sm H bad) : ∃ xs : List V, H sm = some (.lst xs) ∧ xs.length = 5 := by
  obtain ⟨as, ds, rw, hs, hl, _⟩ := h.ex
  exact ⟨_, hs, by rw [List.length_append, hl]; rfl⟩
theorem slA_take {t : Addr} {xs : List V} {d : Int} {Q : VK} (h : H t = some (.tup xs)) (h0 : 0 ≤ d) (h1 : d ≤ (xs.length : Int)) (q : ∀ p H', Same H H' → H' p = some (.tup (xs.take d.toNat)) → Q (.ref p) H') : rSlA K (.ref t) none (some d) H Q := by
  obtain ⟨n, rfl⟩ : ∃ n : Nat, d = (n : Int) := ⟨d.toNat, by omega⟩
  have hn : n ≤ xs.length := by omega
  rw [Int.toNat_natCast] at q
  refine ⟨t, xs, rfl, SqT.of h, fun z => ?_, fun _ p hp => ?_⟩
  · have z2 := z.2
    rw [HT.sIx_nat, Nat.min_eq_left hn] at z2
    refine q t H (Same.refl H) ?_
    rw [z2, List.take_length]
    exact h
  · rw [cut_to hn]
    exact q p _ (same_upd hp _) upd_same
end
end My

/-! ## k10: services refused; the law -/
namespace My
open PySem PySem.Spec PyProof.Rows L2
theorem sl_tupAK {X : Cx} (K : PySem.W.Frag) (hK : X.K = K := by rfl) : SlR X (rSlA K) := hK ▸ sl_tupA
abbrev s_law : Stmt := top 47
abbrev N_law : List Str := ["_law_script", "_law_k", "_law_box_here", "_law_names_here", "_law_pools", "_law_word", "_law_turn", "_law_rows", "_law_sort", "_law_some", "_law_is_bad", "_law_more", "_law_at", "_law_odd"]
abbrev P_law : List Str := ["_law_script"]
theorem sc_law : FnScope N_law P_law (defScope s_law) := ⟨rfl, rfl, rfl, by decide +kernel, rfl, by decide +kernel, by decide +kernel⟩
structure TxK10 (w : World) (K : PySem.W.Frag) (mg : Str → Option Value) extends TxRefS w K mg, TxRw w K mg, TxWrongS w K mg, TxAny w K mg, TxLawRow w K mg, TxDrawn w K mg where
  z_max : mg "max" = none
  z_min : mg "min" = none
  z_dict : mg "dict" = none
  f_law : Addr
  d_law : FuncData
  F_law : Fun K "law" "law" s_law f_law d_law
def spLaw (K : PySem.W.Frag) : Sp := fun vs H Q _ => ∃ (a : Addr) (ns : List Int), vs = [.ref a] ∧ SqL K H a (ns.map V.int) ∧ ns.length ≤ 63 ∧ ∀ H', Q (.bl true) H'
theorem pool_at (x : Str) (hx : x ∈ POOLW) (nl : Addr) : valV (mergeK [] (POOLW.map fun x => ((Sum.inr x : Key), V.ref nl))) (Sum.inr x) = some (.ref nl) := by
  simp only [POOLW, List.mem_cons, List.not_mem_nil, or_false] at hx
  rcases hx with rfl | rfl | rfl | rfl | rfl <;> rfl
theorem cut12 (a b c d : V) : cutV [a, b, c, d] (some 1) (some 2) = [b] := rfl
theorem cut02 (a b c d : V) : cutV [a, b, c, d] none (some 2) = [a, b] := rfl
theorem cut24 (a b c d : V) : cutV [a, b, c, d] (some 2) none = [c, d] := rfl
def THREE : List Str := ["end", "begin", "back"]
theorem three_in : ∀ s ∈ THREE, s ∈ SORTS := by decide +kernel
section
variable {P : Program} {w : World} {K : PySem.W.Frag} {mg : Str → Option Value} {base : Heap}
theorem ok_law10 (T : TxK10 w K mg) : FnOk P w K mg base CX0 9 T.f_law T.d_law P_law (spLaw K) := by
  have G_box : FnOk P w K mg base CX0 1 T.f_box T.d_box P_box (spBox K) := ok_box T.toTxDraw
  have G_take : FnOk P w K mg base CX0 1 T.f_take T.d_take P_take spTakeG := ok_takeG T.toTxDraw
  have G_pick : FnOk P w K mg base CX0 2 T.f_pick T.d_pick P_pick spPickG := ok_pickG T.toTxDraw
  have G_names : FnOk P w K mg base CX0 3 T.f_names T.d_names P_names spNames := ok_names T.toTxNames
  have G_drawn_row : FnOk P w K mg base CX0 3 T.f_drawn_row T.d_drawn_row P_drawn_row spDrawn := ok_drawn T.toTxDrawn
  have G_any : FnOk P w K mg base CX0 5 T.f_any T.d_any P_any (spAny 2) := ok_any T.toTxAny 2
  have G_row : FnOk P w K mg base (L2.CX P w) 5 T.f_row T.d_row P_row (spLawRow T.toTxRows) := ok_row T.toTxLawRow
  have G_refused : FnOk P w K mg base CX0 7 T.f_refused T.d_refused P_refused (spRefS T.toTxSvc) := ok_refS T.toTxRefS T.z_isinstance
  have G_wrong : FnOk P w K mg base CX0 3 T.f_wrong T.d_wrong P_wrong (spWrongS K) := ok_wrongS T.toTxWrongS
  refine T.F_law.ok sc_law (fun vs H Q E h => ?_) (fun cdv A outer s H vs Q E hr h => ?_)
  · obtain ⟨a, ns, rfl, _⟩ := h
    rfl
  obtain ⟨a, ns, rfl, hS, h63, q⟩ := h
  refine ⟨_, (pss_cons (ps_for PassesOwn.never rfl (pi_range1 (by rfl) T.z_range (pa_cons (pe_callB (call_max2 rfl) (by rfl) T.z_max (by decide +kernel) (pa_cons pe_int (pa_cons (pe_callB (call_min2 rfl) (by rfl) T.z_min (by decide +kernel) (pa_cons pe_int (pa_cons (pe_callB (call_lenK K) (by rfl) T.z_len (by decide +kernel) (pa_cons (pv 0) pa_nil)) pa_nil))) pa_nil))) pa_nil)) (pg_name (i := 1) sc_law.nd rfl (Or.inl rfl)) (pss_cons (ps_set (i := 2) sc_law.nd rfl (Or.inr rfl) (pe_call G_box (hr.mono (by decide)) (by rfl) T.m_box T.F_box.kp T.b_box .nil pass0 (pa_cons (pv 0) (pa_cons (pv 1) pa_nil))))
      (pss_cons (ps_set (i := 3) sc_law.nd rfl (Or.inr rfl) (pe_call G_names (hr.mono (by decide)) (by rfl) T.m_names T.F_names.kp T.b_names .nil pass0 (pa_cons (pv 2) (pa_cons pe_int pa_nil))))
      (pss_cons (ps_set (i := 4) sc_law.nd rfl (Or.inr rfl) (pe_callTy (call_dictP rfl) (by rfl) T.z_dict (by decide +kernel) (pa_cons (pe_lc (own := [("_law_word", 5)]) (g := gName 5) (by rfl) sc_law.nd (pi_tupK K (pe_tup (pa_cons pe_str (pa_cons pe_str (pa_cons pe_str (pa_cons pe_str (pa_cons pe_str pa_nil))))))) (blkOk_by (own := [("_law_word", 5)]) (N := N_law) (sc := defScope s_law) (by decide +kernel)) (fun _ _ _ _ _ => (pg_name (i := 5) sc_law.nd rfl (Or.inl rfl))) (fun _ _ _ _ _ => pts_nil) (fun _ _ _ _ _ => (pe_tup (pa_cons (pv 5) (pa_cons (pv 3) pa_nil))))) pa_nil)))
      (pss_one (ps_for PassesOwn.never rfl (pi_range1 (by rfl) T.z_range (pa_cons pe_int pa_nil)) (pg_name (i := 6) sc_law.nd rfl (Or.inl rfl)) (pss_cons (ps_setLc (i := 7) (own := [("_law_sort", 8)]) (g := gName 8) (by rfl) sc_law.nd rfl rfl (sw_true rfl rfl rfl (by decide +kernel)) (pi_tupK K (pe_slice (sl_tupAK K) (pe_tup (pa_cons pe_str (pa_cons pe_str (pa_cons pe_str pa_nil)))) po_none (po_some (pe_call G_take (hr.mono (by decide)) (by rfl) T.m_take T.F_take.kp T.b_take .nil pass0 (pa_cons (pv 2) (pa_cons pe_int pa_nil)))))) (blkOk_by (own := [("_law_sort", 8)]) (N := N_law) (sc := defScope s_law) (by decide +kernel)) (fun _ _ _ _ _ => (pg_name (i := 8) sc_law.nd rfl (Or.inl rfl))) (fun _ _ _ _ _ => pts_nil) (fun _ _ _ _ _ => (pe_call G_row (hr.mono (by decide)) (by rfl) T.m_row T.F_row.kp T.b_row .nil passL (pa_cons (pe_call G_drawn_row (hr.mono (by decide)) (by rfl) T.m_drawn_row T.F_drawn_row.kp T.b_drawn_row .nil pass0 (pa_cons (pv 2) (pa_cons (pv 8) (pa_cons (pv 4) pa_nil)))) pa_nil))))
      (pss_cons (ps_par (i := 9) (j := 10) (by rfl) sc_law.nd rfl rfl (by decide) rfl rfl (pa_cons (pe_lst (pa_cons (pe_ix (ix_listK K) (pv 3) pe_int (fun _ _ => rfl)) (pa_cons (pe_slice (sl_listK K) (pv 3) (po_some pe_int) (po_some pe_int)) (pa_cons (pe_callTy (call_tupleK K) (by rfl) T.z_tuple (by decide +kernel) (pa_cons (pe_slice (sl_listK K) (pv 3) po_none (po_some pe_int)) pa_nil)) (pa_cons (pe_slice (sl_listK K) (pv 3) (po_some pe_int) po_none) (pa_cons (pv 7) pa_nil)))))) (pa_cons pe_bl pa_nil)) (by rfl))
      (pss_cons (ps_for PassesOwn.never rfl (pi_range1 (by rfl) T.z_range (pa_cons (pe_call G_take (hr.mono (by decide)) (by rfl) T.m_take T.F_take.kp T.b_take .nil pass0 (pa_cons (pv 2) (pa_cons pe_int pa_nil))) pa_nil)) (pg_name (i := 11) sc_law.nd rfl (Or.inl rfl)) (pss_cons (ps_set (i := 12) sc_law.nd rfl (Or.inl rfl) (pe_call G_take (hr.mono (by decide)) (by rfl) T.m_take T.F_take.kp T.b_take .nil pass0 (pa_cons (pv 2) (pa_cons pe_int pa_nil))))
      (pss_one (ps_if (pt_cmpR op_lt (pv 12) pe_int (nomark _)) (pss_cons (ps_set (i := 13) sc_law.nd rfl (Or.inl rfl) (pe_lst (pa_cons (pe_call G_any (hr.mono (by decide)) (by rfl) T.m_any T.F_any.kp T.b_any .nil pass0 (pa_cons (pv 2) (pa_cons pe_int pa_nil))) (pa_cons (pe_lst (pa_cons (pe_ix (ix_listK K) (pv 3) pe_int (fun _ _ => rfl)) (pa_cons (pe_ix (ix_listK K) (pv 3) pe_int (fun _ _ => rfl)) pa_nil))) (pa_cons (pe_tup (pa_cons (pe_ix (ix_listK K) (pv 3) pe_int (fun _ _ => rfl)) (pa_cons pe_str pa_nil))) (pa_cons (pe_lst pa_nil) (pa_cons (pe_tup pa_nil) pa_nil)))))))
      (pss_one (ps_asg (pe_call G_pick (hr.mono (by decide)) (by rfl) T.m_pick T.F_pick.kp T.b_pick .nil pass0 (pa_cons (pv 2) (pa_cons (pv 13) pa_nil))) (pg_sub (pv 9) (pv 12) set_list)))) (pss_cons (ps_set (i := 13) sc_law.nd rfl (Or.inl rfl) (pe_lst (pa_cons pe_non (pa_cons pe_str (pa_cons (pe_op op_cat (pv 7) (pe_lst (pa_cons pe_str pa_nil))) (pa_cons pe_int (pa_cons (pe_lst (pa_cons pe_non pa_nil)) (pa_cons (pe_lst (pa_cons (pv 7) pa_nil)) pa_nil))))))))
      (pss_one (ps_asg (pe_tup (pa_cons (pe_call G_pick (hr.mono (by decide)) (by rfl) T.m_pick T.F_pick.kp T.b_pick .nil pass0 (pa_cons (pv 2) (pa_cons (pv 13) pa_nil))) (pa_cons pe_bl pa_nil))) (pg_tup rfl (pgs_cons (pg_sub (pv 9) pe_int set_list) (pgs_cons (pg_name (i := 10) sc_law.nd rfl (Or.inl rfl)) pgs_nil))))))))))
      (pss_one (ps_if (pt_cmpR op_ne (pe_call G_refused (hr.mono (by decide)) (by rfl) T.m_refused T.F_refused.kp T.b_refused .nil pass0 (pa_cons (pv 9) pa_nil)) (pe_call G_wrong (hr.mono (by decide)) (by rfl) T.m_wrong T.F_wrong.kp T.b_wrong .nil pass0 (pa_cons (pv 9) (pa_cons (pv 10) pa_nil))) (nomark _)) (pss_one (ps_ret pe_bl)) pss_nil)))))))))))
      (pss_one (ps_ret pe_bl))), ?_⟩
  obtain ⟨mt1, mt2⟩ := many_turns (n := 4) (l := (ns.map V.int).length) (by decide) (by decide)
  refine ⟨_, rfl, _, _, rfl, .inl hS, _, _, rfl, _, _, rfl, _, rfl, by omega, by omega, for_range (lo := 0) (fun i σ H' => ∃ (v1 v2 v3 v4 v5 v6 v7 v8 v9 v10 v11 v12 v13 : Option V), σ = [some (.ref a), v1, v2, v3, v4, v5, v6, v7, v8, v9, v10, v11, v12, v13] ∧ Same H H') ⟨none, none, none, none, none, none, none, none, none, none, none, none, none, rfl, Same.refl _⟩ ?_ ?_⟩
  · rintro i0 σ H1 hi ⟨v1, v2, v3, v4, v5, v6, v7, v8, v9, v10, v11, v12, v13, rfl, s1⟩
    refine ⟨_, rfl, _, rfl, a, ns, _, rfl, s1.seq hS, h63, by omega, fun b bw bs hb => ?_⟩
    refine ⟨_, rfl, b, 4, rfl, gr_box, by decide, by decide, fun nl ys H2 g2 nl0 aN ylen ynd ynm => ?_⟩
    refine ⟨by show 5 ≤ sizeLine; decide, fun tp htp => ⟨tp, rfl, ⟨POOLW.map V.str, SqT.of upd_same⟩, fun D hD => ?_⟩⟩
    have g3 := g2.new htp (.tup (POOLW.map V.str))
    have r3 := gr_self g3
    have atp : At b _ tp (.tup (POOLW.map V.str)) := .mk_new g2 htp _
    have nDb : D ≠ b := g3.ne_new hD
    refine lc_tup (K := K) (a := tp) (xs := POOLW.map V.str) (fun i H' => Gr b (upd H2 tp (.tup (POOLW.map V.str))) H' ∧ ∃ ps : List Addr, H' D = some (.lst (ps.map V.ref)) ∧ ps.length = i ∧ Paired (fun p w => H' p = some (.tup [.str w, .ref nl]) ∧ p ≠ b ∧ p ≠ D) ps (POOLW.take i))
      ⟨r3.new hD _, [], upd_same, rfl, .nil⟩ (fun i H' _ h => (atp.gr h.1).t) ?_ ?_
    · rintro j x H4 hx ⟨g4, ps, hD4, pl, prs⟩
      rw [List.getElem?_map] at hx
      obtain ⟨w1, hw1, rfl⟩ : ∃ w1, POOLW[j]? = some w1 ∧ V.str w1 = x := by
        cases e : POOLW[j]? with
        | none => rw [e] at hx; cases hx
        | some z => rw [e] at hx; cases hx; exact ⟨z, rfl, rfl⟩
      have j5 : j < 5 := (List.getElem?_eq_some_iff.mp hw1).1
      refine ⟨rfl, ?_⟩
      refine ⟨_, rfl, _, rfl, by show 2 ≤ sizeLine; decide, fun t ht => ?_⟩
      have nt : D ≠ t := ne_of_none hD4 ht
      have ntb := g4.ne_new ht
      refine ⟨ps.map V.ref, by rw [upd_ne nt]; exact hD4, small1000 (by simp; omega), (g4.new ht _).mut hD nDb _, ps ++ [t], by rw [upd_same, List.map_append]; rfl, by rw [List.length_append, pl]; rfl, ?_⟩
      rw [List.take_add_one, hw1]
      refine paired_snoc (paired_imp (fun p w h => ⟨?_, h.2⟩) prs) ⟨by rw [upd_ne nt.symm, upd_same], ntb, nt.symm⟩
      rw [upd_ne h.2.2, upd_ne (ne_of_none h.1 ht)]
      exact h.1
    · rintro H4 ⟨g4, ps, hD4, pl, prs⟩
      refine ⟨D, ps, POOLW.map fun x => (Sum.inr x, .ref nl), rfl, SqL.of hD4, ?_, fun pd hpd => ?_⟩
      · have pr5 : Paired (fun (p : Addr) w => H4 p = some (.tup [.str w, .ref nl]) ∧ p ≠ b ∧ p ≠ D) ps POOLW := prs
        exact paired_map (S := fun (p : Addr) (kv : Key × V) => SqT K H4 p [kV kv.1, kv.2]) (f := fun x => (Sum.inr x, .ref nl)) (fun p w h => SqT.of h.1) pr5
      have g5 := g4.new hpd (.dK (mergeK [] (POOLW.map fun x => (Sum.inr x, .ref nl))))
      have aN5 : At b _ nl (.lst (ys.map V.str)) := ((aN.new (u := .tup (POOLW.map V.str)) htp).gr g4).new (u := .dK (mergeK [] (POOLW.map fun x => (Sum.inr x, .ref nl)))) hpd
      have pools : Pools b _ pd (fun _ => ys) := ⟨⟨_, .mk_new g4 hpd _, fun x hx => ⟨nl, pool_at x hx nl, aN5⟩⟩, fun x hx => ⟨fun z => by rw [z] at ylen; exact absurd ylen (by decide), by omega, ynm⟩⟩
      have s5 : ∀ H', Gr b (upd H4 pd (.dK (mergeK [] (POOLW.map fun x => (Sum.inr x, .ref nl))))) H' → Same H H' := fun H' g => s1.trans (gr_same (Same.refl _) hb ((g2.new htp _).trans (g5.trans g)))
      generalize upd H4 pd (.dK (mergeK [] (POOLW.map fun x => (Sum.inr x, .ref nl)))) = H5 at g5 aN5 pools s5
      have r5 := gr_self g5
      obtain ⟨y0, y1, y2, y3, rfl⟩ : ∃ y0 y1 y2 y3, ys = [y0, y1, y2, y3] := by
        match ys, ylen with
        | [y0, y1, y2, y3], _ => exact ⟨y0, y1, y2, y3, rfl⟩
      refine ⟨12, rfl, by decide, by decide, for_range (lo := 0) (fun i σ H' => ∃ (v5 v6 v7 v8 v9 v10 v11 v12 v13 : Option V), σ = [some (.ref a), some (.int (0 + (i0 : Int))), some (.ref b), some (.ref nl), some (.ref pd), v5, v6, v7, v8, v9, v10, v11, v12, v13] ∧ Gr b H5 H') ⟨v5, v6, v7, v8, v9, v10, v11, v12, v13, rfl, r5⟩ ?_ ?_⟩
      · rintro j σ H6 hj ⟨v5, v6, v7, v8, v9, v10, v11, v12, v13, rfl, g6⟩
        have r6 := gr_self g6
        clear hD4 prs atp g4 hpd
        refine ⟨by show 3 ≤ sizeLine; decide, fun t3 ht3 => ?_⟩
        have g7 := r6.new ht3 (.tup (THREE.map V.str))
        have e3 : upd H6 t3 (.tup (THREE.map V.str)) t3 = some (.tup (THREE.map V.str)) := upd_same
        have t3b := r6.ne_new ht3
        refine ⟨_, rfl, b, 4, rfl, gr_self g7, by decide, by decide, fun d3 H7 d0 d1 g8 => ⟨d3, rfl, ?_⟩⟩
        refine slA_take (xs := THREE.map V.str) (g8.keep _ _ t3b e3) d0 (by show d3 ≤ 3; omega) fun p H8 s8 hp => ?_
        have g78 := g7.trans g8
        obtain ⟨bw8, bs8, bc8, hb7⟩ := g8.box
        have g9 : Gr b H6 H8 := g78.trans (Same.gr s8 hb7)
        have r9 := gr_self g9
        obtain ⟨bw9, bs9, bc9, hb8⟩ := g9.box
        have pb : p ≠ b := fun z => by rw [z, hb8] at hp; cases hp
        have lt3 : (THREE.map V.str).take d3.toNat = (THREE.take d3.toNat).map V.str := (List.map_take ..).symm
        rw [lt3] at hp
        have n3 : (THREE.take d3.toNat).length ≤ 3 := List.length_take_le' _ _
        have m3 : ∀ y ∈ THREE.take d3.toNat, y ∈ SORTS := fun y hy => three_in y (List.mem_of_mem_take hy)
        generalize THREE.take d3.toNat = L3 at hp n3 m3
        refine ⟨p, rfl, ⟨_, SqT.of hp⟩, fun rl hrl => ?_⟩
        have nrb : rl ≠ b := r9.ne_new hrl
        refine lc_tup (K := K) (a := p) (xs := L3.map V.str) (fun i H' => Gr b H8 H' ∧ ∃ (ps : List V) (ms : List (Str × List Str)), H' rl = some (.lst ps) ∧ Paired (RwAt T.toTxSvc H') ps ms ∧ ps.length = i) ⟨r9.new hrl _, [], [], upd_same, .nil, rfl⟩ (fun i H' _ h => SqT.of (h.1.keep _ _ pb hp)) ?_ ?_
        · rintro i x H9 hx ⟨ga, ps, ms, hl9, prs, pl⟩
          rw [List.getElem?_map] at hx
          obtain ⟨so, hso1, rfl⟩ : ∃ so, L3[i]? = some so ∧ V.str so = x := by
            cases e : L3[i]? with
            | none => rw [e] at hx; cases hx
            | some z => rw [e] at hx; cases hx; exact ⟨z, rfl, rfl⟩
          have i3 : i < 3 := by have := (List.getElem?_eq_some_iff.mp hso1).1; omega
          have hso := m3 so (List.mem_of_getElem? hso1)
          refine ⟨rfl, ?_⟩
          refine ⟨_, rfl, _, rfl, _, rfl, b, pd, so, fun _ => [y0, y1, y2, y3], rfl, gr_self ga, hso, (pools.gr g6).gr (g9.trans ga), fun rp ws H10 gb hrp aP pr => ?_⟩
          have gd : GoodR (so, ws) := ⟨hso, pr⟩
          refine ⟨rp, so, ws.map V.str, ws.map PyData.str, rfl, .inr aP.t, by rw [List.length_map]; exact gd.len2, dvs_strs gd.okW, fun pp dx H11 e11 s11 n11 h11 => ?_, fun wd d H' e _ _ _ => by rw [show wrOf so (ws.map PyData.str) = none from gd.wr] at e; cases e⟩
          obtain ⟨m, hm⟩ := rw_of T.toTxSvc hso gd.len2 h11
          obtain ⟨bw, bs, bc, hb10⟩ := gb.box
          have hl11 := s11 _ _ (gb.keep _ _ nrb hl9)
          obtain ⟨bw2, bs2, bc2, hb9⟩ := ga.box
          have ki : ∀ (a : Addr) (C dx : Addr) (fs : List (Str × V)), H9 a = some (.ins C dx fs) → upd H11 rl (.lst (ps ++ [.ref pp])) a = some (.ins C dx fs) := fun a C dx fs e => by
            rw [upd_ne (fun z => by rw [z, hl9] at e; cases e)]
            exact s11 _ _ (gb.keep _ _ (fun z => by rw [z, hb9] at e; cases e) e)
          have kj : ∀ (a : Addr) (C dx : Addr) (fs : List (Str × V)), H11 a = some (.ins C dx fs) → upd H11 rl (.lst (ps ++ [.ref pp])) a = some (.ins C dx fs) := fun a C dx fs e => by
            rw [upd_ne (fun z => by rw [z, hl11] at e; cases e)]
            exact e
          refine ⟨ps, hl11, small1000 (by omega), ((ga.trans gb).trans (Same.gr s11 hb10)).mut hrl nrb _, ps ++ [.ref pp], ms ++ [m], upd_same, paired_snoc (rws_keep ki prs) (hm.keep kj), by rw [List.length_append, pl]; rfl⟩
        · rintro H9 ⟨ga, ps, ms, hl9, prs, pl⟩
          have g90 := g9.trans ga
          have r90 := gr_self g90
          have aN9 : At b H9 nl (.lst ([y0, y1, y2, y3].map V.str)) := (aN5.gr g6).gr g90
          have ml : ms.length ≤ 20 := by rw [← pair_len prs, pl, List.length_map]; omega
          have n0 := isNm_okW (ynm y0 (by simp))
          have okn : ∀ y ∈ [y0, y1, y2, y3], okS y = true := fun y hy => okW_S (isNm_okW (ynm y hy))
          -- the arguments
          refine ⟨_, rfl, ixl_tc (j := 0) (aN9.l) rfl ?_⟩
          refine ⟨_, rfl, 1, rfl, 2, rfl, nl, _, rfl, aN9.l, fun l1 hl1 => ?_⟩
          have gc1 := r90.new hl1 (.lst (cutV ([y0, y1, y2, y3].map V.str) (some 1) (some 2)))
          refine ⟨_, rfl, 2, rfl, nl, _, rfl, (aN9.gr gc1).l, fun l2 hl2 => ?_⟩
          have gc2 := gc1.new hl2 (.lst (cutV ([y0, y1, y2, y3].map V.str) none (some 2)))
          refine ⟨l2, _, rfl, .inl ⟨SqL.of upd_same, fun tq htq => ?_⟩⟩
          have gc3 := gc2.new htq (.tup (cutV ([y0, y1, y2, y3].map V.str) none (some 2)))
          refine ⟨_, rfl, 2, rfl, nl, _, rfl, (aN9.gr gc3).l, fun l3 hl3 => ?_⟩
          have gc4 := gc3.new hl3 (.lst (cutV ([y0, y1, y2, y3].map V.str) (some 2) none))
          refine ⟨_, rfl, by show 5 ≤ sizeLine; decide, fun sm hsm => ?_⟩
          refine ⟨_, _, rfl, ?_⟩
          have gc5 := gc4.new hsm (.lst [.str y0, .ref l1, .ref tq, .ref l3, .ref rl])
          have k5 := same_upd hsm (.lst [.str y0, .ref l1, .ref tq, .ref l3, .ref rl])
          have k4 := (same_upd hl3 (.lst (cutV ([y0, y1, y2, y3].map V.str) (some 2) none))).trans k5
          have k3 := (same_upd htq (.tup (cutV ([y0, y1, y2, y3].map V.str) none (some 2)))).trans k4
          have k2 := (same_upd hl2 (.lst (cutV ([y0, y1, y2, y3].map V.str) none (some 2)))).trans k3
          have f1 := k2 _ _ (upd_same (a := l1) (o := .lst [.str y1]))
          have f2 := k4 _ _ (upd_same (a := tq) (o := .tup [.str y0, .str y1]))
          have f3 := k5 _ _ (upd_same (a := l3) (o := .lst [.str y2, .str y3]))
          have f4 := ((same_upd hl1 (.lst (cutV ([y0, y1, y2, y3].map V.str) (some 1) (some 2)))).trans k2) _ _ hl9
          have ki : ∀ (a : Addr) (C dx : Addr) (fs : List (Str × V)), H9 a = some (.ins C dx fs) → _ := fun a C dx fs e => ((same_upd hl1 (.lst (cutV ([y0, y1, y2, y3].map V.str) (some 1) (some 2)))).trans k2) _ _ e
          have f5 := upd_same (a := sm) (o := .lst [.str y0, .ref l1, .ref tq, .ref l3, .ref rl]) (H := upd (upd (upd (upd H9 l1 (.lst (cutV ([y0, y1, y2, y3].map V.str) (some 1) (some 2)))) l2 (.lst (cutV ([y0, y1, y2, y3].map V.str) none (some 2)))) tq (.tup (cutV ([y0, y1, y2, y3].map V.str) none (some 2)))) l3 (.lst (cutV ([y0, y1, y2, y3].map V.str) (some 2) none)))
          have sm0 : H6 sm = none := (g90.trans gc4).free hsm
          have smb : sm ≠ b := (g90.trans gc4).ne_new hsm
          have rls : rl ≠ sm := ne_of_none (gc4.keep _ _ nrb hl9) hsm
          have prs2 := rws_keep ki prs
          clear ki k5 k4 k3 k2 hl1 hl2 hl3 htq hsm gc1 gc2 gc3 gc4
          generalize upd (upd (upd (upd (upd H9 l1 (.lst (cutV ([y0, y1, y2, y3].map V.str) (some 1) (some 2)))) l2 (.lst (cutV ([y0, y1, y2, y3].map V.str) none (some 2)))) tq (.tup (cutV ([y0, y1, y2, y3].map V.str) none (some 2)))) l3 (.lst (cutV ([y0, y1, y2, y3].map V.str) (some 2) none))) sm (.lst [.str y0, .ref l1, .ref tq, .ref l3, .ref rl]) = H12 at *
          obtain ⟨bw5, bs5, bc5, hb12⟩ := gc5.box
          have ok1 : l1 ≠ b ∧ l1 ≠ sm := ⟨fun z => (by rw [z, hb12] at f1; cases f1), fun z => (by rw [z, f5] at f1; cases f1)⟩
          have ok2 : tq ≠ b ∧ tq ≠ sm := ⟨fun z => (by rw [z, hb12] at f2; cases f2), fun z => (by rw [z, f5] at f2; cases f2)⟩
          have ok3 : l3 ≠ b ∧ l3 ≠ sm := ⟨fun z => (by rw [z, hb12] at f3; cases f3), fun z => (by rw [z, f5] at f3; cases f3)⟩
          have args0 : ArgsAt T.toTxSvc b sm H12 false := by
            refine ⟨⟨[.str y0, .ref l1, .ref tq, .ref l3], [.str y0, .list ([y1].map PyData.str), .tuple ([y0, y1].map PyData.str), .list ([y2, y3].map PyData.str)], .ref rl, f5, rfl, .cons (.str _) (.cons (.lst ok1 f1 (DaAll.strs [y1])) (.cons (.tup ok2 f2 (DaAll.strs [y0, y1])) (.cons (.lst ok3 f3 (DaAll.strs [y2, y3])) .nil))), fun d hd => ?_, .rows nrb rls f4 prs2 ml⟩, smb⟩
            simp only [List.mem_cons, List.not_mem_nil, or_false] at hd
            rcases hd with rfl | rfl | rfl | rfl
            · exact GoodD.str (okn _ (by simp))
            · exact (good_list (k := 3) (by simp) (goods fun y hy => okn y (by simp at hy; simp [hy]))).1
            · exact (good_list (k := 3) (by simp) (goods fun y hy => okn y (by simp at hy; rcases hy with rfl | rfl <;> simp))).2
            · exact (good_list (k := 3) (by simp) (goods fun y hy => okn y (by simp at hy; rcases hy with rfl | rfl <;> simp))).1
          have g12 := g90.trans gc5
          refine ⟨_, rfl, b, 4, rfl, gr_self g12, by decide, by decide, fun mm H13 m0 m1 g13 => ⟨mm, rfl, by omega, by omega, for_range (lo := 0) (n := mm.toNat) (fun i σ H' => ∃ (v8 v11 v12 v13 : Option V) (bad : Bool), σ = [some (.ref a), some (.int (0 + (i0 : Int))), some (.ref b), some (.ref nl), some (.ref pd), v5, some (.int (0 + (j : Int))), some (.ref rl), v8, some (.ref sm), some (.bl bad), v11, v12, v13] ∧ Gr b H6 H' ∧
            H' rl = some (.lst ps) ∧ Paired (RwAt T.toTxSvc H') ps ms ∧ ArgsAt T.toTxSvc b sm H' bad) ⟨_, _, _, _, false, rfl, g12.trans g13, g13.keep _ _ nrb f4, rws_keep (fun a C dx fs e => g13.keep _ _ (fun z => by rw [z, hb12] at e; cases e) e) prs2, args0.gr (gr_self g12) g13⟩ ?_ ?_⟩⟩
          · rintro e σ H14 he ⟨v8, v11, v12, v13, bad, rfl, g14, hl14, pr14, args⟩
            refine ⟨_, rfl, b, 5, rfl, gr_self g14, by decide, by decide, fun at_ H15 a0 a1 g15 => ?_⟩
            have args15 := args.gr (gr_self g14) g15
            obtain ⟨xs, hx14, lx⟩ := args.lst
            have g0 := gr_self g15
            have aN15 : At b H15 nl (.lst ([y0, y1, y2, y3].map V.str)) := ((aN5.gr g6).gr g14).gr g15
            refine ⟨_, rfl, _, _, rfl, rfl, _, rfl, ?_⟩
            refine ite2 (fun c => ?_) (fun c => ?_)
            · have c4 : at_ < 4 := of_decide_eq_true c
              refine ⟨_, rfl, b, rfl, g0, fun v d H16 g16 hv gd => ?_⟩
              have aN16 := aN15.gr g16
              have r16 := gr_self g16
              refine ⟨_, rfl, ixl_tc (j := 0) aN16.l rfl ?_⟩
              refine ⟨_, rfl, ixl_tc (j := 0) aN16.l rfl ?_⟩
              refine ⟨by show 2 ≤ sizeLine; decide, fun q1 hq1 => ?_⟩
              have gq1 := r16.new hq1 (.lst [.str y0, .str y0])
              refine ⟨_, rfl, ixl_tc (j := 1) (aN16.gr gq1).l rfl ?_⟩
              refine ⟨by show 2 ≤ sizeLine; decide, fun q2 hq2 => ?_⟩
              have gq2 := gq1.new hq2 (.tup [.str y1, .str "any"])
              refine ⟨Nat.zero_le _, fun q3 hq3 => ?_⟩
              have gq3 := gq2.new hq3 (.lst [])
              refine ⟨Nat.zero_le _, fun q4 hq4 => ?_⟩
              have gq4 := gq3.new hq4 (.tup [])
              refine ⟨by show 5 ≤ sizeLine; decide, fun ol hol => ?_⟩
              have gq5 := gq4.new hol (.lst [v, .ref q1, .ref q2, .ref q3, .ref q4])
              have hb15 : ∃ w s c, H15 b = some (bx w s c) := g15.box
              obtain ⟨bw7, bs7, bc7, hb15⟩ := hb15
              have hsm15 : H15 sm = some (.lst xs) := g15.keep _ _ smb hx14
              have hsm16 := g16.keep _ _ smb hsm15
              have w4 := same_upd hol (.lst [v, .ref q1, .ref q2, .ref q3, .ref q4])
              have w3 := (same_upd hq4 (.tup [])).trans w4
              have w2 := (same_upd hq3 (.lst [])).trans w3
              have w1 := (same_upd hq2 (.tup [.str y1, .str "any"])).trans w2
              have fq1 := w1 _ _ (upd_same (a := q1) (o := .lst [.str y0, .str y0]))
              have fq2 := w2 _ _ (upd_same (a := q2) (o := .tup [.str y1, .str "any"]))
              have fq3 := w3 _ _ (upd_same (a := q3) (o := .lst []))
              have fq4 := w4 _ _ (upd_same (a := q4) (o := .tup []))
              have nq : ∀ p, H16 p = none → p ≠ b ∧ p ≠ sm := fun p z => ⟨r16.ne_new z, (ne_of_none hsm16 z).symm⟩
              have n1 := nq _ hq1
              have n2 := nq _ (gq1.free hq2)
              have n3 := nq _ (gq2.free hq3)
              have n4 := nq _ (gq3.free hq4)
              have aO : At b _ ol (.lst [v, .ref q1, .ref q2, .ref q3, .ref q4]) := .mk_new gq4 hol _
              clear w4 w3 w2 w1 hq1 hq2 hq3 hq4 hol gq1 gq2 gq3 gq4
              generalize upd (upd (upd (upd (upd H16 q1 (.lst [.str y0, .str y0])) q2 (.tup [.str y1, .str "any"])) q3 (.lst [])) q4 (.tup [])) ol (.lst [v, .ref q1, .ref q2, .ref q3, .ref q4]) = H17 at *
              refine ⟨_, rfl, _, rfl, b, ol, _, rfl, gr_self gq5, aO, by simp, by show 5 ≤ 1000; decide, fun x H18 hx g18 => ?_⟩
              have gc := g16.trans (gq5.trans g18)
              have args18 := args15.gr g0 gc
              obtain ⟨xs8, hx8, lx8⟩ := args18.lst
              have key : ∃ dx, Da (fun a => a ≠ b ∧ a ≠ sm) H18 x dx ∧ GoodD 4 dx := by
                simp only [List.mem_cons, List.not_mem_nil, or_false] at hx
                rcases hx with rfl | rfl | rfl | rfl | rfl
                · have nf : ∀ a, H15 a = none → a ≠ b ∧ a ≠ sm := fun a z => ⟨fun e => (by rw [e, hb15] at z; cases z), fun e => (by rw [e, hsm15] at z; cases z)⟩
                  exact ⟨d, Da.mono nf (fun a o z e => (gq5.trans g18).keep a o (nf a z).1 e) d _ hv, gd.mono (by decide)⟩
                · exact ⟨.list ([y0, y0].map PyData.str), .lst n1 (g18.keep _ _ n1.1 fq1) (DaAll.strs [y0, y0]), (good_list (k := 3) (by simp) (goods fun y hy => okn y (by simp at hy; simp [hy]))).1⟩
                · exact ⟨.tuple ([y1, "any"].map PyData.str), .tup n2 (g18.keep _ _ n2.1 fq2) (DaAll.strs [y1, "any"]), (good_list (k := 3) (by simp) (goods fun y hy => by
                    rcases List.mem_cons.mp hy with z | z
                    · rw [z]; exact okn y1 (by simp)
                    · rw [List.mem_singleton.mp z]; decide +kernel)).2⟩
                · exact ⟨.list [], .lst n3 (g18.keep _ _ n3.1 fq3) .nil, (good_list (k := 3) (ds := []) (by simp) (fun _ h => by cases h)).1⟩
                · exact ⟨.tuple [], .tup n4 (g18.keep _ _ n4.1 fq4) .nil, (good_list (k := 3) (ds := []) (by simp) (fun _ h => by cases h)).2⟩
              obtain ⟨dx, hdx, gdx⟩ := key
              obtain ⟨bw8, bs8, bc8, hb14⟩ := (gr_self g14).box
              refine ⟨_, rfl, _, rfl, sm, xs8, at_, at_.toNat, rfl, rfl, hx8, ?_, ?_⟩
              · rw [lx8]
                unfold ixN
                rw [if_pos (by omega), if_pos (by omega)]
              · refine ⟨_, _, _, _, bad, rfl, (g14.trans (g15.trans gc)).mut sm0 smb _, ?_, rws_keep (fun a C dx fs e => ?_) pr14, args18.put (gr_self g18) hx8 (by omega) hdx gdx⟩
                · rw [upd_ne rls]
                  exact (g15.trans gc).keep _ _ nrb hl14
                · rw [upd_ne (fun z => by rw [z, hx14] at e; cases e)]
                  exact (g15.trans gc).keep _ _ (fun z => by rw [z, hb14] at e; cases e) e
            · have hl15 := g15.keep _ _ nrb hl14
              refine ⟨_, rfl, by show 1 ≤ sizeLine; decide, fun e1 he1 => ?_⟩
              have gq1 := g0.new he1 (.lst [.str "end any any none keep"])
              refine ⟨rl, e1, ps, [.str "end any any none keep"], rfl, rfl, by rw [upd_ne (ne_of_none hl15 he1)]; exact hl15, upd_same, small_ (by have := pair_len pr14; simp; omega), fun p1 hp1 => ?_⟩
              have gq2 := gq1.new hp1 (.lst (ps ++ [.str "end any any none keep"]))
              refine ⟨by show 1 ≤ sizeLine; decide, fun p2 hp2 => ?_⟩
              have gq3 := gq2.new hp2 (.lst [.non])
              refine ⟨_, rfl, by show 1 ≤ sizeLine; decide, fun p3 hp3 => ?_⟩
              have gq4 := gq3.new hp3 (.lst [.ref rl])
              refine ⟨by show 6 ≤ sizeLine; decide, fun ol hol => ?_⟩
              have gq5 := gq4.new hol (.lst [.non, .str "end any any none keep", .ref p1, .int 5, .ref p2, .ref p3])
              have hsm15 : H15 sm = some (.lst xs) := g15.keep _ _ smb hx14
              have w3 := same_upd hol (.lst [.non, .str "end any any none keep", .ref p1, .int 5, .ref p2, .ref p3])
              have w2 := (same_upd hp3 (.lst [.ref rl])).trans w3
              have w1 := (same_upd hp2 (.lst [.non])).trans w2
              have w0 := (same_upd he1 (.lst [.str "end any any none keep"])).trans ((same_upd hp1 (.lst (ps ++ [.str "end any any none keep"]))).trans w1)
              have fq1 := w1 _ _ (upd_same (a := p1) (o := .lst (ps ++ [.str "end any any none keep"])))
              have fq2 := w2 _ _ (upd_same (a := p2) (o := .lst [.non]))
              have fq3 := w3 _ _ (upd_same (a := p3) (o := .lst [.ref rl]))
              have nq : ∀ p, H15 p = none → p ≠ b ∧ p ≠ sm := fun p z => ⟨g0.ne_new z, (ne_of_none hsm15 z).symm⟩
              have n1 := nq _ (gq1.free hp1)
              have n2 := nq _ (gq2.free hp2)
              have n3 := nq _ (gq3.free hp3)
              have aO : At b _ ol (.lst [.non, .str "end any any none keep", .ref p1, .int 5, .ref p2, .ref p3]) := .mk_new gq4 hol _
              refine ⟨_, rfl, _, rfl, b, ol, _, rfl, gr_self gq5, aO, by simp, by show 6 ≤ 1000; decide, fun x H18 hx g18 => ?_⟩
              refine ⟨by show 2 ≤ sizeLine; decide, fun t9 ht9 => ?_⟩
              have gc := (gq5.trans g18).new ht9 (.tup [x, .bl true])
              have g19 := g18.new ht9 (.tup [x, .bl true])
              have args19 := args15.gr g0 gc
              obtain ⟨xs8, hx8, lx8⟩ := args19.lst
              obtain ⟨bw8, bs8, bc8, hb14⟩ := (gr_self g14).box
              have kk : ∀ (a C dx : Addr) (fs : List (Str × V)), H14 a = some (.ins C dx fs) → upd H18 t9 (.tup [x, .bl true]) a = some (.ins C dx fs) := fun a C dx fs e => (g15.trans gc).keep _ _ (fun z => by rw [z, hb14] at e; cases e) e
              have key : RwV T.toTxSvc b sm (upd H18 t9 (.tup [x, .bl true])) x false := by
                simp only [List.mem_cons, List.not_mem_nil, or_false] at hx
                rcases hx with rfl | rfl | rfl | rfl | rfl | rfl
                · exact .non
                · exact .str _
                · exact .more _ n1.1 n1.2 (g19.keep _ _ n1.1 fq1) (rws_keep kk pr14) ml
                · exact .int _
                · exact .one n2.1 n2.2 (g19.keep _ _ n2.1 fq2)
                · exact .deep n3.1 n3.2 (g19.keep _ _ n3.1 fq3) nrb rls (gc.keep _ _ nrb hl15)
              refine ⟨t9, _, rfl, SqT.of upd_same, rfl, _, _, rfl, ?_⟩
              refine ⟨_, rfl, sm, xs8, 4, 4, rfl, rfl, hx8, ?_, ?_⟩
              · rw [lx8]
                rfl
              · refine ⟨_, _, rfl, rfl, ?_⟩
                refine ⟨_, _, _, _, true, rfl, (g14.trans (g15.trans gc)).mut sm0 smb _, ?_, rws_keep (fun a C dx fs e => ?_) pr14, args19.put4 (gr_self gc) hx8 key⟩
                · rw [upd_ne rls]
                  exact (g15.trans gc).keep _ _ nrb hl14
                · rw [upd_ne (fun z => by rw [z, hx14] at e; cases e)]
                  exact kk _ _ _ _ e
          · rintro σ H14 ⟨v8, v11, v12, v13, bad, rfl, g14, hl14, pr14, args⟩
            obtain ⟨n, k, wt, lv, rw, b1, b2, b3, hsm, sa⟩ := args.args T.toTxRw
            refine ⟨_, rfl, sm, n, k, wt, lv, rw, b1, b2, b3, !bad, rfl, SqL.of hsm, sa, fun H15 s15 => ?_⟩
            have sa2 := sa.same s15
            refine ⟨_, rfl, _, rfl, sm, n, k, wt, lv, rw, b1, b2, b3, bad, rfl, SqL.of (s15 _ _ hsm), sa2.an, sa2.ak, sa2.aw, sa2.al, fun H16 s16 => ?_⟩
            obtain ⟨bw6, bs6, bc6, hb14⟩ := g14.box
            have e : (!decide (optV (wrSvc (nmV n) b1 b2 b3 (!bad)) = optV (wrSvc (nmV n) b1 b2 b3 (!bad)))) = false := by
              rw [decide_eq_true rfl]
              rfl
            refine ⟨scal_opt _ _, _, rfl, ite2 (fun c => ?_) (fun _ => ?_)⟩
            · rw [e] at c
              cases c
            · exact ⟨_, _, _, _, _, _, _, _, _, rfl, g6.trans (g14.trans (Same.gr (s15.trans s16) hb14))⟩
      · rintro σ H6 ⟨v5, v6, v7, v8, v9, v10, v11, v12, v13, rfl, g6⟩
        exact ⟨_, _, _, _, _, _, _, _, _, _, _, _, _, rfl, s5 H6 g6⟩
  · rintro σ H1 ⟨v1, v2, v3, v4, v5, v6, v7, v8, v9, v10, v11, v12, v13, rfl, s1⟩
    exact q H1
end
end My

/-! ## The end: what the top has written, the theorem -/
namespace My
open PySem L2
theorem kit_yes {K : PySem.W.Frag} {t : Value} {C : Addr} (h1 : PySem.W.isClsIn K C = true) (h2 : PySem.W.typeIn K (.ref C) = some (.type "type")) (h3 : PySem.W.subIn K t (.ref C) = some true) : PySem.W.kitOne K t (.ref C) = some true := by
  have e : ((PySem.W.clsIn K C).isSome && PySem.W.typeIn K (.ref C) == some (.type "type")) = true := by
    have h1' : (PySem.W.clsIn K C).isSome = true := h1
    rw [h1', h2] <;> rfl
  unfold PySem.W.kitOne
  split
  · rfl
  · show (if ((PySem.W.clsIn K C).isSome && PySem.W.typeIn K (.ref C) == some (.type "type")) = true then PySem.W.subIn K t (.ref C) else none) = some true
    rw [if_pos e]
    exact h3
theorem kit_no {K : PySem.W.Frag} {A C : Addr} {b : Bool} (h1 : PySem.W.isClsIn K C = true) (h2 : PySem.W.typeIn K (.ref C) = some (.type "type")) (h3 : PySem.W.subIn K (.ref A) (.ref C) = some b) (n : A ≠ C) : PySem.W.kitOne K (.ref A) (.ref C) = some b := by
  have e : ((PySem.W.clsIn K C).isSome && PySem.W.typeIn K (.ref C) == some (.type "type")) = true := by
    have h1' : (PySem.W.clsIn K C).isSome = true := h1
    rw [h1', h2] <;> rfl
  unfold PySem.W.kitOne
  rw [if_neg (fun z => n (by have z2 := beq_iff_eq.mp z; cases z2; rfl))]
  show (if ((PySem.W.clsIn K C).isSome && PySem.W.typeIn K (.ref C) == some (.type "type")) = true then PySem.W.subIn K (.ref A) (.ref C) else none) = some b
  rw [if_pos e]
  exact h3
theorem kit_tyno {K : PySem.W.Frag} {A : String} {C : Addr} {b : Bool} (h1 : PySem.W.isClsIn K C = true) (h2 : PySem.W.typeIn K (.ref C) = some (.type "type")) (h3 : PySem.W.subIn K (.type A) (.ref C) = some b) : PySem.W.kitOne K (.type A) (.ref C) = some b := by
  have e : ((PySem.W.clsIn K C).isSome && PySem.W.typeIn K (.ref C) == some (.type "type")) = true := by
    have h1' : (PySem.W.clsIn K C).isSome = true := h1
    rw [h1', h2] <;> rfl
  unfold PySem.W.kitOne
  rw [if_neg (fun z => by have z2 := beq_iff_eq.mp z; cases z2)]
  show (if ((PySem.W.clsIn K C).isSome && PySem.W.typeIn K (.ref C) == some (.type "type")) = true then PySem.W.subIn K (.type A) (.ref C) else none) = some b
  rw [if_pos e]
  exact h3
theorem kit_reflist {K : PySem.W.Frag} {A : Addr} {b : Bool} (h3 : PySem.W.subIn K (.ref A) (.type "list") = some b) : PySem.W.kitOne K (.ref A) (.type "list") = some b := by
  unfold PySem.W.kitOne
  rw [if_neg (fun z => by have z2 := beq_iff_eq.mp z; cases z2)]
  unfold PySem.W.kitCls
  first | exact h3 | (simp; exact h3)
theorem kit_reftuple {K : PySem.W.Frag} {A : Addr} {b : Bool} (h3 : PySem.W.subIn K (.ref A) (.type "tuple") = some b) : PySem.W.kitOne K (.ref A) (.type "tuple") = some b := by
  unfold PySem.W.kitOne
  rw [if_neg (fun z => by have z2 := beq_iff_eq.mp z; cases z2)]
  unfold PySem.W.kitCls
  first | exact h3 | (simp; exact h3)
theorem exm_mk {K : PySem.W.Frag} {t : Value} {C : Addr} {b : Bool} (h0 : PySem.W.subIn K (.ref C) (.type "BaseException") = some true) (h1 : PySem.W.isClsIn K C = true) (h2 : PySem.W.typeIn K (.ref C) = some (.type "type")) (h3 : PySem.W.subIn K t (.ref C) = some b) : PySem.W.exmOne K t (.ref C) = some b := by
  have e : ((PySem.W.clsIn K C).isSome && PySem.W.typeIn K (.ref C) == some (.type "type")) = true := by
    have h1' : (PySem.W.clsIn K C).isSome = true := h1
    rw [h1', h2] <;> rfl
  have e0 : (PySem.W.subIn K (.ref C) (.type "BaseException") == some true) = true := by rw [h0] <;> rfl
  unfold PySem.W.exmOne
  rw [if_pos e0]
  show (if ((PySem.W.clsIn K C).isSome && PySem.W.typeIn K (.ref C) == some (.type "type")) = true then PySem.W.subIn K t (.ref C) else none) = some b
  rw [if_pos e]
  exact h3
theorem ve_one {C : Addr} : PySem.HandSPX.refsVE [.ref C, .type "ValueError", .type "Exception", .type "BaseException", .type "object"] = true := by
  show PySem.HandSPX.refsVE [.type "ValueError", .type "Exception", .type "BaseException", .type "object"] = true
  decide +kernel
theorem all_mk {P : Program} {w : World} {K : PySem.W.Frag} {h : Heap} {mg : Str → Option Value} {fa : Addr} (X : K.In h) (G : h.Ns mainGlobals mg) (hfa : mg "law" = some (.ref fa))
    {oc_is_name kV_is_name dc_is_name pm_is_name cd_is_name ct_is_name oc_is_sequence kV_is_sequence dc_is_sequence pm_is_sequence cd_is_sequence ct_is_sequence oc_are_names kV_are_names dc_are_names pm_are_names cd_are_names ct_are_names oc_are_some_names kV_are_some_names dc_are_some_names pm_are_some_names cd_are_some_names ct_are_some_names oc_is_name_or kV_is_name_or dc_is_name_or pm_is_name_or cd_is_name_or ct_is_name_or oc_InvalidRow_init kV_InvalidRow_init dc_InvalidRow_init pm_InvalidRow_init cd_InvalidRow_init ct_InvalidRow_init oc_Begin_init kV_Begin_init dc_Begin_init pm_Begin_init cd_Begin_init ct_Begin_init oc_Send_init kV_Send_init dc_Send_init pm_Send_init cd_Send_init ct_Send_init oc_Back_init kV_Back_init dc_Back_init pm_Back_init cd_Back_init ct_Back_init oc_End_init kV_End_init dc_End_init pm_End_init cd_End_init ct_End_init oc_ascending kV_ascending dc_ascending pm_ascending cd_ascending ct_ascending oc_are_rows kV_are_rows dc_are_rows pm_are_rows cd_are_rows ct_are_rows oc_InvalidService_init kV_InvalidService_init dc_InvalidService_init pm_InvalidService_init cd_InvalidService_init ct_InvalidService_init oc_own_bits kV_own_bits dc_own_bits pm_own_bits cd_own_bits ct_own_bits oc_end_in kV_end_in dc_end_in pm_end_in cd_end_in ct_end_in oc_endings_in kV_endings_in dc_endings_in pm_endings_in cd_endings_in ct_endings_in oc_refused kV_refused dc_refused pm_refused cd_refused ct_refused oc_is_name_law kV_is_name_law dc_is_name_law pm_is_name_law cd_is_name_law ct_is_name_law oc_are_names_law kV_are_names_law dc_are_names_law pm_are_names_law cd_are_names_law ct_are_names_law oc_wrong kV_wrong dc_wrong pm_wrong cd_wrong ct_wrong oc_take kV_take dc_take pm_take cd_take ct_take oc_box kV_box dc_box pm_box cd_box ct_box oc_pick kV_pick dc_pick pm_pick cd_pick ct_pick oc_mixed kV_mixed dc_mixed pm_mixed cd_mixed ct_mixed oc_names kV_names dc_names pm_names cd_names ct_names oc_any kV_any dc_any pm_any cd_any ct_any oc_row kV_row dc_row pm_row cd_row ct_row oc_words kV_words dc_words pm_words cd_words ct_words oc_drawn_row kV_drawn_row dc_drawn_row pm_drawn_row cd_drawn_row ct_drawn_row oc_law kV_law dc_law pm_law cd_law ct_law v0_aNO v1_aNO v2_aNO v3_aNO v4_aNO v5_aNO v6_aNO v7_aNO v8_aNO v9_aNO oc_Service_init kV_Service_init dc_Service_init pm_Service_init cd_Service_init ct_Service_init : Value}
    {od_is_name an_is_name od_is_sequence an_is_sequence od_are_names an_are_names od_are_some_names an_are_some_names od_is_name_or an_is_name_or od_InvalidRow_init an_InvalidRow_init od_Begin_init an_Begin_init od_Send_init an_Send_init od_Back_init an_Back_init od_End_init an_End_init od_ascending an_ascending od_are_rows an_are_rows od_InvalidService_init an_InvalidService_init od_own_bits an_own_bits od_end_in an_end_in od_endings_in an_endings_in od_refused an_refused od_is_name_law an_is_name_law od_are_names_law an_are_names_law od_wrong an_wrong od_take an_take od_box an_box od_pick an_pick od_mixed an_mixed od_names an_names od_any an_any od_row an_row od_words an_words od_drawn_row an_drawn_row od_law an_law dd_C_InvalidRow dd_C_InvalidService dt_e_waits dt_e_leaves dt_e_rows od_Service_init an_Service_init dtD_Service_init : Option Addr}
    {sl_is_name sl_is_sequence sl_are_names sl_are_some_names sl_is_name_or sl_InvalidRow_init sl_Begin_init sl_Send_init sl_Back_init sl_End_init sl_ascending sl_are_rows sl_InvalidService_init sl_own_bits sl_end_in sl_endings_in sl_refused sl_is_name_law sl_are_names_law sl_wrong sl_take sl_box sl_pick sl_mixed sl_names sl_any sl_row sl_words sl_drawn_row sl_law so_e_waits so_e_leaves so_e_rows sl_Service_init soD_Service_init : Array (Option Value)}
    {aNO f_is_name f_is_sequence f_are_names f_are_some_names f_is_name_or C_InvalidRow N_C_InvalidRow bC_C_InvalidRow f_InvalidRow_init C_Begin f_Begin_init C_Send f_Send_init C_Back f_Back_init C_End f_End_init f_ascending f_are_rows C_Row C_InvalidService N_C_InvalidService bC_C_InvalidService f_InvalidService_init C_Service f_Service_init e_waits e_leaves e_rows dT_Service_init f_own_bits f_end_in f_endings_in C_TraceError C_InvalidBook f_refused f_is_name_law f_are_names_law f_wrong f_take f_box f_pick f_mixed f_names f_any f_row f_words f_drawn_row f_law : Addr}
    {sz_aNO sz_e_waits sz_e_leaves sz_e_rows szD_Service_init : Nat}
    {h0_aNO h1_aNO h2_aNO h3_aNO h4_aNO h5_aNO h6_aNO h7_aNO h8_aNO h9_aNO : Int}
    {w0_aNO w1_aNO w2_aNO w3_aNO w4_aNO w5_aNO w6_aNO w7_aNO w8_aNO w9_aNO tk_BAD tk_DROPPED tk_KEPT tk_LOST tk_NEAR tk_HIDDEN : Tok}
    {nm_C_InvalidRow qn_C_InvalidRow nm_C_InvalidService qn_C_InvalidService : Str}
    {bs_C_InvalidRow sb_C_InvalidRow bs_C_InvalidService sb_C_InvalidService : List Value}
    {sn_C_InvalidRow sn_C_InvalidService : List Str}
    {ab_C_InvalidRow ab_C_InvalidService : Bool}
    {co_C_InvalidRow co_C_InvalidService : Option Bool}
    {m0_C_InvalidRow m1_C_InvalidRow m2_C_InvalidRow m3_C_InvalidRow m5_C_InvalidRow m0_C_InvalidService m1_C_InvalidService m2_C_InvalidService m3_C_InvalidService m5_C_InvalidService : Option Value}
    (a_law : PySem.W.nsIn K mainGlobals "law" = some (some (.ref f_law)))
    (a_NO_NAMES : PySem.W.nsIn K mainGlobals "NO_NAMES" = some (some (.ref aNO)))
    (a_is_name : PySem.W.nsIn K mainGlobals "is_name" = some (some (.ref f_is_name)))
    (a_is_sequence : PySem.W.nsIn K mainGlobals "is_sequence" = some (some (.ref f_is_sequence)))
    (a_are_names : PySem.W.nsIn K mainGlobals "are_names" = some (some (.ref f_are_names)))
    (a_are_some_names : PySem.W.nsIn K mainGlobals "are_some_names" = some (some (.ref f_are_some_names)))
    (a_is_name_or : PySem.W.nsIn K mainGlobals "is_name_or" = some (some (.ref f_is_name_or)))
    (a_InvalidRow : PySem.W.nsIn K mainGlobals "InvalidRow" = some (some (.ref C_InvalidRow)))
    (a_Begin : PySem.W.nsIn K mainGlobals "Begin" = some (some (.ref C_Begin)))
    (a_Send : PySem.W.nsIn K mainGlobals "Send" = some (some (.ref C_Send)))
    (a_Back : PySem.W.nsIn K mainGlobals "Back" = some (some (.ref C_Back)))
    (a_End : PySem.W.nsIn K mainGlobals "End" = some (some (.ref C_End)))
    (a_ascending : PySem.W.nsIn K mainGlobals "ascending" = some (some (.ref f_ascending)))
    (a_are_rows : PySem.W.nsIn K mainGlobals "are_rows" = some (some (.ref f_are_rows)))
    (a_Row : PySem.W.nsIn K mainGlobals "Row" = some (some (.ref C_Row)))
    (a_InvalidService : PySem.W.nsIn K mainGlobals "InvalidService" = some (some (.ref C_InvalidService)))
    (a_Service : PySem.W.nsIn K mainGlobals "Service" = some (some (.ref C_Service)))
    (a_BAD : PySem.W.nsIn K mainGlobals "BAD" = some (some (.int 1 tk_BAD)))
    (a_DROPPED : PySem.W.nsIn K mainGlobals "DROPPED" = some (some (.int 2 tk_DROPPED)))
    (a_KEPT : PySem.W.nsIn K mainGlobals "KEPT" = some (some (.int 4 tk_KEPT)))
    (a_LOST : PySem.W.nsIn K mainGlobals "LOST" = some (some (.int 16 tk_LOST)))
    (a_NEAR : PySem.W.nsIn K mainGlobals "NEAR" = some (some (.int 32 tk_NEAR)))
    (a_HIDDEN : PySem.W.nsIn K mainGlobals "HIDDEN" = some (some (.int 64 tk_HIDDEN)))
    (a_own_bits : PySem.W.nsIn K mainGlobals "own_bits" = some (some (.ref f_own_bits)))
    (a_end_in : PySem.W.nsIn K mainGlobals "end_in" = some (some (.ref f_end_in)))
    (a_endings_in : PySem.W.nsIn K mainGlobals "endings_in" = some (some (.ref f_endings_in)))
    (a_TraceError : PySem.W.nsIn K mainGlobals "TraceError" = some (some (.ref C_TraceError)))
    (a_InvalidBook : PySem.W.nsIn K mainGlobals "InvalidBook" = some (some (.ref C_InvalidBook)))
    (a__law_refused : PySem.W.nsIn K mainGlobals "_law_refused" = some (some (.ref f_refused)))
    (a__law_is_name : PySem.W.nsIn K mainGlobals "_law_is_name" = some (some (.ref f_is_name_law)))
    (a__law_are_names : PySem.W.nsIn K mainGlobals "_law_are_names" = some (some (.ref f_are_names_law)))
    (a__law_wrong : PySem.W.nsIn K mainGlobals "_law_wrong" = some (some (.ref f_wrong)))
    (a__law_take : PySem.W.nsIn K mainGlobals "_law_take" = some (some (.ref f_take)))
    (a__law_box : PySem.W.nsIn K mainGlobals "_law_box" = some (some (.ref f_box)))
    (a__law_pick : PySem.W.nsIn K mainGlobals "_law_pick" = some (some (.ref f_pick)))
    (a__law_mixed : PySem.W.nsIn K mainGlobals "_law_mixed" = some (some (.ref f_mixed)))
    (a__law_names : PySem.W.nsIn K mainGlobals "_law_names" = some (some (.ref f_names)))
    (a__law_any : PySem.W.nsIn K mainGlobals "_law_any" = some (some (.ref f_any)))
    (a__law_row : PySem.W.nsIn K mainGlobals "_law_row" = some (some (.ref f_row)))
    (a__law_words : PySem.W.nsIn K mainGlobals "_law_words" = some (some (.ref f_words)))
    (a__law_drawn_row : PySem.W.nsIn K mainGlobals "_law_drawn_row" = some (some (.ref f_drawn_row)))
    (in_f_InvalidRow_init : PySem.W.findIn K (.ref C_InvalidRow) "__init__" = some (some (.ref f_InvalidRow_init)))
    (in_f_Begin_init : PySem.W.findIn K (.ref C_Begin) "__init__" = some (some (.ref f_Begin_init)))
    (in_f_Send_init : PySem.W.findIn K (.ref C_Send) "__init__" = some (some (.ref f_Send_init)))
    (in_f_Back_init : PySem.W.findIn K (.ref C_Back) "__init__" = some (some (.ref f_Back_init)))
    (in_f_End_init : PySem.W.findIn K (.ref C_End) "__init__" = some (some (.ref f_End_init)))
    (in_f_InvalidService_init : PySem.W.findIn K (.ref C_InvalidService) "__init__" = some (some (.ref f_InvalidService_init)))
    (in_f_Service_init : PySem.W.findIn K (.ref C_Service) "__init__" = some (some (.ref f_Service_init)))
    (l_is_name : K.lookup f_is_name = some ⟨oc_is_name, od_is_name, .func (PySem.W.fnOf "is_name" "is_name" (defArgs s_is_name) (defBody s_is_name) (defScope s_is_name) .none kV_is_name dc_is_name pm_is_name an_is_name cd_is_name ct_is_name), sl_is_name⟩)
    (l_is_sequence : K.lookup f_is_sequence = some ⟨oc_is_sequence, od_is_sequence, .func (PySem.W.fnOf "is_sequence" "is_sequence" (defArgs s_is_sequence) (defBody s_is_sequence) (defScope s_is_sequence) .none kV_is_sequence dc_is_sequence pm_is_sequence an_is_sequence cd_is_sequence ct_is_sequence), sl_is_sequence⟩)
    (l_are_names : K.lookup f_are_names = some ⟨oc_are_names, od_are_names, .func (PySem.W.fnOf "are_names" "are_names" (defArgs s_are_names) (defBody s_are_names) (defScope s_are_names) .none kV_are_names dc_are_names pm_are_names an_are_names cd_are_names ct_are_names), sl_are_names⟩)
    (l_are_some_names : K.lookup f_are_some_names = some ⟨oc_are_some_names, od_are_some_names, .func (PySem.W.fnOf "are_some_names" "are_some_names" (defArgs s_are_some_names) (defBody s_are_some_names) (defScope s_are_some_names) .none kV_are_some_names dc_are_some_names pm_are_some_names an_are_some_names cd_are_some_names ct_are_some_names), sl_are_some_names⟩)
    (l_is_name_or : K.lookup f_is_name_or = some ⟨oc_is_name_or, od_is_name_or, .func (PySem.W.fnOf "is_name_or" "is_name_or" (defArgs s_is_name_or) (defBody s_is_name_or) (defScope s_is_name_or) .none kV_is_name_or dc_is_name_or pm_is_name_or an_is_name_or cd_is_name_or ct_is_name_or), sl_is_name_or⟩)
    (l_InvalidRow_init : K.lookup f_InvalidRow_init = some ⟨oc_InvalidRow_init, od_InvalidRow_init, .func (PySem.W.fnOf "__init__" "InvalidRow.__init__" (defArgs s_InvalidRow_init) (defBody s_InvalidRow_init) (defScope s_InvalidRow_init) .none kV_InvalidRow_init dc_InvalidRow_init pm_InvalidRow_init an_InvalidRow_init cd_InvalidRow_init ct_InvalidRow_init), sl_InvalidRow_init⟩)
    (l_Begin_init : K.lookup f_Begin_init = some ⟨oc_Begin_init, od_Begin_init, .func (PySem.W.fnOf "__init__" "Begin.__init__" (defArgs s_Begin_init) (defBody s_Begin_init) (defScope s_Begin_init) .none kV_Begin_init dc_Begin_init pm_Begin_init an_Begin_init cd_Begin_init ct_Begin_init), sl_Begin_init⟩)
    (l_Send_init : K.lookup f_Send_init = some ⟨oc_Send_init, od_Send_init, .func (PySem.W.fnOf "__init__" "Send.__init__" (defArgs s_Send_init) (defBody s_Send_init) (defScope s_Send_init) .none kV_Send_init dc_Send_init pm_Send_init an_Send_init cd_Send_init ct_Send_init), sl_Send_init⟩)
    (l_Back_init : K.lookup f_Back_init = some ⟨oc_Back_init, od_Back_init, .func (PySem.W.fnOf "__init__" "Back.__init__" (defArgs s_Back_init) (defBody s_Back_init) (defScope s_Back_init) .none kV_Back_init dc_Back_init pm_Back_init an_Back_init cd_Back_init ct_Back_init), sl_Back_init⟩)
    (l_End_init : K.lookup f_End_init = some ⟨oc_End_init, od_End_init, .func (PySem.W.fnOf "__init__" "End.__init__" (defArgs s_End_init) (defBody s_End_init) (defScope s_End_init) .none kV_End_init dc_End_init pm_End_init an_End_init cd_End_init ct_End_init), sl_End_init⟩)
    (l_ascending : K.lookup f_ascending = some ⟨oc_ascending, od_ascending, .func (PySem.W.fnOf "ascending" "ascending" (defArgs s_ascending) (defBody s_ascending) (defScope s_ascending) .none kV_ascending dc_ascending pm_ascending an_ascending cd_ascending ct_ascending), sl_ascending⟩)
    (l_are_rows : K.lookup f_are_rows = some ⟨oc_are_rows, od_are_rows, .func (PySem.W.fnOf "are_rows" "are_rows" (defArgs s_are_rows) (defBody s_are_rows) (defScope s_are_rows) .none kV_are_rows dc_are_rows pm_are_rows an_are_rows cd_are_rows ct_are_rows), sl_are_rows⟩)
    (l_InvalidService_init : K.lookup f_InvalidService_init = some ⟨oc_InvalidService_init, od_InvalidService_init, .func (PySem.W.fnOf "__init__" "InvalidService.__init__" (defArgs s_InvalidService_init) (defBody s_InvalidService_init) (defScope s_InvalidService_init) .none kV_InvalidService_init dc_InvalidService_init pm_InvalidService_init an_InvalidService_init cd_InvalidService_init ct_InvalidService_init), sl_InvalidService_init⟩)
    (l_own_bits : K.lookup f_own_bits = some ⟨oc_own_bits, od_own_bits, .func (PySem.W.fnOf "own_bits" "own_bits" (defArgs s_own_bits) (defBody s_own_bits) (defScope s_own_bits) .none kV_own_bits dc_own_bits pm_own_bits an_own_bits cd_own_bits ct_own_bits), sl_own_bits⟩)
    (l_end_in : K.lookup f_end_in = some ⟨oc_end_in, od_end_in, .func (PySem.W.fnOf "end_in" "end_in" (defArgs s_end_in) (defBody s_end_in) (defScope s_end_in) .none kV_end_in dc_end_in pm_end_in an_end_in cd_end_in ct_end_in), sl_end_in⟩)
    (l_endings_in : K.lookup f_endings_in = some ⟨oc_endings_in, od_endings_in, .func (PySem.W.fnOf "endings_in" "endings_in" (defArgs s_endings_in) (defBody s_endings_in) (defScope s_endings_in) .none kV_endings_in dc_endings_in pm_endings_in an_endings_in cd_endings_in ct_endings_in), sl_endings_in⟩)
    (l_refused : K.lookup f_refused = some ⟨oc_refused, od_refused, .func (PySem.W.fnOf "_law_refused" "_law_refused" (defArgs s_refused) (defBody s_refused) (defScope s_refused) .none kV_refused dc_refused pm_refused an_refused cd_refused ct_refused), sl_refused⟩)
    (l_is_name_law : K.lookup f_is_name_law = some ⟨oc_is_name_law, od_is_name_law, .func (PySem.W.fnOf "_law_is_name" "_law_is_name" (defArgs s_is_name_law) (defBody s_is_name_law) (defScope s_is_name_law) .none kV_is_name_law dc_is_name_law pm_is_name_law an_is_name_law cd_is_name_law ct_is_name_law), sl_is_name_law⟩)
    (l_are_names_law : K.lookup f_are_names_law = some ⟨oc_are_names_law, od_are_names_law, .func (PySem.W.fnOf "_law_are_names" "_law_are_names" (defArgs s_are_names_law) (defBody s_are_names_law) (defScope s_are_names_law) .none kV_are_names_law dc_are_names_law pm_are_names_law an_are_names_law cd_are_names_law ct_are_names_law), sl_are_names_law⟩)
    (l_wrong : K.lookup f_wrong = some ⟨oc_wrong, od_wrong, .func (PySem.W.fnOf "_law_wrong" "_law_wrong" (defArgs s_wrong) (defBody s_wrong) (defScope s_wrong) .none kV_wrong dc_wrong pm_wrong an_wrong cd_wrong ct_wrong), sl_wrong⟩)
    (l_take : K.lookup f_take = some ⟨oc_take, od_take, .func (PySem.W.fnOf "_law_take" "_law_take" (defArgs s_take) (defBody s_take) (defScope s_take) .none kV_take dc_take pm_take an_take cd_take ct_take), sl_take⟩)
    (l_box : K.lookup f_box = some ⟨oc_box, od_box, .func (PySem.W.fnOf "_law_box" "_law_box" (defArgs s_box) (defBody s_box) (defScope s_box) .none kV_box dc_box pm_box an_box cd_box ct_box), sl_box⟩)
    (l_pick : K.lookup f_pick = some ⟨oc_pick, od_pick, .func (PySem.W.fnOf "_law_pick" "_law_pick" (defArgs s_pick) (defBody s_pick) (defScope s_pick) .none kV_pick dc_pick pm_pick an_pick cd_pick ct_pick), sl_pick⟩)
    (l_mixed : K.lookup f_mixed = some ⟨oc_mixed, od_mixed, .func (PySem.W.fnOf "_law_mixed" "_law_mixed" (defArgs s_mixed) (defBody s_mixed) (defScope s_mixed) .none kV_mixed dc_mixed pm_mixed an_mixed cd_mixed ct_mixed), sl_mixed⟩)
    (l_names : K.lookup f_names = some ⟨oc_names, od_names, .func (PySem.W.fnOf "_law_names" "_law_names" (defArgs s_names) (defBody s_names) (defScope s_names) .none kV_names dc_names pm_names an_names cd_names ct_names), sl_names⟩)
    (l_any : K.lookup f_any = some ⟨oc_any, od_any, .func (PySem.W.fnOf "_law_any" "_law_any" (defArgs s_any) (defBody s_any) (defScope s_any) .none kV_any dc_any pm_any an_any cd_any ct_any), sl_any⟩)
    (l_row : K.lookup f_row = some ⟨oc_row, od_row, .func (PySem.W.fnOf "_law_row" "_law_row" (defArgs s_row) (defBody s_row) (defScope s_row) .none kV_row dc_row pm_row an_row cd_row ct_row), sl_row⟩)
    (l_words : K.lookup f_words = some ⟨oc_words, od_words, .func (PySem.W.fnOf "_law_words" "_law_words" (defArgs s_words) (defBody s_words) (defScope s_words) .none kV_words dc_words pm_words an_words cd_words ct_words), sl_words⟩)
    (l_drawn_row : K.lookup f_drawn_row = some ⟨oc_drawn_row, od_drawn_row, .func (PySem.W.fnOf "_law_drawn_row" "_law_drawn_row" (defArgs s_drawn_row) (defBody s_drawn_row) (defScope s_drawn_row) .none kV_drawn_row dc_drawn_row pm_drawn_row an_drawn_row cd_drawn_row ct_drawn_row), sl_drawn_row⟩)
    (l_law : K.lookup f_law = some ⟨oc_law, od_law, .func (PySem.W.fnOf "law" "law" (defArgs s_law) (defBody s_law) (defScope s_law) .none kV_law dc_law pm_law an_law cd_law ct_law), sl_law⟩)
    (l_aNO : K.lookup aNO = some ⟨.type "dict", none, .dict #[⟨h0_aNO, .str "none" w0_aNO, v0_aNO⟩, ⟨h1_aNO, .str "any" w1_aNO, v1_aNO⟩, ⟨h2_aNO, .str "same" w2_aNO, v2_aNO⟩, ⟨h3_aNO, .str "keep" w3_aNO, v3_aNO⟩, ⟨h4_aNO, .str "drop" w4_aNO, v4_aNO⟩, ⟨h5_aNO, .str "good" w5_aNO, v5_aNO⟩, ⟨h6_aNO, .str "bad" w6_aNO, v6_aNO⟩, ⟨h7_aNO, .str "old" w7_aNO, v7_aNO⟩, ⟨h8_aNO, .str "new" w8_aNO, v8_aNO⟩, ⟨h9_aNO, .str "both" w9_aNO, v9_aNO⟩] sz_aNO, #[]⟩)
    (xL_C_InvalidRow : K.lookup C_InvalidRow = some (excClassObj nm_C_InvalidRow qn_C_InvalidRow C_InvalidRow N_C_InvalidRow bs_C_InvalidRow [.ref bC_C_InvalidRow, .type "ValueError", .type "Exception", .type "BaseException", .type "object"] true sn_C_InvalidRow sb_C_InvalidRow ab_C_InvalidRow co_C_InvalidRow dd_C_InvalidRow m0_C_InvalidRow m1_C_InvalidRow m2_C_InvalidRow m3_C_InvalidRow m5_C_InvalidRow "ValueError.__new__"))
    (xL_C_InvalidService : K.lookup C_InvalidService = some (excClassObj nm_C_InvalidService qn_C_InvalidService C_InvalidService N_C_InvalidService bs_C_InvalidService [.ref bC_C_InvalidService, .type "ValueError", .type "Exception", .type "BaseException", .type "object"] true sn_C_InvalidService sb_C_InvalidService ab_C_InvalidService co_C_InvalidService dd_C_InvalidService m0_C_InvalidService m1_C_InvalidService m2_C_InvalidService m3_C_InvalidService m5_C_InvalidService "ValueError.__new__"))
    (l_Service_init : K.lookup f_Service_init = some ⟨oc_Service_init, od_Service_init, .func (PySem.W.fnOf "__init__" "Service.__init__" (defArgs s_Service_init) (defBody s_Service_init) (defScope s_Service_init) (.ref dT_Service_init) kV_Service_init dc_Service_init pm_Service_init an_Service_init cd_Service_init ct_Service_init), sl_Service_init⟩)
    (dl_Service_init : K.lookup dT_Service_init = some ⟨.type "tuple", dtD_Service_init, .seq #[.ref e_waits, .ref e_leaves, .ref e_rows] szD_Service_init, soD_Service_init⟩)
    (l_e_waits : K.lookup e_waits = some ⟨.type "tuple", dt_e_waits, .seq #[] sz_e_waits, so_e_waits⟩)
    (l_e_leaves : K.lookup e_leaves = some ⟨.type "tuple", dt_e_leaves, .seq #[] sz_e_leaves, so_e_leaves⟩)
    (l_e_rows : K.lookup e_rows = some ⟨.type "tuple", dt_e_rows, .seq #[] sz_e_rows, so_e_rows⟩)
    (cc_is_name : PySem.W.codeIn K cd_is_name "is_name" = true)
    (k_is_name : PySem.W.keepIn K (.ref f_is_name) = true)
    (cc_is_sequence : PySem.W.codeIn K cd_is_sequence "is_sequence" = true)
    (k_is_sequence : PySem.W.keepIn K (.ref f_is_sequence) = true)
    (cc_are_names : PySem.W.codeIn K cd_are_names "are_names" = true)
    (k_are_names : PySem.W.keepIn K (.ref f_are_names) = true)
    (cc_are_some_names : PySem.W.codeIn K cd_are_some_names "are_some_names" = true)
    (k_are_some_names : PySem.W.keepIn K (.ref f_are_some_names) = true)
    (cc_is_name_or : PySem.W.codeIn K cd_is_name_or "is_name_or" = true)
    (k_is_name_or : PySem.W.keepIn K (.ref f_is_name_or) = true)
    (cc_InvalidRow_init : PySem.W.codeIn K cd_InvalidRow_init "InvalidRow.__init__" = true)
    (k_InvalidRow_init : PySem.W.keepIn K (.ref f_InvalidRow_init) = true)
    (cc_Begin_init : PySem.W.codeIn K cd_Begin_init "Begin.__init__" = true)
    (k_Begin_init : PySem.W.keepIn K (.ref f_Begin_init) = true)
    (cc_Send_init : PySem.W.codeIn K cd_Send_init "Send.__init__" = true)
    (k_Send_init : PySem.W.keepIn K (.ref f_Send_init) = true)
    (cc_Back_init : PySem.W.codeIn K cd_Back_init "Back.__init__" = true)
    (k_Back_init : PySem.W.keepIn K (.ref f_Back_init) = true)
    (cc_End_init : PySem.W.codeIn K cd_End_init "End.__init__" = true)
    (k_End_init : PySem.W.keepIn K (.ref f_End_init) = true)
    (cc_ascending : PySem.W.codeIn K cd_ascending "ascending" = true)
    (k_ascending : PySem.W.keepIn K (.ref f_ascending) = true)
    (cc_are_rows : PySem.W.codeIn K cd_are_rows "are_rows" = true)
    (k_are_rows : PySem.W.keepIn K (.ref f_are_rows) = true)
    (cc_InvalidService_init : PySem.W.codeIn K cd_InvalidService_init "InvalidService.__init__" = true)
    (k_InvalidService_init : PySem.W.keepIn K (.ref f_InvalidService_init) = true)
    (cc_own_bits : PySem.W.codeIn K cd_own_bits "own_bits" = true)
    (k_own_bits : PySem.W.keepIn K (.ref f_own_bits) = true)
    (cc_end_in : PySem.W.codeIn K cd_end_in "end_in" = true)
    (k_end_in : PySem.W.keepIn K (.ref f_end_in) = true)
    (cc_endings_in : PySem.W.codeIn K cd_endings_in "endings_in" = true)
    (k_endings_in : PySem.W.keepIn K (.ref f_endings_in) = true)
    (cc_refused : PySem.W.codeIn K cd_refused "_law_refused" = true)
    (k_refused : PySem.W.keepIn K (.ref f_refused) = true)
    (cc_is_name_law : PySem.W.codeIn K cd_is_name_law "_law_is_name" = true)
    (k_is_name_law : PySem.W.keepIn K (.ref f_is_name_law) = true)
    (cc_are_names_law : PySem.W.codeIn K cd_are_names_law "_law_are_names" = true)
    (k_are_names_law : PySem.W.keepIn K (.ref f_are_names_law) = true)
    (cc_wrong : PySem.W.codeIn K cd_wrong "_law_wrong" = true)
    (k_wrong : PySem.W.keepIn K (.ref f_wrong) = true)
    (cc_take : PySem.W.codeIn K cd_take "_law_take" = true)
    (k_take : PySem.W.keepIn K (.ref f_take) = true)
    (cc_box : PySem.W.codeIn K cd_box "_law_box" = true)
    (k_box : PySem.W.keepIn K (.ref f_box) = true)
    (cc_pick : PySem.W.codeIn K cd_pick "_law_pick" = true)
    (k_pick : PySem.W.keepIn K (.ref f_pick) = true)
    (cc_mixed : PySem.W.codeIn K cd_mixed "_law_mixed" = true)
    (k_mixed : PySem.W.keepIn K (.ref f_mixed) = true)
    (cc_names : PySem.W.codeIn K cd_names "_law_names" = true)
    (k_names : PySem.W.keepIn K (.ref f_names) = true)
    (cc_any : PySem.W.codeIn K cd_any "_law_any" = true)
    (k_any : PySem.W.keepIn K (.ref f_any) = true)
    (cc_row : PySem.W.codeIn K cd_row "_law_row" = true)
    (k_row : PySem.W.keepIn K (.ref f_row) = true)
    (cc_words : PySem.W.codeIn K cd_words "_law_words" = true)
    (k_words : PySem.W.keepIn K (.ref f_words) = true)
    (cc_drawn_row : PySem.W.codeIn K cd_drawn_row "_law_drawn_row" = true)
    (k_drawn_row : PySem.W.keepIn K (.ref f_drawn_row) = true)
    (cc_law : PySem.W.codeIn K cd_law "law" = true)
    (k_law : PySem.W.keepIn K (.ref f_law) = true)
    (z_len : PySem.W.nsIn K mainGlobals "len" = some none)
    (z_isinstance : PySem.W.nsIn K mainGlobals "isinstance" = some none)
    (z_str : PySem.W.nsIn K mainGlobals "str" = some none)
    (z_all : PySem.W.nsIn K mainGlobals "all" = some none)
    (kl_aNO : PySem.W.KeysLit w.params [⟨h0_aNO, .str "none" w0_aNO, v0_aNO⟩, ⟨h1_aNO, .str "any" w1_aNO, v1_aNO⟩, ⟨h2_aNO, .str "same" w2_aNO, v2_aNO⟩, ⟨h3_aNO, .str "keep" w3_aNO, v3_aNO⟩, ⟨h4_aNO, .str "drop" w4_aNO, v4_aNO⟩, ⟨h5_aNO, .str "good" w5_aNO, v5_aNO⟩, ⟨h6_aNO, .str "bad" w6_aNO, v6_aNO⟩, ⟨h7_aNO, .str "old" w7_aNO, v7_aNO⟩, ⟨h8_aNO, .str "new" w8_aNO, v8_aNO⟩, ⟨h9_aNO, .str "both" w9_aNO, v9_aNO⟩])
    (sm_aNO : (aNO == sysModules) = false)
    (z_list : PySem.W.nsIn K mainGlobals "list" = some none)
    (z_tuple : PySem.W.nsIn K mainGlobals "tuple" = some none)
    (z_set : PySem.W.nsIn K mainGlobals "set" = some none)
    (sa_C_InvalidRow : PySem.W.findIn K (.ref C_InvalidRow) "__setattr__" = some (some (.builtin "object.__setattr__")))
    (eb_C_InvalidRow : PySem.W.subIn K (.ref C_InvalidRow) (.type "BaseException") = some true)
    (tyC_C_InvalidRow : PySem.W.typeIn K (.ref C_InvalidRow) = some (.type "type"))
    (kc_C_InvalidRow : PySem.W.keepIn K (.ref C_InvalidRow) = true)
    (q_nwRow : PySem.W.findIn K (.ref C_InvalidRow) "word" = some none)
    (q_tRow : PySem.W.typeIn K (.ref f_InvalidRow_init) = some (.type "function"))
    (pg_C_Begin : PySem.W.plainGet K C_Begin Str.empty = true)
    (hd_C_Begin : PySem.W.hasDictIn K C_Begin = true)
    (po_C_Begin : PySem.W.plainOver K C_Begin = true)
    (sa_C_Begin : PySem.W.findIn K (.ref C_Begin) "__setattr__" = some (some (.builtin "object.__setattr__")))
    (mk_C_Begin : PySem.W.makesIn K C_Begin = true)
    (fi_f_Begin_init : PySem.W.isFn K (.ref f_Begin_init) = true)
    (kc_C_Begin : PySem.W.keepIn K (.ref C_Begin) = true)
    (n_C_Begin_mark : PySem.W.findIn K (.ref C_Begin) "mark" = some none)
    (n_C_Begin_kind : PySem.W.findIn K (.ref C_Begin) "kind" = some none)
    (n_C_Begin_mood : PySem.W.findIn K (.ref C_Begin) "mood" = some none)
    (pg_C_Send : PySem.W.plainGet K C_Send Str.empty = true)
    (hd_C_Send : PySem.W.hasDictIn K C_Send = true)
    (po_C_Send : PySem.W.plainOver K C_Send = true)
    (sa_C_Send : PySem.W.findIn K (.ref C_Send) "__setattr__" = some (some (.builtin "object.__setattr__")))
    (mk_C_Send : PySem.W.makesIn K C_Send = true)
    (fi_f_Send_init : PySem.W.isFn K (.ref f_Send_init) = true)
    (kc_C_Send : PySem.W.keepIn K (.ref C_Send) = true)
    (n_C_Send_mood : PySem.W.findIn K (.ref C_Send) "mood" = some none)
    (n_C_Send_service : PySem.W.findIn K (.ref C_Send) "service" = some none)
    (n_C_Send_mark : PySem.W.findIn K (.ref C_Send) "mark" = some none)
    (pg_C_Back : PySem.W.plainGet K C_Back Str.empty = true)
    (hd_C_Back : PySem.W.hasDictIn K C_Back = true)
    (po_C_Back : PySem.W.plainOver K C_Back = true)
    (sa_C_Back : PySem.W.findIn K (.ref C_Back) "__setattr__" = some (some (.builtin "object.__setattr__")))
    (mk_C_Back : PySem.W.makesIn K C_Back = true)
    (fi_f_Back_init : PySem.W.isFn K (.ref f_Back_init) = true)
    (kc_C_Back : PySem.W.keepIn K (.ref C_Back) = true)
    (n_C_Back_mood : PySem.W.findIn K (.ref C_Back) "mood" = some none)
    (n_C_Back_service : PySem.W.findIn K (.ref C_Back) "service" = some none)
    (n_C_Back_sign : PySem.W.findIn K (.ref C_Back) "sign" = some none)
    (n_C_Back_then : PySem.W.findIn K (.ref C_Back) "then" = some none)
    (pg_C_End : PySem.W.plainGet K C_End Str.empty = true)
    (hd_C_End : PySem.W.hasDictIn K C_End = true)
    (po_C_End : PySem.W.plainOver K C_End = true)
    (sa_C_End : PySem.W.findIn K (.ref C_End) "__setattr__" = some (some (.builtin "object.__setattr__")))
    (mk_C_End : PySem.W.makesIn K C_End = true)
    (fi_f_End_init : PySem.W.isFn K (.ref f_End_init) = true)
    (kc_C_End : PySem.W.keepIn K (.ref C_End) = true)
    (n_C_End_mood : PySem.W.findIn K (.ref C_End) "mood" = some none)
    (n_C_End_outcome : PySem.W.findIn K (.ref C_End) "outcome" = some none)
    (n_C_End_sign : PySem.W.findIn K (.ref C_End) "sign" = some none)
    (n_C_End_part : PySem.W.findIn K (.ref C_End) "part" = some none)
    (z_sorted : PySem.W.nsIn K mainGlobals "sorted" = some none)
    (ca_C_Begin : PySem.W.findIn K (.ref C_Begin) "__class__" = some (some (.builtin "object.__class__")))
    (cg_ : PySem.W.specialIn K (.builtin "object.__class__") "__get__" = some (some (.builtin "getset_descriptor.__get__")))
    (ck_ : PySem.W.takesIn K (.builtin "object.__class__") = some true)
    (cm_C_Begin : PySem.W.mroIn K C_Begin (.type "object") = some true)
    (ca_C_Send : PySem.W.findIn K (.ref C_Send) "__class__" = some (some (.builtin "object.__class__")))
    (cm_C_Send : PySem.W.mroIn K C_Send (.type "object") = some true)
    (ca_C_Back : PySem.W.findIn K (.ref C_Back) "__class__" = some (some (.builtin "object.__class__")))
    (cm_C_Back : PySem.W.mroIn K C_Back (.type "object") = some true)
    (ca_C_End : PySem.W.findIn K (.ref C_End) "__class__" = some (some (.builtin "object.__class__")))
    (cm_C_End : PySem.W.mroIn K C_End (.type "object") = some true)
    (isC_C_Row : PySem.W.isClsIn K C_Row = true)
    (tyC_C_Row : PySem.W.typeIn K (.ref C_Row) = some (.type "type"))
    (sub_C_Begin_C_Row : PySem.W.subIn K (.ref C_Begin) (.ref C_Row) = some true)
    (sub_C_Send_C_Row : PySem.W.subIn K (.ref C_Send) (.ref C_Row) = some true)
    (sub_C_Back_C_Row : PySem.W.subIn K (.ref C_Back) (.ref C_Row) = some true)
    (sub_C_End_C_Row : PySem.W.subIn K (.ref C_End) (.ref C_Row) = some true)
    (isC_C_Begin : PySem.W.isClsIn K C_Begin = true)
    (tyC_C_Begin : PySem.W.typeIn K (.ref C_Begin) = some (.type "type"))
    (sub_C_Begin_C_Begin : PySem.W.subIn K (.ref C_Begin) (.ref C_Begin) = some true)
    (isC_C_Send : PySem.W.isClsIn K C_Send = true)
    (tyC_C_Send : PySem.W.typeIn K (.ref C_Send) = some (.type "type"))
    (sub_C_Begin_C_Send : PySem.W.subIn K (.ref C_Begin) (.ref C_Send) = some false)
    (ne_C_Begin_C_Send : C_Begin ≠ C_Send)
    (isC_C_Back : PySem.W.isClsIn K C_Back = true)
    (tyC_C_Back : PySem.W.typeIn K (.ref C_Back) = some (.type "type"))
    (sub_C_Begin_C_Back : PySem.W.subIn K (.ref C_Begin) (.ref C_Back) = some false)
    (ne_C_Begin_C_Back : C_Begin ≠ C_Back)
    (isC_C_End : PySem.W.isClsIn K C_End = true)
    (tyC_C_End : PySem.W.typeIn K (.ref C_End) = some (.type "type"))
    (sub_C_Begin_C_End : PySem.W.subIn K (.ref C_Begin) (.ref C_End) = some false)
    (ne_C_Begin_C_End : C_Begin ≠ C_End)
    (sub_C_Send_C_Begin : PySem.W.subIn K (.ref C_Send) (.ref C_Begin) = some false)
    (ne_C_Send_C_Begin : C_Send ≠ C_Begin)
    (sub_C_Send_C_Send : PySem.W.subIn K (.ref C_Send) (.ref C_Send) = some true)
    (sub_C_Send_C_Back : PySem.W.subIn K (.ref C_Send) (.ref C_Back) = some false)
    (ne_C_Send_C_Back : C_Send ≠ C_Back)
    (sub_C_Send_C_End : PySem.W.subIn K (.ref C_Send) (.ref C_End) = some false)
    (ne_C_Send_C_End : C_Send ≠ C_End)
    (sub_C_Back_C_Begin : PySem.W.subIn K (.ref C_Back) (.ref C_Begin) = some false)
    (ne_C_Back_C_Begin : C_Back ≠ C_Begin)
    (sub_C_Back_C_Send : PySem.W.subIn K (.ref C_Back) (.ref C_Send) = some false)
    (ne_C_Back_C_Send : C_Back ≠ C_Send)
    (sub_C_Back_C_Back : PySem.W.subIn K (.ref C_Back) (.ref C_Back) = some true)
    (sub_C_Back_C_End : PySem.W.subIn K (.ref C_Back) (.ref C_End) = some false)
    (ne_C_Back_C_End : C_Back ≠ C_End)
    (sub_C_End_C_Begin : PySem.W.subIn K (.ref C_End) (.ref C_Begin) = some false)
    (ne_C_End_C_Begin : C_End ≠ C_Begin)
    (sub_C_End_C_Send : PySem.W.subIn K (.ref C_End) (.ref C_Send) = some false)
    (ne_C_End_C_Send : C_End ≠ C_Send)
    (sub_C_End_C_Back : PySem.W.subIn K (.ref C_End) (.ref C_Back) = some false)
    (ne_C_End_C_Back : C_End ≠ C_Back)
    (sub_C_End_C_End : PySem.W.subIn K (.ref C_End) (.ref C_End) = some true)
    (sa_C_InvalidService : PySem.W.findIn K (.ref C_InvalidService) "__setattr__" = some (some (.builtin "object.__setattr__")))
    (eb_C_InvalidService : PySem.W.subIn K (.ref C_InvalidService) (.type "BaseException") = some true)
    (tyC_C_InvalidService : PySem.W.typeIn K (.ref C_InvalidService) = some (.type "type"))
    (kc_C_InvalidService : PySem.W.keepIn K (.ref C_InvalidService) = true)
    (q_nwSvc : PySem.W.findIn K (.ref C_InvalidService) "word" = some none)
    (q_tSvc : PySem.W.typeIn K (.ref f_InvalidService_init) = some (.type "function"))
    (pg_C_Service : PySem.W.plainGet K C_Service Str.empty = true)
    (hd_C_Service : PySem.W.hasDictIn K C_Service = true)
    (po_C_Service : PySem.W.plainOver K C_Service = true)
    (sa_C_Service : PySem.W.findIn K (.ref C_Service) "__setattr__" = some (some (.builtin "object.__setattr__")))
    (mk_C_Service : PySem.W.makesIn K C_Service = true)
    (fi_f_Service_init : PySem.W.isFn K (.ref f_Service_init) = true)
    (kc_C_Service : PySem.W.keepIn K (.ref C_Service) = true)
    (cc_Service_init : PySem.W.codeIn K cd_Service_init "Service.__init__" = true)
    (k_Service_init : PySem.W.keepIn K (.ref f_Service_init) = true)
    (n_C_Service_name : PySem.W.findIn K (.ref C_Service) "name" = some none)
    (n_C_Service_kinds : PySem.W.findIn K (.ref C_Service) "kinds" = some none)
    (n_C_Service_waits : PySem.W.findIn K (.ref C_Service) "waits" = some none)
    (n_C_Service_leaves : PySem.W.findIn K (.ref C_Service) "leaves" = some none)
    (n_C_Service_rows : PySem.W.findIn K (.ref C_Service) "rows" = some none)
    (n_C_Service_moods : PySem.W.findIn K (.ref C_Service) "moods" = some none)
    (n_C_Service__begins : PySem.W.findIn K (.ref C_Service) "_begins" = some none)
    (n_C_Service__sends : PySem.W.findIn K (.ref C_Service) "_sends" = some none)
    (n_C_Service__backs : PySem.W.findIn K (.ref C_Service) "_backs" = some none)
    (n_C_Service__ends : PySem.W.findIn K (.ref C_Service) "_ends" = some none)
    (n_C_Service_endings : PySem.W.findIn K (.ref C_Service) "endings" = some none)
    (isC_C_TraceError : PySem.W.isClsIn K C_TraceError = true)
    (tyC_C_TraceError : PySem.W.typeIn K (.ref C_TraceError) = some (.type "type"))
    (sub_C_InvalidService_C_TraceError : PySem.W.subIn K (.ref C_InvalidService) (.ref C_TraceError) = some true)
    (isC_C_InvalidBook : PySem.W.isClsIn K C_InvalidBook = true)
    (tyC_C_InvalidBook : PySem.W.typeIn K (.ref C_InvalidBook) = some (.type "type"))
    (sub_C_InvalidService_C_InvalidBook : PySem.W.subIn K (.ref C_InvalidService) (.ref C_InvalidBook) = some false)
    (ne_C_InvalidService_C_InvalidBook : C_InvalidService ≠ C_InvalidBook)
    (ga_C_InvalidService : PySem.W.findIn K (.ref C_InvalidService) "__getattribute__" = some (some (.builtin "BaseException.__getattribute__")))
    (gg_C_InvalidService : PySem.W.findIn K (.ref C_InvalidService) "__getattr__" = some none)
    (hd_C_InvalidService : PySem.W.hasDictIn K C_InvalidService = true)
    (ca_C_InvalidService : PySem.W.findIn K (.ref C_InvalidService) "__class__" = some (some (.builtin "object.__class__")))
    (cm_C_InvalidService : PySem.W.mroIn K C_InvalidService (.type "object") = some true)
    (isC_C_InvalidService : PySem.W.isClsIn K C_InvalidService = true)
    (sub_C_InvalidService_C_InvalidService : PySem.W.subIn K (.ref C_InvalidService) (.ref C_InvalidService) = some true)
    (sub_Tstr_C_Row : PySem.W.subIn K (.type "str") (.ref C_Row) = some false)
    (sub_TNoneType_C_Row : PySem.W.subIn K (.type "NoneType") (.ref C_Row) = some false)
    (sub_Tlist_C_Row : PySem.W.subIn K (.type "list") (.ref C_Row) = some false)
    (z_enumerate : PySem.W.nsIn K mainGlobals "enumerate" = some none)
    (z_int : PySem.W.nsIn K mainGlobals "int" = some none)
    (z_abs : PySem.W.nsIn K mainGlobals "abs" = some none)
    (z_range : PySem.W.nsIn K mainGlobals "range" = some none)
    (z_max : PySem.W.nsIn K mainGlobals "max" = some none)
    (z_min : PySem.W.nsIn K mainGlobals "min" = some none)
    (z_dict : PySem.W.nsIn K mainGlobals "dict" = some none)
    : ∃ fd : FuncData, (∀ (s : Shared) (v : Value), BindsTo s fd ⟨[v], []⟩ [("_law_script", v)]) ∧ ∀ base : Heap, K.In base → base.Ns mainGlobals mg → FnOk P w K mg base CX0 9 fa fd ["_law_script"] (spLaw K) := by
  have e := hfa.symm.trans (PySem.W.mg_of X G a_law)
  have e2 : f_law = fa := by
    cases e
    rfl
  subst e2
  have F_is_name := (fun_mk (st := s_is_name) l_is_name cc_is_name k_is_name)
  have F_is_sequence := (fun_mk (st := s_is_sequence) l_is_sequence cc_is_sequence k_is_sequence)
  have F_are_names := (fun_mk (st := s_are_names) l_are_names cc_are_names k_are_names)
  have F_are_some_names := (fun_mk (st := s_are_some_names) l_are_some_names cc_are_some_names k_are_some_names)
  have F_is_name_or := (fun_mk (st := s_is_name_or) l_is_name_or cc_is_name_or k_is_name_or)
  have F_InvalidRow_init := (fun_mk (st := s_InvalidRow_init) l_InvalidRow_init cc_InvalidRow_init k_InvalidRow_init)
  have F_Begin_init := (fun_mk (st := s_Begin_init) l_Begin_init cc_Begin_init k_Begin_init)
  have F_Send_init := (fun_mk (st := s_Send_init) l_Send_init cc_Send_init k_Send_init)
  have F_Back_init := (fun_mk (st := s_Back_init) l_Back_init cc_Back_init k_Back_init)
  have F_End_init := (fun_mk (st := s_End_init) l_End_init cc_End_init k_End_init)
  have F_ascending := (fun_mk (st := s_ascending) l_ascending cc_ascending k_ascending)
  have F_are_rows := (fun_mk (st := s_are_rows) l_are_rows cc_are_rows k_are_rows)
  have F_InvalidService_init := (fun_mk (st := s_InvalidService_init) l_InvalidService_init cc_InvalidService_init k_InvalidService_init)
  have F_own_bits := (fun_mk (st := s_own_bits) l_own_bits cc_own_bits k_own_bits)
  have F_end_in := (fun_mk (st := s_end_in) l_end_in cc_end_in k_end_in)
  have F_endings_in := (fun_mk (st := s_endings_in) l_endings_in cc_endings_in k_endings_in)
  have F_refused := (fun_mk (st := s_refused) l_refused cc_refused k_refused)
  have F_is_name_law := (fun_mk (st := s_is_name_law) l_is_name_law cc_is_name_law k_is_name_law)
  have F_are_names_law := (fun_mk (st := s_are_names_law) l_are_names_law cc_are_names_law k_are_names_law)
  have F_wrong := (fun_mk (st := s_wrong) l_wrong cc_wrong k_wrong)
  have F_take := (fun_mk (st := s_take) l_take cc_take k_take)
  have F_box := (fun_mk (st := s_box) l_box cc_box k_box)
  have F_pick := (fun_mk (st := s_pick) l_pick cc_pick k_pick)
  have F_mixed := (fun_mk (st := s_mixed) l_mixed cc_mixed k_mixed)
  have F_names := (fun_mk (st := s_names) l_names cc_names k_names)
  have F_any := (fun_mk (st := s_any) l_any cc_any k_any)
  have F_row := (fun_mk (st := s_row) l_row cc_row k_row)
  have F_words := (fun_mk (st := s_words) l_words cc_words k_words)
  have F_drawn_row := (fun_mk (st := s_drawn_row) l_drawn_row cc_drawn_row k_drawn_row)
  have F_law := (fun_mk (st := s_law) l_law cc_law k_law)
  have b_is_name := F_is_name.binds (ps := P_is_name) fun _ _ _ _ _ _ us hl => match us, hl with | [_], _ => rfl
  have b_is_sequence := F_is_sequence.binds (ps := P_is_sequence) fun _ _ _ _ _ _ us hl => match us, hl with | [_], _ => rfl
  have b_are_names := F_are_names.binds (ps := P_are_names) fun _ _ _ _ _ _ us hl => match us, hl with | [_], _ => rfl
  have b_are_some_names := F_are_some_names.binds (ps := P_are_some_names) fun _ _ _ _ _ _ us hl => match us, hl with | [_], _ => rfl
  have b_is_name_or := F_is_name_or.binds (ps := P_is_name_or) fun _ _ _ _ _ _ us hl => match us, hl with | [_, _], _ => rfl
  have b_InvalidRow_init := F_InvalidRow_init.binds (ps := P_InvalidRow_init) fun _ _ _ _ _ _ us hl => match us, hl with | [_, _], _ => rfl
  have b_Begin_init := F_Begin_init.binds (ps := P_Begin_init) fun _ _ _ _ _ _ us hl => match us, hl with | [_, _, _, _], _ => rfl
  have b_Send_init := F_Send_init.binds (ps := P_Send_init) fun _ _ _ _ _ _ us hl => match us, hl with | [_, _, _, _], _ => rfl
  have b_Back_init := F_Back_init.binds (ps := P_Back_init) fun _ _ _ _ _ _ us hl => match us, hl with | [_, _, _, _, _], _ => rfl
  have b_End_init := F_End_init.binds (ps := P_End_init) fun _ _ _ _ _ _ us hl => match us, hl with | [_, _, _, _, _], _ => rfl
  have b_ascending := F_ascending.binds (ps := P_ascending) fun _ _ _ _ _ _ us hl => match us, hl with | [_], _ => rfl
  have b_are_rows := F_are_rows.binds (ps := P_are_rows) fun _ _ _ _ _ _ us hl => match us, hl with | [_], _ => rfl
  have b_InvalidService_init := F_InvalidService_init.binds (ps := P_InvalidService_init) fun _ _ _ _ _ _ us hl => match us, hl with | [_, _], _ => rfl
  have b_own_bits := F_own_bits.binds (ps := P_own_bits) fun _ _ _ _ _ _ us hl => match us, hl with | [_, _], _ => rfl
  have b_end_in := F_end_in.binds (ps := P_end_in) fun _ _ _ _ _ _ us hl => match us, hl with | [_, _, _], _ => rfl
  have b_endings_in := F_endings_in.binds (ps := P_endings_in) fun _ _ _ _ _ _ us hl => match us, hl with | [_, _], _ => rfl
  have b_refused := F_refused.binds (ps := P_refused) fun _ _ _ _ _ _ us hl => match us, hl with | [_], _ => rfl
  have b_is_name_law := F_is_name_law.binds (ps := P_is_name_law) fun _ _ _ _ _ _ us hl => match us, hl with | [_], _ => rfl
  have b_are_names_law := F_are_names_law.binds (ps := P_are_names_law) fun _ _ _ _ _ _ us hl => match us, hl with | [_, _], _ => rfl
  have b_wrong := F_wrong.binds (ps := P_wrong) fun _ _ _ _ _ _ us hl => match us, hl with | [_, _], _ => rfl
  have b_take := F_take.binds (ps := P_take) fun _ _ _ _ _ _ us hl => match us, hl with | [_, _], _ => rfl
  have b_box := F_box.binds (ps := P_box) fun _ _ _ _ _ _ us hl => match us, hl with | [_, _], _ => rfl
  have b_pick := F_pick.binds (ps := P_pick) fun _ _ _ _ _ _ us hl => match us, hl with | [_, _], _ => rfl
  have b_mixed := F_mixed.binds (ps := P_mixed) fun _ _ _ _ _ _ us hl => match us, hl with | [_, _], _ => rfl
  have b_names := F_names.binds (ps := P_names) fun _ _ _ _ _ _ us hl => match us, hl with | [_, _], _ => rfl
  have b_any := F_any.binds (ps := P_any) fun _ _ _ _ _ _ us hl => match us, hl with | [_, _], _ => rfl
  have b_row := F_row.binds (ps := P_row) fun _ _ _ _ _ _ us hl => match us, hl with | [_], _ => rfl
  have b_words := F_words.binds (ps := P_words) fun _ _ _ _ _ _ us hl => match us, hl with | [_], _ => rfl
  have b_drawn_row := F_drawn_row.binds (ps := P_drawn_row) fun _ _ _ _ _ _ us hl => match us, hl with | [_, _, _], _ => rfl
  let T : TxK10 w K mg := {
    z_len := PySem.W.mg_none_of X G z_len
    z_isinstance := PySem.W.mg_none_of X G z_isinstance
    z_str := PySem.W.mg_none_of X G z_str
    z_all := PySem.W.mg_none_of X G z_all
    aNO := aNO
    m_NO := PySem.W.mg_of X G a_NO_NAMES
    t_NO := noD_mk l_aNO kl_aNO sm_aNO
    f_is_name := f_is_name
    d_is_name := _
    F_is_name := F_is_name
    m_is_name := PySem.W.mg_of X G a_is_name
    b_is_name := b_is_name
    z_list := PySem.W.mg_none_of X G z_list
    z_tuple := PySem.W.mg_none_of X G z_tuple
    z_set := PySem.W.mg_none_of X G z_set
    f_is_sequence := f_is_sequence
    d_is_sequence := _
    F_is_sequence := F_is_sequence
    m_is_sequence := PySem.W.mg_of X G a_is_sequence
    b_is_sequence := b_is_sequence
    f_are_names := f_are_names
    d_are_names := _
    F_are_names := F_are_names
    m_are_names := PySem.W.mg_of X G a_are_names
    b_are_names := b_are_names
    f_are_some_names := f_are_some_names
    d_are_some_names := _
    F_are_some_names := F_are_some_names
    m_are_some_names := PySem.W.mg_of X G a_are_some_names
    b_are_some_names := b_are_some_names
    f_is_name_or := f_is_name_or
    d_is_name_or := _
    F_is_name_or := F_is_name_or
    m_is_name_or := PySem.W.mg_of X G a_is_name_or
    b_is_name_or := b_is_name_or
    C_InvalidRow := C_InvalidRow
    m_InvalidRow := PySem.W.mg_of X G a_InvalidRow
    oxRow := ⟨⟨_, _, _, _, _, _, _, _, _, _, _, _, _, _, _, xL_C_InvalidRow, ve_one⟩, sa_C_InvalidRow, eb_C_InvalidRow, tyC_C_InvalidRow, kc_C_InvalidRow⟩
    nwRow := q_nwRow
    f_InvalidRow_init := f_InvalidRow_init
    d_InvalidRow_init := _
    iRow := in_f_InvalidRow_init
    tRow := q_tRow
    F_InvalidRow_init := F_InvalidRow_init
    b_InvalidRow_init := b_InvalidRow_init
    C_Begin := C_Begin
    m_Begin := PySem.W.mg_of X G a_Begin
    c_Begin := ⟨pg_C_Begin, hd_C_Begin, po_C_Begin, sa_C_Begin⟩
    f_Begin_init := f_Begin_init
    d_Begin_init := _
    mk_Begin := ⟨mk_C_Begin, in_f_Begin_init, fi_f_Begin_init, kc_C_Begin⟩
    F_Begin_init := F_Begin_init
    b_Begin_init := b_Begin_init
    n_Begin_mark := n_C_Begin_mark
    n_Begin_kind := n_C_Begin_kind
    n_Begin_mood := n_C_Begin_mood
    C_Send := C_Send
    m_Send := PySem.W.mg_of X G a_Send
    c_Send := ⟨pg_C_Send, hd_C_Send, po_C_Send, sa_C_Send⟩
    f_Send_init := f_Send_init
    d_Send_init := _
    mk_Send := ⟨mk_C_Send, in_f_Send_init, fi_f_Send_init, kc_C_Send⟩
    F_Send_init := F_Send_init
    b_Send_init := b_Send_init
    n_Send_mood := n_C_Send_mood
    n_Send_service := n_C_Send_service
    n_Send_mark := n_C_Send_mark
    C_Back := C_Back
    m_Back := PySem.W.mg_of X G a_Back
    c_Back := ⟨pg_C_Back, hd_C_Back, po_C_Back, sa_C_Back⟩
    f_Back_init := f_Back_init
    d_Back_init := _
    mk_Back := ⟨mk_C_Back, in_f_Back_init, fi_f_Back_init, kc_C_Back⟩
    F_Back_init := F_Back_init
    b_Back_init := b_Back_init
    n_Back_mood := n_C_Back_mood
    n_Back_service := n_C_Back_service
    n_Back_sign := n_C_Back_sign
    n_Back_then := n_C_Back_then
    C_End := C_End
    m_End := PySem.W.mg_of X G a_End
    c_End := ⟨pg_C_End, hd_C_End, po_C_End, sa_C_End⟩
    f_End_init := f_End_init
    d_End_init := _
    mk_End := ⟨mk_C_End, in_f_End_init, fi_f_End_init, kc_C_End⟩
    F_End_init := F_End_init
    b_End_init := b_End_init
    n_End_mood := n_C_End_mood
    n_End_outcome := n_C_End_outcome
    n_End_sign := n_C_End_sign
    n_End_part := n_C_End_part
    z_sorted := PySem.W.mg_none_of X G z_sorted
    f_ascending := f_ascending
    d_ascending := _
    F_ascending := F_ascending
    m_ascending := PySem.W.mg_of X G a_ascending
    b_ascending := b_ascending
    f_are_rows := f_are_rows
    d_are_rows := _
    F_are_rows := F_are_rows
    m_are_rows := PySem.W.mg_of X G a_are_rows
    b_are_rows := b_are_rows
    C_Row := C_Row
    m_Row := PySem.W.mg_of X G a_Row
    ty_Begin := fun H a dx fs e => .base (.ins e ⟨pg_C_Begin, hd_C_Begin, po_C_Begin, sa_C_Begin⟩ ca_C_Begin cg_ ck_ cm_C_Begin)
    ty_Send := fun H a dx fs e => .base (.ins e ⟨pg_C_Send, hd_C_Send, po_C_Send, sa_C_Send⟩ ca_C_Send cg_ ck_ cm_C_Send)
    ty_Back := fun H a dx fs e => .base (.ins e ⟨pg_C_Back, hd_C_Back, po_C_Back, sa_C_Back⟩ ca_C_Back cg_ ck_ cm_C_Back)
    ty_End := fun H a dx fs e => .base (.ins e ⟨pg_C_End, hd_C_End, po_C_End, sa_C_End⟩ ca_C_End cg_ ck_ cm_C_End)
    kr_Begin := kit_yes isC_C_Row tyC_C_Row sub_C_Begin_C_Row
    kr_Send := kit_yes isC_C_Row tyC_C_Row sub_C_Send_C_Row
    kr_Back := kit_yes isC_C_Row tyC_C_Row sub_C_Back_C_Row
    kr_End := kit_yes isC_C_Row tyC_C_Row sub_C_End_C_Row
    kk_Begin_Begin := kit_yes isC_C_Begin tyC_C_Begin sub_C_Begin_C_Begin
    kk_Begin_Send := kit_no isC_C_Send tyC_C_Send sub_C_Begin_C_Send ne_C_Begin_C_Send
    kk_Begin_Back := kit_no isC_C_Back tyC_C_Back sub_C_Begin_C_Back ne_C_Begin_C_Back
    kk_Begin_End := kit_no isC_C_End tyC_C_End sub_C_Begin_C_End ne_C_Begin_C_End
    kk_Send_Begin := kit_no isC_C_Begin tyC_C_Begin sub_C_Send_C_Begin ne_C_Send_C_Begin
    kk_Send_Send := kit_yes isC_C_Send tyC_C_Send sub_C_Send_C_Send
    kk_Send_Back := kit_no isC_C_Back tyC_C_Back sub_C_Send_C_Back ne_C_Send_C_Back
    kk_Send_End := kit_no isC_C_End tyC_C_End sub_C_Send_C_End ne_C_Send_C_End
    kk_Back_Begin := kit_no isC_C_Begin tyC_C_Begin sub_C_Back_C_Begin ne_C_Back_C_Begin
    kk_Back_Send := kit_no isC_C_Send tyC_C_Send sub_C_Back_C_Send ne_C_Back_C_Send
    kk_Back_Back := kit_yes isC_C_Back tyC_C_Back sub_C_Back_C_Back
    kk_Back_End := kit_no isC_C_End tyC_C_End sub_C_Back_C_End ne_C_Back_C_End
    kk_End_Begin := kit_no isC_C_Begin tyC_C_Begin sub_C_End_C_Begin ne_C_End_C_Begin
    kk_End_Send := kit_no isC_C_Send tyC_C_Send sub_C_End_C_Send ne_C_End_C_Send
    kk_End_Back := kit_no isC_C_Back tyC_C_Back sub_C_End_C_Back ne_C_End_C_Back
    kk_End_End := kit_yes isC_C_End tyC_C_End sub_C_End_C_End
    C_InvalidService := C_InvalidService
    m_InvalidService := PySem.W.mg_of X G a_InvalidService
    oxSvc := ⟨⟨_, _, _, _, _, _, _, _, _, _, _, _, _, _, _, xL_C_InvalidService, ve_one⟩, sa_C_InvalidService, eb_C_InvalidService, tyC_C_InvalidService, kc_C_InvalidService⟩
    nwSvc := q_nwSvc
    f_InvalidService_init := f_InvalidService_init
    d_InvalidService_init := _
    iSvc := in_f_InvalidService_init
    tSvc := q_tSvc
    F_InvalidService_init := F_InvalidService_init
    b_InvalidService_init := b_InvalidService_init
    C_Service := C_Service
    m_Service := PySem.W.mg_of X G a_Service
    c_Service := ⟨pg_C_Service, hd_C_Service, po_C_Service, sa_C_Service⟩
    f_Service_init := f_Service_init
    d_Service_init := _
    mk_Service := ⟨mk_C_Service, in_f_Service_init, fi_f_Service_init, kc_C_Service⟩
    e_waits := e_waits
    e_leaves := e_leaves
    e_rows := e_rows
    t_waits := fun H => .inr ⟨_, _, _, l_e_waits, rfl, rfl, by show 0 ≤ sizeLine; decide, .nil⟩
    t_leaves := fun H => .inr ⟨_, _, _, l_e_leaves, rfl, rfl, by show 0 ≤ sizeLine; decide, .nil⟩
    t_rows := fun H => .inr ⟨_, _, _, l_e_rows, rfl, rfl, by show 0 ≤ sizeLine; decide, .nil⟩
    F_Service_init := ⟨⟨_, _, _, _, _, _, _, _, _, _, rfl, l_Service_init, cc_Service_init, .inr ⟨by simp, _, _, [.ref e_waits, .ref e_leaves, .ref e_rows], _, rfl, dl_Service_init, rfl, .cons rfl (.cons rfl (.cons rfl (.nil)))⟩, .inl rfl⟩, k_Service_init⟩
    n_Service_name := n_C_Service_name
    n_Service_kinds := n_C_Service_kinds
    n_Service_waits := n_C_Service_waits
    n_Service_leaves := n_C_Service_leaves
    n_Service_rows := n_C_Service_rows
    n_Service_moods := n_C_Service_moods
    n_Service__begins := n_C_Service__begins
    n_Service__sends := n_C_Service__sends
    n_Service__backs := n_C_Service__backs
    n_Service__ends := n_C_Service__ends
    n_Service_endings := n_C_Service_endings
    tk_BAD := tk_BAD
    m_BAD := PySem.W.mg_of X G a_BAD
    tk_DROPPED := tk_DROPPED
    m_DROPPED := PySem.W.mg_of X G a_DROPPED
    tk_KEPT := tk_KEPT
    m_KEPT := PySem.W.mg_of X G a_KEPT
    tk_LOST := tk_LOST
    m_LOST := PySem.W.mg_of X G a_LOST
    tk_NEAR := tk_NEAR
    m_NEAR := PySem.W.mg_of X G a_NEAR
    tk_HIDDEN := tk_HIDDEN
    m_HIDDEN := PySem.W.mg_of X G a_HIDDEN
    f_own_bits := f_own_bits
    d_own_bits := _
    F_own_bits := F_own_bits
    m_own_bits := PySem.W.mg_of X G a_own_bits
    b_own_bits := b_own_bits
    f_end_in := f_end_in
    d_end_in := _
    F_end_in := F_end_in
    m_end_in := PySem.W.mg_of X G a_end_in
    b_end_in := b_end_in
    f_endings_in := f_endings_in
    d_endings_in := _
    F_endings_in := F_endings_in
    m_endings_in := PySem.W.mg_of X G a_endings_in
    b_endings_in := b_endings_in
    C_TraceError := C_TraceError
    m_TraceError := PySem.W.mg_of X G a_TraceError
    C_InvalidBook := C_InvalidBook
    m_InvalidBook := PySem.W.mg_of X G a_InvalidBook
    ke_ST := kit_yes isC_C_TraceError tyC_C_TraceError sub_C_InvalidService_C_TraceError
    ke_SB := kit_no isC_C_InvalidBook tyC_C_InvalidBook sub_C_InvalidService_C_InvalidBook ne_C_InvalidService_C_InvalidBook
    exSvc := ⟨ga_C_InvalidService, gg_C_InvalidService, eb_C_InvalidService, hd_C_InvalidService, ca_C_InvalidService, cg_, ck_, cm_C_InvalidService⟩
    xfSvc := ⟨ga_C_InvalidService, gg_C_InvalidService, eb_C_InvalidService, hd_C_InvalidService⟩
    teSvc := exm_mk eb_C_InvalidService isC_C_InvalidService tyC_C_InvalidService sub_C_InvalidService_C_InvalidService
    f_refused := f_refused
    d_refused := _
    F_refused := F_refused
    m_refused := PySem.W.mg_of X G a__law_refused
    b_refused := b_refused
    ks_str := kit_tyno isC_C_Row tyC_C_Row sub_Tstr_C_Row
    ks_non := kit_tyno isC_C_Row tyC_C_Row sub_TNoneType_C_Row
    ks_list := kit_tyno isC_C_Row tyC_C_Row sub_Tlist_C_Row
    f_is_name_law := f_is_name_law
    d_is_name_law := _
    F_is_name_law := F_is_name_law
    m_is_name_law := PySem.W.mg_of X G a__law_is_name
    b_is_name_law := b_is_name_law
    z_enumerate := PySem.W.mg_none_of X G z_enumerate
    f_are_names_law := f_are_names_law
    d_are_names_law := _
    F_are_names_law := F_are_names_law
    m_are_names_law := PySem.W.mg_of X G a__law_are_names
    b_are_names_law := b_are_names_law
    f_wrong := f_wrong
    d_wrong := _
    F_wrong := F_wrong
    m_wrong := PySem.W.mg_of X G a__law_wrong
    b_wrong := b_wrong
    z_int := PySem.W.mg_none_of X G z_int
    z_abs := PySem.W.mg_none_of X G z_abs
    f_take := f_take
    d_take := _
    F_take := F_take
    m_take := PySem.W.mg_of X G a__law_take
    b_take := b_take
    f_box := f_box
    d_box := _
    F_box := F_box
    m_box := PySem.W.mg_of X G a__law_box
    b_box := b_box
    f_pick := f_pick
    d_pick := _
    F_pick := F_pick
    m_pick := PySem.W.mg_of X G a__law_pick
    b_pick := b_pick
    z_range := PySem.W.mg_none_of X G z_range
    f_mixed := f_mixed
    d_mixed := _
    F_mixed := F_mixed
    m_mixed := PySem.W.mg_of X G a__law_mixed
    b_mixed := b_mixed
    f_names := f_names
    d_names := _
    F_names := F_names
    m_names := PySem.W.mg_of X G a__law_names
    b_names := b_names
    f_any := f_any
    d_any := _
    F_any := F_any
    m_any := PySem.W.mg_of X G a__law_any
    b_any := b_any
    f_row := f_row
    d_row := _
    F_row := F_row
    m_row := PySem.W.mg_of X G a__law_row
    b_row := b_row
    f_words := f_words
    d_words := _
    F_words := F_words
    m_words := PySem.W.mg_of X G a__law_words
    b_words := b_words
    f_drawn_row := f_drawn_row
    d_drawn_row := _
    F_drawn_row := F_drawn_row
    m_drawn_row := PySem.W.mg_of X G a__law_drawn_row
    b_drawn_row := b_drawn_row
    z_max := PySem.W.mg_none_of X G z_max
    z_min := PySem.W.mg_none_of X G z_min
    z_dict := PySem.W.mg_none_of X G z_dict
    f_law := f_law
    d_law := _
    F_law := F_law
  }
  exact ⟨PySem.W.fnOf "law" "law" (defArgs s_law) (defBody s_law) (defScope s_law) .none kV_law dc_law pm_law an_law cd_law ct_law, fun s v => .of_eq rfl, fun base _ _ => ok_law10 T⟩
theorem walk {l : PySem.W.OpenLaw} {q : Program} {loose : List Str} {XP : (Str → Option Value) → Heap → Prop} {YP : World → Heap → Prop} {d : DefRec} {K : Params → PySem.W.Frag} (hn : l.most = some 63) (hdf : d.params.defaults = [])
    (hY : ∀ (w : World) (h : Heap), YP w h → (K w.params).In h)
    (F : ∀ (w : World) (mg : Str → Option Value) (fa : Addr) (h : Heap), (K w.params).In h → h.Ns mainGlobals mg → mg d.name = some (.ref fa) →
      ∃ fd : FuncData, (∀ (s : Shared) (u : Value), BindsTo s fd ⟨[u], []⟩ [("_law_script", u)]) ∧ ∀ base : Heap, (K w.params).In base → base.Ns mainGlobals mg → FnOk l.prog w (K w.params) mg base CX0 9 fa fd ["_law_script"] (spLaw (K w.params))) :
    PySem.W.WalkO q loose XP YP l.row.toRowW d [] (fun f vs => PySem.call f vs) :=
  L2.walk_of (n := 63) (k := 9) (x := "_law_script") (CX := fun _ => CX0) (sp := fun w => spLaw (K w.params)) hn (by decide) hdf ⟨rfl, by decide, by decide⟩ hY F (fun _ _ a ns hl _ hS => ⟨a, ns, rfl, hS, hl, fun _ => rfl⟩) fun _ _ _ _ _ z => z
end My
open PySem PySem.W PyProof.Rows
set_option maxRecDepth 100000 in
set_option maxHeartbeats 0 in
theorem PySem.Challenge.cw_wholetraces_k10_services_refused_holds : PySem.Challenge.rw_wholetraces_k10_services_refused.Holds := by
  w_on; o_law; k_head; (case hw => w_witness2)
  k_fill
  refine My.walk (l := PySem.Challenge.rw_wholetraces_k10_services_refused) rfl rfl (fun w h Y => PySem.W.kIn_of Y) ?F
  case F =>
    intro w mg fa h KX G hmg
    refine' My.all_mk KX G hmg ?a_law ?a_NO_NAMES ?a_is_name ?a_is_sequence ?a_are_names ?a_are_some_names ?a_is_name_or ?a_InvalidRow ?a_Begin ?a_Send ?a_Back ?a_End ?a_ascending ?a_are_rows ?a_Row ?a_InvalidService ?a_Service ?a_BAD ?a_DROPPED ?a_KEPT ?a_LOST ?a_NEAR ?a_HIDDEN ?a_own_bits ?a_end_in ?a_endings_in ?a_TraceError ?a_InvalidBook ?a__law_refused ?a__law_is_name ?a__law_are_names ?a__law_wrong ?a__law_take ?a__law_box ?a__law_pick ?a__law_mixed ?a__law_names ?a__law_any ?a__law_row ?a__law_words ?a__law_drawn_row ?in_f_InvalidRow_init ?in_f_Begin_init ?in_f_Send_init ?in_f_Back_init ?in_f_End_init ?in_f_InvalidService_init ?in_f_Service_init ?l_is_name ?l_is_sequence ?l_are_names ?l_are_some_names ?l_is_name_or ?l_InvalidRow_init ?l_Begin_init ?l_Send_init ?l_Back_init ?l_End_init ?l_ascending ?l_are_rows ?l_InvalidService_init ?l_own_bits ?l_end_in ?l_endings_in ?l_refused ?l_is_name_law ?l_are_names_law ?l_wrong ?l_take ?l_box ?l_pick ?l_mixed ?l_names ?l_any ?l_row ?l_words ?l_drawn_row ?l_law ?l_aNO ?xL_C_InvalidRow ?xL_C_InvalidService ?l_Service_init ?dl_Service_init ?l_e_waits ?l_e_leaves ?l_e_rows ?cc_is_name ?k_is_name ?cc_is_sequence ?k_is_sequence ?cc_are_names ?k_are_names ?cc_are_some_names ?k_are_some_names ?cc_is_name_or ?k_is_name_or ?cc_InvalidRow_init ?k_InvalidRow_init ?cc_Begin_init ?k_Begin_init ?cc_Send_init ?k_Send_init ?cc_Back_init ?k_Back_init ?cc_End_init ?k_End_init ?cc_ascending ?k_ascending ?cc_are_rows ?k_are_rows ?cc_InvalidService_init ?k_InvalidService_init ?cc_own_bits ?k_own_bits ?cc_end_in ?k_end_in ?cc_endings_in ?k_endings_in ?cc_refused ?k_refused ?cc_is_name_law ?k_is_name_law ?cc_are_names_law ?k_are_names_law ?cc_wrong ?k_wrong ?cc_take ?k_take ?cc_box ?k_box ?cc_pick ?k_pick ?cc_mixed ?k_mixed ?cc_names ?k_names ?cc_any ?k_any ?cc_row ?k_row ?cc_words ?k_words ?cc_drawn_row ?k_drawn_row ?cc_law ?k_law ?z_len ?z_isinstance ?z_str ?z_all ?kl_aNO ?sm_aNO ?z_list ?z_tuple ?z_set ?sa_C_InvalidRow ?eb_C_InvalidRow ?tyC_C_InvalidRow ?kc_C_InvalidRow ?q_nwRow ?q_tRow ?pg_C_Begin ?hd_C_Begin ?po_C_Begin ?sa_C_Begin ?mk_C_Begin ?fi_f_Begin_init ?kc_C_Begin ?n_C_Begin_mark ?n_C_Begin_kind ?n_C_Begin_mood ?pg_C_Send ?hd_C_Send ?po_C_Send ?sa_C_Send ?mk_C_Send ?fi_f_Send_init ?kc_C_Send ?n_C_Send_mood ?n_C_Send_service ?n_C_Send_mark ?pg_C_Back ?hd_C_Back ?po_C_Back ?sa_C_Back ?mk_C_Back ?fi_f_Back_init ?kc_C_Back ?n_C_Back_mood ?n_C_Back_service ?n_C_Back_sign ?n_C_Back_then ?pg_C_End ?hd_C_End ?po_C_End ?sa_C_End ?mk_C_End ?fi_f_End_init ?kc_C_End ?n_C_End_mood ?n_C_End_outcome ?n_C_End_sign ?n_C_End_part ?z_sorted ?ca_C_Begin ?cg_ ?ck_ ?cm_C_Begin ?ca_C_Send ?cm_C_Send ?ca_C_Back ?cm_C_Back ?ca_C_End ?cm_C_End ?isC_C_Row ?tyC_C_Row ?sub_C_Begin_C_Row ?sub_C_Send_C_Row ?sub_C_Back_C_Row ?sub_C_End_C_Row ?isC_C_Begin ?tyC_C_Begin ?sub_C_Begin_C_Begin ?isC_C_Send ?tyC_C_Send ?sub_C_Begin_C_Send ?ne_C_Begin_C_Send ?isC_C_Back ?tyC_C_Back ?sub_C_Begin_C_Back ?ne_C_Begin_C_Back ?isC_C_End ?tyC_C_End ?sub_C_Begin_C_End ?ne_C_Begin_C_End ?sub_C_Send_C_Begin ?ne_C_Send_C_Begin ?sub_C_Send_C_Send ?sub_C_Send_C_Back ?ne_C_Send_C_Back ?sub_C_Send_C_End ?ne_C_Send_C_End ?sub_C_Back_C_Begin ?ne_C_Back_C_Begin ?sub_C_Back_C_Send ?ne_C_Back_C_Send ?sub_C_Back_C_Back ?sub_C_Back_C_End ?ne_C_Back_C_End ?sub_C_End_C_Begin ?ne_C_End_C_Begin ?sub_C_End_C_Send ?ne_C_End_C_Send ?sub_C_End_C_Back ?ne_C_End_C_Back ?sub_C_End_C_End ?sa_C_InvalidService ?eb_C_InvalidService ?tyC_C_InvalidService ?kc_C_InvalidService ?q_nwSvc ?q_tSvc ?pg_C_Service ?hd_C_Service ?po_C_Service ?sa_C_Service ?mk_C_Service ?fi_f_Service_init ?kc_C_Service ?cc_Service_init ?k_Service_init ?n_C_Service_name ?n_C_Service_kinds ?n_C_Service_waits ?n_C_Service_leaves ?n_C_Service_rows ?n_C_Service_moods ?n_C_Service__begins ?n_C_Service__sends ?n_C_Service__backs ?n_C_Service__ends ?n_C_Service_endings ?isC_C_TraceError ?tyC_C_TraceError ?sub_C_InvalidService_C_TraceError ?isC_C_InvalidBook ?tyC_C_InvalidBook ?sub_C_InvalidService_C_InvalidBook ?ne_C_InvalidService_C_InvalidBook ?ga_C_InvalidService ?gg_C_InvalidService ?hd_C_InvalidService ?ca_C_InvalidService ?cm_C_InvalidService ?isC_C_InvalidService ?sub_C_InvalidService_C_InvalidService ?sub_Tstr_C_Row ?sub_TNoneType_C_Row ?sub_Tlist_C_Row ?z_enumerate ?z_int ?z_abs ?z_range ?z_max ?z_min ?z_dict
    (case a_law => k_is)
    (case a_NO_NAMES => k_is)
    (case a_is_name => k_is)
    (case a_is_sequence => k_is)
    (case a_are_names => k_is)
    (case a_are_some_names => k_is)
    (case a_is_name_or => k_is)
    (case a_InvalidRow => k_is)
    (case a_Begin => k_is)
    (case a_Send => k_is)
    (case a_Back => k_is)
    (case a_End => k_is)
    (case a_ascending => k_is)
    (case a_are_rows => k_is)
    (case a_Row => k_is)
    (case a_InvalidService => k_is)
    (case a_Service => k_is)
    (case a_BAD => k_is)
    (case a_DROPPED => k_is)
    (case a_KEPT => k_is)
    (case a_LOST => k_is)
    (case a_NEAR => k_is)
    (case a_HIDDEN => k_is)
    (case a_own_bits => k_is)
    (case a_end_in => k_is)
    (case a_endings_in => k_is)
    (case a_TraceError => k_is)
    (case a_InvalidBook => k_is)
    (case a__law_refused => k_is)
    (case a__law_is_name => k_is)
    (case a__law_are_names => k_is)
    (case a__law_wrong => k_is)
    (case a__law_take => k_is)
    (case a__law_box => k_is)
    (case a__law_pick => k_is)
    (case a__law_mixed => k_is)
    (case a__law_names => k_is)
    (case a__law_any => k_is)
    (case a__law_row => k_is)
    (case a__law_words => k_is)
    (case a__law_drawn_row => k_is)
    (case in_f_InvalidRow_init => k_is)
    (case in_f_Begin_init => k_is)
    (case in_f_Send_init => k_is)
    (case in_f_Back_init => k_is)
    (case in_f_End_init => k_is)
    (case in_f_InvalidService_init => k_is)
    (case in_f_Service_init => k_is)
    (case l_is_name => k_is)
    (case l_is_sequence => k_is)
    (case l_are_names => k_is)
    (case l_are_some_names => k_is)
    (case l_is_name_or => k_is)
    (case l_InvalidRow_init => k_is)
    (case l_Begin_init => k_is)
    (case l_Send_init => k_is)
    (case l_Back_init => k_is)
    (case l_End_init => k_is)
    (case l_ascending => k_is)
    (case l_are_rows => k_is)
    (case l_InvalidService_init => k_is)
    (case l_own_bits => k_is)
    (case l_end_in => k_is)
    (case l_endings_in => k_is)
    (case l_refused => k_is)
    (case l_is_name_law => k_is)
    (case l_are_names_law => k_is)
    (case l_wrong => k_is)
    (case l_take => k_is)
    (case l_box => k_is)
    (case l_pick => k_is)
    (case l_mixed => k_is)
    (case l_names => k_is)
    (case l_any => k_is)
    (case l_row => k_is)
    (case l_words => k_is)
    (case l_drawn_row => k_is)
    (case l_law => k_is)
    (case l_aNO => k_is)
    (case xL_C_InvalidRow => k_is)
    (case xL_C_InvalidService => k_is)
    (case l_Service_init => k_is)
    (case dl_Service_init => k_is)
    (case l_e_waits => k_is)
    (case l_e_leaves => k_is)
    (case l_e_rows => k_is)
    (case cc_is_name => k_is)
    (case k_is_name => k_is)
    (case cc_is_sequence => k_is)
    (case k_is_sequence => k_is)
    (case cc_are_names => k_is)
    (case k_are_names => k_is)
    (case cc_are_some_names => k_is)
    (case k_are_some_names => k_is)
    (case cc_is_name_or => k_is)
    (case k_is_name_or => k_is)
    (case cc_InvalidRow_init => k_is)
    (case k_InvalidRow_init => k_is)
    (case cc_Begin_init => k_is)
    (case k_Begin_init => k_is)
    (case cc_Send_init => k_is)
    (case k_Send_init => k_is)
    (case cc_Back_init => k_is)
    (case k_Back_init => k_is)
    (case cc_End_init => k_is)
    (case k_End_init => k_is)
    (case cc_ascending => k_is)
    (case k_ascending => k_is)
    (case cc_are_rows => k_is)
    (case k_are_rows => k_is)
    (case cc_InvalidService_init => k_is)
    (case k_InvalidService_init => k_is)
    (case cc_own_bits => k_is)
    (case k_own_bits => k_is)
    (case cc_end_in => k_is)
    (case k_end_in => k_is)
    (case cc_endings_in => k_is)
    (case k_endings_in => k_is)
    (case cc_refused => k_is)
    (case k_refused => k_is)
    (case cc_is_name_law => k_is)
    (case k_is_name_law => k_is)
    (case cc_are_names_law => k_is)
    (case k_are_names_law => k_is)
    (case cc_wrong => k_is)
    (case k_wrong => k_is)
    (case cc_take => k_is)
    (case k_take => k_is)
    (case cc_box => k_is)
    (case k_box => k_is)
    (case cc_pick => k_is)
    (case k_pick => k_is)
    (case cc_mixed => k_is)
    (case k_mixed => k_is)
    (case cc_names => k_is)
    (case k_names => k_is)
    (case cc_any => k_is)
    (case k_any => k_is)
    (case cc_row => k_is)
    (case k_row => k_is)
    (case cc_words => k_is)
    (case k_words => k_is)
    (case cc_drawn_row => k_is)
    (case k_drawn_row => k_is)
    (case cc_law => k_is)
    (case k_law => k_is)
    (case z_len => k_is)
    (case z_isinstance => k_is)
    (case z_str => k_is)
    (case z_all => k_is)
    (case kl_aNO => exact ⟨⟨_, _, rfl, rfl⟩, ⟨_, _, rfl, rfl⟩, ⟨_, _, rfl, rfl⟩, ⟨_, _, rfl, rfl⟩, ⟨_, _, rfl, rfl⟩, ⟨_, _, rfl, rfl⟩, ⟨_, _, rfl, rfl⟩, ⟨_, _, rfl, rfl⟩, ⟨_, _, rfl, rfl⟩, ⟨_, _, rfl, rfl⟩, trivial⟩)
    (case sm_aNO => first | rfl | decide)
    (case z_list => k_is)
    (case z_tuple => k_is)
    (case z_set => k_is)
    (case sa_C_InvalidRow => k_is)
    (case eb_C_InvalidRow => k_is)
    (case tyC_C_InvalidRow => k_is)
    (case kc_C_InvalidRow => k_is)
    (case q_nwRow => k_is)
    (case q_tRow => k_is)
    (case pg_C_Begin => k_is)
    (case hd_C_Begin => k_is)
    (case po_C_Begin => k_is)
    (case sa_C_Begin => k_is)
    (case mk_C_Begin => k_is)
    (case fi_f_Begin_init => k_is)
    (case kc_C_Begin => k_is)
    (case n_C_Begin_mark => k_is)
    (case n_C_Begin_kind => k_is)
    (case n_C_Begin_mood => k_is)
    (case pg_C_Send => k_is)
    (case hd_C_Send => k_is)
    (case po_C_Send => k_is)
    (case sa_C_Send => k_is)
    (case mk_C_Send => k_is)
    (case fi_f_Send_init => k_is)
    (case kc_C_Send => k_is)
    (case n_C_Send_mood => k_is)
    (case n_C_Send_service => k_is)
    (case n_C_Send_mark => k_is)
    (case pg_C_Back => k_is)
    (case hd_C_Back => k_is)
    (case po_C_Back => k_is)
    (case sa_C_Back => k_is)
    (case mk_C_Back => k_is)
    (case fi_f_Back_init => k_is)
    (case kc_C_Back => k_is)
    (case n_C_Back_mood => k_is)
    (case n_C_Back_service => k_is)
    (case n_C_Back_sign => k_is)
    (case n_C_Back_then => k_is)
    (case pg_C_End => k_is)
    (case hd_C_End => k_is)
    (case po_C_End => k_is)
    (case sa_C_End => k_is)
    (case mk_C_End => k_is)
    (case fi_f_End_init => k_is)
    (case kc_C_End => k_is)
    (case n_C_End_mood => k_is)
    (case n_C_End_outcome => k_is)
    (case n_C_End_sign => k_is)
    (case n_C_End_part => k_is)
    (case z_sorted => k_is)
    (case ca_C_Begin => k_is)
    (case cg_ => k_is)
    (case ck_ => k_is)
    (case cm_C_Begin => k_is)
    (case ca_C_Send => k_is)
    (case cm_C_Send => k_is)
    (case ca_C_Back => k_is)
    (case cm_C_Back => k_is)
    (case ca_C_End => k_is)
    (case cm_C_End => k_is)
    (case isC_C_Row => k_is)
    (case tyC_C_Row => k_is)
    (case sub_C_Begin_C_Row => first | k_is | rfl)
    (case sub_C_Send_C_Row => first | k_is | rfl)
    (case sub_C_Back_C_Row => first | k_is | rfl)
    (case sub_C_End_C_Row => first | k_is | rfl)
    (case isC_C_Begin => k_is)
    (case tyC_C_Begin => k_is)
    (case sub_C_Begin_C_Begin => first | k_is | rfl)
    (case isC_C_Send => k_is)
    (case tyC_C_Send => k_is)
    (case sub_C_Begin_C_Send => first | k_is | rfl)
    (case ne_C_Begin_C_Send => decide)
    (case isC_C_Back => k_is)
    (case tyC_C_Back => k_is)
    (case sub_C_Begin_C_Back => first | k_is | rfl)
    (case ne_C_Begin_C_Back => decide)
    (case isC_C_End => k_is)
    (case tyC_C_End => k_is)
    (case sub_C_Begin_C_End => first | k_is | rfl)
    (case ne_C_Begin_C_End => decide)
    (case sub_C_Send_C_Begin => first | k_is | rfl)
    (case ne_C_Send_C_Begin => decide)
    (case sub_C_Send_C_Send => first | k_is | rfl)
    (case sub_C_Send_C_Back => first | k_is | rfl)
    (case ne_C_Send_C_Back => decide)
    (case sub_C_Send_C_End => first | k_is | rfl)
    (case ne_C_Send_C_End => decide)
    (case sub_C_Back_C_Begin => first | k_is | rfl)
    (case ne_C_Back_C_Begin => decide)
    (case sub_C_Back_C_Send => first | k_is | rfl)
    (case ne_C_Back_C_Send => decide)
    (case sub_C_Back_C_Back => first | k_is | rfl)
    (case sub_C_Back_C_End => first | k_is | rfl)
    (case ne_C_Back_C_End => decide)
    (case sub_C_End_C_Begin => first | k_is | rfl)
    (case ne_C_End_C_Begin => decide)
    (case sub_C_End_C_Send => first | k_is | rfl)
    (case ne_C_End_C_Send => decide)
    (case sub_C_End_C_Back => first | k_is | rfl)
    (case ne_C_End_C_Back => decide)
    (case sub_C_End_C_End => first | k_is | rfl)
    (case sa_C_InvalidService => k_is)
    (case eb_C_InvalidService => k_is)
    (case tyC_C_InvalidService => k_is)
    (case kc_C_InvalidService => k_is)
    (case q_nwSvc => k_is)
    (case q_tSvc => k_is)
    (case pg_C_Service => k_is)
    (case hd_C_Service => k_is)
    (case po_C_Service => k_is)
    (case sa_C_Service => k_is)
    (case mk_C_Service => k_is)
    (case fi_f_Service_init => k_is)
    (case kc_C_Service => k_is)
    (case cc_Service_init => k_is)
    (case k_Service_init => k_is)
    (case n_C_Service_name => k_is)
    (case n_C_Service_kinds => k_is)
    (case n_C_Service_waits => k_is)
    (case n_C_Service_leaves => k_is)
    (case n_C_Service_rows => k_is)
    (case n_C_Service_moods => k_is)
    (case n_C_Service__begins => k_is)
    (case n_C_Service__sends => k_is)
    (case n_C_Service__backs => k_is)
    (case n_C_Service__ends => k_is)
    (case n_C_Service_endings => k_is)
    (case isC_C_TraceError => k_is)
    (case tyC_C_TraceError => k_is)
    (case sub_C_InvalidService_C_TraceError => first | k_is | rfl)
    (case isC_C_InvalidBook => k_is)
    (case tyC_C_InvalidBook => k_is)
    (case sub_C_InvalidService_C_InvalidBook => first | k_is | rfl)
    (case ne_C_InvalidService_C_InvalidBook => decide)
    (case ga_C_InvalidService => k_is)
    (case gg_C_InvalidService => k_is)
    (case hd_C_InvalidService => k_is)
    (case ca_C_InvalidService => k_is)
    (case cm_C_InvalidService => k_is)
    (case isC_C_InvalidService => k_is)
    (case sub_C_InvalidService_C_InvalidService => first | k_is | rfl)
    (case sub_Tstr_C_Row => first | k_is | rfl)
    (case sub_TNoneType_C_Row => first | k_is | rfl)
    (case sub_Tlist_C_Row => first | k_is | rfl)
    (case z_enumerate => k_is)
    (case z_int => k_is)
    (case z_abs => k_is)
    (case z_range => k_is)
    (case z_max => k_is)
    (case z_min => k_is)
    (case z_dict => k_is)
