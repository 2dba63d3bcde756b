import PyProof.Rows.All
import Wide.All
import OpenK.AllK
import Wide.FinOn
import HandS.ForMost
import HandS.Evl
import HandS.Style
import HandS.Walk
import HandS.IsInst
import HandS.Deep
import HandS.StrMore
import HandS.More
import PySem.Challenge.RW_wholetraces_k20_books_by_names
import HandS.Set
import HandS.SetBool
import HandS.SetFor
import HandS.Strs
import HandS.Comp
import HandS.ExcInit
import HandS.ExcField
import HandS.TryOnly
import HandS.WordsExc
import HandS.DictComp
import HandS.FStr
import HandS.Star
import HandS.Defaults
import PyProof.Rows.StrMeet
import HandS.Iter
import KE.GoesEnum
import HandS.MakeKwOnly
import HandS.MakeKw
import HandS.ExcOwn
import HandS.CallSlots
import HandS.ClsMeth
import HandS.CallLocal
import KE.KUnpackStar
import HandS.RaiseMore
set_option Elab.async false
set_option maxRecDepth 100000
set_option maxHeartbeats 4000000
set_option linter.all false
/-! ## Words of my own that speak of no program -/
namespace My
open PySem L2
/-- the box of draws: three ints -/
def bx (w s c : Int) : HO := .lst [.int w, .int s, .int c]
theorem small_ {n : Nat} (h : n ≤ 1000) : n ≤ sizeLine := Nat.le_of_lt (small1000 h)
theorem at_some {xs : List V} {k : Int} (h0 : 0 ≤ k) (h1 : k < (xs.length : Int)) : ∃ v : V, atI xs k = some v ∧ xs[k.toNat]? = some v := by
  have hk : k.toNat < xs.length := by omega
  have h2 : xs[k.toNat]? = some xs[k.toNat] := List.getElem?_eq_getElem hk
  have h3 := atI_nat h2
  rw [show ((k.toNat : Nat) : Int) = k by omega] at h3
  exact ⟨_, h3, h2⟩
theorem int_at {ns : List Int} {k : Int} (h0 : 0 ≤ k) (h1 : k < (ns.length : Int)) : ∃ z : Int, atI (ns.map V.int) k = some (.int z) := by
  obtain ⟨v, h, e⟩ := at_some (xs := ns.map V.int) h0 (by rw [List.length_map]; exact h1)
  rw [List.getElem?_map] at e
  cases q : ns[k.toNat]? with
  | none => rw [q] at e; cases e
  | some z => rw [q] at e; cases e; exact ⟨z, h⟩
/-! ### the heap grows, the box alone changes -/
structure Gr (b : Addr) (H H' : Hp) : Prop where
  keep : ∀ a o, a ≠ b → H a = some o → H' a = some o
  box : ∃ w s c, H' b = some (bx w s c)
/-- at a, which is not the box, stands o -/
structure At (b : Addr) (H : Hp) (a : Addr) (o : HO) : Prop where
  ne : a ≠ b
  at_ : H a = some o
theorem Gr.refl {b : Addr} {H : Hp} {w s c : Int} (h : H b = some (bx w s c)) : Gr b H H := ⟨fun _ _ _ e => e, w, s, c, h⟩
theorem Gr.trans {b : Addr} {H H1 H2 : Hp} (x : Gr b H H1) (y : Gr b H1 H2) : Gr b H H2 := ⟨fun a o n e => y.keep a o n (x.keep a o n e), y.box⟩
theorem Gr.draw {b : Addr} {H H1 : Hp} (x : Gr b H H1) (w s c : Int) : Gr b H (upd H1 b (bx w s c)) := ⟨fun a o n e => by rw [upd_ne n]; exact x.keep a o n e, w, s, c, upd_same⟩
theorem Gr.ne_new {b p : Addr} {H H1 : Hp} (x : Gr b H H1) (h : H1 p = none) : p ≠ b := fun e => by
  obtain ⟨w, s, c, q⟩ := x.box
  rw [e, q] at h
  cases h
theorem Gr.free {b p : Addr} {H H1 : Hp} (x : Gr b H H1) (h : H1 p = none) : H p = none := by
  cases q : H p with
  | none => rfl
  | some o =>
    rw [x.keep p o (x.ne_new h) q] at h
    cases h
theorem Gr.new {b p : Addr} {H H1 : Hp} (x : Gr b H H1) (h : H1 p = none) (o : HO) : Gr b H (upd H1 p o) := by
  have np := x.ne_new h
  refine ⟨fun a u n e => ?_, ?_⟩
  · rw [upd_ne (ne_of_none (x.keep a u n e) h)]
    exact x.keep a u n e
  · obtain ⟨w, s, c, q⟩ := x.box
    exact ⟨w, s, c, by rw [upd_ne np.symm]; exact q⟩
/-- what H does not know may be changed -/
theorem Gr.mut {b p : Addr} {H H1 : Hp} (x : Gr b H H1) (h : H p = none) (np : p ≠ b) (o : HO) : Gr b H (upd H1 p o) := by
  refine ⟨fun a u n e => ?_, ?_⟩
  · rw [upd_ne (ne_of_none e h)]
    exact x.keep a u n e
  · obtain ⟨w, s, c, q⟩ := x.box
    exact ⟨w, s, c, by rw [upd_ne np.symm]; exact q⟩
theorem At.gr {b a : Addr} {H H' : Hp} {o : HO} (h : At b H a o) (g : Gr b H H') : At b H' a o := ⟨h.ne, g.keep a o h.ne h.at_⟩
theorem At.l {K : PySem.W.Frag} {b a : Addr} {H : Hp} {xs : List V} (h : At b H a (.lst xs)) : SqL K H a xs := SqL.of h.at_
theorem At.t {K : PySem.W.Frag} {b a : Addr} {H : Hp} {xs : List V} (h : At b H a (.tup xs)) : SqT K H a xs := SqT.of h.at_
theorem Gr.at_new {b p : Addr} {H H1 : Hp} (x : Gr b H H1) (h : H1 p = none) (o : HO) : At b (upd H1 p o) p o := ⟨x.ne_new h, upd_same⟩
theorem At.new {b a p : Addr} {H : Hp} {o u : HO} (h : At b H a o) (hp : H p = none) : At b (upd H p u) a o := ⟨h.ne, by rw [upd_ne (ne_of_none h.at_ hp)]; exact h.at_⟩
theorem At.nep {b a p : Addr} {H : Hp} {o : HO} (h : At b H a o) (hp : H p = none) : a ≠ p := ne_of_none h.at_ hp
theorem Gr.of_new {b p : Addr} {H : Hp} {w s c : Int} (hb : H b = some (bx w s c)) (h : H p = none) (o : HO) : Gr b H (upd H p o) := (Gr.refl hb).new h o
theorem At.mk_new {b p : Addr} {H H1 : Hp} (x : Gr b H H1) (h : H1 p = none) (o : HO) : At b (upd H1 p o) p o := ⟨x.ne_new h, upd_same⟩
theorem Same.gr {b : Addr} {H H' : Hp} {w s c : Int} (e : Same H H') (h : H b = some (bx w s c)) : Gr b H H' := ⟨fun a o _ q => e a o q, w, s, c, e _ _ h⟩
theorem same_upd {H : Hp} {p : Addr} (h : H p = none) (o : HO) : Same H (upd H p o) := fun b u q => by rw [upd_ne (ne_of_none q h)]; exact q

/-! ### a list against an empty list -/
section
variable {X : Cx}
def rEqE (K : PySem.W.Frag) (neg : Bool) : R2 := fun x y H Q => ∃ (a q : Addr) (xs : List V), x = .ref a ∧ y = .ref q ∧ SqL K H a xs ∧ SqL K H q [] ∧ Q (.bl (if neg then !xs.isEmpty else xs.isEmpty)) H
theorem op_eqE (hu : X.A.units < cLine) : OpR X (compareOp .Eq) (rEqE X.K false) := by
  intro pins s σ H x y u v Q I rx ry h
  obtain ⟨a, q, xs, rfl, rfl, h1, h2, k⟩ := h
  cases rx
  cases ry
  obtain ⟨is, r, p, _⟩ := I.list h1
  obtain ⟨js, r', p', _⟩ := I.list h2
  cases r'
  cases xs with
  | nil =>
    cases r
    exact SeqAt.RcAt.lists (e := fun _ => true) p.isList p'.isList rfl hu (fun j h1 _ => absurd h1 (by simp)) X.prog X.w X.xe _ ⟨.bl true, H, I, rfl, k⟩
  | cons x xs =>
    cases r with
    | cons r1 r2 => exact SeqAt.RcAt.lists_lengths p.isList p'.isList (by simp) hu X.prog X.w X.xe _ ⟨.bl false, H, I, rfl, k⟩
theorem op_neE (hu : X.A.units < cLine) : OpR X (compareOp .NotEq) (rEqE X.K true) := by
  intro pins s σ H x y u v Q I rx ry h
  obtain ⟨a, q, xs, rfl, rfl, h1, h2, k⟩ := h
  cases rx
  cases ry
  obtain ⟨is, r, p, _⟩ := I.list h1
  obtain ⟨js, r', p', _⟩ := I.list h2
  cases r'
  cases xs with
  | nil =>
    cases r
    exact SeqAt.RcNeAt.lists (e := fun _ => true) p.isList p'.isList rfl hu (fun j h1 _ => absurd h1 (by simp)) X.prog X.w X.xe _ ⟨.bl false, H, I, rfl, k⟩
  | cons x xs =>
    cases r with
    | cons r1 r2 => exact SeqAt.RcNeAt.lists_lengths p.isList p'.isList (by simp) hu X.prog X.w X.xe _ ⟨.bl true, H, I, rfl, k⟩
/-- a text so many times -/
def timesL (x : List Nat) : Nat → List Nat
  | 0 => []
  | n + 1 => x ++ timesL x n
end
end My

/-! ## Further rules of my own: a text so many times -/
namespace My
open PySem L2
theorem timesL_one (x : List Nat) : timesL x 1 = x := by simp [timesL]
theorem fold_times (x : Array Nat) : ∀ (n : Nat) (acc : Array Nat), ((List.replicate n x).foldl (· ++ ·) acc).toList = acc.toList ++ timesL x.toList n
  | 0, acc => by simp [timesL]
  | n + 1, acc => by
    rw [List.replicate_succ, List.foldl_cons, fold_times x n, Array.toList_append, List.append_assoc]
    rfl
theorem timesL_len (x : List Nat) : ∀ n : Nat, (timesL x n).length = n * x.length
  | 0 => by simp [timesL]
  | n + 1 => by
    show (x ++ timesL x n).length = (n + 1) * x.length
    rw [List.length_append, timesL_len x n, Nat.add_mul, Nat.one_mul, Nat.add_comm]
theorem timesL_nil : ∀ n : Nat, timesL [] n = []
  | 0 => rfl
  | n + 1 => by
    show [] ++ timesL [] n = []
    rw [timesL_nil n]
    rfl
section
variable {X : Cx}
theorem op_mul_str : OpR X (binaryOp .Mult) (fun x y H Q => ∃ (z : Str) (n : Int), x = .str z ∧ y = .int n ∧ 0 ≤ n ∧ n ≤ 1000 ∧ z.length ≤ 1000 ∧ Q (.str ⟨(timesL z.cps.toList n.toNat).toArray⟩) H) := by
  intro pins s σ H x y v u Q I rx ry h
  obtain ⟨z, n, rfl, rfl, h0, h1, hz, k⟩ := h
  obtain ⟨t, rfl⟩ := rx
  obtain ⟨t', rfl⟩ := ry
  have hs : z.cps.size ≤ 1000 := hz
  refine PySem.P.mul_str (by rw [decide_eq_false (by omega), decide_eq_false (by omega)]; rfl) (fun h2 _ => ?_) (fun h2 _ => ?_) ?_
  · have h3 : (1000 : Int) ≤ (2 ^ 63 - 1) / n := by
      rw [Int.le_ediv_iff_mul_le (by omega)]
      have : (1000 : Int) * n ≤ 1000000 := by omega
      omega
    omega
  · have h3 : z.length * n.toNat ≤ 1000 * 1000 := Nat.mul_le_mul hz (by omega)
    have h4 : z.length * n.toNat ≤ sizeLine := by rw [sizeLine_eq]; omega
    show decide (z.length * n.toNat > sizeLine) = false
    exact decide_eq_false (by omega)
  · by_cases n0 : n < 1
    · have e : n = 0 := by omega
      subst e
      exact ⟨Nat.zero_le _, .str ⟨#[]⟩, H, I.tok _, ⟨_, rfl⟩, k⟩
    · rw [if_neg n0]
      by_cases e : (n == 1 || z.length == 0) = true
      · rw [if_pos e]
        have q : timesL z.cps.toList n.toNat = z.cps.toList := by
          rcases Bool.or_eq_true_iff.mp e with e | e
          · have e' : n = 1 := by simpa using e
            subst e'
            exact timesL_one _
          · have e' : z.cps.toList = [] := by
              have : z.cps.size = 0 := by simpa [Str.length] using e
              exact List.eq_nil_of_length_eq_zero (by simpa using this)
            rw [e', timesL_nil]
        rw [q] at k
        exact ⟨.str z, H, I, ⟨t, rfl⟩, by simpa using k⟩
      · rw [if_neg e]
        have q : (⟨(List.replicate n.toNat z.cps).foldl (· ++ ·) #[]⟩ : Str) = ⟨(timesL z.cps.toList n.toNat).toArray⟩ := by
          have f := fold_times z.cps n.toNat #[]
          have g : (List.replicate n.toNat z.cps).foldl (· ++ ·) #[] = (timesL z.cps.toList n.toNat).toArray := by
            apply Array.toList_inj.mp
            rw [f]
            simp
          rw [g]
        rw [← q] at k
        refine ⟨?_, .str _, H, I.tok _, ⟨_, rfl⟩, k⟩
        show ((List.replicate n.toNat z.cps).foldl (· ++ ·) #[]).size ≤ sizeLine
        rw [← Array.length_toList, fold_times, List.length_append, timesL_len]
        have h3 : n.toNat * z.cps.toList.length ≤ 1000 * 1000 := Nat.mul_le_mul (by omega) (by simpa using hs)
        rw [sizeLine_eq]
        simpa using (by omega : n.toNat * z.cps.toList.length ≤ 16777216)
end
end My

/-! ## The rules that read the written part, with it named (within a comprehension's block it must not hang on the block) -/
namespace My
open PySem L2
section
variable {X : Cx} {e a b o : Expr} {es : List Expr} {te ta tb to : TE} {t : TA} {f name : Str} {pos cpos p apos : Pos} {id T : String}
theorem pe_fldK (K : PySem.W.Frag) (he : PE X e ta) (hK : X.K = K := by rfl) (hb : attributeBase e f X.env (eval e X.env) = eval e X.env := by rfl) : PE X (.Attribute e f pos) (tFld K ta f) := hK ▸ pe_fld he hb
theorem ix_listK (K : PySem.W.Frag) (hK : X.K = K := by rfl) : IxR X (rIxL K) := hK ▸ ix_list
theorem ix_tupK (K : PySem.W.Frag) (hK : X.K = K := by rfl) : IxR X (rIxT K) := hK ▸ ix_tup
theorem sl_listK (K : PySem.W.Frag) (hK : X.K = K := by rfl) : SlR X (rSlL K) := hK ▸ sl_list
theorem sl_tupK (K : PySem.W.Frag) (hK : X.K = K := by rfl) : SlR X (rSlT K) := hK ▸ sl_tup
def rLenS (K : PySem.W.Frag) : List V → Hp → VK → Prop := fun xs H Q => ∃ p ys, xs = [.ref p] ∧ (SqL K H p ys ∨ SqT K H p ys) ∧ Q (.int ys.length) H
theorem call_lenK (K : PySem.W.Frag) (hK : X.K = K := by rfl) : CallR X (.builtin "len") (rLenS K) := hK ▸ call_len_seq
def rListO (K : PySem.W.Frag) : List V → Hp → VK → Prop := fun xs H Q => ∃ p ys, xs = [.ref p] ∧ (SqL K H p ys ∨ SqT K H p ys) ∧ ∀ l, H l = none → Q (.ref l) (upd H l (.lst ys))
theorem call_listK (K : PySem.W.Frag) (hK : X.K = K := by rfl) : CallR X (.type "list") (rListO K) := hK ▸ call_list_of
def rTupO (K : PySem.W.Frag) : List V → Hp → VK → Prop := fun xs H Q => ∃ p ys, xs = [.ref p] ∧ ((SqL K H p ys ∧ ∀ l, H l = none → Q (.ref l) (upd H l (.tup ys))) ∨ (SqT K H p ys ∧ Q (.ref p) H))
theorem call_tupleK (K : PySem.W.Frag) (hK : X.K = K := by rfl) : CallR X (.type "tuple") (rTupO K) := hK ▸ call_tuple_of
theorem op_inK (K : PySem.W.Frag) (hK : X.K = K := by rfl) : OpR X (compareOp .In) (rIn K false) := hK ▸ op_in_seq
theorem op_notInK (K : PySem.W.Frag) (hK : X.K = K := by rfl) : OpR X (compareOp .NotIn) (rIn K true) := hK ▸ op_notIn_seq
theorem op_eqDK (K : PySem.W.Frag) (hu : X.A.units + 64 < cLine) (hK : X.K = K := by rfl) : OpR X (compareOp .Eq) (rEqD K) := hK ▸ op_eqD hu
theorem op_neDK (K : PySem.W.Frag) (hu : X.A.units + 64 < cLine) (hK : X.K = K := by rfl) : OpR X (compareOp .NotEq) (rNeD K) := hK ▸ op_neD hu
theorem op_eqEK (K : PySem.W.Frag) (hu : X.A.units < cLine) (hK : X.K = K := by rfl) : OpR X (compareOp .Eq) (rEqE K false) := hK ▸ op_eqE hu
theorem op_neEK (K : PySem.W.Frag) (hu : X.A.units < cLine) (hK : X.K = K := by rfl) : OpR X (compareOp .NotEq) (rEqE K true) := hK ▸ op_neE hu
def rJoin (K : PySem.W.Frag) : V → List V → Hp → VK → Prop := fun x xs H Q => ∃ a p, ∃ ys : List Str, x = .str a ∧ xs = [.ref p] ∧ (SqL K H p (ys.map V.str) ∨ SqT K H p (ys.map V.str)) ∧
  (ys.map (·.length)).sum + ys.length * a.length ≤ 16777216 ∧ Q (.str (Txt.join a ys)) H
theorem mt_joinK (K : PySem.W.Frag) (hK : X.K = K := by rfl) : MtR X "str.join" (rJoin K) := hK ▸ mt_join
theorem pi_listK (K : PySem.W.Frag) {tg : Expr} (hl : PE X e te) (hK : X.K = K := by rfl) : PI X tg e (iList K te) := hK ▸ pi_list hl
theorem pi_tupK (K : PySem.W.Frag) {tg : Expr} (hl : PE X e te) (hK : X.K = K := by rfl) : PI X tg e (iTup K te) := hK ▸ pi_tup hl
theorem call_isiV (K : PySem.W.Frag) (hK : X.K = K := by rfl) : CallR X (.builtin "isinstance") (rIsi K) := hK ▸ call_isi
theorem call_isiTV (K : PySem.W.Frag) (hK : X.K = K := by rfl) : CallR X (.builtin "isinstance") (rIsiT K) := hK ▸ call_isiT
theorem cr_allK (K : PySem.W.Frag) (hc : X.calm = true) (hK : X.K = K := by rfl) : CallR X (.builtin "all") (rAll K) := hK ▸ cr_all hc
end
end My

/-! ## Data: values that are nested lists and tuples -/
namespace My
open PySem L2
mutual
theorem Dp.same {K : PySem.W.Frag} {H H' : Hp} (e : Same H H') : ∀ (d : PyData) (v : V), Dp K H v d → Dp K H' v d
  | .none, _, h => by cases h; exact .non
  | .bool b, _, h => by cases h; exact .bl b
  | .int i, _, h => by cases h; exact .int i
  | .str x, _, h => by cases h; exact .str x
  | .list ds, _, h => by
    cases h with
    | lst hs ha => exact .lst (e.seq hs) (DpAll.same e ds _ ha)
  | .tuple ds, _, h => by
    cases h with
    | tup hs ha =>
      refine .tup ?_ (DpAll.same e ds _ ha)
      rcases hs with (hs | ⟨o, hs⟩) | hs
      · exact .inl (.inl (e _ _ hs))
      · exact .inl (.inr ⟨o, e _ _ hs⟩)
      · exact .inr hs
  | .dict _, _, h => by cases h
theorem DpAll.same {K : PySem.W.Frag} {H H' : Hp} (e : Same H H') : ∀ (ds : List PyData) (vs : List V), DpAll K H vs ds → DpAll K H' vs ds
  | [], _, h => by cases h; exact .nil
  | d :: ds, _, h => by
    cases h with
    | cons h1 h2 => exact .cons (Dp.same e d _ h1) (DpAll.same e ds _ h2)
end
theorem seqL_same {K : PySem.W.Frag} {H H' : Hp} (e : Same H H') {a : Addr} {xs : List V} (h : SqL K H a xs) : SqL K H' a xs := e.seq h
theorem seqT_same {K : PySem.W.Frag} {H H' : Hp} (e : Same H H') {a : Addr} {xs : List V} (hs : SqT K H a xs) : SqT K H' a xs := by
  rcases hs with (hs | ⟨o, hs⟩) | hs
  · exact .inl (.inl (e _ _ hs))
  · exact .inl (.inr ⟨o, e _ _ hs⟩)
  · exact .inr hs
theorem tyL {K : PySem.W.Frag} {H : Hp} {a : Addr} {xs : List V} (h : SqL K H a xs) : TyX K H (.ref a) (.type "list") := by
  rcases h with (h | ⟨o, h⟩) | ⟨o, its, n, h, hc, _⟩
  · exact .base (.lst h)
  · exact .base (.frz h)
  · exact .kList h hc
theorem tyT {K : PySem.W.Frag} {H : Hp} {a : Addr} {xs : List V} (h : SqT K H a xs) : TyX K H (.ref a) (.type "tuple") := by
  rcases h with (h | ⟨o, h⟩) | ⟨o, its, n, h, hc, _⟩
  · exact .base (.tup h)
  · exact .fTuple h
  · exact .kTuple h hc
/-- the type of a datum -/
def tyD : PyData → String
  | .none => "NoneType"
  | .bool _ => "bool"
  | .int _ => "int"
  | .str _ => "str"
  | .list _ => "list"
  | .tuple _ => "tuple"
  | .dict _ => "dict"
theorem Dp.ty {K : PySem.W.Frag} {H : Hp} {v : V} {d : PyData} (h : Dp K H v d) : TyX K H v (.type (tyD d)) := by
  cases h with
  | non => exact .base .non
  | bl b => exact .base (.bl b)
  | int i => exact .base (.int i)
  | str x => exact .base (.str x)
  | lst hs _ => exact tyL hs
  | tup hs _ => exact tyT hs
/-- a datum of bounded depth whose text, if it is one, is short -/
structure Dv (K : PySem.W.Frag) (H : Hp) (v : V) (d : PyData) : Prop where
  dp : Dp K H v d
  sh : SeqAt.shaped d = true
  tx : ∀ x, d = .str x → x.length ≤ 2000
theorem Dv.same {K : PySem.W.Frag} {H H' : Hp} {v : V} {d : PyData} (h : Dv K H v d) (e : Same H H') : Dv K H' v d := ⟨Dp.same e d v h.dp, h.sh, h.tx⟩
/-- a short text of code points -/
def okS (x : Str) : Bool := decide (x.length ≤ 2000) && PyData.strOk x
theorem shaped_str {x : Str} (h : PyData.strOk x = true) : SeqAt.shaped (.str x) = true := by
  unfold SeqAt.shaped
  simp [PyData.canLay0, PyData.depth, h]
theorem Dv.str {K : PySem.W.Frag} {H : Hp} {x : Str} (h : okS x = true) : Dv K H (.str x) (.str x) := by
  have h' := Bool.and_eq_true_iff.mp h
  exact ⟨.str x, shaped_str h'.2, fun y e => by cases e; exact of_decide_eq_true h'.1⟩
theorem Dp.all_strs {K : PySem.W.Frag} {H : Hp} : ∀ l : List Str, DpAll K H (l.map V.str) (l.map PyData.str)
  | [] => .nil
  | x :: l => .cons (.str x) (Dp.all_strs l)
/-- a datum as a text among some -/
def txD (l : List Str) : PyData → Bool
  | .str x => l.contains x
  | _ => false
theorem any_strs (l : List Str) (d : PyData) : ((l.map PyData.str).any fun z => PyData.eqv z d) = txD l d := by
  induction l with
  | nil => cases d <;> rfl
  | cons y l ih =>
    rw [List.map_cons, List.any_cons, ih]
    cases d with
    | str x =>
      show (PyData.eqv (.str y) (.str x) || l.contains x) = (y :: l).contains x
      rw [List.contains_cons, show PyData.eqv (.str y) (.str x) = (y == x) from by simp [PyData.eqv], BEq.comm]
    | _ =>
      show (PyData.eqv (.str y) _ || false) = false
      simp [PyData.eqv]
theorem canLay_strs : ∀ l : List Str, (l.all PyData.strOk) = true → PyData.canLayAll0 (l.map PyData.str) = true
  | [], _ => rfl
  | y :: l, h => by
    rw [List.all_cons, Bool.and_eq_true] at h
    have ih := canLay_strs l h.2
    simp [PyData.canLayAll0, PyData.canLay0, h.1, ih]
theorem depth_strs : ∀ l : List Str, PyData.depthAll (l.map PyData.str) = 0
  | [] => by simp [PyData.depthAll]
  | y :: l => by
    have ih := depth_strs l
    simp [PyData.depthAll, PyData.depth, ih]
theorem shaped_strs {l : List Str} (h : (l.all PyData.strOk) = true) : SeqAt.shaped (.tuple (l.map PyData.str)) = true := by
  unfold SeqAt.shaped
  simp [PyData.canLay0, PyData.depth, canLay_strs l h, depth_strs l]
theorem shapedL_strs {l : List Str} (h : (l.all PyData.strOk) = true) : SeqAt.shaped (.list (l.map PyData.str)) = true := by
  unfold SeqAt.shaped
  simp [PyData.canLay0, PyData.depth, canLay_strs l h, depth_strs l]
section
variable {X : Cx}
def rInT (K : PySem.W.Frag) (neg : Bool) : R2 := fun x y H Q => ∃ d ds, Dp K H x d ∧ Dp K H y (.tuple ds) ∧ SeqAt.shaped d = true ∧ SeqAt.shaped (.tuple ds) = true ∧ Q (.bl (if neg then !ds.any fun z => PyData.eqv z d else ds.any fun z => PyData.eqv z d)) H
theorem op_inT (K : PySem.W.Frag) (hu : X.A.units + 65 < cLine) (hK : X.K = K := by rfl) : OpR X (compareOp .In) (rInT K false) := by
  subst hK
  intro pins s σ H x y v u Q I rx ry h
  obtain ⟨d, ds, hd, he, sd, se, q⟩ := h
  obtain ⟨as, r1⟩ := Dp.reads I d x v hd rx
  obtain ⟨bs, r2⟩ := Dp.reads I (.tuple ds) y u he ry
  exact SeqAt.in_tuple_reads r2 r1 (by simpa [PyData.canLay0] using SeqAt.canLay_of_shaped se) (SeqAt.canLay_of_shaped sd) (by have := SeqAt.depth_of_shaped sd; have := Nat.min_le_right (PyData.depthAll ds) d.depth; omega) ⟨.bl _, H, I, rfl, q⟩
theorem op_notInT (K : PySem.W.Frag) (hu : X.A.units + 65 < cLine) (hK : X.K = K := by rfl) : OpR X (compareOp .NotIn) (rInT K true) := by
  subst hK
  intro pins s σ H x y v u Q I rx ry h
  obtain ⟨d, ds, hd, he, sd, se, q⟩ := h
  obtain ⟨as, r1⟩ := Dp.reads I d x v hd rx
  obtain ⟨bs, r2⟩ := Dp.reads I (.tuple ds) y u he ry
  exact SeqAt.notIn_tuple_reads r2 r1 (by simpa [PyData.canLay0] using SeqAt.canLay_of_shaped se) (SeqAt.canLay_of_shaped sd) (by have := SeqAt.depth_of_shaped sd; have := Nat.min_le_right (PyData.depthAll ds) d.depth; omega) ⟨.bl _, H, I, rfl, q⟩
end
theorem room65 {k : Nat} {A : Around} (r : Room k A) : A.units + 65 < cLine := by have := r.un; omega
end My

/-! ## == and != of own instances, str of one -/
namespace PySem.W
open PySem PySem.Spec PySem.Calls PyProof.Rows
section
variable {prog : Program} {w : World} {A : Around} {E : Value → Shared → Prop} {s : Shared} {K : Frag} {x C f : Addr} {ox : Obj} {od : Option Obj} {b tb : Value}
theorem my_boundB {M : Model} {name : Str} {id : String} {args : List Value} {Q : Option Value → Shared → Prop} (Y : K.In s.heap) (J : InstAt s.heap x ox C od) (e : findIn K (.ref C) name = some (some (.builtin id)))
    (bd : ∀ u, bindSpecial (.builtin id) u = pure (.builtin id, [u])) (q : wpAny M A (call (.builtin id) (.ref x :: args)) (fun v => Q (some v)) E s) : wpAny M A (callSpecialIfBound? (.ref x) name args) Q E s := by
  have q' : wpAny M A (call (.builtin id) ([.ref x] ++ args) >>= fun v => pure (some v)) Q E s := wpAny_bind (wpAny_mono q (fun _ _ z => wpAny_pure z) fun _ _ z => z)
  simp only [callSpecialIfBound?, bindSpecialIfBound?, bd]
  refine wpAny_holding (wpAny_bind (wpAny_bind (wpAny_bind (J.type.here ((looks_findIn Y e).here (wpAny_bind (wpAny_askSetting (wpAny_ite ?_))))))))
  split
  · refine wpAny_bind ?_
    rw [bd]
    exact wpAny_pure (wpAny_pure q')
  · refine wpAny_tryCatch (wpAny_bind ?_)
    rw [bd]
    exact wpAny_pure (wpAny_pure q')
theorem my_neBody {Q : Fin → Shared → Prop} (hu : A.units < cLine) (Y : K.In s.heap) (J : InstAt s.heap x ox C od) (e : findIn K (.ref C) "__eq__" = some (some (.ref f))) (g : isFn K (.ref f) = true)
    (q : wpAny (model prog w) A (call (.ref f) [.ref x, b]) (fun v s' => ∃ r, v = .bool r ∧ Q (.done (.ret (.bool (!r)))) s') E s) :
    wpAny (model prog w) A (Builtin.«object.__ne__» ⟨[.ref x, b], []⟩) Q E s := by
  unfold Builtin.«object.__ne__»
  rw [show slotArgs "__ne__" 1 ⟨[.ref x, b], []⟩ = pure (.ref x, [b]) from rfl]
  refine wpAny_bind (wpAny_pure (wpAny_bind (wpAny_cRoomFor hu (wpAny_bind (ifBound_K Y J e g (wpAny_mono q (fun v s' hv => ?_) fun _ _ z => z))))))
  obtain ⟨r, rfl, hq⟩ := hv
  exact wpAny_bind (wpAny_truthy_bool (wpAny_pure hq))
theorem my_neArgs (u v : Value) : argsOk "object.__ne__" ⟨[u, v], []⟩ := PySem.F.cmpArgs_ne u v
/-- a != b where a's class has its own == and object's != -/
theorem my_ne {Q : Value → Shared → Prop} (hu : A.units + 1 < cLine) (Y : K.In s.heap) (J : InstAt s.heap x ox C od) (ty : Looks (model prog w) s.heap (typeOf b) tb) (n : notFirst K C tb = true)
    (e1 : findIn K (.ref C) "__ne__" = some (some (.builtin "object.__ne__"))) (so : subIn K (.ref C) (.type "object") = some true) (e : findIn K (.ref C) "__eq__" = some (some (.ref f))) (g : isFn K (.ref f) = true)
    (q : wpAny (model prog w) A.in1 (call (.ref f) [.ref x, b]) (fun v s' => ∃ r, v = .bool r ∧ Q (.bool (!r)) s') E s) : wpAny (model prog w) A (richCompare .NotEq (.ref x) b) Q E s := by
  have once : wpAny (model prog w) A (tryCompare (.ref x) "__ne__" b) (fun r s' => ∃ v, r = some v ∧ Q v s') E s := by
    unfold tryCompare
    refine wpAny_bind (my_boundB Y J e1 PySem.F.cmp_object.ne.bind (wpAny_call (codeAny_call_builtin PySem.F.cmp_object.ne.plain PySem.F.cmpEntry_ne (check_slot PySem.F.cmpKind_ne PySem.F.cmpSplit_ne (J.type.andThen (looks_subIn Y so)) (my_neArgs _ _) ?_))))
    refine my_neBody (by show A.units + 1 < cLine; exact hu) Y J e g (wpAny_mono q (fun v s' hv => ?_) fun _ _ z => z)
    obtain ⟨r, rfl, hq⟩ := hv
    exact ⟨r, rfl, wpAny_pure ⟨_, rfl, hq⟩⟩
  unfold richCompare
  simp only [oneThing_ref]
  refine wpAny_holding (wpAny_bind (wpAny_cRoomFor (Nat.lt_of_succ_lt hu) ?_))
  refine wpAny_bind (J.type.here (wpAny_bind (ty.here ?_)))
  have last : wpAny (model prog w) A (tryCompare (.ref x) (cmpInfo .NotEq).2.1 b) (fun r s' => ∃ v, r = some v ∧ Q v s') E s := once
  by_cases z : tb = .ref C
  · subst z
    rw [if_neg (by simp)]
    refine wpAny_bind (wpAny_pure ?_)
    simp only [Bool.false_eq_true, if_false]
    exact wpAny_bind (wpAny_mono last (fun r s' h => by
      obtain ⟨v, rfl, hq⟩ := h
      exact wpAny_pure hq) fun _ _ z => z)
  · have e2 : subIn K tb (.ref C) = some false := by
      rcases Bool.or_eq_true_iff.mp n with k | k
      · exact absurd (beq_iff_eq.mp k) z
      · exact beq_iff_eq.mp k
    rw [if_pos (by simp only [bne_iff_ne, ne_eq]; exact fun k => z k.symm)]
    refine wpAny_bind ((looks_subIn Y e2).here ?_)
    simp only [Bool.false_eq_true, if_false]
    exact wpAny_bind (wpAny_mono last (fun r s' h => by
      obtain ⟨v, rfl, hq⟩ := h
      exact wpAny_pure hq) fun _ _ z => z)
end
end PySem.W
namespace My
open PySem L2 PyProof.Rows
/-- what is said of classes with == and str of their own -/
structure OwnEqs (P : Program) (w : World) (K : PySem.W.Frag) (mg : Str → Option Value) (base : Heap) {ι : Type} (cl : ι → Addr) (ok : ι → Prop) (k : Nat) (sp : ι → Sp) : Prop where
  fn : ∀ i, ok i → ∃ (f : Addr) (fd : FuncData) (ps : List Str), FnOk P w K mg base CX0 k f fd ps (sp i) ∧ Binds K fd ps [] ∧ PySem.W.findIn K (.ref (cl i)) "__eq__" = some (some (.ref f)) ∧ PySem.W.isFn K (.ref f) = true ∧
    PySem.W.findIn K (.ref (cl i)) "__ne__" = some (some (.builtin "object.__ne__")) ∧ PySem.W.subIn K (.ref (cl i)) (.type "object") = some true
structure OwnStr (P : Program) (w : World) (K : PySem.W.Frag) (mg : Str → Option Value) (base : Heap) {ι : Type} (cl : ι → Addr) (ok : ι → Prop) (k : Nat) (sp : ι → Sp) : Prop where
  fn : ∀ i, ok i → ∃ (f : Addr) (fd : FuncData) (ps : List Str), FnOk P w K mg base CX0 k f fd ps (sp i) ∧ Binds K fd ps [] ∧ PySem.W.findIn K (.ref (cl i)) "__str__" = some (some (.ref f)) ∧ PySem.W.isFn K (.ref f) = true
section
variable {X : Cx} {pins : List (Addr × Obj)} {σ : L2.St} {H : Hp} {s : Shared}
/-- a call somewhere within an operator -/
theorem run_within {k : Nat} {f : Addr} {fd : FuncData} {ps : List Str} {sp : Sp} {B : Around} {Q : VK} {us : List Value} {vs : List V} (I : Inv X pins σ H s) (eB : Env0 X.prog X.w X.K X.mg X.base B X.stack s H) (F : FnOk X.prog X.w X.K X.mg X.base CX0 k f fd ps sp)
    (hr : Room k B) (hb : Binds X.K fd ps []) (r : Vals vs us) (h : sp vs H Q E0) : wpAny (model X.prog X.w) B (call (.ref f) us) (EP X pins σ Q) X.xe s := by
  have ln : us.length = ps.length := r.length ▸ F.len _ _ _ _ h
  have r0 : Vals (vs ++ []) (us ++ []) := r.append .nil
  rw [List.append_nil, List.append_nil] at r0
  have bt := hb s us I.kIn (by rw [List.append_nil]; exact ln)
  rw [List.append_nil] at bt
  refine wpAny_call (codeAny_mono (F.run B X.stack s H ⟨us, []⟩ us vs Q E0 hr eB bt r0 h) fun q s' hq => ?_)
  match q, hq with
  | .error e, hq => exact pass0 pins σ H s e s' I hq
  | .ok (.ret u), hq => exact I.after hq
def rEqO (K : PySem.W.Frag) {ι : Type} (cl : ι → Addr) (ok : ι → Prop) (sp : ι → Sp) (neg : Bool) : R2 := fun x y H Q => ∃ (a : Addr) (i : ι) (dx : Addr) (fs : List (Str × V)) (t : Value), x = .ref a ∧ ok i ∧ H a = some (.ins (cl i) dx fs) ∧ TyX K H y t ∧ PySem.W.notFirst K (cl i) t = true ∧
  sp i [x, y] H (fun v H' => ∃ b, v = .bl b ∧ Q (.bl (if neg then !b else b)) H') E0
theorem ty_looks {x : V} {u t : Value} (I : Inv X pins σ H s) (rx : RelV x u) (ty : TyX X.K H x t) (M : Model) : PySem.W.Looks M s.heap (typeOf u) t := by
  obtain ⟨P, k, p, _⟩ := kit_of I rx ty
  exact k.ty M s.heap I.kIn p
theorem op_eqO (K : PySem.W.Frag) {ι : Type} {cl : ι → Addr} {ok : ι → Prop} {k : Nat} {sp : ι → Sp} (G : OwnEqs X.prog X.w K X.mg X.base cl ok k sp) (hr : Room k X.A) (hK : X.K = K := by rfl) : OpR X (compareOp .Eq) (rEqO K cl ok sp false) := by
  subst hK
  intro pins s σ H x y v u Q I rx ry h
  obtain ⟨a, i, dx, fs, t, rfl, hC, ha, ty, nf, hs⟩ := h
  obtain rfl : v = Value.ref a := rx
  obtain ⟨f, fd, ps, F, hb, e, g, _, _⟩ := G.fn i hC
  obtain ⟨mA, O, _, _, _, _⟩ := ins_get I.hok ha
  obtain ⟨od, J, _⟩ := O.look
  obtain ⟨m, fr⟩ := I.fr
  have r2 : Vals [.ref a, y] [Value.ref a, u] := .cons rfl (.cons ry .nil)
  have q := run_within I I.env0 F hr hb r2 hs
  show wpAny (model X.prog X.w) X.A (richCompare .Eq (.ref a) u) (EP X pins σ Q) X.xe s
  refine PySem.W.cmp_K (op := .Eq) (by have := hr.un; omega) fr I.ok.mod.kin J (ty_looks I ry ty _) nf e g (wpAny_mono q (fun z s' hz => ?_) fun _ _ z => z)
  obtain ⟨v, H', I', r, b, rfl, q⟩ := hz
  obtain rfl : z = Value.bool b := r
  exact ⟨.bl b, H', I', rfl, q⟩
theorem op_neO (K : PySem.W.Frag) {ι : Type} {cl : ι → Addr} {ok : ι → Prop} {k : Nat} {sp : ι → Sp} (G : OwnEqs X.prog X.w K X.mg X.base cl ok k sp) (hr : Room (k + 1) X.A) (hK : X.K = K := by rfl) : OpR X (compareOp .NotEq) (rEqO K cl ok sp true) := by
  subst hK
  intro pins s σ H x y v u Q I rx ry h
  obtain ⟨a, i, dx, fs, t, rfl, hC, ha, ty, nf, hs⟩ := h
  obtain rfl : v = Value.ref a := rx
  obtain ⟨f, fd, ps, F, hb, e, g, e1, so⟩ := G.fn i hC
  obtain ⟨mA, O, _, _, _, _⟩ := ins_get I.hok ha
  obtain ⟨od, J, _⟩ := O.look
  have r2 : Vals [.ref a, y] [Value.ref a, u] := .cons rfl (.cons ry .nil)
  have q := run_within I I.env0.in1 F hr.in1 hb r2 hs
  refine PySem.W.my_ne (by have := hr.un; omega) I.kIn J (ty_looks I ry ty _) nf e1 so e g (wpAny_mono q (fun z s' hz => ?_) fun _ _ z => z)
  obtain ⟨v, H', I', r, b, rfl, q⟩ := hz
  obtain rfl : z = Value.bool b := r
  exact ⟨b, rfl, .bl (!b), H', I', rfl, q⟩
def rStrO {ι : Type} (cl : ι → Addr) (ok : ι → Prop) (sp : ι → Sp) : List V → Hp → VK → Prop := fun xs H Q => ∃ (a : Addr) (i : ι) (dx : Addr) (fs : List (Str × V)), xs = [.ref a] ∧ ok i ∧ H a = some (.ins (cl i) dx fs) ∧ sp i [.ref a] H (fun v H' => ∃ y, v = .str y ∧ Q (.str y) H') E0
/-- str(x) by its own __str__ -/
theorem call_strO (K : PySem.W.Frag) {ι : Type} {cl : ι → Addr} {ok : ι → Prop} {k : Nat} {sp : ι → Sp} (G : OwnStr X.prog X.w K X.mg X.base cl ok k sp) (hr : Room (k + 2) X.A) (hK : X.K = K := by rfl) : CallR X (.type "str") (rStrO cl ok sp) := by
  subst hK
  intro pins s σ H xs us Q I r h
  obtain ⟨a, i, dx, fs, rfl, hC, ha, hs⟩ := h
  rw [Vals.ref1 r]
  obtain ⟨f, fd, ps, F, hb, e, g⟩ := G.fn i hC
  obtain ⟨mA, O, _, _, _, _⟩ := ins_get I.hok ha
  obtain ⟨od, J, _⟩ := O.look
  have r2 : Vals [.ref a] [Value.ref a] := .cons rfl .nil
  have q := run_within I I.env0.in1.in1 F hr.in1.in1 hb r2 hs
  refine PySem.W.kso_call (by have := hr.in1.in1.un; omega) I.kIn J e g (wpAny_mono q (fun z s' hz => ?_) fun _ _ z => z)
  obtain ⟨v, H', I', r, y, rfl, q⟩ := hz
  obtain ⟨t, rfl⟩ : ∃ t, z = Value.str y t := r
  exact ⟨.str y, H', I', ⟨t, rfl⟩, q⟩
end
end My

/-! ## The law's draws: the box, a draw, a pick -/
namespace My
open PySem L2
def top (i : Nat) : Stmt := PySem.Challenge.pw_wholetraces_k20_books_by_names.main.body.getD i (.Pass ⟨0, 0, 0, 0⟩)
abbrev s_box : Stmt := top 48
abbrev N_box : List Str := ["_law_script", "_law_k", "_law_cell", "_law_seed", "_law_wide"]
abbrev P_box : List Str := ["_law_script", "_law_k"]
theorem sc_box : FnScope N_box P_box (defScope s_box) := ⟨rfl, rfl, rfl, by decide +kernel, rfl, by decide +kernel, by decide +kernel⟩
abbrev s_take : Stmt := top 49
abbrev N_take : List Str := ["_law_box_here", "_law_many", "_law_digit", "_law_near"]
abbrev P_take : List Str := ["_law_box_here", "_law_many"]
theorem sc_take : FnScope N_take P_take (defScope s_take) := ⟨rfl, rfl, rfl, by decide +kernel, rfl, by decide +kernel, by decide +kernel⟩
structure TxDraw (w : World) (K : PySem.W.Frag) (mg : Str → Option Value) where
  z_len : mg "len" = none
  z_int : mg "int" = none
  z_abs : mg "abs" = none
  f_take : Addr
  d_take : FuncData
  F_take : Fun K "_law_take" "_law_take" s_take f_take d_take
  m_take : mg "_law_take" = some (.ref f_take)
  b_take : Binds K d_take P_take []
  f_box : Addr
  d_box : FuncData
  F_box : Fun K "_law_box" "_law_box" s_box f_box d_box
  m_box : mg "_law_box" = some (.ref f_box)
  b_box : Binds K d_box P_box []
def spBox (K : PySem.W.Frag) : Sp := fun vs H Q _ => ∃ (a : Addr) (ns : List Int) (k : Int), vs = [.ref a, .int k] ∧ SqL K H a (ns.map V.int) ∧ ns.length ≤ 63 ∧ 0 ≤ k ∧
  ∀ (b : Addr) (w s : Int), H b = none → Q (.ref b) (upd H b (bx w s 0))
def spTake : Sp := fun vs H Q _ => ∃ (b : Addr) (w s c m : Int), vs = [.ref b, .int m] ∧ H b = some (bx w s c) ∧ 0 < m ∧ m < 1073741824 ∧
  ∀ (d w' s' c' : Int), 0 ≤ d → d < m → Q (.int d) (upd H b (bx w' s' c'))
section
variable {P : Program} {w : World} {K : PySem.W.Frag} {mg : Str → Option Value} {base : Heap}
theorem ok_take (T : TxDraw w K mg) : FnOk P w K mg base CX0 1 T.f_take T.d_take P_take spTake := by
  refine T.F_take.ok sc_take (fun vs H Q E h => ?_) (fun cdv A outer s H vs Q E hr h => ?_)
  · obtain ⟨b, w, s, c, m, rfl, _⟩ := h
    rfl
  obtain ⟨b, w, s, c, m, rfl, hb, m0, m1, k⟩ := h
  refine ⟨_, (pss_cons (ps_if (pt_cmpR op_gt (pe_ix (ix_listK K) (pv 0) pe_int (fun _ _ => rfl)) pe_int (nomark _)) (pss_cons (ps_set (i := 2) sc_take.nd rfl (Or.inl rfl) (pe_op op_mod (pe_callTy call_int1 (by rfl) T.z_int (by decide +kernel) (pa_cons (pe_ix (ix_listK K) (pv 0) pe_int (fun _ _ => rfl)) pa_nil)) (pv 1)))
      (pss_cons (ps_asg (pe_op op_fdiv (pe_ix (ix_listK K) (pv 0) pe_int (fun _ _ => rfl)) (pv 1)) (pg_sub (pv 0) pe_int set_list))
      (pss_one (ps_ret (pv 2))))) pss_nil)
      (pss_cons (ps_asg (pe_op op_add (pe_ix (ix_listK K) (pv 0) pe_int (fun _ _ => rfl)) pe_int) (pg_sub (pv 0) pe_int set_list))
      (pss_cons (ps_set (i := 3) sc_take.nd rfl (Or.inl rfl) (pe_op op_mod (pe_callTy call_int1 (by rfl) T.z_int (by decide +kernel) (pa_cons (pe_op op_mul (pe_op op_add (pe_ix (ix_listK K) (pv 0) pe_int (fun _ _ => rfl)) (pe_op op_mul pe_int (pe_ix (ix_listK K) (pv 0) pe_int (fun _ _ => rfl)))) pe_int) pa_nil)) pe_int))
      (pss_cons (ps_asg (pe_op op_add (pe_op op_mod (pe_callTy call_int1 (by rfl) T.z_int (by decide +kernel) (pa_cons (pe_op op_add (pe_op op_mul (pv 3) pe_int) pe_int) pa_nil)) pe_int) pe_int) (pg_sub (pv 0) pe_int set_list))
      (pss_one (ps_ret (pe_op op_mod (pe_callTy call_int1 (by rfl) T.z_int (by decide +kernel) (pa_cons (pe_op op_fdiv (pe_op op_add (pe_op op_mul (pv 3) pe_int) (pe_ix (ix_listK K) (pv 0) pe_int (fun _ _ => rfl))) pe_int) pa_nil)) (pv 1)))))))), ?_⟩
  refine ⟨_, rfl, _, _, _, _, rfl, rfl, SqL.of hb, rfl, _, _, rfl, rfl, _, rfl, ?_⟩
  refine ite2 (fun h => ?_) (fun h => ?_)
  · refine ⟨_, rfl, _, _, _, _, rfl, rfl, SqL.of hb, rfl, .inl ⟨_, rfl, _, rfl, _, _, rfl, rfl, m0, ?_⟩⟩
    refine ⟨_, rfl, _, _, _, _, rfl, rfl, SqL.of hb, rfl, _, rfl, _, _, rfl, rfl, ⟨m0, m1⟩, _, rfl, b, _, _, 0, rfl, rfl, hb, rfl, _, rfl, ?_⟩
    exact k _ _ _ _ (Int.emod_nonneg _ (by omega)) (Int.emod_lt_of_pos _ m0)
  · refine ⟨_, rfl, _, _, _, _, rfl, rfl, SqL.of hb, rfl, _, _, rfl, rfl, _, rfl, b, _, _, 2, rfl, rfl, hb, rfl, ?_⟩
    refine ⟨_, rfl, _, _, _, _, rfl, rfl, SqL.of upd_same, rfl, _, rfl, _, _, _, _, rfl, rfl, SqL.of upd_same, rfl, _, _, rfl, rfl, .inl ⟨by decide, by decide⟩, _, _, rfl, rfl, _, _, rfl, rfl, .inr ⟨by decide, by decide⟩, .inl ⟨_, rfl, _, _, rfl, rfl, (by show (0 : Int) < _; decide), ?_⟩⟩
    refine ⟨_, rfl, _, _, rfl, rfl, .inr ⟨by decide, by decide⟩, _, _, rfl, rfl, .inl ⟨_, rfl, _, _, rfl, rfl, (by show (0 : Int) < _; decide), _, _, rfl, rfl, _, rfl, b, _, _, 1, rfl, rfl, upd_same, rfl, ?_⟩⟩
    rw [upd_upd]
    refine ⟨_, rfl, _, _, rfl, rfl, .inr ⟨by decide, by decide⟩, _, rfl, _, _, _, _, rfl, rfl, SqL.of upd_same, rfl, _, _, rfl, rfl, _, _, rfl, rfl, ⟨by decide, by decide⟩, .inl ⟨_, rfl, _, rfl, _, _, rfl, rfl, m0, ?_⟩⟩
    exact k _ _ _ _ (Int.emod_nonneg _ (by omega)) (Int.emod_lt_of_pos _ m0)
theorem ok_box (T : TxDraw w K mg) : FnOk P w K mg base CX0 1 T.f_box T.d_box P_box (spBox K) := by
  refine T.F_box.ok sc_box (fun vs H Q E h => ?_) (fun cdv A outer s H vs Q E hr h => ?_)
  · obtain ⟨a, ns, k, rfl, _⟩ := h
    rfl
  obtain ⟨a, ns, k, rfl, hS, h63, k0, q⟩ := h
  have hl : (ns.map V.int).length = ns.length := List.length_map _
  refine ⟨_, (pss_cons (ps_set (i := 2) sc_box.nd rfl (Or.inl rfl) (pe_op op_add (pe_op op_mul pe_int (pv 1)) pe_int))
      (Evl.pss_cut (ps_if (pt_cmpR op_lt (pv 1) (pe_callB (call_lenK K) (by rfl) T.z_len (by decide +kernel) (pa_cons (pv 0) pa_nil)) (nomark _)) (pss_one (ps_set (i := 2) sc_box.nd rfl (Or.inl rfl) (pe_callB call_abs (by rfl) T.z_abs (by decide +kernel) (pa_cons (pe_callTy call_int1 (by rfl) T.z_int (by decide +kernel) (pa_cons (pe_ix (ix_listK K) (pv 0) (pv 1) (fun _ _ => rfl)) pa_nil)) pa_nil)))) (pss_one (ps_if (pt_cmpR op_gt (pe_callB (call_lenK K) (by rfl) T.z_len (by decide +kernel) (pa_cons (pv 0) pa_nil)) pe_int (nomark _)) (pss_one (ps_set (i := 2) sc_box.nd rfl (Or.inl rfl) (pe_op op_add (pv 2) (pe_op op_mul (pe_op op_mod (pe_callTy call_int1 (by rfl) T.z_int (by decide +kernel) (pa_cons (pe_ix (ix_listK K) (pv 0) (pe_op op_mod (pe_callTy call_int1 (by rfl) T.z_int (by decide +kernel) (pa_cons (pv 1) pa_nil)) (pe_callB (call_lenK K) (by rfl) T.z_len (by decide +kernel) (pa_cons (pv 0) pa_nil))) (fun _ _ => rfl)) pa_nil)) pe_int) pe_int)))) pss_nil)))
      (pss_cons (ps_set (i := 3) sc_box.nd rfl (Or.inl rfl) (pe_op op_add (pe_op op_mod (pe_callTy call_int1 (by rfl) T.z_int (by decide +kernel) (pa_cons (pe_op op_add (pe_op op_add (pe_op op_mul (pe_op op_mod (pe_callTy call_int1 (by rfl) T.z_int (by decide +kernel) (pa_cons (pv 2) pa_nil)) pe_int) pe_int) (pe_op op_mul pe_int (pv 1))) pe_int) pa_nil)) pe_int) pe_int))
      (pss_cons (ps_set (i := 4) sc_box.nd rfl (Or.inl rfl) (pe_ifExp (pt_cmpR op_ge (pv 2) (pe_op op_pow pe_int pe_int) (nomark _)) (pv 2) pe_int))
      (pss_one (ps_ret (pe_lst (pa_cons (pv 4) (pa_cons (pv 3) (pa_cons pe_int pa_nil)))))))))), ?_⟩
  refine ⟨_, rfl, _, _, rfl, rfl, .inl ⟨by decide, by decide⟩, _, _, rfl, rfl, ?_⟩
  refine ⟨fun σ H' => H' = H ∧ ∃ cell : Int, σ = [some (.ref a), some (.int k), some (.int cell), none, none], ?_, ?_⟩
  · refine ⟨_, rfl, _, rfl, _, _, rfl, .inl hS, _, _, rfl, rfl, _, rfl, ?_⟩
    refine ite2 (fun h => ?_) (fun h => ?_)
    · have h' := of_decide_eq_true h
      rw [hl] at h'
      obtain ⟨z, hz⟩ := int_at k0 h'
      exact ⟨_, rfl, _, rfl, _, _, _, _, rfl, rfl, hS, hz, .inl ⟨_, rfl, _, rfl, rfl, _, rfl⟩⟩
    · refine ⟨_, rfl, _, _, rfl, .inl hS, _, _, rfl, rfl, _, rfl, ?_⟩
      refine ite2 (fun h2 => ?_) (fun h2 => ?_)
      · have h2' := of_decide_eq_true h2
        obtain ⟨z, hz⟩ := int_at (ns := ns) (k := k % (((ns.map V.int).length : Nat) : Int)) (Int.emod_nonneg _ (by omega)) (by rw [hl] at h2' ⊢; exact Int.emod_lt_of_pos _ h2')
        exact ⟨_, rfl, _, rfl, _, rfl, .inl ⟨_, rfl, _, rfl, _, _, rfl, .inl hS, _, _, rfl, rfl, h2', _, _, _, _, rfl, rfl, hS, hz, .inl ⟨_, rfl, _, _, rfl, rfl, (by show (0 : Int) < _; decide), _, _, rfl, rfl, .inr ⟨by decide, by decide⟩, _, _, rfl, rfl, rfl, _, rfl⟩⟩⟩
      · exact ⟨rfl, _, rfl⟩
  · rintro σ H' ⟨rfl, cell, rfl⟩
    refine ⟨_, rfl, .inl ⟨_, rfl, _, _, rfl, rfl, (by show (0 : Int) < _; decide), _, _, rfl, rfl, .inr ⟨by decide, by decide⟩, _, rfl, _, _, rfl, rfl, .inl ⟨by decide, by decide⟩, _, _, rfl, rfl, _, _, rfl, rfl, .inl ⟨_, rfl, _, _, rfl, rfl, (by show (0 : Int) < _; decide), _, _, rfl, rfl, ?_⟩⟩⟩
    refine ⟨_, rfl, _, _, rfl, rfl, ⟨by decide, by decide, by decide⟩, _, _, rfl, rfl, _, rfl, ?_⟩
    refine ite2 (fun h => ?_) (fun h => ?_)
    · exact ⟨_, rfl, _, rfl, _, rfl, by show 3 ≤ sizeLine; decide, fun b hb => q b _ _ hb⟩
    · exact ⟨_, rfl, _, rfl, by show 3 ≤ sizeLine; decide, fun b hb => q b _ _ hb⟩
/-- the same, the heap behind told by what stands -/
def spTakeG : Sp := fun vs H Q _ => ∃ (b : Addr) (m : Int), vs = [.ref b, .int m] ∧ Gr b H H ∧ 0 < m ∧ m < 1073741824 ∧
  ∀ (d : Int) (H' : Hp), 0 ≤ d → d < m → Gr b H H' → Q (.int d) H'
theorem ok_takeG (T : TxDraw w K mg) : FnOk P w K mg base CX0 1 T.f_take T.d_take P_take spTakeG := (ok_take T).imp fun vs H Q E h => by
  obtain ⟨b, m, rfl, g, m0, m1, k⟩ := h
  obtain ⟨w, s, c, hb⟩ := g.box
  exact ⟨b, w, s, c, m, rfl, hb, m0, m1, fun d w' s' c' d0 d1 => k d _ d0 d1 (g.draw _ _ _)⟩
end
end My

/-! ## Names: what a name is (for a law that draws none by _law_names) -/
namespace My
open PySem L2
/-- the words that are no names -/
def BAR : List Str := ["none", "any", "same", "keep", "drop", "good", "bad", "old", "new", "both"]
def ABC : Str := "abcdefghijklmnopqrstuvwxyz"
/-- a name: one to four small letters, none of those words -/
def isNm (x : Str) : Bool := decide (1 ≤ x.length) && decide (x.length ≤ 4) && !(BAR.contains x) && x.cps.toList.all fun c => decide (c ∈ ABC.cps.toList)
theorem isNm_len {x : Str} (h : isNm x = true) : 1 ≤ x.length ∧ x.length ≤ 4 := by
  unfold isNm at h
  simp only [Bool.and_eq_true, decide_eq_true_eq] at h
  exact h.1.1
end My

/-! ## The program: what is a name -/
namespace My
open PySem L2
abbrev s_is_name : Stmt := top 3
abbrev N_is_name : List Str := ["value"]
abbrev P_is_name : List Str := ["value"]
theorem sc_is_name : FnScope N_is_name P_is_name (defScope s_is_name) := ⟨rfl, rfl, rfl, by decide +kernel, rfl, by decide +kernel, by decide +kernel⟩
/-- a text, or a thing that is none -/
inductive AnyV (K : PySem.W.Frag) (H : Hp) : V → Prop where
  | str (x : Str) (h : x.length ≤ 2000) : AnyV K H (.str x)
  | oth {v : V} {t : Value} (n : ∀ x, v ≠ .str x) (ty : TyX K H v t) (k : PySem.W.kitOne K t (.type "str") = some false) : AnyV K H v
def nmV : V → Bool
  | .str x => isNm x
  | _ => false
def nmD : PyData → Bool
  | .str x => isNm x
  | _ => false
/-- the dict whose keys are the words that are no names -/
structure NoD (w : World) (K : PySem.W.Frag) (a : Addr) : Prop where
  ex : ∃ es n, KDict K w a es n
  has : ∀ z : Str, ∃ r, PySem.W.nsIn K a z = some r ∧ r.isSome = BAR.contains z
structure TxCheck (w : World) (K : PySem.W.Frag) (mg : Str → Option Value) where
  z_len : mg "len" = none
  z_isinstance : mg "isinstance" = none
  z_str : mg "str" = none
  z_all : mg "all" = none
  aNO : Addr
  m_NO : mg "NO_NAMES" = some (.ref aNO)
  t_NO : NoD w K aNO
  f_is_name : Addr
  d_is_name : FuncData
  F_is_name : Fun K "is_name" "is_name" s_is_name f_is_name d_is_name
  m_is_name : mg "is_name" = some (.ref f_is_name)
  b_is_name : Binds K d_is_name P_is_name []
def spIsName (K : PySem.W.Frag) : Sp := fun vs H Q _ => ∃ v : V, vs = [v] ∧ AnyV K H v ∧ ∀ H', Same H H' → Q (.bl (nmV v)) H'
theorem inV_strs (x : Str) : ∀ l : List Str, inV (.str x) (l.map V.str) = l.contains x
  | [] => rfl
  | y :: l => by
    have h := inV_strs x l
    show (y == x || inV (.str x) (l.map V.str)) = (y :: l).contains x
    rw [h, List.contains_cons, BEq.comm]
theorem Dv.any {K : PySem.W.Frag} {H : Hp} {v : V} {d : PyData} (h : Dv K H v d) : AnyV K H v := by
  have t := Dp.ty h.dp
  cases h.dp with
  | str x => exact .str x (h.tx x rfl)
  | non => exact .oth (fun _ e => by cases e) t (kit_ty (by decide +kernel))
  | bl b => exact .oth (fun _ e => by cases e) t (kit_ty (show kitB "bool" "str" = some false by decide +kernel))
  | int i => exact .oth (fun _ e => by cases e) t (kit_ty (show kitB "int" "str" = some false by decide +kernel))
  | lst _ _ => exact .oth (fun _ e => by cases e) t (kit_ty (show kitB "list" "str" = some false by decide +kernel))
  | tup _ _ => exact .oth (fun _ e => by cases e) t (kit_ty (show kitB "tuple" "str" = some false by decide +kernel))
theorem Dv.nm {K : PySem.W.Frag} {H : Hp} {v : V} {d : PyData} (h : Dv K H v d) : nmV v = nmD d := by
  cases h.dp <;> rfl
/-- of the signs below 128 the small letters are those that are letters and lower -/
theorem abcC_is : ∀ c < 128, decide (c ∈ ABC.cps.toList) = (PySem.Unicode.isAlpha c && PySem.Unicode.isLower c) := by decide +kernel
theorem lowC_only : ∀ c < 128, PySem.Unicode.isAlpha c = true → (PySem.Unicode.isLower c = !(PySem.Unicode.isUpper c || PySem.Unicode.isTitle c)) := by decide +kernel
theorem abcC_lt : ∀ c ∈ ABC.cps.toList, c < 128 := by decide +kernel
theorem isNm_is (x : Str) : isNm x = (decide (1 ≤ x.length) && decide (x.length ≤ 4) && Txt.isascii x && (Txt.isalpha x && (Txt.islower x && !(BAR.contains x)))) := by
  by_cases h1 : 1 ≤ x.length
  · have e : (x.cps.toList.all fun c => decide (c ∈ ABC.cps.toList)) = (Txt.isascii x && (Txt.isalpha x && Txt.islower x)) := by
      rw [Bool.eq_iff_iff]
      simp only [Txt.isascii, Txt.isalpha, Txt.islower, ← Array.all_toList, ← Array.any_toList, Bool.and_eq_true, List.all_eq_true, List.any_eq_true, decide_eq_true_eq, Bool.not_eq_true', ← Bool.not_eq_true, not_exists, not_and]
      constructor
      · intro h
        have hh : ∀ c ∈ x.cps.toList, c < 128 ∧ PySem.Unicode.isAlpha c = true ∧ PySem.Unicode.isLower c = true := fun c hc => by
          have l := abcC_lt c (h c hc)
          have q := abcC_is c l
          rw [decide_eq_true (h c hc)] at q
          have q2 := Bool.and_eq_true_iff.mp q.symm
          exact ⟨l, q2.1, q2.2⟩
        refine ⟨fun c hc => (hh c hc).1, ⟨by omega, fun c hc => (hh c hc).2.1⟩, ?_, fun c hc => ?_⟩
        · have hz : 0 < x.cps.toList.length := by
            have : x.cps.size = x.length := rfl
            simp
            omega
          obtain ⟨c, hc⟩ := List.exists_mem_of_length_pos hz
          exact ⟨c, hc, (hh c hc).2.2⟩
        · obtain ⟨l, q1, q2⟩ := hh c hc
          have q3 := lowC_only c l q1
          rw [q2] at q3
          intro z
          rw [z] at q3
          cases q3
      · rintro ⟨h2, ⟨_, h3⟩, _, h4⟩ c hc
        have l := h2 c hc
        have q1 := h3 c hc
        have q3 := lowC_only c l q1
        have q4 : (PySem.Unicode.isUpper c || PySem.Unicode.isTitle c) = false := by simpa using h4 c hc
        rw [q4] at q3
        have q := abcC_is c l
        rw [q1, q3] at q
        exact of_decide_eq_true q
    unfold isNm
    rw [e]
    simp only [Bool.and_assoc]
    cases decide (1 ≤ x.length) <;> cases decide (x.length ≤ 4) <;> cases BAR.contains x <;> cases Txt.isascii x <;> cases Txt.isalpha x <;> cases Txt.islower x <;> rfl
  · unfold isNm
    rw [decide_eq_false h1]
    rfl
section
variable {P : Program} {w : World} {K : PySem.W.Frag} {mg : Str → Option Value} {base : Heap}
theorem ok_is_name (T : TxCheck w K mg) : FnOk P w K mg base CX0 1 T.f_is_name T.d_is_name P_is_name (spIsName K) := by
  refine T.F_is_name.ok sc_is_name (fun vs H Q E h => ?_) (fun cdv A outer s H vs Q E hr h => ?_)
  · obtain ⟨v, rfl, _⟩ := h
    rfl
  obtain ⟨v, rfl, hv, q⟩ := h
  obtain ⟨es, nn, D⟩ := T.t_NO.ex
  refine ⟨_, (pss_cons (ps_if (PW.pt (pw_or (pt_not (pt_val (pe_callB (call_isiV K) (by rfl) T.z_isinstance (by decide +kernel) (pa_cons (pv 0) (pa_cons (pe_bltn (v := .ty "str") (by rfl) T.z_str (by decide +kernel) rfl) pa_nil))))) (pw_or (pt_not (pt_chain op_le op_le pe_int (pe_callB call_len_str (by rfl) T.z_len (by decide +kernel) (pa_cons (pv 0) pa_nil)) pe_int)) (pw_or1 (pt_not (pt_val (pe_bm0 PySem.F.plainAttrs_str PySem.F.slot_str_isascii PySem.F.type_str_isascii mt_isascii (pv 0)))))))) (pss_one (ps_ret pe_bl)) pss_nil)
      (pss_one (ps_ret (pe_and (pe_bm0 PySem.F.plainAttrs_str PySem.F.slot_str_isalpha PySem.F.type_str_isalpha mt_isalpha (pv 0)) (pe_and (pe_bm0 PySem.F.plainAttrs_str PySem.F.slot_str_islower PySem.F.type_str_islower mt_islower (pv 0)) (pe_one (pe_cmpR (op_notIn_kd D) (pv 0) (pe_glob (v := .ref T.aNO) (by rfl) T.m_NO rfl) (by rfl)))))))), ?_⟩
  cases hv with
  | oth n ty k =>
    have e : nmV v = false := by cases v <;> first | rfl | exact absurd rfl (n _)
    refine ⟨_, rfl, v, .ty "str", _, _, _, rfl, .ty _, ty, k, _, rfl, ?_⟩
    have r := q H (Same.refl H)
    rw [e] at r
    exact r
  | str x hx =>
    have hz : x.length ≤ sizeLine := by rw [sizeLine_eq]; omega
    have no : isNm x = false → Q (.bl false) H := fun e => by
      have r := q H (Same.refl H)
      rwa [show nmV (.str x) = false from e] at r
    refine ⟨_, rfl, .str x, .ty "str", _, _, true, rfl, .ty _, .base (.str x), kit_ty (by decide +kernel), _, rfl, ?_⟩
    refine ⟨_, rfl, x, rfl, hz, _, _, rfl, rfl, _, rfl, ?_⟩
    refine ite2 (fun c => ?_) (fun c => ?_)
    · have h1 : (1 : Int) ≤ (x.length : Int) := of_decide_eq_true c
      refine ⟨_, _, rfl, rfl, _, rfl, ?_⟩
      refine ite2 (fun c => ?_) (fun c => ?_)
      · have h4 : ¬ (x.length : Int) ≤ 4 := of_decide_eq_false (by simpa using c)
        exact no (by unfold isNm; rw [show decide (x.length ≤ 4) = false from decide_eq_false (by omega)]; simp)
      · have h4 : (x.length : Int) ≤ 4 := of_decide_eq_true (by simpa using c)
        refine ⟨_, rfl, rfl, x, rfl, rfl, trivial, _, rfl, ?_⟩
        refine ite2 (fun c => ?_) (fun c => ?_)
        · have ha : Txt.isascii x = false := by simpa using c
          exact no (by rw [isNm_is, ha]; simp)
        · have ha : Txt.isascii x = true := by simpa using c
          have yes : isNm x = (Txt.isalpha x && (Txt.islower x && !(BAR.contains x))) := by
            rw [isNm_is, ha, decide_eq_true (show 1 ≤ x.length by omega), decide_eq_true (show x.length ≤ 4 by omega)]
            rfl
          refine ⟨_, rfl, rfl, x, rfl, rfl, trivial, _, rfl, ?_⟩
          refine ite2 (fun c => ?_) (fun c => ?_)
          · refine ⟨_, rfl, rfl, x, rfl, rfl, trivial, _, rfl, ?_⟩
            refine ite2 (fun c2 => ?_) (fun c2 => ?_)
            · obtain ⟨r, hr1, hr2⟩ := T.t_NO.has x
              refine ⟨_, rfl, x, r, rfl, rfl, hr1, ?_⟩
              have z := q H (Same.refl H)
              rw [show nmV (.str x) = isNm x from rfl, yes, c, c2] at z
              rw [hr2]
              exact z
            · exact no (by rw [yes, Bool.eq_false_iff.mpr c2]; simp)
          · exact no (by rw [yes, Bool.eq_false_iff.mpr c]; simp)
    · have h1 : ¬ (1 : Int) ≤ (x.length : Int) := of_decide_eq_false (Bool.eq_false_iff.mpr c)
      refine ⟨_, rfl, ?_⟩
      exact no (by unfold isNm; rw [show decide (1 ≤ x.length) = false from decide_eq_false (by omega)]; simp)
end
end My
namespace My
open PySem L2
inductive KeyStrs : List DictEntry → List Str → Prop where
  | nil : KeyStrs [] []
  | cons {h : Int} {k : Str} {t : Tok} {v : Value} {es : List DictEntry} {ks : List Str} (r : KeyStrs es ks) : KeyStrs (⟨h, .str k t, v⟩ :: es) (k :: ks)
theorem KeyStrs.find {es : List DictEntry} {ks : List Str} (r : KeyStrs es ks) (z : Str) : (es.find? fun e => e.key.isStr z).isSome = ks.contains z ∧ (es.any fun e => e.refKey) = false := by
  induction r with
  | nil => exact ⟨rfl, rfl⟩
  | @cons h k t v es ks r ih =>
    refine ⟨?_, ?_⟩
    · rw [List.find?_cons, List.contains_cons]
      have e : (Value.str k t).isStr z = (z == k) := by
        show (k == z) = (z == k)
        exact BEq.comm
      show (match (Value.str k t).isStr z with | true => some _ | false => _).isSome = _
      rw [e]
      cases z == k with
      | true => rfl
      | false => exact ih.1
    · rw [List.any_cons, ih.2]
      rfl
theorem noD_mk {w : World} {K : PySem.W.Frag} {a : Addr} {es : List DictEntry} {n : Nat} (l : K.lookup a = some ⟨.type "dict", none, .dict es.toArray n, #[]⟩) (kl : PySem.W.KeysLit w.params es) (sm : (a == sysModules) = false) (ks : KeyStrs es BAR := by exact .cons (.cons (.cons (.cons (.cons (.cons (.cons (.cons (.cons (.cons .nil)))))))))) : NoD w K a := by
  refine ⟨⟨es.toArray, n, l, kl, sm⟩, fun z => ?_⟩
  obtain ⟨h1, h2⟩ := ks.find z
  unfold PySem.W.nsIn
  rw [l]
  show ∃ r, (match es.find? fun e => e.key.isStr z with | some e => some (some e.val) | none => if (es.any fun e => e.refKey) = true then none else some none) = some r ∧ _
  cases q : es.find? fun e => e.key.isStr z with
  | some e =>
    rw [q] at h1
    exact ⟨some e.val, rfl, h1⟩
  | none =>
    rw [q] at h1
    rw [h2]
    exact ⟨none, rfl, h1⟩
end My

/-! ## Sets of texts -/
namespace My
open PySem PySem.Spec PyProof.Rows L2
theorem is_txt0 {P : Program} {w : World} (k : Str) (u : Tok) : (PySem.strKind P w).is k (.str k u) = true := by
  show Value.isStrOf k (.str k u) = true
  unfold Value.isStrOf
  exact beq_self_eq_true _
/-- the text of an entry of a set -/
def txtOf (e : Int × Value) : Str := match e.2 with
  | .str k _ => k
  | _ => Str.empty
/-- at a: a set whose members are the texts l, each once; it can be walked -/
structure TSet (P : Program) (w : World) (h : Heap) (a : Addr) (l : List Str) : Prop where
  ob : ∃ (o : Obj) (es : Array (Int × Value)) (ep : Nat) (t : SetTable), h.get? a = some o ∧ o.ExactSet ∧ o.data = .set es ep t ∧ ElemsOf (PySem.strKind P w) es.toList ∧ (es.toList.map txtOf).Perm l ∧
    es.size < scanBound ∧ t.fits es.size = true ∧ Ris t.place.toList ∧ (w.params.followText "set-order" = true ∨ t.led = true)
  nd : l.Nodup
section
variable {P : Program} {w : World} {h h' : Heap} {a : Addr} {l : List Str}
theorem TSet.at (R : TSet P w h a l) (k : ∀ o, h.get? a = some o → h'.get? a = some o) : TSet P w h' a l := by
  obtain ⟨⟨o, es, ep, t, ho, r⟩, nd⟩ := R
  exact ⟨⟨o, es, ep, t, k o ho, r⟩, nd⟩
theorem TSet.there (R : TSet P w h a l) : ∃ o, h.get? a = some o := by
  obtain ⟨⟨o, _, _, _, ho, _⟩, _⟩ := R
  exact ⟨o, ho⟩
theorem is_txt {k : Str} {e : Int × Value} (el : (∃ k, (PySem.strKind P w).is k e.2 = true ∧ e.1 = (PySem.strKind P w).hash k) ∧ e.2.scannable = true) : (PySem.strKind P w).is k e.2 = true ↔ txtOf e = k := by
  obtain ⟨⟨k2, h1, _⟩, _⟩ := el
  obtain ⟨t, e2⟩ := Value.isStrOf_shape h1
  have e3 : txtOf e = k2 := by unfold txtOf; rw [e2]
  rw [e3]
  constructor
  · intro z
    exact (PySem.strKind P w).inj _ _ _ h1 z
  · intro z
    rw [← z]
    exact h1
theorem mem_txt {es : List (Int × Value)} (el : ElemsOf (PySem.strKind P w) es) (k : Str) : k ∈ es.map txtOf ↔ ∃ e ∈ es, (PySem.strKind P w).is k e.2 = true := by
  rw [List.mem_map]
  exact ⟨fun ⟨e, he, z⟩ => ⟨e, he, (is_txt (el e he)).mpr z⟩, fun ⟨e, he, z⟩ => ⟨e, he, (is_txt (el e he)).mp z⟩⟩
variable {A : Around} {E : Value → Shared → Prop} {s : Shared}
set_option maxHeartbeats 400000 in
/-- the table grows, or stays -/
theorem tset_tail {g : Bool → Sem Unit} (hg : ∀ (b : Bool) (s₁ : Shared) (Q' : Unit → Shared → Prop), Q' () s₁ → wpAny (model P w) A (g b) Q' E s₁) {o : Obj} {es es1 : Array (Int × Value)} {ep : Nat} {t t2 : SetTable} {l1 : List Str} (ho : s.heap.get? a = some o) (ex : o.ExactSet) (hd : o.data = .set es ep t)
    (el : ElemsOf (PySem.strKind P w) es1.toList) (pm : (es1.toList.map txtOf).Perm l1) (nd : l1.Nodup) (few : es1.size < scanBound) (fit : t2.fits es1.size = true) (ri : Ris t2.place.toList) (le : w.params.followText "set-order" = true ∨ t2.led = true)
    {old : Bool} {R : Option Bool → Shared → Prop} (q : ∀ h', Heap.SameBut a s.heap h' → TSet P w h' a l1 → R (some true) { s with heap := h' }) :
    wpAny (model P w) A (do
        storeSet a es1 t2
        if (!old && t2.tooFull) = true then do
            g (relayAll t2 es1 (SetTable.grown es1.size)).2.2
            storeSet a (relayAll t2 es1 (SetTable.grown es1.size)).1 (relayAll t2 es1 (SetTable.grown es1.size)).2.1
            pure (some true)
          else pure (some true)) R E s := by
  have first := PpSet.storeB_at (es' := es1) (t' := t2) ho hd
  have same := Heap.SameBut.update s.heap a (Obj.putSet es1 t2)
  refine wpAny_bind (wpAny_storeSet_of ho hd ?_ (fits_of_scanBound few))
  split
  · have p3 := relayAll_perm t2 es1 (SetTable.grown es1.size)
    have f3 := relayAll_fits t2 es1 (SetTable.grown es1.size)
    have r3 := relayAll_ris t2 es1 (SetTable.grown es1.size)
    have l3 := relayAll_led t2 es1 (SetTable.grown es1.size)
    generalize relayAll t2 es1 (SetTable.grown es1.size) = Z at p3 f3 r3 l3 ⊢
    obtain ⟨es3, t3, gave⟩ := Z
    dsimp only at p3 f3 r3 l3 ⊢
    have n3 : es3.size = es1.size := by rw [← Array.length_toList, p3.length_eq, Array.length_toList]
    refine wpAny_bind (hg _ _ _ (wpAny_bind (wpAny_storeSet_of first rfl ?_ (fits_of_scanBound (by rw [n3]; exact few)))))
    refine wpAny_pure (q _ (same.trans (Heap.SameBut.update _ a _)) ⟨⟨_, es3, _, t3, PpSet.storeB_at first rfl, ex, rfl, fun e he => el e (p3.mem_iff.mp he), (p3.map txtOf).trans pm, by rw [n3]; exact few, f3, r3, le.imp id fun z => by rw [l3]; exact z⟩, nd⟩)
  · exact wpAny_pure (q _ same ⟨⟨_, es1, _, t2, first, ex, rfl, el, pm, few, fit, ri, le⟩, nd⟩)
set_option maxHeartbeats 400000 in
theorem tset_put {k : Str} {tk : Tok} {Q : Bool → Shared → Prop} (R : TSet P w s.heap a l) (room : l.length + 1 < scanBound)
    (q : ∀ h', Heap.SameBut a s.heap h' → TSet P w h' a (if k ∈ l then l else k :: l) → Q (!decide (k ∈ l)) { s with heap := h' }) :
    wpAny (model P w) A (setAddHashed a (.str k tk) ((PySem.strKind P w).hash k)) Q E s := by
  obtain ⟨⟨o, es, ep, t, ho, ex, hd, el, pm, few, fit, ri, le⟩, nd⟩ := R
  have key : (PySem.strKind P w).is k (.str k tk) = true := is_txt0 k tk
  have sc : (Value.str k tk).scannable = true := rfl
  have cnt : es.size = l.length := by
    have e := pm.length_eq
    rwa [List.length_map, Array.length_toList] at e
  unfold setAddHashed setAddHashedIn
  refine wpAny_holding (wpAny_bind (wpAny_setState_of ho hd fit ?_))
  dsimp only
  rw [byScan_of sc few el]
  simp only [↓reduceIte]
  unfold setAddByScan
  refine wpAny_bind (wpAny_bind (wpAny_rule (wpAny_bind (wpAny_setScan_of key ho hd fit el ?_))))
  cases fi : List.findIdx? (fun e => (PySem.strKind P w).is k e.2) es.toList with
  | some j =>
    dsimp only
    obtain ⟨hj, pj, _⟩ := List.findIdx?_eq_some_iff_getElem.mp fi
    have inl : k ∈ l := pm.mem_iff.mp ((mem_txt el k).mpr ⟨_, List.getElem_mem hj, pj⟩)
    refine wpAny_pure (wpAny_pure ?_)
    have z := q s.heap (Heap.SameBut.refl a s.heap) (by
      rw [if_pos inl]
      exact ⟨⟨o, es, ep, t, ho, ex, hd, el, pm, few, fit, ri, le⟩, nd⟩)
    rw [decide_eq_true inl] at z
    exact z
  | none =>
    dsimp only
    have out : k ∉ l := fun z => by
      obtain ⟨e, he, c⟩ := (mem_txt el k).mp (pm.mem_iff.mpr z)
      have c2 := List.findIdx?_eq_none_iff.mp fi e he
      rw [c] at c2
      cases c2
    have gave : ∀ (b : Bool) {s₁ : Shared} {Q' : Unit → Shared → Prop}, Q' () s₁ → wpAny (model P w) A (match b with | true => rule "set.scan.the-table-gave-way" | false => pure ()) Q' E s₁ := fun b s₁ Q' z => by
      cases b
      · exact wpAny_pure z
      · exact wpAny_rule z
    have p1 := layNew_perm t es ((PySem.strKind P w).hash k) (.str k tk)
    have f1 := layNew_fits t es ((PySem.strKind P w).hash k) (.str k tk)
    have r1 := layNew_ris t es ((PySem.strKind P w).hash k) (.str k tk) ri
    have l1 := layNew_led t es ((PySem.strKind P w).hash k) (.str k tk)
    generalize layNew t es ((PySem.strKind P w).hash k) (.str k tk) = Z at p1 f1 r1 l1 ⊢
    obtain ⟨es1, t1, old, way⟩ := Z
    dsimp only at p1 f1 r1 l1 ⊢
    rw [Array.toList_push] at p1
    have pc := p1.trans (List.perm_append_singleton _ _)
    have el1 : ElemsOf (PySem.strKind P w) es1.toList := fun e he => by
      rcases List.mem_cons.mp (pc.mem_iff.mp he) with z | z
      · rw [z]
        exact ⟨⟨k, key, rfl⟩, rfl⟩
      · exact el e z
    have pm1 : (es1.toList.map txtOf).Perm (k :: l) := (pc.map txtOf).trans (pm.cons k)
    have n1 : es1.size = l.length + 1 := by
      have e := pm1.length_eq
      rwa [List.length_map, Array.length_toList, List.length_cons] at e
    have few1 : es1.size < scanBound := by rw [n1]; exact room
    have le1 : w.params.followText "set-order" = true ∨ t1.led = true := le.imp id fun z => by rw [l1]; exact z
    have nd1 : (k :: l).Nodup := List.nodup_cons.mpr ⟨out, nd⟩
    have fin : ∀ h', Heap.SameBut a s.heap h' → TSet P w h' a (k :: l) → Q true { s with heap := h' } := fun h' sb r => by
      have z := q h' sb (by rw [if_neg out]; exact r)
      rw [decide_eq_false out] at z
      exact z
    refine wpAny_bind (gave _ ?_)
    split
    · refine wpAny_bind ?_
      rw [hashByValue_scannable 8 sc]
      refine wpAny_pure ?_
      refine tset_tail (fun b s₁ Q' z => by cases b <;> first | exact wpAny_pure z | exact wpAny_rule z) ho ex hd el1 pm1 nd1 few1 ?_ ?_ ?_ ?_
      · first | (split <;> first | exact f1 | exact SetTable.fits_plain_off f1) | exact f1
      · first | (split <;> exact r1) | exact r1
      · first | (split <;> exact le1) | exact le1
      · intro h' sb r
        dsimp only
        exact wpAny_pure (fin h' sb r)
    · refine wpAny_bind (wpAny_pure ?_)
      simp only [↓reduceIte]
      refine tset_tail (fun b s₁ Q' z => by cases b <;> first | exact wpAny_pure z | exact wpAny_rule z) ho ex hd el1 pm1 nd1 few1 f1 r1 le1 ?_
      intro h' sb r
      dsimp only
      exact wpAny_pure (fin h' sb r)
set_option maxHeartbeats 400000 in
/-- found.add(text) -/
theorem tset_add {k : Str} {tk : Tok} {Q : Value → Shared → Prop} (R : TSet P w s.heap a l) (room : l.length + 1 < scanBound)
    (q : ∀ h', Heap.SameBut a s.heap h' → TSet P w h' a (if k ∈ l then l else k :: l) → Q .none { s with heap := h', toks := s.toks + 1 }) : wpAny (model P w) A (call (.builtin "set.add") [.ref a, .str k tk]) Q E s := by
  have ty : s.TypeIs (.ref a) "set" := by
    obtain ⟨⟨o, es, ep, t, ho, ex, _⟩, _⟩ := R
    exact ⟨o, ho, ex.1⟩
  refine wpAny_call_entry F.slot_set_add ty F.entry_set_add ?_ (F.args_set_add_2 _ _)
  unfold Builtin.«set.add» Builtin.Frozenset.oneOther
  simp only [List.isEmpty_nil, bind_assoc]
  unfold Builtin.Frozenset.addrOf setAdd
  refine wpAny_bind (wpAny_pure ?_)
  try dsimp only
  refine wpAny_bind (wpAny_pure ?_)
  try dsimp only
  refine wpAny_bind (wpAny_holding (wpAny_bind ((PySem.strKind P w).pyHash (is_txt0 k tk) ?_)))
  refine tset_put (s := { s with toks := s.toks + 1 }) R room fun h' sb r => ?_
  exact wpAny_pure ⟨_, rfl, q h' sb r⟩
/-- an empty one -/
theorem tset_new {h : Heap} : TSet P w (h.push { cls := .type "set", dict := none, data := .set #[] 0 (.fresh 0 0 (!w.params.followText "set-order")) }) h.objs.size [] := by
  refine ⟨⟨_, #[], 0, _, Heap.get?_push_size _ rfl, ⟨rfl, rfl, rfl⟩, rfl, (fun e he => by simp at he), .refl _, by decide, by rfl, List.Pairwise.nil, ?_⟩, List.nodup_nil⟩
  show _ ∨ (!w.params.followText "set-order") = true
  cases w.params.followText "set-order"
  · exact .inr rfl
  · exact .inl rfl
def tx : Value → Str
  | .str k _ => k
  | _ => Str.empty
theorem strs_are : ∀ vs : List Value, (∀ v ∈ vs, ∃ k t, v = .str k t) → StrsAre vs (vs.map tx)
  | [], _ => .nil
  | v :: vs, h => by
    obtain ⟨k, t, e⟩ := h v List.mem_cons_self
    have r := strs_are vs fun u hu => h u (List.mem_cons_of_mem _ hu)
    subst e
    exact .cons k t r
set_option maxHeartbeats 400000 in
theorem tset_sorted {Q : Value → Shared → Prop} (R : TSet P w s.heap a l) (hh : A.handled = none) (few : l.length < 64)
    (q : ∀ (s' : Shared) (p : Addr) (out : Array Value) (c : Nat) (ys : List Str), (∀ b o, s.heap.get? b = some o → s'.heap.get? b = some o) → s'.gens = s.gens → s'.os = s.os → s.heap.objs.size ≤ p → s'.heap.get? p = some (seqObj "list" out c) → StrsAre out.toList ys → ys.Perm l → sortedS ys = true → Q (.ref p) s') :
    wpAny (model P w) A (call (.builtin "sorted") [.ref a]) Q E s := by
  obtain ⟨⟨o, es, ep, t, ho, ex, hd, el, pm, fw, fit, ri, le⟩, nd⟩ := R
  refine Calls.call_function_entry kind_sorted plain_sorted entry_sorted (args_sorted1 _) ?_
  unfold Builtin.«sorted»
  refine wpAny_bind (m := checkCount "sorted" 1 1 _) (wpAny_pure (wpAny_bind (collect_set (A := A.in1) hh ⟨o, ho, ex.1, hd⟩ fit fw ri le fun s1 vs k1 sz g1 o1 p1 => ?_)))
  have e1 : es.toList.map txtOf = (es.toList.map (·.2)).map tx := by rw [List.map_map]; rfl
  have p2 : (vs.map tx).Perm l := (p1.map tx).trans (e1 ▸ pm)
  have all : StrsAre vs (vs.map tx) := strs_are vs fun v hv => by
    obtain ⟨e, he, z⟩ := List.mem_map.mp (p1.mem_iff.mp hv)
    obtain ⟨⟨k, i1, _⟩, _⟩ := el e he
    obtain ⟨tk, i2⟩ := Value.isStrOf_shape i1
    exact ⟨k, tk, by rw [← z]; exact i2⟩
  have n1 : vs.length = l.length := by
    have z := p2.length_eq
    rwa [List.length_map] at z
  refine wpAny_bind (wpAny_newList ?_ (by rw [n1, sizeLine_eq]; omega))
  have hoL : (s1.heap.push (seqObj "list" vs.toArray 0)).get? s1.heap.objs.size = some (seqObj "list" vs.toArray 0) := Heap.get?_push_size _ rfl
  refine wpAny_bind (wpAny_holding (wpAny_call_entry PyProof.Rows.slot_list_sort ⟨_, hoL, rfl⟩ PyProof.Rows.entry_list_sort
    (list_sort_treeK strKind_oneLt hoL all.keysOf (fun v₁ v₂ rest e => keyKind_strs (by rw [← e]; exact all)) (by rw [n1]; exact few) fun st' hp hs => ?_) (PyProof.Rows.args_list_sort _)))
  obtain ⟨ys, y1, y2, y3⟩ := sorted_out_str all hp hs
  obtain ⟨c, hc⟩ := PyProof.Rows.sortedHeap_at (vs := vs) (out := (arrOf st').map (·.2)) hoL
  refine ⟨_, rfl, wpAny_pure ⟨_, rfl, q _ s1.heap.objs.size _ c ys (fun b u e => ?_) g1 o1 sz hc y1 (y2.trans p2) y3⟩⟩
  have z := k1 b u e
  have lt := Heap.lt_size z
  show (PyProof.Rows.sortedHeap (s1.heap.push (seqObj "list" vs.toArray 0)) s1.heap.objs.size vs _).get? b = some u
  rw [PyProof.Rows.sortedHeap_old (Nat.ne_of_lt lt) (by rw [size_push']; exact Nat.lt_succ_of_lt lt)]
  exact Heap.get?_push_of_some _ z
/-- a set of texts, tracked -/
def TSetO (P : Program) (w : World) (a : Addr) (l : List Str) : HO := .ext fun h => TSet P w h a l
theorem tsetO_ok {H : Hp} {h : Heap} (R : TSet P w h a l) : ObjOk P w H h a (TSetO P w a l) := ⟨R, R.there, fun _ _ z k => TSet.at z k⟩
end
section
variable {X : Cx}
theorem tset_get {pins : List (Addr × Obj)} {σ : L2.St} {H : Hp} {s : Shared} {a : Addr} {l : List Str} (I : Inv X pins σ H s) (ha : H a = some (TSetO X.prog X.w a l)) : TSet X.prog X.w s.heap a l := (I.hok a _ ha).1
def rSortedTS (P : Program) (w : World) : List V → Hp → VK → Prop := fun xs H Q => ∃ (a : Addr) (l : List Str), xs = [.ref a] ∧ H a = some (TSetO P w a l) ∧ l.length < 64 ∧
  ∀ (ys : List Str) (p : Addr), ys.Perm l → l.Nodup → sortedS ys = true → H p = none → Q (.ref p) (upd H p (.lst (ys.map V.str)))
set_option maxHeartbeats 400000 in
/-- sorted(a set of texts) -/
theorem cr_sortedTS (hc : X.calm = true) : CallR X (.builtin "sorted") (rSortedTS X.prog X.w) := by
  intro pins s σ H xs us Q I r h
  obtain ⟨a, l, rfl, ha, few, q⟩ := h
  have R := tset_get I ha
  rw [Vals.ref1 r]
  refine tset_sorted R (I.ok.hd hc) few fun s' p out c ys keep gens os hp hp2 st pm so => ?_
  have fr : H p = none := I.hok.fresh hp
  have ln : (ys.map V.str).length ≤ sizeLine := by rw [List.length_map, pm.length_eq, sizeLine_eq]; omega
  have J : Inv X pins σ (upd H p (.lst (ys.map V.str))) { s with heap := s'.heap, gens := s'.gens, drawn := s'.drawn, toks := s'.toks } :=
    I.call (ch := []) (Un.laid keep hp fr) (I.hok.laid keep hp ⟨ln, out.toList, c, vals_of_strs st, hp2⟩) (by rw [gens]; exact I.bare) (fun _ z => nomatch z)
  have e : s' = { s with heap := s'.heap, gens := s'.gens, drawn := s'.drawn, toks := s'.toks } := by
    cases s'
    cases s
    cases os
    rfl
  rw [e]
  exact ⟨.ref p, _, J, rfl, q ys p pm R.nd so fr⟩
end
end My

/-! ## set(xs) of texts, however many; len of it -/
namespace My
open PySem PySem.Spec PyProof.Rows L2
section
variable {P : Program} {w : World} {A : Around} {s : Shared}
/-- the loop of set.update over texts: l the members so far -/
theorem texts_loop {R : Result → Shared → Prop} {I S : Addr} {fp wr : List Addr} {G : Array GenState → Array GenState → Prop} {n : Nat} {Pv : Nat → Value → Prop} {St : Nat → Shared → Prop} {xs : List Str} (W : WalksS P w A.in1 I fp wr G n Pv St) (out : S ∉ fp) (ln : xs.length = n) (few : n ≤ 1000)
    (are : ∀ i v, Pv i v → ∃ k t, xs[i]? = some k ∧ v = .str k t) : ∀ (m i : Nat) (s : Shared) (l : List Str), m + i = n → St i s → TSet P w s.heap S l → l.length ≤ i → (∀ y, y ∈ l ↔ y ∈ xs.take i) →
      (∀ (s' : Shared) (l' : List Str), Moved (S :: wr) G s s' → TSet P w s'.heap S l' → l'.length ≤ n → (∀ y, y ∈ l' ↔ y ∈ xs) → R (.ok (.ret .none)) s') →
      codeAny (model P w) A (.builtin "set.update.loop" ⟨[.ref S, .ref I], []⟩) R s := by
  have outw : S ∉ wr := fun z => out (W.sub _ z)
  have into : ∀ b ∈ wr, b ∈ S :: wr := fun b hb => List.mem_cons_of_mem _ hb
  intro m
  induction m with
  | zero =>
    intro i s l e st R0 few_ mem q
    obtain rfl : i = n := by omega
    refine codeAny_builtin PyProof.Rows.F.entry_set_update_loop ?_
    rw [Around.under_plainId PyProof.Rows.F.plain_set_update_loop _]
    refine wpAny_bind (m := pyNext (.ref I)) (W.done s _ _ st fun s1 mv => ?_)
    refine wpAny_pure (q s1 l (mv.mono into) (R0.at fun o e => mv.heap S o outw e) few_ fun y => ?_)
    rw [mem, List.take_of_length_le (Nat.le_of_eq ln)]
  | succ m ih =>
    intro i s l e st R0 few_ mem q
    have lt : i < n := by omega
    refine codeAny_builtin PyProof.Rows.F.entry_set_update_loop ?_
    rw [Around.under_plainId PyProof.Rows.F.plain_set_update_loop _]
    refine wpAny_bind (m := pyNext (.ref I)) (W.item i s _ _ lt st fun v s1 hv st1 mv => ?_)
    obtain ⟨k, t, hk, rfl⟩ := are i v hv
    have R1 : TSet P w s1.heap S l := R0.at fun o e => mv.heap S o outw e
    refine wpAny_bind (m := holding [Value.str k t] (setAdd S (.str k t))) (wpAny_holding ?_)
    unfold setAdd
    refine wpAny_holding (wpAny_bind ((PySem.strKind P w).pyHash (is_txt0 k t) ?_))
    refine tset_put (s := { s1 with toks := s1.toks + 1 }) R1 (by show l.length + 1 < 4096; omega) fun h2 sb R2 => ?_
    have apart : ∀ b, b ∈ fp → b ≠ S := fun b hb z => out (z ▸ hb)
    refine wpAny_pure ⟨plainId_quiet PyProof.Rows.F.plain_set_update_loop _, ih (i + 1) _ _ (by omega) (W.frame _ s1 _ _ st1 (Nat.le_succ _) fun b hb o e => (sb.2 b (apart b hb)).trans e) R2 ?_ ?_ fun s3 l3 mv3 => q s3 l3 (Moved.trans W.gtrans ((mv.mono into).then_heap (Nat.le_succ _) fun b o nb e => (sb.2 b fun z => nb (z ▸ List.mem_cons_self)).trans e) mv3)⟩
    · split
      · omega
      · simp only [List.length_cons]
        omega
    · intro y
      have tk : y ∈ xs.take (i + 1) ↔ y ∈ xs.take i ∨ y = k := by
        rw [List.take_add_one, hk, List.mem_append]
        simp
      rw [tk, ← mem]
      split
      · rename_i inl
        exact ⟨.inl, fun z => z.elim id fun e => e ▸ inl⟩
      · rw [List.mem_cons]
        exact Or.comm
/-- the empty set as it is made; an iterator over what stands at l -/
abbrev eSet (w : World) : Obj := { cls := .type "set", dict := none, data := .set #[] 0 (.fresh 0 0 (!w.params.followText "set-order")) }
abbrev eIter (T : String) (l : Addr) : Obj := { cls := .type T, data := .fields #[.ref l, .int 0 0] }
/-- what is asked of a list or a tuple at l -/
structure Seqs (P : Program) (w : World) (h : Heap) (l : Addr) (T it : String) (items : Array Value) : Prop where
  ob : ∃ (d : Option Addr) (n : Nat) (sl : Array (Option Value)), h.get? l = some { cls := .type T, dict := d, data := .seq items n, slots := sl }
  n1 : isSubtype (.type T) (.type "set") = pure false
  n2 : isSubtype (.type T) (.type "frozenset") = pure false
  n3 : (Value.type T == Value.type "dict") = false
  start : ∀ (A' : Around) (s1 : Shared) (Q : Value → Shared → Prop) (E : Value → Shared → Prop), (∃ (d : Option Addr) (n : Nat) (sl : Array (Option Value)), s1.heap.get? l = some { cls := .type T, dict := d, data := .seq items n, slots := sl }) →
    Q (.ref s1.heap.objs.size) { s1 with heap := s1.heap.push (eIter it l) } → wpAny (model P w) A' (pyIter (.ref l)) Q E s1
  walk : ∀ (A' : Around) (I : Addr), A'.handled = none → l ≠ I → ∃ St : Nat → Heap → Prop, Walks P w A' I [I, l] [I] items.size (fun i v => items[i]? = some v) St ∧
    ∀ h2 : Heap, h2.get? I = some (eIter it l) → (∃ (d : Option Addr) (n : Nat) (sl : Array (Option Value)), h2.get? l = some { cls := .type T, dict := d, data := .seq items n, slots := sl }) → St 0 h2
set_option maxHeartbeats 3200000 in
theorem set_of {l : Addr} {T it : String} {items : Array Value} {xs : List Str} {Q : Value → Shared → Prop} {E : Value → Shared → Prop} (hh : A.handled = none) (sq : Seqs P w s.heap l T it items) (hi : StrsAre items.toList xs) (few : xs.length ≤ 1000)
    (q : ∀ (h' : Heap) (tk : Nat) (m : List Str), TSet P w h' s.heap.objs.size m → m.length ≤ xs.length → (∀ y, y ∈ m ↔ y ∈ xs) → (∀ b o, s.heap.get? b = some o → h'.get? b = some o) → Q (.ref s.heap.objs.size) { s with heap := h', toks := tk }) :
    wpAny (model P w) A (call (.type "set") [.ref l]) Q E s := by
  obtain ⟨⟨od, nl, osl, hol⟩, hs1, hs2, hs3, start, walk⟩ := sq
  have size : items.size = xs.length := by rw [← Array.length_toList]; exact StrsAre.len_eq hi
  obtain ⟨c, tl, hmro⟩ := PySem.F.called_set.mro
  have made := PySem.F.called_set.made
  have subs := PySem.F.called_set.sub
  refine wpAny_call (codeAny_of_tree ?_)
  show wpAny _ _ (callAny (.type "set") ⟨[.ref l], []⟩) _ _ _
  refine wpAny_pure ⟨Code.quiet_builtin _ (by decide +kernel), codeAny_builtin PySem.F.entry_type_call ?_⟩
  rw [Around.under_plain (weight_type_call_type "set" [.ref l] []) rfl]
  have a1 := PySem.F.called_set.notType
  have a2 := PySem.F.called_set.canCreate
  have a3 := PySem.F.typeCall_set_1 (.ref l)
  repeat (any_goals (first | assumption | wp_step))
  let Done : Value → Shared → Prop := fun r s2 => r = .none ∧ ∃ (h' : Heap) (tk : Nat) (m : List Str), s2 = { s with heap := h', toks := tk } ∧ TSet P w h' s.heap.objs.size m ∧ m.length ≤ xs.length ∧ (∀ y, y ∈ m ↔ y ∈ xs) ∧ ∀ b o, s.heap.get? b = some o → h'.get? b = some o
  refine codeAny_mono (code_set_led1 (.ref l) (E := E) (Q₁ := fun obj s1 => obj = .ref s.heap.objs.size ∧ s1 = { s with heap := s.heap.push (eSet w) }) ⟨rfl, rfl⟩) fun r s1 hr => ?_
  match r, hr with
  | .error e, hr => exact hr
  | .ok .next, hr => exact False.elim hr
  | .ok .brk, hr => exact False.elim hr
  | .ok .cont, hr => exact False.elim hr
  | .ok (.ret obj), hr =>
    obtain ⟨rfl, rfl⟩ := hr
    have atS : (s.heap.push (eSet w)).get? s.heap.objs.size = some (eSet w) := Heap.get?_push_size _ rfl
    have tyS : Shared.TypeIs { s with heap := s.heap.push (eSet w) } (.ref s.heap.objs.size) "set" := ⟨_, atS, rfl⟩
    have b1 := PySem.F.called_set.init.lookup
    have b2 := PySem.F.called_set.init.bind (.ref s.heap.objs.size)
    repeat (any_goals (first | assumption | wp_step))
    refine codeAny_mono (codeAny_call_builtin (R := wants Done E) PySem.F.called_set.init.plain PySem.F.entry_set_init (check_set_init_1 tyS ?_)) fun r2 s2 hr2 => ?_
    · have hol' : (s.heap.push (eSet w)).get? l = some { cls := .type T, dict := od, data := .seq items nl, slots := osl } := Heap.get?_push_of_some _ hol
      unfold Builtin.«set.__init__» noKeywords Builtin.Frozenset.updateFrom
      generalize iters : pyIter = PI
      wp_walk
      subst iters
      refine start _ _ _ _ ⟨_, _, _, hol'⟩ ?_
      refine wpAny_bind (wpAny_runValue ?_)
      have lS : l < s.heap.objs.size := Heap.lt_size hol
      have sz1 : (s.heap.push (eSet w)).objs.size = s.heap.objs.size + 1 := Heap.size_push ..
      have lI : l ≠ (s.heap.push (eSet w)).objs.size := by rw [sz1]; exact Nat.ne_of_lt (Nat.lt_succ_of_lt lS)
      have free : s.heap.objs.size ∉ [(s.heap.push (eSet w)).objs.size, l] := by
        rw [sz1]
        intro z
        rcases List.mem_cons.mp z with z | z
        · exact Nat.ne_of_lt (Nat.lt_succ_self _) z
        · exact Nat.ne_of_gt lS (List.mem_singleton.mp z)
      obtain ⟨St, W, st0⟩ := walk A.in1.in1.in1 (s.heap.push (eSet w)).objs.size (by simp [hh]) lI
      have are : ∀ (i : Nat) (v : Value), items[i]? = some v → ∃ k t, xs[i]? = some k ∧ v = .str k t := fun i v hv => by
        obtain ⟨t, e⟩ := SS.strs_at hi i v (by rw [Array.getElem?_toList]; exact hv)
        have il : i < xs.length := by rw [← size]; exact (Array.getElem?_eq_some_iff.mp hv).1
        refine ⟨xs[i], t, List.getElem?_eq_getElem il, ?_⟩
        rw [e, List.getD_eq_getElem?_getD, List.getElem?_eq_getElem il]
        rfl
      have hol2 : ((s.heap.push (eSet w)).push (eIter it l)).get? l = some { cls := .type T, dict := od, data := .seq items nl, slots := osl } := Heap.get?_push_of_some _ hol'
      refine texts_loop W.toS free size.symm (by omega) are items.size 0 _ [] (by omega) (st0 _ (Heap.get?_push_size _ rfl) ⟨_, _, _, hol2⟩) ((tset_new (h := s.heap)).at fun o e => Heap.get?_push_of_some _ e) (Nat.le_refl _) (fun y => by simp) ?_
      rintro ⟨h', g', d', tk', os'⟩ m mv R few' mem
      obtain rfl : g' = s.gens := mv.gens
      obtain rfl : d' = s.drawn := mv.drawn
      obtain rfl : os' = s.os := mv.os
      refine wpAny_pure (wpAny_pure ⟨rfl, h', tk', m, rfl, R, by omega, mem, fun b o e => ?_⟩)
      have bs := Heap.lt_size e
      refine mv.heap b o (fun z => ?_) (Heap.get?_push_of_some _ (Heap.get?_push_of_some _ e))
      rcases List.mem_cons.mp z with z | z
      · exact Nat.ne_of_lt bs z
      · rw [List.mem_singleton.mp z, sz1] at bs
        exact absurd bs (Nat.not_lt.mpr (Nat.le_succ _))
    · match r2, hr2 with
      | .error e, hr2 => exact hr2
      | .ok .next, hr2 => exact False.elim hr2
      | .ok .brk, hr2 => exact False.elim hr2
      | .ok .cont, hr2 => exact False.elim hr2
      | .ok (.ret r3), hr2 =>
        obtain ⟨rfl, h', tk, m, rfl, R, few', mem, keep⟩ := hr2
        repeat (any_goals (first | assumption | wp_step))
        exact q h' tk m R few' mem keep
end
end My

/-! ## A set of words made by a comprehension: what goes in, one turn, all turns, the whole -/
namespace My
open PySem PySem.Spec PyProof.Rows L2
/-- one word more -/
def more (l : List Str) (k : Str) : List Str := if k ∈ l then l else k :: l
/-- the parts of a comprehension's clause, by what they are asked -/
structure Clause where
  g : TG
  tt : TT
  te : TE
  own : List Nat
/-- a turn over x: the target takes it, the test tells b, and if so its word goes into the set at D -/
def Clause.turn (c : Clause) (P : Program) (w : World) (D : Addr) (σ : L2.St) (x : V) (H : Hp) (Z : Hp → Prop) : Prop :=
  c.g x (wipe σ c.own) H fun τ H2 => wipe τ c.own = wipe σ c.own ∧ c.tt τ H2 fun b H3 =>
    (b = false → Z H3) ∧ (b = true → c.te τ H3 fun y H4 => ∃ (k : Str) (l : List Str), y = .str k ∧ H4 D = some (TSetO P w D l) ∧ l.length ≤ 900 ∧ Z (upd H4 D (TSetO P w D (more l k))))
/-- n turns: Z i H holds ahead of turn i -/
def Clause.all (c : Clause) (P : Program) (w : World) (wi : TI) : TE := fun σ H Q => wi σ H fun J H1 => ∀ D, H1 D = none → ∃ (n : Nat) (Z : Nat → Hp → Prop),
  Z 0 (upd H1 D (TSetO P w D [])) ∧ (∀ H', Z n H' → J.stop n H' ∧ Q (.ref D) H') ∧ ∀ i H', i < n → Z i H' → J.go i H' ∧ ∀ x H2, J.yld i H' x H2 → c.turn P w D σ x H2 (Z (i + 1))
section
variable {X : Cx} {pins : List (Addr × Obj)} {σ : L2.St} {H : Hp} {s : Shared}
theorem word_in {E : Value → Shared → Prop} {D : Addr} {l : List Str} {k : Str} {t : Tok} {Q : Value → Shared → Prop} (I : Inv X pins σ H s) (at_ : H D = some (TSetO X.prog X.w D l)) (few : l.length ≤ 900)
    (q : ∀ s', Inv X pins σ (upd H D (TSetO X.prog X.w D (more l k))) s' → Q .none s') : wpAny (model X.prog X.w) X.A (call (.builtin "set.add") [.ref D, .str k t]) Q E s :=
  tset_add (tset_get I at_) (by show l.length + 1 < 4096; omega) fun h' sb new =>
    q _ (I.write (x := D) (e := D) (o := TSetO X.prog X.w D (more l k)) (t' := s.toks + 1) (by rw [at_]; trivial) (.inl rfl) (fun b u nb e => (sb.2 b nb).trans e) new.there (tsetO_ok new))
/-- within the block the iterator's objects stand free -/
theorem blk_free {s3 : Shared} {H3 H' : Hp} {sc : Scope} {ce : Env} {fp : List Addr} {τ : L2.St} {s' : Shared} (I : Inv (X.blk s3 H3 sc ce fp) [] τ H' s') (n : ∀ b ∈ fp, H' b = none) (b : Addr) (hb : b ∈ fp) : FpOk (X.blk s3 H3 sc ce fp) [] H' b := by
  have e := I.ok.exf b hb
  refine ⟨n b hb, e.1, I.ok.exfs b hb, Or.inl hb, fun y c => e.2 y c, fun p hp => ?_⟩
  have hp' : p ∈ ([] : List (Addr × Obj)) := hp
  cases hp'
/-- a turn's end: the block's own names are forgotten -/
theorem blk_turned {it : Addr} {tg : Expr} {J : It} {tn : Nat → Heap → Prop} {s3 s7 s' : Shared} {H3 H' : Hp} {sc : Scope} {ce : Env} {fp : List Addr} {τ : L2.St} {vs : List Nat} {i : Nat} (T : Turn X.prog X.w X.K tg J fp it tn) (st : tn i s7.heap)
    (I : Inv (X.blk s3 H3 sc ce fp) ([] ++ pinsAt fp s7.heap) τ H' s') (same : wipe τ vs = wipe σ vs) : Inv (X.blk s3 H3 sc ce fp) [] (wipe σ vs) H' s' ∧ tn i s'.heap ∧ ∀ b ∈ fp, H' b = none := by
  have pin : ∀ {b o}, b ∈ fp → s7.heap.get? b = some o → s'.heap.get? b = some o ∧ H' b = none := fun {b o} hb e => by
    have z := I.pin (b, o) (List.mem_append_right _ (List.mem_append_right _ (mem_pinsAt hb e)))
    exact ⟨z.1, z.2.1⟩
  refine ⟨?_, T.keep i _ _ st fun b hb o e => (pin hb e).1, fun b hb => ?_⟩
  · rw [← same]
    exact (Inv.unpinned (pins := []) I).weak (wipe_length τ vs) fun j v e => (wipe_some e).1
  · obtain ⟨o, e, _⟩ := T.obj i _ st b hb
    exact (pin hb e).2
/-- all turns -/
theorem turns_set {c : Clause} {it D : Addr} {elt tg iter : Expr} {ifs : List Expr} {sc : Scope} {pos : Pos} {J : It} {tn : Nat → Heap → Prop} {s3 s4 : Shared} {H3 : Hp} {ce : Env} {fp : List Addr} {R : Result → Shared → Prop} {n : Nat} {Z : Nat → Hp → Prop}
    (calm : X.calm = true) (T : Turn X.prog X.w X.K tg J fp it tn) (pg : PG (X.blk s3 H3 sc ce fp) tg c.g) (pt : PTs (X.blk s3 H3 sc ce fp) ifs c.tt) (pe : PE (X.blk s3 H3 sc ce fp) elt c.te)
    (I : Inv (X.blk s3 H3 sc ce fp) [] (wipe σ c.own) H3 s4) (st : tn 0 s4.heap) (free : ∀ b ∈ fp, H3 b = none) (z0 : Z 0 H3) (stop : ∀ H', Z n H' → J.stop n H' ∧ ∀ s', Inv (X.blk s3 H3 sc ce fp) [] (wipe σ c.own) H' s' → R (.ok .next) s')
    (go : ∀ i H', i < n → Z i H' → J.go i H' ∧ ∀ x H2, J.yld i H' x H2 → c.turn X.prog X.w D σ x H2 (Z (i + 1))) :
    codeAny (model X.prog X.w) X.A (.compLoop (.SetComp elt [⟨tg, iter, ifs, 0⟩] sc pos) 0 (.ref it) (.ref D) ce) R s4 := by
  refine PpSet.compLoopS_any (fun m s' => ∃ (i : Nat) (H' : Hp), m + i = n ∧ Z i H' ∧ Inv (X.blk s3 H3 sc ce fp) [] (wipe σ c.own) H' s' ∧ tn i s'.heap ∧ ∀ b ∈ fp, H' b = none) ?_ n ⟨0, H3, rfl, z0, I, st, free⟩
  rintro m s5 ⟨i, H5, mi, z5, I5, st5, n5⟩
  by_cases last : i < n
  · obtain ⟨jgo, step⟩ := go i H5 last z5
    refine thnF (T.item (X.blk s3 H3 sc ce fp) rfl rfl rfl calm i [] s5 _ H5 (fun _ _ => False) I5 (blk_free I5 n5) st5 jgo) ?_
    rintro _ s6 ⟨u, rfl, h6⟩
    refine thnF h6 ?_
    rintro _ s7 ⟨x, H7, I7, r7, y7, st7, n7⟩
    refine thnF (pg.run _ s7 _ H7 x u _ (I7.pinned (blk_free I7 n7) (T.obj _ _ st7)) r7 (step x H7 y7)) ?_
    rintro _ s8 ⟨τ, H8, I8, same, q8⟩
    refine thnF (pt.run _ s8 τ H8 _ I8 q8) ?_
    rintro b s9 ⟨H9, I9, no, yes⟩
    have next : ∀ (s' : Shared) (H' : Hp), Inv (X.blk s3 H3 sc ce fp) ([] ++ pinsAt fp s7.heap) τ H' s' → Z (i + 1) H' → ∃ m', m' < m ∧ ∃ (i : Nat) (H' : Hp), m' + i = n ∧ Z i H' ∧ Inv (X.blk s3 H3 sc ce fp) [] (wipe σ c.own) H' s' ∧ tn i s'.heap ∧ ∀ b ∈ fp, H' b = none := by
      intro s' H' I' z'
      exact ⟨m - 1, by omega, i + 1, H', by omega, z', blk_turned T st7 I' same⟩
    cases b with
    | false =>
      rw [if_neg Bool.false_ne_true]
      exact next _ _ I9 (no rfl)
    | true =>
      rw [if_pos rfl]
      refine thnF (pe.run _ s9 τ H9 _ I9 (yes rfl)) ?_
      rintro v s10 ⟨y, H10, I10, r10, k, l, rfl, at_, few, z10⟩
      obtain ⟨t, rfl⟩ := r10
      exact word_in (X := X.blk s3 H3 sc ce fp) I10 at_ few fun s11 I11 => next s11 _ I11 z10
  · have e : i = n := by omega
    subst e
    obtain ⟨jstop, fin⟩ := stop H5 z5
    refine thnF (T.done (X.blk s3 H3 sc ce fp) rfl rfl rfl calm i [] s5 _ H5 (fun _ _ => False) I5 (blk_free I5 n5) st5 jstop) ?_
    rintro _ s6 ⟨rfl, I6⟩
    exact fin s6 I6
end
section
variable {X : Cx}
/-- {elt for tg in iter if ..}, elt a text -/
theorem pe_setT (c : Clause) {elt tg iter : Expr} {ifs : List Expr} {sc : Scope} {own : List (PySem.Str × Nat)} {pos : Pos} {wi : TI} (calm : X.calm = true) (hN : X.N.Nodup) (hi : PI X tg iter wi) (ok : BlkOk X.N X.env.scope sc own) (ho : own.map (·.2) = c.own)
    (hg : ∀ (s : Shared) (H : Hp) (C : Addr) (cl : List (PySem.Str × Addr)) (fp : List Addr), PG (X.blk s H sc (compEnvC sc cl C X.env) fp) tg c.g)
    (ht : ∀ (s : Shared) (H : Hp) (C : Addr) (cl : List (PySem.Str × Addr)) (fp : List Addr), PTs (X.blk s H sc (compEnvC sc cl C X.env) fp) ifs c.tt)
    (he : ∀ (s : Shared) (H : Hp) (C : Addr) (cl : List (PySem.Str × Addr)) (fp : List Addr), PE (X.blk s H sc (compEnvC sc cl C X.env) fp) elt c.te)
    (plain : ∀ x, foldedSetIterable iter X.env x = pure x := by intro _; rfl) : PE X (.SetComp elt [⟨tg, iter, ifs, 0⟩] sc pos) (c.all X.prog X.w wi) := by
  constructor
  intro pins s σ H Q I h
  have cells : ∀ y ∈ sc.names, y.2 = .free → ∃ a, X.env.cells.lookup y.1 = some a := fun y hy e => I.ok.has _ (ok.free y hy e)
  rw [PpSet.eval_SetComp]
  refine wpAny_comprehension_free (use := none) rfl plain (closure_ok cells) ok.kind (fun y hy e => (ok.uniq y hy).trans (by rw [e])) (thn (hi.run pins s σ H _ I h) ?_)
  intro xv s1 h1
  refine thn h1 ?_
  rintro itv s2 ⟨it, fp, tn, J, H2, rfl, I2, T, st2, f2, q⟩
  refine PpSet.newSet_ok (newEnv_comp ?_)
  have fresh : H2 s2.heap.objs.size = none := I2.hok.fresh (Nat.le_refl _)
  obtain ⟨n, Z, z0, fin, go⟩ := q _ fresh
  -- the heap with the new set
  have grown : ∀ b o, s2.heap.get? b = some o → (s2.heap.push { cls := .type "set", dict := none, data := .set #[] 0 (.fresh 0 0 (!X.w.params.followText "set-order")) }).get? b = some o := fun b o e => Heap.get?_push_of_some _ e
  have I3 := I2.laid (t' := s2.toks) grown (Nat.le_refl _) (tsetO_ok (P := X.prog) (w := X.w) (H := upd H2 s2.heap.objs.size (TSetO X.prog X.w s2.heap.objs.size [])) (tset_new (h := s2.heap)))
  generalize hD : s2.heap.objs.size = D at *
  generalize hh3 : s2.heap.push { cls := .type "set", dict := none, data := .set #[] 0 (.fresh 0 0 (!X.w.params.followText "set-order")) } = h3 at *
  have sz3 : h3.objs.size = D + 1 := by rw [← hh3, Heap.size_push, hD]
  have below : ∀ b ∈ fp, b < D := fun b hb => by
    obtain ⟨o, e, _⟩ := T.obj _ _ st2 b hb
    rw [← hD]
    exact Heap.lt_size e
  have f3 : ∀ b ∈ fp, FpOk X pins (upd H2 D (TSetO X.prog X.w D [])) b ∧ b < h3.objs.size := fun b hb => by
    have lt := below b hb
    have fb := f2 b hb
    exact ⟨⟨(upd_ne (Nat.ne_of_lt lt)).trans fb.1, fb.2⟩, by rw [sz3]; exact Nat.lt_succ_of_lt lt⟩
  have I4 := block_start I3 ok hN f3
  rw [ho] at I4
  have st4 : tn 0 (pushCells (h3.push { cls := .type "dict", data := .dict #[] }) sc.names) := T.keep _ _ _ st2 fun b _ o e => pushCells_keeps _ _ _ _ (Heap.get?_push_of_some _ (grown b o e))
  refine PpSet.codeAny_compStart_set ?loop (T.self X.A 0 _ _ _ st4 ?loop)
  refine turns_set calm T (hg _ _ _ _ _) (ht _ _ _ _ _) (he _ _ _ _ _) I4 st4 (fun b hb => (f3 b hb).1.1) z0 (fun H' z => ⟨(fin H' z).1, fun s' I' => ?_⟩) go
  have out : Inv X pins σ H' s' := I3.call' (ch := fp) I'.os I'.base I'.hok I'.bare fun b hb => by
    obtain ⟨_, a1, _, a3, a4, a5⟩ := (f3 b hb).1
    exact ⟨a3, a1, a4, a5⟩
  have none_ : H' h3.objs.size = none := I'.free
  obtain ⟨b0, b1, b2, b3, b4, b5⟩ := I3.fpOk (Nat.le_refl _) none_
  obtain ⟨m, hn, _⟩ := I'.loc
  refine ⟨m, hn, fun h'' sb => ⟨.ref D, H', out.turned (t' := s'.toks) (fun b o nb e => (sb.2 b nb).trans e) b0 b1 b3 b4 b5, rfl, (fin H' z).2⟩⟩
end
end My

/-! ## A list or a tuple walked alike -/
namespace My
open PySem PySem.Spec PyProof.Rows L2
/-- a list or a tuple of xs at a -/
def SqA (K : PySem.W.Frag) (H : Hp) (a : Addr) (xs : List V) : Prop := SqL K H a xs ∨ SqT K H a xs
theorem SqA.same {K : PySem.W.Frag} {H H' : Hp} {a : Addr} {xs : List V} (h : SqA K H a xs) (e : Same H H') : SqA K H' a xs := h.elim (fun z => .inl (seqL_same e z)) (fun z => .inr (seqT_same e z))
/-- what is walked is a list or a tuple: J its turns, while G stands -/
def iSeq (K : PySem.W.Frag) (tl : TE) : TI := fun σ H R => tl σ H fun x H1 => ∃ (a : Addr) (xs : List V), x = .ref a ∧ SqA K H1 a xs ∧
  ∀ (J : It) (G : Hp → Prop), G H1 → (∀ H H', Same H H' → G H → G H') → Walk J xs.length G (YAt xs) → R J H1
section
variable {X : Cx} {tg : Expr}
theorem pi_seq {l : Expr} {tl : TE} (hl : PE X l tl) : PI X tg l (iSeq X.K tl) := by
  constructor
  intro pins s σ H R I h
  refine thn (hl.run pins s σ H _ I h) ?_
  rintro v s1 ⟨x, H1, I1, r1, a, xs, rfl, hq, k⟩
  cases r1
  have new : ∀ {o : Obj} (b : Addr), b ∈ [s1.heap.objs.size] → FpOk X pins H1 b := fun {o} b hb => by
    rw [List.mem_singleton.mp hb]
    exact I1.fpOk (Nat.le_refl _) (I1.hok.fresh (Nat.le_refl _))
  rcases hq with hq | hq
  · obtain ⟨its, rv, p, _⟩ := I1.list hq
    refine wpAny_pyIter_list p.isList ⟨s1.heap.objs.size, [s1.heap.objs.size], _, Itl X.K a, H1, rfl, ?_, turn_list a _, ?_, new (o := default), ?_⟩
    · exact I1.kept (t' := s1.toks) fun b o e => Heap.get?_push_of_some _ e
    · exact ⟨_, Heap.get?_push_size _ rfl, rfl, rfl⟩
    · exact k _ (fun H => SqL X.K H a xs) hq (fun H H' e z => seqL_same e z) walk_list
  · obtain ⟨its, rv, p, _⟩ := I1.tuple hq
    have p' : s1.heap.IsTuple a its.toArray := p
    refine wpAny_pyIter_tuple p' ⟨s1.heap.objs.size, [s1.heap.objs.size], _, Itt X.K a, H1, rfl, ?_, turn_tuple a _, ?_, new (o := default), ?_⟩
    · exact I1.kept (t' := s1.toks) fun b o e => Heap.get?_push_of_some _ e
    · exact ⟨_, Heap.get?_push_size _ rfl, rfl, rfl⟩
    · exact k _ (fun H => SqT X.K H a xs) hq (fun H H' e z => seqT_same e z) walk_tup
theorem pi_seqK (K : PySem.W.Frag) {l : Expr} {tl : TE} (hl : PE X l tl) (hK : X.K = K := by rfl) : PI X tg l (iSeq K tl) := hK ▸ pi_seq hl
end
end My

/-! settext2 wants seqwalk (or seqs) ahead -/
/-! ## set(xs), len(a set of texts) as calls of the layer -/
namespace My
open PySem PySem.Spec PyProof.Rows L2
theorem seqs_list {P : Program} {w : World} {h : Heap} {l : Addr} {items : Array Value} (hl : h.IsList l items) : Seqs P w h l "list" "list_iterator" items := by
  have back : ∀ {h : Heap}, (∃ (d : Option Addr) (n : Nat) (sl : Array (Option Value)), h.get? l = some { cls := .type "list", dict := d, data := .seq items n, slots := sl }) → h.IsList l items := fun ⟨_, n, _, e⟩ => ⟨_, e, rfl, n, rfl⟩
  refine ⟨?_, PySem.F.sub_list_set, PySem.F.sub_list_frozenset, by decide, fun A' s1 Q E e q => wpAny_pyIter_list (back e) q, fun A' I hh ne => ⟨_, Walks.list hh I l ne items, fun h2 e1 e2 => ⟨⟨_, e1, rfl, rfl⟩, back e2⟩⟩⟩
  obtain ⟨⟨c, d, dt, sl⟩, e, hc, n, hd⟩ := hl
  cases hc
  cases hd
  exact ⟨d, n, sl, e⟩
theorem seqs_tuple {P : Program} {w : World} {h : Heap} {l : Addr} {items : Array Value} (hl : h.IsTuple l items) : Seqs P w h l "tuple" "tuple_iterator" items := by
  have back : ∀ {h : Heap}, (∃ (d : Option Addr) (n : Nat) (sl : Array (Option Value)), h.get? l = some { cls := .type "tuple", dict := d, data := .seq items n, slots := sl }) → h.IsTuple l items := fun ⟨_, n, _, e⟩ => ⟨_, e, rfl, n, rfl⟩
  refine ⟨?_, PySem.F.sub_tuple_set, PySem.F.sub_tuple_frozenset, by decide, fun A' s1 Q E e q => wpAny_pyIter_tuple (back e) q, fun A' I hh ne => ⟨_, Walks.tuple hh I l ne items, fun h2 e1 e2 => ⟨⟨_, e1, rfl, rfl⟩, back e2⟩⟩⟩
  obtain ⟨⟨c, d, dt, sl⟩, e, hc, n, hd⟩ := hl
  cases hc
  cases hd
  exact ⟨d, n, sl, e⟩
theorem texts_are : ∀ {ys : List Str} {us : List Value}, Vals (ys.map V.str) us → StrsAre us ys
  | [], _, .nil => .nil
  | y :: ys, _, .cons r t => by
    obtain ⟨k, rfl⟩ := r
    exact .cons y k (texts_are t)
/-- set(xs) -/
def rSetT (P : Program) (w : World) (K : PySem.W.Frag) : List V → Hp → VK → Prop := fun vs H Q => ∃ (a : Addr) (xs : List Str), vs = [.ref a] ∧ SqA K H a (xs.map V.str) ∧ xs.length ≤ 1000 ∧
  ∀ (p : Addr) (m : List Str), H p = none → m.Nodup → (∀ y, y ∈ m ↔ y ∈ xs) → Q (.ref p) (upd H p (TSetO P w p m))
/-- len(a set of texts) -/
def rLenT (P : Program) (w : World) : List V → Hp → VK → Prop := fun vs H Q => ∃ (a : Addr) (m : List Str), vs = [.ref a] ∧ H a = some (TSetO P w a m) ∧ Q (.int m.length) H
section
variable {X : Cx}
theorem call_setT (K : PySem.W.Frag) (calm : X.calm = true) (hK : X.K = K := by rfl) : CallR X (.type "set") (rSetT X.prog X.w K) := by
  subst hK
  intro pins s σ H vs us Q I r h
  obtain ⟨a, xs, rfl, hq, few, q⟩ := h
  rw [Vals.ref1 r]
  have fin : ∀ (h' : Heap) (tk : Nat) (m : List Str), TSet X.prog X.w h' s.heap.objs.size m → m.length ≤ xs.length → (∀ y, y ∈ m ↔ y ∈ xs) → (∀ b o, s.heap.get? b = some o → h'.get? b = some o) → EP X pins σ Q (.ref s.heap.objs.size) { s with heap := h', toks := tk } := fun h' tk m R _ mem keep =>
    ⟨.ref s.heap.objs.size, _, I.laid keep (Nat.le_refl _) (tsetO_ok R), rfl, q _ m (I.hok.fresh (Nat.le_refl _)) R.nd mem⟩
  rcases hq with hq | hq
  · obtain ⟨its, rv, pl, _⟩ := I.list hq
    exact set_of (I.ok.hd calm) (seqs_list pl.isList) (by simpa using texts_are rv) few fin
  · obtain ⟨its, rv, pl, _⟩ := I.tuple hq
    exact set_of (I.ok.hd calm) (seqs_tuple (show s.heap.IsTuple a its.toArray from pl)) (by simpa using texts_are rv) few fin
theorem call_lenT : CallR X (.builtin "len") (rLenT X.prog X.w) := by
  intro pins s σ H vs us Q I r h
  obtain ⟨a, m, rfl, at_, q⟩ := h
  rw [Vals.ref1 r]
  obtain ⟨⟨o, es, ep, t, ho, ex, hd, el, pm, few, fit, ri, le⟩, nd⟩ := tset_get I at_
  have n1 : es.size = m.length := by
    have z := pm.length_eq
    rwa [List.length_map, Array.length_toList] at z
  refine call_len_set ho ex hd fit (by have : es.size < 4096 := few; omega) ?_
  exact ⟨.int m.length, H, I.tok _, ⟨_, by rw [n1]⟩, q⟩
end
theorem sub_len : ∀ {xs m : List Str}, m.Nodup → (∀ y ∈ m, y ∈ xs) → m.length ≤ xs.length
  | [], [], _, _ => Nat.le_refl _
  | [], y :: m, _, h => nomatch h y List.mem_cons_self
  | x :: xs, m, nd, h => by
    have h2 : ∀ y ∈ m.erase x, y ∈ xs := fun y hy => by
      have z := nd.mem_erase_iff.mp hy
      exact (List.mem_cons.mp (h y z.2)).resolve_left z.1
    have ih := sub_len (nd.erase x) h2
    have e := List.length_erase (a := x) (l := m)
    rw [List.length_cons]
    split at e <;> omega
/-- a list has as many different members as members just where none stands twice -/
theorem nodup_of_len : ∀ {xs m : List Str}, m.Nodup → (∀ y, y ∈ m ↔ y ∈ xs) → m.length = xs.length → xs.Nodup
  | [], _, _, _, _ => List.nodup_nil
  | x :: xs, m, nd, mem, e => by
    by_cases hx : x ∈ xs
    · have le := sub_len nd (xs := xs) fun y hy => (List.mem_cons.mp ((mem y).mp hy)).elim (fun z => z ▸ hx) id
      rw [e, List.length_cons] at le
      omega
    · have xm : x ∈ m := (mem x).mpr List.mem_cons_self
      have mem2 : ∀ y, y ∈ m.erase x ↔ y ∈ xs := fun y => by
        rw [nd.mem_erase_iff, mem, List.mem_cons]
        constructor
        · rintro ⟨n, z⟩
          exact z.resolve_left n
        · intro z
          exact ⟨fun e => hx (e ▸ z), .inr z⟩
      have e2 : (m.erase x).length = xs.length := by
        rw [List.length_erase_of_mem xm, e, List.length_cons]
        rfl
      exact List.nodup_cons.mpr ⟨hx, nodup_of_len (nd.erase x) mem2 e2⟩
theorem len_nodup {xs m : List Str} (nd : m.Nodup) (mem : ∀ y, y ∈ m ↔ y ∈ xs) : m.length = xs.length ↔ xs.Nodup :=
  ⟨nodup_of_len nd mem, fun nx => Nat.le_antisymm (sub_len nd fun y hy => (mem y).mp hy) (sub_len nx fun y hy => (mem y).mpr hy)⟩
end My

/-! ## What is a sequence of names: any values -/
namespace My
open PySem PySem.Spec PyProof.Rows L2
abbrev s_is_sequence : Stmt := top 4
abbrev N_is_sequence : List Str := ["value"]
abbrev P_is_sequence : List Str := ["value"]
theorem sc_is_sequence : FnScope N_is_sequence P_is_sequence (defScope s_is_sequence) := ⟨rfl, rfl, rfl, by decide +kernel, rfl, by decide +kernel, by decide +kernel⟩
abbrev s_are_names : Stmt := top 5
abbrev N_are_names : List Str := ["value", "name"]
abbrev P_are_names : List Str := ["value"]
theorem sc_are_names : FnScope N_are_names P_are_names (defScope s_are_names) := ⟨rfl, rfl, rfl, by decide +kernel, rfl, by decide +kernel, by decide +kernel⟩
abbrev s_are_some_names : Stmt := top 6
abbrev N_are_some_names : List Str := ["value"]
abbrev P_are_some_names : List Str := ["value"]
theorem sc_are_some_names : FnScope N_are_some_names P_are_some_names (defScope s_are_some_names) := ⟨rfl, rfl, rfl, by decide +kernel, rfl, by decide +kernel, by decide +kernel⟩
structure TxSeq (w : World) (K : PySem.W.Frag) (mg : Str → Option Value) extends TxCheck w K mg where
  z_list : mg "list" = none
  z_tuple : mg "tuple" = none
  z_set : mg "set" = none
  f_is_sequence : Addr
  d_is_sequence : FuncData
  F_is_sequence : Fun K "is_sequence" "is_sequence" s_is_sequence f_is_sequence d_is_sequence
  m_is_sequence : mg "is_sequence" = some (.ref f_is_sequence)
  b_is_sequence : Binds K d_is_sequence P_is_sequence []
  f_are_names : Addr
  d_are_names : FuncData
  F_are_names : Fun K "are_names" "are_names" s_are_names f_are_names d_are_names
  m_are_names : mg "are_names" = some (.ref f_are_names)
  b_are_names : Binds K d_are_names P_are_names []
  f_are_some_names : Addr
  d_are_some_names : FuncData
  F_are_some_names : Fun K "are_some_names" "are_some_names" s_are_some_names f_are_some_names d_are_some_names
  m_are_some_names : mg "are_some_names" = some (.ref f_are_some_names)
  b_are_some_names : Binds K d_are_some_names P_are_some_names []
/-- what isinstance(v, (list, tuple)) answers -/
def SeqV (K : PySem.W.Frag) (H : Hp) (v : V) (b : Bool) : Prop := ∃ t, TyX K H v t ∧ PySem.W.kitAny K t [.type "list", .type "tuple"] = some b
def spIsSeq (K : PySem.W.Frag) : Sp := fun vs H Q _ => ∃ (v : V) (b : Bool), vs = [v] ∧ SeqV K H v b ∧ ∀ H', Same H H' → Q (.bl b) H'
def txV : V → Str
  | .str x => x
  | _ => Str.empty
/-- names, each once -/
def namesB (xs : List V) : Bool := xs.all nmV && decide (xs.map txV).Nodup
/-- what are_names answers -/
inductive NamesV (K : PySem.W.Frag) (H : Hp) : V → Bool → Prop where
  | no {v : V} (h : SeqV K H v false) : NamesV K H v false
  | seq {a : Addr} {xs : List V} (h : SqA K H a xs) (e : ∀ x ∈ xs, AnyV K H x) (n : xs.length ≤ 1000) : NamesV K H (.ref a) (namesB xs)
/-- what are_some_names answers -/
inductive SomeV (K : PySem.W.Frag) (H : Hp) : V → Bool → Prop where
  | no {v : V} (h : SeqV K H v false) : SomeV K H v false
  | seq {a : Addr} {xs : List V} (h : SqA K H a xs) (e : ∀ x ∈ xs, AnyV K H x) (n : xs.length ≤ 1000) : SomeV K H (.ref a) (namesB xs && decide (0 < xs.length))
theorem tyx_keep {K : PySem.W.Frag} {H H' : Hp} (e : Same H H') {v : V} {t : Value} (h : TyX K H v t) : TyX K H' v t := by
  cases h with
  | base b =>
    cases b with
    | non => exact .base .non
    | bl x => exact .base (.bl x)
    | int i => exact .base (.int i)
    | str x => exact .base (.str x)
    | flt x => exact .base (.flt x)
    | lst h => exact .base (.lst (e _ _ h))
    | frz h => exact .base (.frz (e _ _ h))
    | tup h => exact .base (.tup (e _ _ h))
    | dK h => exact .base (.dK (e _ _ h))
    | dT h => exact .base (.dT (e _ _ h))
    | ins h c1 c2 c3 c4 c5 => exact .base (.ins (e _ _ h) c1 c2 c3 c4 c5)
  | byt b => exact .byt b
  | set h => exact .set (e _ _ h)
  | kList h c => exact .kList h c
  | kTuple h c => exact .kTuple h c
  | kDict h c => exact .kDict h c
  | fTuple h => exact .fTuple (e _ _ h)
  | fDict h => exact .fDict (e _ _ h)
theorem SeqV.same {K : PySem.W.Frag} {H H' : Hp} {v : V} {b : Bool} (h : SeqV K H v b) (e : Same H H') : SeqV K H' v b := by
  obtain ⟨t, ty, k⟩ := h
  exact ⟨t, tyx_keep e ty, k⟩
theorem AnyV.same {K : PySem.W.Frag} {H H' : Hp} {v : V} (h : AnyV K H v) (e : Same H H') : AnyV K H' v := by
  cases h with
  | str x hx => exact .str x hx
  | oth n ty k => exact .oth n (tyx_keep e ty) k
theorem NamesV.same {K : PySem.W.Frag} {H H' : Hp} {v : V} {b : Bool} (h : NamesV K H v b) (e : Same H H') : NamesV K H' v b := by
  cases h with
  | no h => exact .no (h.same e)
  | seq h a n => exact .seq (h.same e) (fun x hx => (a x hx).same e) n
theorem SomeV.same {K : PySem.W.Frag} {H H' : Hp} {v : V} {b : Bool} (h : SomeV K H v b) (e : Same H H') : SomeV K H' v b := by
  cases h with
  | no h => exact .no (h.same e)
  | seq h a n => exact .seq (h.same e) (fun x hx => (a x hx).same e) n
theorem kit_lt {K : PySem.W.Frag} : PySem.W.kitAny K (.type "list") [.type "list", .type "tuple"] = some true := kitAny_cons (b := true) (kit_ty (show kitB "list" "list" = some true by decide +kernel)) (fun z => nomatch z) (fun _ => rfl)
theorem kit_tt {K : PySem.W.Frag} : PySem.W.kitAny K (.type "tuple") [.type "list", .type "tuple"] = some true :=
  kitAny_cons (b := false) (kit_ty (show kitB "tuple" "list" = some false by decide +kernel)) (fun _ => kitAny_cons (b := true) (kit_ty (show kitB "tuple" "tuple" = some true by decide +kernel)) (fun z => nomatch z) (fun _ => rfl)) (fun z => nomatch z)
theorem SqA.seqV {K : PySem.W.Frag} {H : Hp} {a : Addr} {xs : List V} (h : SqA K H a xs) : SeqV K H (.ref a) true := by
  rcases h with h | h
  · exact ⟨_, tyL h, kit_lt⟩
  · exact ⟨_, tyT h, kit_tt⟩
/-- values that are names all are texts -/
theorem strs_of_nm : ∀ {xs : List V}, xs.all nmV = true → xs = (xs.map txV).map V.str
  | [], _ => rfl
  | x :: xs, h => by
    rw [List.all_cons, Bool.and_eq_true] at h
    have ih := strs_of_nm h.2
    cases x with
    | str y => rw [List.map_cons, List.map_cons, ← ih]; rfl
    | _ => cases h.1
def spAreNames (K : PySem.W.Frag) : Sp := fun vs H Q _ => ∃ (v : V) (b : Bool), vs = [v] ∧ NamesV K H v b ∧ ∀ H', Same H H' → Q (.bl b) H'
def spSomeNames (K : PySem.W.Frag) : Sp := fun vs H Q _ => ∃ (v : V) (b : Bool), vs = [v] ∧ SomeV K H v b ∧ ∀ H', Same H H' → Q (.bl b) H'
section
variable {P : Program} {w : World} {K : PySem.W.Frag} {mg : Str → Option Value} {base : Heap}
theorem ok_is_sequence (T : TxSeq w K mg) : FnOk P w K mg base CX0 1 T.f_is_sequence T.d_is_sequence P_is_sequence (spIsSeq K) := by
  refine T.F_is_sequence.ok sc_is_sequence (fun vs H Q E h => ?_) (fun cdv A outer s H vs Q E hr h => ?_)
  · obtain ⟨v, b, rfl, _⟩ := h
    rfl
  obtain ⟨v, b, rfl, hS, q⟩ := h
  refine ⟨_, (pss_one (ps_ret (pe_callB (call_isiTV K) (by rfl) T.z_isinstance (by decide +kernel) (pa_cons (pv 0) (pa_cons (pe_tup (pa_cons (pe_bltn (v := .ty "list") (by rfl) T.z_list (by decide +kernel) rfl) (pa_cons (pe_bltn (v := .ty "tuple") (by rfl) T.z_tuple (by decide +kernel) rfl) pa_nil))) pa_nil))))), ?_⟩
  refine ⟨_, rfl, by show 2 ≤ sizeLine; decide, fun tp htp => ?_⟩
  have y := same_upd htp (.tup [.ty "list", .ty "tuple"])
  obtain ⟨t, ty, k⟩ := hS.same y
  exact ⟨v, tp, _, t, _, b, rfl, upd_same, .cons (.ty _) (.cons (.ty _) .nil), ty, k, q _ y⟩
theorem ok_are_names (T : TxSeq w K mg) : FnOk P w K mg base CX0 2 T.f_are_names T.d_are_names P_are_names (spAreNames K) := by
  have G_is_name := ok_is_name (P := P) (w := w) (base := base) T.toTxCheck
  have G_is_sequence := ok_is_sequence (P := P) (w := w) (base := base) T
  refine T.F_are_names.ok sc_are_names (fun vs H Q E h => ?_) (fun cdv A outer s H vs Q E hr h => ?_)
  · obtain ⟨v, b, rfl, _⟩ := h
    rfl
  obtain ⟨v, b, rfl, hv, q⟩ := h
  refine ⟨_, (pss_cons (ps_if (PW.pt (pw_or (pt_not (pt_val (pe_call G_is_sequence (hr.mono (by decide)) (by rfl) T.m_is_sequence T.F_is_sequence.kp T.b_is_sequence .nil pass0 (pa_cons (pv 0) pa_nil)))) (pw_or1 (pt_not (pt_val (pe_callB (cr_allK K rfl) (by rfl) T.z_all (by decide +kernel) (pa_cons (pe_lc (own := [("name", 1)]) (g := gName 1) (by rfl) sc_are_names.nd (pi_seqK K (pv 0)) (blkOk_by (own := [("name", 1)]) (N := N_are_names) (sc := defScope s_are_names) (by decide +kernel)) (fun _ _ _ _ _ => (pg_name (i := 1) sc_are_names.nd rfl (Or.inl rfl))) (fun _ _ _ _ _ => pts_nil) (fun _ _ _ _ _ => (pe_call G_is_name (hr.mono (by decide)) (by rfl) T.m_is_name T.F_is_name.kp T.b_is_name .nil pass0 (pa_cons (pv 1) pa_nil)))) pa_nil))))))) (pss_one (ps_ret pe_bl)) pss_nil)
      (pss_one (ps_ret (pe_cmpR op_eq (pe_callB call_lenT (by rfl) T.z_len (by decide +kernel) (pa_cons (pe_callTy (call_setT K rfl) (by rfl) T.z_set (by decide +kernel) (pa_cons (pv 0) pa_nil)) pa_nil)) (pe_callB (call_lenK K) (by rfl) T.z_len (by decide +kernel) (pa_cons (pv 0) pa_nil)) (nomark _))))), ?_⟩
  cases hv with
  | no h =>
    refine ⟨_, rfl, v, false, rfl, h, fun H1 s1 => ⟨_, rfl, ?_⟩⟩
    exact q H1 s1
  | @seq a xs h hx hn =>
    refine ⟨_, rfl, .ref a, true, rfl, h.seqV, fun H1 s1 => ⟨_, rfl, ?_⟩⟩
    refine ⟨_, rfl, a, _, rfl, h.same s1, fun J G g0 gs wk D hD => ?_⟩
    refine lc_it wk (fun i H' => Same H1 H' ∧ H' D = some (.lst ((xs.take i).map fun y => V.bl (nmV y)))) ⟨same_upd hD _, upd_same⟩ (fun i H' _ h => gs _ _ h.1 g0) ?_ ?_
    · rintro i x H2 H3 hi ⟨s2, hD2⟩ ⟨rfl, hx2⟩
      have ax := (hx x (List.mem_of_getElem? hx2)).same (s1.trans s2)
      refine ⟨rfl, ?_⟩
      refine ⟨_, rfl, x, rfl, ax, fun H4 s4 => ?_⟩
      refine ⟨_, s4 _ _ hD2, small1000 (by rw [List.length_map, List.length_take]; omega), ?_, ?_⟩
      · intro b o e
        rw [upd_ne (ne_of_none e hD)]
        exact s4 _ _ (s2 b o e)
      · rw [upd_same, List.take_add_one, hx2, List.map_append]
        rfl
    · rintro H2 ⟨s2, hD2⟩
      have full : (xs.take xs.length).map (fun y => V.bl (nmV y)) = (xs.map nmV).map V.bl := by
        rw [List.take_length, List.map_map]
        rfl
      rw [full] at hD2
      refine ⟨D, _, rfl, SqL.of hD2, _, rfl, ?_⟩
      have e : (xs.map nmV).all id = xs.all nmV := by rw [List.all_map]; rfl
      rw [e]
      have r := q H2 (s1.trans s2)
      cases c : xs.all nmV with
      | false =>
        refine iteT ?_
        unfold namesB at r
        rw [c, Bool.false_and] at r
        exact r
      | true =>
        refine iteF ?_
        have ex := strs_of_nm c
        have h2 := (h.same s1).same s2
        unfold namesB at r
        rw [c, Bool.true_and] at r
        refine ⟨_, rfl, a, xs.map txV, rfl, by rw [← ex]; exact h2, by rw [List.length_map]; exact hn, fun p m np nd mem => ?_⟩
        have s3 := same_upd np (TSetO P w p m)
        refine ⟨p, m, rfl, upd_same, _, rfl, _, _, rfl, h2.same s3, ?_⟩
        have ed : decide (V.int (m.length : Int) = V.int (xs.length : Int)) = decide (xs.map txV).Nodup := by
          have z := len_nodup nd mem
          rw [List.length_map] at z
          by_cases w : (xs.map txV).Nodup
          · rw [decide_eq_true w, z.mpr w]
            exact decide_eq_true rfl
          · rw [decide_eq_false w]
            refine decide_eq_false fun y => w (z.mp ?_)
            injection y with y
            omega
        refine ⟨rfl, ?_⟩
        rw [ed]
        have r' := q _ ((s1.trans s2).trans s3)
        unfold namesB at r'
        rw [c, Bool.true_and] at r'
        exact r'
theorem ok_are_some_names (T : TxSeq w K mg) : FnOk P w K mg base CX0 3 T.f_are_some_names T.d_are_some_names P_are_some_names (spSomeNames K) := by
  have G_are_names := ok_are_names (P := P) (w := w) (base := base) T
  refine T.F_are_some_names.ok sc_are_some_names (fun vs H Q E h => ?_) (fun cdv A outer s H vs Q E hr h => ?_)
  · obtain ⟨v, b, rfl, _⟩ := h
    rfl
  obtain ⟨v, b, rfl, hv, q⟩ := h
  refine ⟨_, (pss_one (ps_ret (pe_and (pe_call G_are_names (hr.mono (by decide)) (by rfl) T.m_are_names T.F_are_names.kp T.b_are_names .nil pass0 (pa_cons (pv 0) pa_nil)) (pe_one (pe_cmpR op_gt (pe_callB (call_lenK K) (by rfl) T.z_len (by decide +kernel) (pa_cons (pv 0) pa_nil)) pe_int (nomark _)))))), ?_⟩
  cases hv with
  | no h =>
    refine ⟨_, rfl, v, false, rfl, .no h, fun H1 s1 => ⟨_, rfl, ?_⟩⟩
    exact q H1 s1
  | @seq a xs h hx hn =>
    refine ⟨_, rfl, .ref a, namesB xs, rfl, .seq h hx hn, fun H1 s1 => ⟨_, rfl, ?_⟩⟩
    have r := q H1 s1
    cases c : namesB xs with
    | false =>
      rw [c, Bool.false_and] at r
      exact r
    | true =>
      rw [c, Bool.true_and] at r
      refine ⟨_, rfl, _, _, rfl, h.same s1, _, _, rfl, rfl, ?_⟩
      have e : decide ((0 : Int) < (xs.length : Int)) = decide (0 < xs.length) := by
        by_cases z : 0 < xs.length
        · rw [decide_eq_true z]; exact decide_eq_true (by omega)
        · rw [decide_eq_false z]; exact decide_eq_false (by omega)
      rw [← e] at r
      exact r
end
end My

/-! ## Pairs of lists, texts compared -/
namespace My
open PySem L2
theorem paired_get {α β : Type} {R : α → β → Prop} : ∀ {xs : List α} {ys : List β} {i : Nat} {x : α}, Paired R xs ys → xs[i]? = some x → ∃ y, ys[i]? = some y ∧ R x y
  | _, _, _, _, .nil, e => by simp at e
  | _, _, 0, _, .cons r _, e => by simp at e; subst e; exact ⟨_, rfl, r⟩
  | _, _, i + 1, x, .cons _ t, e => by
    obtain ⟨y, h1, h2⟩ := paired_get (i := i) (x := x) t (by simpa using e)
    exact ⟨y, by simpa using h1, h2⟩
theorem paired_snoc {α β : Type} {R : α → β → Prop} {x : α} {y : β} : ∀ {xs : List α} {ys : List β}, Paired R xs ys → R x y → Paired R (xs ++ [x]) (ys ++ [y])
  | _, _, .nil, h => .cons h .nil
  | _, _, .cons r t, h => .cons r (paired_snoc t h)
theorem paired_len' {α β : Type} {R : α → β → Prop} : ∀ {xs : List α} {ys : List β}, Paired R xs ys → xs.length = ys.length
  | _, _, .nil => rfl
  | _, _, .cons _ t => by rw [List.length_cons, List.length_cons, paired_len' t]
theorem paired_imp' {α β : Type} {R S : α → β → Prop} (h : ∀ x y, R x y → S x y) : ∀ {xs : List α} {ys : List β}, Paired R xs ys → Paired S xs ys
  | _, _, .nil => .nil
  | _, _, .cons r t => .cons (h _ _ r) (paired_imp' h t)
theorem paired_len {α β : Type} {R : α → β → Prop} {xs : List α} {ys : List β} (h : Paired R xs ys) : xs.length = ys.length := paired_len' h
theorem paired_imp {α β : Type} {R S : α → β → Prop} (h : ∀ x y, R x y → S x y) {xs : List α} {ys : List β} (p : Paired R xs ys) : Paired S xs ys := paired_imp' h p
theorem pair_len {α β : Type} {R : α → β → Prop} {xs : List α} {ys : List β} (h : Paired R xs ys) : xs.length = ys.length := paired_len' h
theorem paired_len2 {α β : Type} {R : α → β → Prop} {xs : List α} {ys : List β} (h : Paired R xs ys) : xs.length = ys.length := paired_len' h
theorem paired_mem {α β : Type} {R : α → β → Prop} {x : α} : ∀ {xs : List α} {ys : List β}, Paired R xs ys → x ∈ xs → ∃ y ∈ ys, R x y
  | _, _, .nil, h => nomatch h
  | _, _, .cons r t, h => by
    rcases List.mem_cons.mp h with h | h
    · subst h
      exact ⟨_, List.mem_cons_self, r⟩
    · obtain ⟨y, h1, h2⟩ := paired_mem t h
      exact ⟨y, List.mem_cons_of_mem _ h1, h2⟩
theorem paired_map {α β γ : Type} {R : α → β → Prop} {S : α → γ → Prop} {f : β → γ} (h : ∀ x y, R x y → S x (f y)) : ∀ {xs : List α} {ys : List β}, Paired R xs ys → Paired S xs (ys.map f)
  | _, _, .nil => .nil
  | _, _, .cons r t => .cons (h _ _ r) (paired_map h t)
theorem str_eq_of {a b : Str} (h : decide (V.str a = V.str b) = true) : a = b := by
  have e := of_decide_eq_true h
  cases e
  rfl
theorem str_ne_of {a b : Str} (h : ¬ decide (V.str a = V.str b) = true) : a ≠ b := fun e => h (by rw [e]; exact decide_eq_true rfl)
theorem dec_str2 {a b : Str} : decide (V.str a = V.str b) = decide (a = b) := by
  by_cases h : a = b
  · subst h
    rw [decide_eq_true rfl, decide_eq_true rfl]
  · rw [decide_eq_false h, decide_eq_false (fun z => h (by cases z; rfl))]
theorem find_step {α β : Type} {f : α → Option β} {l : List α} {i : Nat} {r : α} (h : l[i]? = some r) : (l.drop i).findSome? f = (f r).or ((l.drop (i + 1)).findSome? f) := by
  obtain ⟨hl, e⟩ := List.getElem?_eq_some_iff.mp h
  rw [List.drop_eq_getElem_cons hl, e, List.findSome?_cons]
  cases f r <;> rfl
end My
/-! ## The program: rows -/
namespace My
open PySem L2
abbrev s_is_name_or : Stmt := top 16
abbrev N_is_name_or : List Str := ["value", "words"]
abbrev P_is_name_or : List Str := ["value", "words"]
theorem sc_is_name_or : FnScope N_is_name_or P_is_name_or (defScope s_is_name_or) := ⟨rfl, rfl, rfl, by decide +kernel, rfl, by decide +kernel, by decide +kernel⟩
abbrev s_InvalidRow_init : Stmt := inClass (top 9) 0
abbrev N_InvalidRow_init : List Str := ["self", "word"]
abbrev P_InvalidRow_init : List Str := ["self", "word"]
theorem sc_InvalidRow_init : FnScope N_InvalidRow_init P_InvalidRow_init (defScope s_InvalidRow_init) := ⟨rfl, rfl, rfl, by decide +kernel, rfl, by decide +kernel, by decide +kernel⟩
abbrev s_Begin_init : Stmt := inClass (top 18) 0
abbrev N_Begin_init : List Str := ["self", "mark", "kind", "mood"]
abbrev P_Begin_init : List Str := ["self", "mark", "kind", "mood"]
theorem sc_Begin_init : FnScope N_Begin_init P_Begin_init (defScope s_Begin_init) := ⟨rfl, rfl, rfl, by decide +kernel, rfl, by decide +kernel, by decide +kernel⟩
abbrev s_Send_init : Stmt := inClass (top 19) 0
abbrev N_Send_init : List Str := ["self", "mood", "service", "mark"]
abbrev P_Send_init : List Str := ["self", "mood", "service", "mark"]
theorem sc_Send_init : FnScope N_Send_init P_Send_init (defScope s_Send_init) := ⟨rfl, rfl, rfl, by decide +kernel, rfl, by decide +kernel, by decide +kernel⟩
abbrev s_Back_init : Stmt := inClass (top 20) 0
abbrev N_Back_init : List Str := ["self", "mood", "service", "sign", "then"]
abbrev P_Back_init : List Str := ["self", "mood", "service", "sign", "then"]
theorem sc_Back_init : FnScope N_Back_init P_Back_init (defScope s_Back_init) := ⟨rfl, rfl, rfl, by decide +kernel, rfl, by decide +kernel, by decide +kernel⟩
abbrev s_End_init : Stmt := inClass (top 21) 0
abbrev N_End_init : List Str := ["self", "mood", "outcome", "sign", "part"]
abbrev P_End_init : List Str := ["self", "mood", "outcome", "sign", "part"]
theorem sc_End_init : FnScope N_End_init P_End_init (defScope s_End_init) := ⟨rfl, rfl, rfl, by decide +kernel, rfl, by decide +kernel, by decide +kernel⟩
structure TxRows (w : World) (K : PySem.W.Frag) (mg : Str → Option Value) extends TxCheck w K mg where
  f_is_name_or : Addr
  d_is_name_or : FuncData
  F_is_name_or : Fun K "is_name_or" "is_name_or" s_is_name_or f_is_name_or d_is_name_or
  m_is_name_or : mg "is_name_or" = some (.ref f_is_name_or)
  b_is_name_or : Binds K d_is_name_or P_is_name_or []
  C_InvalidRow : Addr
  m_InvalidRow : mg "InvalidRow" = some (.ref C_InvalidRow)
  oxRow : OexC K C_InvalidRow
  nwRow : PySem.W.findIn K (.ref C_InvalidRow) "word" = some none
  f_InvalidRow_init : Addr
  d_InvalidRow_init : FuncData
  iRow : PySem.W.findIn K (.ref C_InvalidRow) "__init__" = some (some (.ref f_InvalidRow_init))
  tRow : PySem.W.typeIn K (.ref f_InvalidRow_init) = some (.type "function")
  F_InvalidRow_init : Fun K "__init__" "InvalidRow.__init__" s_InvalidRow_init f_InvalidRow_init d_InvalidRow_init
  b_InvalidRow_init : Binds K d_InvalidRow_init P_InvalidRow_init []
  C_Begin : Addr
  m_Begin : mg "Begin" = some (.ref C_Begin)
  c_Begin : Cls K C_Begin
  f_Begin_init : Addr
  d_Begin_init : FuncData
  mk_Begin : Mk K C_Begin f_Begin_init
  F_Begin_init : Fun K "__init__" "Begin.__init__" s_Begin_init f_Begin_init d_Begin_init
  b_Begin_init : Binds K d_Begin_init P_Begin_init []
  n_Begin_mark : NoAttr K C_Begin "mark"
  n_Begin_kind : NoAttr K C_Begin "kind"
  n_Begin_mood : NoAttr K C_Begin "mood"
  C_Send : Addr
  m_Send : mg "Send" = some (.ref C_Send)
  c_Send : Cls K C_Send
  f_Send_init : Addr
  d_Send_init : FuncData
  mk_Send : Mk K C_Send f_Send_init
  F_Send_init : Fun K "__init__" "Send.__init__" s_Send_init f_Send_init d_Send_init
  b_Send_init : Binds K d_Send_init P_Send_init []
  n_Send_mood : NoAttr K C_Send "mood"
  n_Send_service : NoAttr K C_Send "service"
  n_Send_mark : NoAttr K C_Send "mark"
  C_Back : Addr
  m_Back : mg "Back" = some (.ref C_Back)
  c_Back : Cls K C_Back
  f_Back_init : Addr
  d_Back_init : FuncData
  mk_Back : Mk K C_Back f_Back_init
  F_Back_init : Fun K "__init__" "Back.__init__" s_Back_init f_Back_init d_Back_init
  b_Back_init : Binds K d_Back_init P_Back_init []
  n_Back_mood : NoAttr K C_Back "mood"
  n_Back_service : NoAttr K C_Back "service"
  n_Back_sign : NoAttr K C_Back "sign"
  n_Back_then : NoAttr K C_Back "then"
  C_End : Addr
  m_End : mg "End" = some (.ref C_End)
  c_End : Cls K C_End
  f_End_init : Addr
  d_End_init : FuncData
  mk_End : Mk K C_End f_End_init
  F_End_init : Fun K "__init__" "End.__init__" s_End_init f_End_init d_End_init
  b_End_init : Binds K d_End_init P_End_init []
  n_End_mood : NoAttr K C_End "mood"
  n_End_outcome : NoAttr K C_End "outcome"
  n_End_sign : NoAttr K C_End "sign"
  n_End_part : NoAttr K C_End "part"
/-- a sort's class, names of its fields, the moods that a row names -/
def clsOf {w : World} {K : PySem.W.Frag} {mg : Str → Option Value} (T : TxRows w K mg) (s : Str) : Addr := if s = "begin" then T.C_Begin else if s = "send" then T.C_Send else if s = "back" then T.C_Back else T.C_End
def fnOf (s : Str) : List Str := if s = "begin" then ["mark", "kind", "mood"] else if s = "send" then ["mood", "service", "mark"] else if s = "back" then ["mood", "service", "sign", "then"] else ["mood", "outcome", "sign", "part"]
def SORTS : List Str := ["begin", "send", "back", "end"]
def moodsR : Str × List Str → List Str
  | (s, ws) => (if s = "begin" then [ws.getD 2 Str.empty] else [ws.getD 0 Str.empty]) ++ (if s = "back" then [ws.getD 3 Str.empty] else [])
def moodsL (rs : List (Str × List Str)) : List Str := "calm" :: rs.flatMap moodsR
def spXInit (K : PySem.W.Frag) (C : Addr) : Sp := fun vs H Q _ => ∃ (a : Addr) (y : V), vs = [.ref a, y] ∧ H a = some (exo a C none) ∧
  ∀ dx, H dx = none → dx ≠ a → Q .non (upd (upd H dx (exd dx [("word", y)])) a (exo a C (some dx)))
def spNameOr (K : PySem.W.Frag) : Sp := fun vs H Q _ => ∃ (v : V) (d : PyData) (a : Addr) (l : List Str), vs = [v, .ref a] ∧ Dv K H v d ∧ SqT K H a (l.map V.str) ∧ l.all PyData.strOk = true ∧
  ∀ H', Same H H' → Q (.bl (nmD d || txD l d)) H'
section
variable {P : Program} {w : World} {K : PySem.W.Frag} {mg : Str → Option Value} {base : Heap}
theorem ok_is_name_or (T : TxRows w K mg) : FnOk P w K mg base CX0 2 T.f_is_name_or T.d_is_name_or P_is_name_or (spNameOr K) := by
  have G_is_name := ok_is_name (P := P) (w := w) (base := base) T.toTxCheck
  refine T.F_is_name_or.ok sc_is_name_or (fun vs H Q E h => ?_) (fun cdv A outer s H vs Q E hr h => ?_)
  · obtain ⟨v, d, a, l, rfl, _⟩ := h
    rfl
  obtain ⟨v, d, a, l, rfl, hv, hl, ho, q⟩ := h
  refine ⟨_, (pss_one (ps_ret (pe_or (pe_call G_is_name (hr.mono (by decide)) (by rfl) T.m_is_name T.F_is_name.kp T.b_is_name .nil pass0 (pa_cons (pv 0) pa_nil)) (pe_one (pe_cmpR (op_inT K (room65 hr)) (pv 0) (pv 1) (by rfl)))))), ?_⟩
  refine ⟨_, rfl, v, rfl, hv.any, fun H' s1 => ⟨_, rfl, ?_⟩⟩
  rw [hv.nm] at *
  cases e : nmD d with
  | true =>
    have r := q H' s1
    rw [e] at r
    exact r
  | false =>
    refine ⟨_, rfl, _, rfl, d, l.map PyData.str, Dp.same s1 d v hv.dp, .tup (seqT_same s1 hl) (Dp.all_strs l), hv.sh, shaped_strs ho, ?_⟩
    have r := q H' s1
    rw [e, Bool.false_or, ← any_strs] at r
    exact r
theorem ok_xrow (T : TxRows w K mg) : FnOk P w K mg base CX0 1 T.f_InvalidRow_init T.d_InvalidRow_init P_InvalidRow_init (spXInit K T.C_InvalidRow) := by
  refine T.F_InvalidRow_init.ok sc_InvalidRow_init (fun vs H Q E h => ?_) (fun cdv A outer s H vs Q E hr h => ?_)
  · obtain ⟨a, y, rfl, _⟩ := h
    rfl
  obtain ⟨a, y, rfl, ha, q⟩ := h
  refine ⟨_, (pss_one (ps_ost (pv 0) (pv 1))), ?_⟩
  exact ⟨_, rfl, _, rfl, a, T.C_InvalidRow, rfl, T.oxRow, T.nwRow, .inl ⟨ha, fun dx h1 h2 => q dx h1 h2⟩⟩
/-- raise X('word'), X's own __init__ keeping the word -/
theorem mk_word {K : PySem.W.Frag} {C : Addr} {σ : St} {H1 : Hp} {wd : Str} {Q : XK} (q : ∀ (d : Addr) (H' : Hp), Same H1 H' → H1 d = none → H' d = some (.xd [("word", .str wd)]) → Q (.ref C) (some d) H') :
    tMkO C (spXInit K C) [] (tCons (tC (.str wd)) tNil) σ H1 Q := by
  refine ⟨by show 1 ≤ 1000; decide, fun a na => ⟨a, .str wd, rfl, upd_same, fun dx h1 h2 => ⟨rfl, dx, [("word", .str wd)], upd_same, ?_, ?_, ?_⟩⟩⟩
  · rw [upd_ne h2, upd_same]
  · rw [upd_ne h2] at h1
    exact h1
  · rw [upd_ne h2] at h1
    refine q dx _ (fun b u e => ?_) h1 upd_same
    have hb : b ≠ a := ne_of_none e na
    have hd : b ≠ dx := ne_of_none e h1
    rw [upd_ne hd, del_ne hb, upd_ne hb, upd_ne hd, upd_ne hb]
    exact e
def spRow (K : PySem.W.Frag) (C CX : Addr) (names : List Str) (wr : List PyData → Option Str) : Sp := fun vs H Q E => ∃ (p dx : Addr) (as : List V) (ds : List PyData), vs = .ref p :: as ∧ as.length = names.length ∧ Paired (Dv K H) as ds ∧ H p = some (.ins C dx []) ∧
  (∀ H', wr ds = none → H' p = some (.ins C dx (names.zip as)) → (∀ b u, H b = some u → b ≠ p → H' b = some u) → Q .non H') ∧
  (∀ wd d H', wr ds = some wd → Same H H' → H d = none → H' d = some (.xd [("word", .str wd)]) → E (.ref CX) (some d) H')
theorem bnot_eq {b : Bool} (h : (!b) = true) : b = false := by simpa using h
theorem bnot_ne {b : Bool} (h : ¬ (!b) = true) : b = true := by simpa using h
def wBegin : List PyData → Option Str
  | [d0, d1, d2] => if (nmD d0 || txD ["none", "any"] d0) = false then some "mark" else if (nmD d1 || txD ["any"] d1) = false then some "kind" else if nmD d2 = false then some "mood" else none
  | _ => none
theorem ok_Begin_init (T : TxRows w K mg) : FnOk P w K mg base (L2.CX P w) 3 T.f_Begin_init T.d_Begin_init P_Begin_init (spRow K T.C_Begin T.C_InvalidRow ["mark", "kind", "mood"] wBegin) := by
  have G_is_name := ok_is_name (P := P) (w := w) (base := base) T.toTxCheck
  have G_is_name_or := ok_is_name_or (P := P) (w := w) (base := base) T
  have G_InvalidRow_init := ok_xrow (P := P) (w := w) (base := base) T
  refine T.F_Begin_init.okX sc_Begin_init (fun vs H Q E h => ?_) (fun cdv A outer s H vs Q E hr h => ?_)
  · obtain ⟨p, dx, as, ds, rfl, hl, _⟩ := h
    exact congrArg Nat.succ hl
  obtain ⟨p, dx, as, ds, rfl, hl, hd, hp, q, qe⟩ := h
  obtain ⟨x0, x1, x2, rfl⟩ : ∃ x0 x1 x2, as = [x0, x1, x2] := by
    match as, hl with
    | [x0, x1, x2], _ => exact ⟨x0, x1, x2, rfl⟩
  cases hd with
  | cons h0 hd =>
  cases hd with
  | cons h1 hd =>
  cases hd with
  | cons h2 hd =>
  cases hd
  rename_i d0 d1 d2
  refine ⟨_, (pss_cons (ps_if (pt_not (pt_val (pe_call G_is_name_or (hr.mono (by decide)) (by rfl) T.m_is_name_or T.F_is_name_or.kp T.b_is_name_or .nil pass0 (pa_cons (pv 1) (pa_cons (pe_tup (pa_cons pe_str (pa_cons pe_str pa_nil))) pa_nil))))) (pss_one (ps_raise rfl (takes_of rfl rfl rfl rfl) (pmk_oex T.oxRow T.iRow T.tRow G_InvalidRow_init (hr.mono (by decide)) T.b_InvalidRow_init .nil pass0 (by rfl) T.m_InvalidRow (pa_cons pe_str pa_nil)))) pss_nil)
      (pss_cons (ps_if (pt_not (pt_val (pe_call G_is_name_or (hr.mono (by decide)) (by rfl) T.m_is_name_or T.F_is_name_or.kp T.b_is_name_or .nil pass0 (pa_cons (pv 2) (pa_cons (pe_tup (pa_cons pe_str pa_nil)) pa_nil))))) (pss_one (ps_raise rfl (takes_of rfl rfl rfl rfl) (pmk_oex T.oxRow T.iRow T.tRow G_InvalidRow_init (hr.mono (by decide)) T.b_InvalidRow_init .nil pass0 (by rfl) T.m_InvalidRow (pa_cons pe_str pa_nil)))) pss_nil)
      (pss_cons (ps_if (pt_not (pt_val (pe_call G_is_name (hr.mono (by decide)) (by rfl) T.m_is_name T.F_is_name.kp T.b_is_name .nil pass0 (pa_cons (pv 3) pa_nil)))) (pss_one (ps_raise rfl (takes_of rfl rfl rfl rfl) (pmk_oex T.oxRow T.iRow T.tRow G_InvalidRow_init (hr.mono (by decide)) T.b_InvalidRow_init .nil pass0 (by rfl) T.m_InvalidRow (pa_cons pe_str pa_nil)))) pss_nil)
      (pss_cons (ps_fld (pv 0) (pv 1) rfl)
      (pss_cons (ps_fld (pv 0) (pv 2) rfl)
      (pss_one (ps_fld (pv 0) (pv 3) rfl))))))), ?_⟩
  have s0 : Same H H := Same.refl H
  refine ⟨_, rfl, by show 2 ≤ sizeLine; decide, fun t0 ht0 => ⟨x0, d0, t0, ["none", "any"], rfl, h0.same (s0.trans (same_upd ht0 _)), SqT.of upd_same, by decide +kernel, fun H0 z0 => ⟨_, rfl, ?_⟩⟩⟩
  have s1 := s0.trans ((same_upd ht0 _).trans z0)
  refine ite2 (fun c0 => ?_) (fun c0 => ?_)
  · exact mk_word fun d H' s' n' e' => qe "mark" d H' (if_pos (bnot_eq c0)) (s1.trans s') (s1.free n') e'
  refine ⟨_, rfl, by show 1 ≤ sizeLine; decide, fun t1 ht1 => ⟨x1, d1, t1, ["any"], rfl, h1.same (s1.trans (same_upd ht1 _)), SqT.of upd_same, by decide +kernel, fun H1 z1 => ⟨_, rfl, ?_⟩⟩⟩
  have s2 := s1.trans ((same_upd ht1 _).trans z1)
  refine ite2 (fun c1 => ?_) (fun c1 => ?_)
  · exact mk_word fun d H' s' n' e' => qe "kind" d H' ((if_neg (by rw [bnot_ne c0]; decide)).trans (if_pos (bnot_eq c1))) (s2.trans s') (s2.free n') e'
  refine ⟨_, rfl, x2, rfl, (h2.same s2).any, fun H2 z2 => ⟨_, rfl, ?_⟩⟩
  rw [(h2.same s2).nm]
  have s3 := s2.trans z2
  refine ite2 (fun c2 => ?_) (fun c2 => ?_)
  · exact mk_word fun d H' s' n' e' => qe "mood" d H' ((if_neg (by rw [bnot_ne c0]; decide)).trans ((if_neg (by rw [bnot_ne c1]; decide)).trans (if_pos (bnot_eq c2)))) (s3.trans s') (s3.free n') e'
  have hp3 := s3 _ _ hp
  refine ⟨_, rfl, _, rfl, p, T.C_Begin, dx, _, rfl, hp3, T.c_Begin, T.n_Begin_mark, (by show 0 < 1000; decide), ?_⟩
  refine ⟨_, rfl, _, rfl, p, T.C_Begin, dx, _, rfl, upd_same, T.c_Begin, T.n_Begin_kind, (by show 1 < 1000; decide), ?_⟩
  refine ⟨_, rfl, _, rfl, p, T.C_Begin, dx, _, rfl, upd_same, T.c_Begin, T.n_Begin_mood, (by show 2 < 1000; decide), ?_⟩
  rw [upd_upd, upd_upd]
  refine q _ ((if_neg (by rw [bnot_ne c0]; decide)).trans ((if_neg (by rw [bnot_ne c1]; decide)).trans (if_neg (by rw [bnot_ne c2]; decide)))) upd_same fun b u e nb => ?_
  rw [upd_ne nb]
  exact s3 _ _ e
def wSend : List PyData → Option Str
  | [d0, d1, d2] => if (nmD d0 || txD ["any"] d0) = false then some "mood" else if (nmD d1 || txD ["any"] d1) = false then some "service" else if (nmD d2 || txD ["none", "same"] d2) = false then some "mark" else none
  | _ => none
theorem ok_Send_init (T : TxRows w K mg) : FnOk P w K mg base (L2.CX P w) 3 T.f_Send_init T.d_Send_init P_Send_init (spRow K T.C_Send T.C_InvalidRow ["mood", "service", "mark"] wSend) := by
  have G_is_name := ok_is_name (P := P) (w := w) (base := base) T.toTxCheck
  have G_is_name_or := ok_is_name_or (P := P) (w := w) (base := base) T
  have G_InvalidRow_init := ok_xrow (P := P) (w := w) (base := base) T
  refine T.F_Send_init.okX sc_Send_init (fun vs H Q E h => ?_) (fun cdv A outer s H vs Q E hr h => ?_)
  · obtain ⟨p, dx, as, ds, rfl, hl, _⟩ := h
    exact congrArg Nat.succ hl
  obtain ⟨p, dx, as, ds, rfl, hl, hd, hp, q, qe⟩ := h
  obtain ⟨x0, x1, x2, rfl⟩ : ∃ x0 x1 x2, as = [x0, x1, x2] := by
    match as, hl with
    | [x0, x1, x2], _ => exact ⟨x0, x1, x2, rfl⟩
  cases hd with
  | cons h0 hd =>
  cases hd with
  | cons h1 hd =>
  cases hd with
  | cons h2 hd =>
  cases hd
  rename_i d0 d1 d2
  refine ⟨_, (pss_cons (ps_if (pt_not (pt_val (pe_call G_is_name_or (hr.mono (by decide)) (by rfl) T.m_is_name_or T.F_is_name_or.kp T.b_is_name_or .nil pass0 (pa_cons (pv 1) (pa_cons (pe_tup (pa_cons pe_str pa_nil)) pa_nil))))) (pss_one (ps_raise rfl (takes_of rfl rfl rfl rfl) (pmk_oex T.oxRow T.iRow T.tRow G_InvalidRow_init (hr.mono (by decide)) T.b_InvalidRow_init .nil pass0 (by rfl) T.m_InvalidRow (pa_cons pe_str pa_nil)))) pss_nil)
      (pss_cons (ps_if (pt_not (pt_val (pe_call G_is_name_or (hr.mono (by decide)) (by rfl) T.m_is_name_or T.F_is_name_or.kp T.b_is_name_or .nil pass0 (pa_cons (pv 2) (pa_cons (pe_tup (pa_cons pe_str pa_nil)) pa_nil))))) (pss_one (ps_raise rfl (takes_of rfl rfl rfl rfl) (pmk_oex T.oxRow T.iRow T.tRow G_InvalidRow_init (hr.mono (by decide)) T.b_InvalidRow_init .nil pass0 (by rfl) T.m_InvalidRow (pa_cons pe_str pa_nil)))) pss_nil)
      (pss_cons (ps_if (pt_not (pt_val (pe_call G_is_name_or (hr.mono (by decide)) (by rfl) T.m_is_name_or T.F_is_name_or.kp T.b_is_name_or .nil pass0 (pa_cons (pv 3) (pa_cons (pe_tup (pa_cons pe_str (pa_cons pe_str pa_nil))) pa_nil))))) (pss_one (ps_raise rfl (takes_of rfl rfl rfl rfl) (pmk_oex T.oxRow T.iRow T.tRow G_InvalidRow_init (hr.mono (by decide)) T.b_InvalidRow_init .nil pass0 (by rfl) T.m_InvalidRow (pa_cons pe_str pa_nil)))) pss_nil)
      (pss_cons (ps_fld (pv 0) (pv 1) rfl)
      (pss_cons (ps_fld (pv 0) (pv 2) rfl)
      (pss_one (ps_fld (pv 0) (pv 3) rfl))))))), ?_⟩
  have s0 : Same H H := Same.refl H
  refine ⟨_, rfl, by show 1 ≤ sizeLine; decide, fun t0 ht0 => ⟨x0, d0, t0, ["any"], rfl, h0.same (s0.trans (same_upd ht0 _)), SqT.of upd_same, by decide +kernel, fun H0 z0 => ⟨_, rfl, ?_⟩⟩⟩
  have s1 := s0.trans ((same_upd ht0 _).trans z0)
  refine ite2 (fun c0 => ?_) (fun c0 => ?_)
  · exact mk_word fun d H' s' n' e' => qe "mood" d H' (if_pos (bnot_eq c0)) (s1.trans s') (s1.free n') e'
  refine ⟨_, rfl, by show 1 ≤ sizeLine; decide, fun t1 ht1 => ⟨x1, d1, t1, ["any"], rfl, h1.same (s1.trans (same_upd ht1 _)), SqT.of upd_same, by decide +kernel, fun H1 z1 => ⟨_, rfl, ?_⟩⟩⟩
  have s2 := s1.trans ((same_upd ht1 _).trans z1)
  refine ite2 (fun c1 => ?_) (fun c1 => ?_)
  · exact mk_word fun d H' s' n' e' => qe "service" d H' ((if_neg (by rw [bnot_ne c0]; decide)).trans (if_pos (bnot_eq c1))) (s2.trans s') (s2.free n') e'
  refine ⟨_, rfl, by show 2 ≤ sizeLine; decide, fun t2 ht2 => ⟨x2, d2, t2, ["none", "same"], rfl, h2.same (s2.trans (same_upd ht2 _)), SqT.of upd_same, by decide +kernel, fun H2 z2 => ⟨_, rfl, ?_⟩⟩⟩
  have s3 := s2.trans ((same_upd ht2 _).trans z2)
  refine ite2 (fun c2 => ?_) (fun c2 => ?_)
  · exact mk_word fun d H' s' n' e' => qe "mark" d H' ((if_neg (by rw [bnot_ne c0]; decide)).trans ((if_neg (by rw [bnot_ne c1]; decide)).trans (if_pos (bnot_eq c2)))) (s3.trans s') (s3.free n') e'
  have hp3 := s3 _ _ hp
  refine ⟨_, rfl, _, rfl, p, T.C_Send, dx, _, rfl, hp3, T.c_Send, T.n_Send_mood, (by show 0 < 1000; decide), ?_⟩
  refine ⟨_, rfl, _, rfl, p, T.C_Send, dx, _, rfl, upd_same, T.c_Send, T.n_Send_service, (by show 1 < 1000; decide), ?_⟩
  refine ⟨_, rfl, _, rfl, p, T.C_Send, dx, _, rfl, upd_same, T.c_Send, T.n_Send_mark, (by show 2 < 1000; decide), ?_⟩
  rw [upd_upd, upd_upd]
  refine q _ ((if_neg (by rw [bnot_ne c0]; decide)).trans ((if_neg (by rw [bnot_ne c1]; decide)).trans (if_neg (by rw [bnot_ne c2]; decide)))) upd_same fun b u e nb => ?_
  rw [upd_ne nb]
  exact s3 _ _ e
def wBack : List PyData → Option Str
  | [d0, d1, d2, d3] => if (nmD d0 || txD ["any"] d0) = false then some "mood" else if (nmD d1 || txD ["any"] d1) = false then some "service" else if (nmD d2 || txD ["none", "any"] d2) = false then some "sign" else if (nmD d3 || txD ["same"] d3) = false then some "then" else none
  | _ => none
theorem ok_Back_init (T : TxRows w K mg) : FnOk P w K mg base (L2.CX P w) 3 T.f_Back_init T.d_Back_init P_Back_init (spRow K T.C_Back T.C_InvalidRow ["mood", "service", "sign", "then"] wBack) := by
  have G_is_name := ok_is_name (P := P) (w := w) (base := base) T.toTxCheck
  have G_is_name_or := ok_is_name_or (P := P) (w := w) (base := base) T
  have G_InvalidRow_init := ok_xrow (P := P) (w := w) (base := base) T
  refine T.F_Back_init.okX sc_Back_init (fun vs H Q E h => ?_) (fun cdv A outer s H vs Q E hr h => ?_)
  · obtain ⟨p, dx, as, ds, rfl, hl, _⟩ := h
    exact congrArg Nat.succ hl
  obtain ⟨p, dx, as, ds, rfl, hl, hd, hp, q, qe⟩ := h
  obtain ⟨x0, x1, x2, x3, rfl⟩ : ∃ x0 x1 x2 x3, as = [x0, x1, x2, x3] := by
    match as, hl with
    | [x0, x1, x2, x3], _ => exact ⟨x0, x1, x2, x3, rfl⟩
  cases hd with
  | cons h0 hd =>
  cases hd with
  | cons h1 hd =>
  cases hd with
  | cons h2 hd =>
  cases hd with
  | cons h3 hd =>
  cases hd
  rename_i d0 d1 d2 d3
  refine ⟨_, (pss_cons (ps_if (pt_not (pt_val (pe_call G_is_name_or (hr.mono (by decide)) (by rfl) T.m_is_name_or T.F_is_name_or.kp T.b_is_name_or .nil pass0 (pa_cons (pv 1) (pa_cons (pe_tup (pa_cons pe_str pa_nil)) pa_nil))))) (pss_one (ps_raise rfl (takes_of rfl rfl rfl rfl) (pmk_oex T.oxRow T.iRow T.tRow G_InvalidRow_init (hr.mono (by decide)) T.b_InvalidRow_init .nil pass0 (by rfl) T.m_InvalidRow (pa_cons pe_str pa_nil)))) pss_nil)
      (pss_cons (ps_if (pt_not (pt_val (pe_call G_is_name_or (hr.mono (by decide)) (by rfl) T.m_is_name_or T.F_is_name_or.kp T.b_is_name_or .nil pass0 (pa_cons (pv 2) (pa_cons (pe_tup (pa_cons pe_str pa_nil)) pa_nil))))) (pss_one (ps_raise rfl (takes_of rfl rfl rfl rfl) (pmk_oex T.oxRow T.iRow T.tRow G_InvalidRow_init (hr.mono (by decide)) T.b_InvalidRow_init .nil pass0 (by rfl) T.m_InvalidRow (pa_cons pe_str pa_nil)))) pss_nil)
      (pss_cons (ps_if (pt_not (pt_val (pe_call G_is_name_or (hr.mono (by decide)) (by rfl) T.m_is_name_or T.F_is_name_or.kp T.b_is_name_or .nil pass0 (pa_cons (pv 3) (pa_cons (pe_tup (pa_cons pe_str (pa_cons pe_str pa_nil))) pa_nil))))) (pss_one (ps_raise rfl (takes_of rfl rfl rfl rfl) (pmk_oex T.oxRow T.iRow T.tRow G_InvalidRow_init (hr.mono (by decide)) T.b_InvalidRow_init .nil pass0 (by rfl) T.m_InvalidRow (pa_cons pe_str pa_nil)))) pss_nil)
      (pss_cons (ps_if (pt_not (pt_val (pe_call G_is_name_or (hr.mono (by decide)) (by rfl) T.m_is_name_or T.F_is_name_or.kp T.b_is_name_or .nil pass0 (pa_cons (pv 4) (pa_cons (pe_tup (pa_cons pe_str pa_nil)) pa_nil))))) (pss_one (ps_raise rfl (takes_of rfl rfl rfl rfl) (pmk_oex T.oxRow T.iRow T.tRow G_InvalidRow_init (hr.mono (by decide)) T.b_InvalidRow_init .nil pass0 (by rfl) T.m_InvalidRow (pa_cons pe_str pa_nil)))) pss_nil)
      (pss_cons (ps_fld (pv 0) (pv 1) rfl)
      (pss_cons (ps_fld (pv 0) (pv 2) rfl)
      (pss_cons (ps_fld (pv 0) (pv 3) rfl)
      (pss_one (ps_fld (pv 0) (pv 4) rfl))))))))), ?_⟩
  have s0 : Same H H := Same.refl H
  refine ⟨_, rfl, by show 1 ≤ sizeLine; decide, fun t0 ht0 => ⟨x0, d0, t0, ["any"], rfl, h0.same (s0.trans (same_upd ht0 _)), SqT.of upd_same, by decide +kernel, fun H0 z0 => ⟨_, rfl, ?_⟩⟩⟩
  have s1 := s0.trans ((same_upd ht0 _).trans z0)
  refine ite2 (fun c0 => ?_) (fun c0 => ?_)
  · exact mk_word fun d H' s' n' e' => qe "mood" d H' (if_pos (bnot_eq c0)) (s1.trans s') (s1.free n') e'
  refine ⟨_, rfl, by show 1 ≤ sizeLine; decide, fun t1 ht1 => ⟨x1, d1, t1, ["any"], rfl, h1.same (s1.trans (same_upd ht1 _)), SqT.of upd_same, by decide +kernel, fun H1 z1 => ⟨_, rfl, ?_⟩⟩⟩
  have s2 := s1.trans ((same_upd ht1 _).trans z1)
  refine ite2 (fun c1 => ?_) (fun c1 => ?_)
  · exact mk_word fun d H' s' n' e' => qe "service" d H' ((if_neg (by rw [bnot_ne c0]; decide)).trans (if_pos (bnot_eq c1))) (s2.trans s') (s2.free n') e'
  refine ⟨_, rfl, by show 2 ≤ sizeLine; decide, fun t2 ht2 => ⟨x2, d2, t2, ["none", "any"], rfl, h2.same (s2.trans (same_upd ht2 _)), SqT.of upd_same, by decide +kernel, fun H2 z2 => ⟨_, rfl, ?_⟩⟩⟩
  have s3 := s2.trans ((same_upd ht2 _).trans z2)
  refine ite2 (fun c2 => ?_) (fun c2 => ?_)
  · exact mk_word fun d H' s' n' e' => qe "sign" d H' ((if_neg (by rw [bnot_ne c0]; decide)).trans ((if_neg (by rw [bnot_ne c1]; decide)).trans (if_pos (bnot_eq c2)))) (s3.trans s') (s3.free n') e'
  refine ⟨_, rfl, by show 1 ≤ sizeLine; decide, fun t3 ht3 => ⟨x3, d3, t3, ["same"], rfl, h3.same (s3.trans (same_upd ht3 _)), SqT.of upd_same, by decide +kernel, fun H3 z3 => ⟨_, rfl, ?_⟩⟩⟩
  have s4 := s3.trans ((same_upd ht3 _).trans z3)
  refine ite2 (fun c3 => ?_) (fun c3 => ?_)
  · exact mk_word fun d H' s' n' e' => qe "then" d H' ((if_neg (by rw [bnot_ne c0]; decide)).trans ((if_neg (by rw [bnot_ne c1]; decide)).trans ((if_neg (by rw [bnot_ne c2]; decide)).trans (if_pos (bnot_eq c3))))) (s4.trans s') (s4.free n') e'
  have hp3 := s4 _ _ hp
  refine ⟨_, rfl, _, rfl, p, T.C_Back, dx, _, rfl, hp3, T.c_Back, T.n_Back_mood, (by show 0 < 1000; decide), ?_⟩
  refine ⟨_, rfl, _, rfl, p, T.C_Back, dx, _, rfl, upd_same, T.c_Back, T.n_Back_service, (by show 1 < 1000; decide), ?_⟩
  refine ⟨_, rfl, _, rfl, p, T.C_Back, dx, _, rfl, upd_same, T.c_Back, T.n_Back_sign, (by show 2 < 1000; decide), ?_⟩
  refine ⟨_, rfl, _, rfl, p, T.C_Back, dx, _, rfl, upd_same, T.c_Back, T.n_Back_then, (by show 3 < 1000; decide), ?_⟩
  rw [upd_upd, upd_upd, upd_upd]
  refine q _ ((if_neg (by rw [bnot_ne c0]; decide)).trans ((if_neg (by rw [bnot_ne c1]; decide)).trans ((if_neg (by rw [bnot_ne c2]; decide)).trans (if_neg (by rw [bnot_ne c3]; decide))))) upd_same fun b u e nb => ?_
  rw [upd_ne nb]
  exact s4 _ _ e
def wEnd : List PyData → Option Str
  | [d0, d1, d2, d3] => if (nmD d0 || txD ["any"] d0) = false then some "mood" else if txD ["good", "bad", "any"] d1 = false then some "outcome" else if (nmD d2 || txD ["none"] d2) = false then some "sign" else if txD ["keep", "drop"] d3 = false then some "part" else none
  | _ => none
theorem ok_End_init (T : TxRows w K mg) : FnOk P w K mg base (L2.CX P w) 3 T.f_End_init T.d_End_init P_End_init (spRow K T.C_End T.C_InvalidRow ["mood", "outcome", "sign", "part"] wEnd) := by
  have G_is_name := ok_is_name (P := P) (w := w) (base := base) T.toTxCheck
  have G_is_name_or := ok_is_name_or (P := P) (w := w) (base := base) T
  have G_InvalidRow_init := ok_xrow (P := P) (w := w) (base := base) T
  refine T.F_End_init.okX sc_End_init (fun vs H Q E h => ?_) (fun cdv A outer s H vs Q E hr h => ?_)
  · obtain ⟨p, dx, as, ds, rfl, hl, _⟩ := h
    exact congrArg Nat.succ hl
  obtain ⟨p, dx, as, ds, rfl, hl, hd, hp, q, qe⟩ := h
  obtain ⟨x0, x1, x2, x3, rfl⟩ : ∃ x0 x1 x2 x3, as = [x0, x1, x2, x3] := by
    match as, hl with
    | [x0, x1, x2, x3], _ => exact ⟨x0, x1, x2, x3, rfl⟩
  cases hd with
  | cons h0 hd =>
  cases hd with
  | cons h1 hd =>
  cases hd with
  | cons h2 hd =>
  cases hd with
  | cons h3 hd =>
  cases hd
  rename_i d0 d1 d2 d3
  refine ⟨_, (pss_cons (ps_if (pt_not (pt_val (pe_call G_is_name_or (hr.mono (by decide)) (by rfl) T.m_is_name_or T.F_is_name_or.kp T.b_is_name_or .nil pass0 (pa_cons (pv 1) (pa_cons (pe_tup (pa_cons pe_str pa_nil)) pa_nil))))) (pss_one (ps_raise rfl (takes_of rfl rfl rfl rfl) (pmk_oex T.oxRow T.iRow T.tRow G_InvalidRow_init (hr.mono (by decide)) T.b_InvalidRow_init .nil pass0 (by rfl) T.m_InvalidRow (pa_cons pe_str pa_nil)))) pss_nil)
      (pss_cons (ps_if (pt_cmpR (op_notInT K (room65 hr)) (pv 2) (pe_tup (pa_cons pe_str (pa_cons pe_str (pa_cons pe_str pa_nil)))) (by rfl)) (pss_one (ps_raise rfl (takes_of rfl rfl rfl rfl) (pmk_oex T.oxRow T.iRow T.tRow G_InvalidRow_init (hr.mono (by decide)) T.b_InvalidRow_init .nil pass0 (by rfl) T.m_InvalidRow (pa_cons pe_str pa_nil)))) pss_nil)
      (pss_cons (ps_if (pt_not (pt_val (pe_call G_is_name_or (hr.mono (by decide)) (by rfl) T.m_is_name_or T.F_is_name_or.kp T.b_is_name_or .nil pass0 (pa_cons (pv 3) (pa_cons (pe_tup (pa_cons pe_str pa_nil)) pa_nil))))) (pss_one (ps_raise rfl (takes_of rfl rfl rfl rfl) (pmk_oex T.oxRow T.iRow T.tRow G_InvalidRow_init (hr.mono (by decide)) T.b_InvalidRow_init .nil pass0 (by rfl) T.m_InvalidRow (pa_cons pe_str pa_nil)))) pss_nil)
      (pss_cons (ps_if (pt_cmpR (op_notInT K (room65 hr)) (pv 4) (pe_tup (pa_cons pe_str (pa_cons pe_str pa_nil))) (by rfl)) (pss_one (ps_raise rfl (takes_of rfl rfl rfl rfl) (pmk_oex T.oxRow T.iRow T.tRow G_InvalidRow_init (hr.mono (by decide)) T.b_InvalidRow_init .nil pass0 (by rfl) T.m_InvalidRow (pa_cons pe_str pa_nil)))) pss_nil)
      (pss_cons (ps_fld (pv 0) (pv 1) rfl)
      (pss_cons (ps_fld (pv 0) (pv 2) rfl)
      (pss_cons (ps_fld (pv 0) (pv 3) rfl)
      (pss_one (ps_fld (pv 0) (pv 4) rfl))))))))), ?_⟩
  have s0 : Same H H := Same.refl H
  refine ⟨_, rfl, by show 1 ≤ sizeLine; decide, fun t0 ht0 => ⟨x0, d0, t0, ["any"], rfl, h0.same (s0.trans (same_upd ht0 _)), SqT.of upd_same, by decide +kernel, fun H0 z0 => ⟨_, rfl, ?_⟩⟩⟩
  have s1 := s0.trans ((same_upd ht0 _).trans z0)
  refine ite2 (fun c0 => ?_) (fun c0 => ?_)
  · exact mk_word fun d H' s' n' e' => qe "mood" d H' (if_pos (bnot_eq c0)) (s1.trans s') (s1.free n') e'
  refine ⟨_, rfl, by show 3 ≤ sizeLine; decide, fun t1 ht1 => ⟨d1, (["good", "bad", "any"] : List Str).map PyData.str, (h1.same (s1.trans (same_upd ht1 _))).dp, .tup (SqT.of upd_same) (Dp.all_strs ["good", "bad", "any"]), h1.sh, shaped_strs (by decide +kernel), _, rfl, ?_⟩⟩
  have s2 := s1.trans (same_upd ht1 (.tup ((["good", "bad", "any"] : List Str).map V.str)))
  refine ite2 (fun c1 => ?_) (fun c1 => ?_)
  · exact mk_word fun d H' s' n' e' => qe "outcome" d H' ((if_neg (by rw [bnot_ne c0]; decide)).trans (if_pos (by rw [← any_strs]; exact bnot_eq c1))) (s2.trans s') (s2.free n') e'
  refine ⟨_, rfl, by show 1 ≤ sizeLine; decide, fun t2 ht2 => ⟨x2, d2, t2, ["none"], rfl, h2.same (s2.trans (same_upd ht2 _)), SqT.of upd_same, by decide +kernel, fun H2 z2 => ⟨_, rfl, ?_⟩⟩⟩
  have s3 := s2.trans ((same_upd ht2 _).trans z2)
  refine ite2 (fun c2 => ?_) (fun c2 => ?_)
  · exact mk_word fun d H' s' n' e' => qe "sign" d H' ((if_neg (by rw [bnot_ne c0]; decide)).trans ((if_neg (by rw [← any_strs]; rw [bnot_ne c1]; decide)).trans (if_pos (bnot_eq c2)))) (s3.trans s') (s3.free n') e'
  refine ⟨_, rfl, by show 2 ≤ sizeLine; decide, fun t3 ht3 => ⟨d3, (["keep", "drop"] : List Str).map PyData.str, (h3.same (s3.trans (same_upd ht3 _))).dp, .tup (SqT.of upd_same) (Dp.all_strs ["keep", "drop"]), h3.sh, shaped_strs (by decide +kernel), _, rfl, ?_⟩⟩
  have s4 := s3.trans (same_upd ht3 (.tup ((["keep", "drop"] : List Str).map V.str)))
  refine ite2 (fun c3 => ?_) (fun c3 => ?_)
  · exact mk_word fun d H' s' n' e' => qe "part" d H' ((if_neg (by rw [bnot_ne c0]; decide)).trans ((if_neg (by rw [← any_strs]; rw [bnot_ne c1]; decide)).trans ((if_neg (by rw [bnot_ne c2]; decide)).trans (if_pos (by rw [← any_strs]; exact bnot_eq c3))))) (s4.trans s') (s4.free n') e'
  have hp3 := s4 _ _ hp
  refine ⟨_, rfl, _, rfl, p, T.C_End, dx, _, rfl, hp3, T.c_End, T.n_End_mood, (by show 0 < 1000; decide), ?_⟩
  refine ⟨_, rfl, _, rfl, p, T.C_End, dx, _, rfl, upd_same, T.c_End, T.n_End_outcome, (by show 1 < 1000; decide), ?_⟩
  refine ⟨_, rfl, _, rfl, p, T.C_End, dx, _, rfl, upd_same, T.c_End, T.n_End_sign, (by show 2 < 1000; decide), ?_⟩
  refine ⟨_, rfl, _, rfl, p, T.C_End, dx, _, rfl, upd_same, T.c_End, T.n_End_part, (by show 3 < 1000; decide), ?_⟩
  rw [upd_upd, upd_upd, upd_upd]
  refine q _ ((if_neg (by rw [bnot_ne c0]; decide)).trans ((if_neg (by rw [← any_strs]; rw [bnot_ne c1]; decide)).trans ((if_neg (by rw [bnot_ne c2]; decide)).trans (if_neg (by rw [← any_strs]; rw [bnot_ne c3]; decide))))) upd_same fun b u e nb => ?_
  rw [upd_ne nb]
  exact s4 _ _ e
end
end My

/-! ## Rows: their classes, the names of their fields (for a law that makes rows itself) -/
namespace My
open PySem L2
structure TxLawRow (w : World) (K : PySem.W.Frag) (mg : Str → Option Value) extends TxRows w K mg where
/-- the word of the first wrong argument -/
def wrOf (s : Str) : List PyData → Option Str := if s = "begin" then wBegin else if s = "send" then wSend else if s = "back" then wBack else wEnd
end My

/-! ## Rows: their texts, == -/
namespace My
open PySem L2
abbrev s_Begin_str : Stmt := inClass (top 18) 2
abbrev N_Begin_str : List Str := ["self"]
abbrev P_Begin_str : List Str := ["self"]
theorem sc_Begin_str : FnScope N_Begin_str P_Begin_str (defScope s_Begin_str) := ⟨rfl, rfl, rfl, by decide +kernel, rfl, by decide +kernel, by decide +kernel⟩
abbrev s_Send_str : Stmt := inClass (top 19) 2
abbrev N_Send_str : List Str := ["self"]
abbrev P_Send_str : List Str := ["self"]
theorem sc_Send_str : FnScope N_Send_str P_Send_str (defScope s_Send_str) := ⟨rfl, rfl, rfl, by decide +kernel, rfl, by decide +kernel, by decide +kernel⟩
abbrev s_Back_str : Stmt := inClass (top 20) 2
abbrev N_Back_str : List Str := ["self"]
abbrev P_Back_str : List Str := ["self"]
theorem sc_Back_str : FnScope N_Back_str P_Back_str (defScope s_Back_str) := ⟨rfl, rfl, rfl, by decide +kernel, rfl, by decide +kernel, by decide +kernel⟩
abbrev s_End_str : Stmt := inClass (top 21) 2
abbrev N_End_str : List Str := ["self"]
abbrev P_End_str : List Str := ["self"]
theorem sc_End_str : FnScope N_End_str P_End_str (defScope s_End_str) := ⟨rfl, rfl, rfl, by decide +kernel, rfl, by decide +kernel, by decide +kernel⟩
abbrev s_Begin_eq : Stmt := inClass (top 18) 1
abbrev N_Begin_eq : List Str := ["self", "other"]
abbrev P_Begin_eq : List Str := ["self", "other"]
theorem sc_Begin_eq : FnScope N_Begin_eq P_Begin_eq (defScope s_Begin_eq) := ⟨rfl, rfl, rfl, by decide +kernel, rfl, by decide +kernel, by decide +kernel⟩
abbrev s_Send_eq : Stmt := inClass (top 19) 1
abbrev N_Send_eq : List Str := ["self", "other"]
abbrev P_Send_eq : List Str := ["self", "other"]
theorem sc_Send_eq : FnScope N_Send_eq P_Send_eq (defScope s_Send_eq) := ⟨rfl, rfl, rfl, by decide +kernel, rfl, by decide +kernel, by decide +kernel⟩
abbrev s_Back_eq : Stmt := inClass (top 20) 1
abbrev N_Back_eq : List Str := ["self", "other"]
abbrev P_Back_eq : List Str := ["self", "other"]
theorem sc_Back_eq : FnScope N_Back_eq P_Back_eq (defScope s_Back_eq) := ⟨rfl, rfl, rfl, by decide +kernel, rfl, by decide +kernel, by decide +kernel⟩
abbrev s_End_eq : Stmt := inClass (top 21) 1
abbrev N_End_eq : List Str := ["self", "other"]
abbrev P_End_eq : List Str := ["self", "other"]
theorem sc_End_eq : FnScope N_End_eq P_End_eq (defScope s_End_eq) := ⟨rfl, rfl, rfl, by decide +kernel, rfl, by decide +kernel, by decide +kernel⟩
/-- the text of a row of a sort -/
def rowTxt (s : Str) (ws : List Str) : Str := Txt.join " " (s :: ws)
theorem txt3 (s a b c : Str) : rowTxt s [a, b, c] = s ++ " " ++ (a ++ " " ++ (b ++ " " ++ c)) := StrLaws.glued_cons " " [a, b, c] s
theorem txt4 (s a b c d : Str) : rowTxt s [a, b, c, d] = s ++ " " ++ (a ++ " " ++ (b ++ " " ++ (c ++ " " ++ d))) := StrLaws.glued_cons " " [a, b, c, d] s
/-- a row of a sort with words ws stands at a -/
structure RowAt {w : World} {K : PySem.W.Frag} {mg : Str → Option Value} (T : TxRows w K mg) (H : Hp) (a : Addr) (s : Str) (ws : List Str) : Prop where
  at_ : ∃ dx, H a = some (.ins (clsOf T s) dx ((fnOf s).zip (ws.map V.str)))
  len : ws.length = (fnOf s).length
  sh : ∀ y ∈ ws, y.length ≤ 10
  so : s ∈ SORTS
theorem RowAt.same {w : World} {K : PySem.W.Frag} {mg : Str → Option Value} {T : TxRows w K mg} {H H' : Hp} {a : Addr} {s : Str} {ws : List Str} (h : RowAt T H a s ws) (e : Same H H') : RowAt T H' a s ws := by
  obtain ⟨⟨dx, ha⟩, h1, h2, h3⟩ := h
  exact ⟨⟨dx, e _ _ ha⟩, h1, h2, h3⟩
structure TxStr (w : World) (K : PySem.W.Frag) (mg : Str → Option Value) extends TxLawRow w K mg where
  f_Begin_str : Addr
  d_Begin_str : FuncData
  F_Begin_str : Fun K "__str__" "Begin.__str__" s_Begin_str f_Begin_str d_Begin_str
  b_Begin_str : Binds K d_Begin_str P_Begin_str []
  si_Begin : PySem.W.findIn K (.ref C_Begin) "__str__" = some (some (.ref f_Begin_str))
  sf_Begin : PySem.W.isFn K (.ref f_Begin_str) = true
  f_Begin_eq : Addr
  d_Begin_eq : FuncData
  F_Begin_eq : Fun K "__eq__" "Begin.__eq__" s_Begin_eq f_Begin_eq d_Begin_eq
  b_Begin_eq : Binds K d_Begin_eq P_Begin_eq []
  ei_Begin : PySem.W.findIn K (.ref C_Begin) "__eq__" = some (some (.ref f_Begin_eq))
  ef_Begin : PySem.W.isFn K (.ref f_Begin_eq) = true
  en_Begin : PySem.W.findIn K (.ref C_Begin) "__ne__" = some (some (.builtin "object.__ne__"))
  eo_Begin : PySem.W.subIn K (.ref C_Begin) (.type "object") = some true
  ty_Begin : ∀ (H : Hp) (a dx : Addr) (fs : List (Str × V)), H a = some (.ins C_Begin dx fs) → TyX K H (.ref a) (.ref C_Begin)
  ks_Begin : PySem.W.kitOne K (.type "str") (.ref C_Begin) = some false
  kt_Begin : PySem.W.kitOne K (.type "tuple") (.ref C_Begin) = some false
  ns_Begin : PySem.W.notFirst K C_Begin (.type "str") = true
  nt_Begin : PySem.W.notFirst K C_Begin (.type "tuple") = true
  f_Send_str : Addr
  d_Send_str : FuncData
  F_Send_str : Fun K "__str__" "Send.__str__" s_Send_str f_Send_str d_Send_str
  b_Send_str : Binds K d_Send_str P_Send_str []
  si_Send : PySem.W.findIn K (.ref C_Send) "__str__" = some (some (.ref f_Send_str))
  sf_Send : PySem.W.isFn K (.ref f_Send_str) = true
  f_Send_eq : Addr
  d_Send_eq : FuncData
  F_Send_eq : Fun K "__eq__" "Send.__eq__" s_Send_eq f_Send_eq d_Send_eq
  b_Send_eq : Binds K d_Send_eq P_Send_eq []
  ei_Send : PySem.W.findIn K (.ref C_Send) "__eq__" = some (some (.ref f_Send_eq))
  ef_Send : PySem.W.isFn K (.ref f_Send_eq) = true
  en_Send : PySem.W.findIn K (.ref C_Send) "__ne__" = some (some (.builtin "object.__ne__"))
  eo_Send : PySem.W.subIn K (.ref C_Send) (.type "object") = some true
  ty_Send : ∀ (H : Hp) (a dx : Addr) (fs : List (Str × V)), H a = some (.ins C_Send dx fs) → TyX K H (.ref a) (.ref C_Send)
  ks_Send : PySem.W.kitOne K (.type "str") (.ref C_Send) = some false
  kt_Send : PySem.W.kitOne K (.type "tuple") (.ref C_Send) = some false
  ns_Send : PySem.W.notFirst K C_Send (.type "str") = true
  nt_Send : PySem.W.notFirst K C_Send (.type "tuple") = true
  f_Back_str : Addr
  d_Back_str : FuncData
  F_Back_str : Fun K "__str__" "Back.__str__" s_Back_str f_Back_str d_Back_str
  b_Back_str : Binds K d_Back_str P_Back_str []
  si_Back : PySem.W.findIn K (.ref C_Back) "__str__" = some (some (.ref f_Back_str))
  sf_Back : PySem.W.isFn K (.ref f_Back_str) = true
  f_Back_eq : Addr
  d_Back_eq : FuncData
  F_Back_eq : Fun K "__eq__" "Back.__eq__" s_Back_eq f_Back_eq d_Back_eq
  b_Back_eq : Binds K d_Back_eq P_Back_eq []
  ei_Back : PySem.W.findIn K (.ref C_Back) "__eq__" = some (some (.ref f_Back_eq))
  ef_Back : PySem.W.isFn K (.ref f_Back_eq) = true
  en_Back : PySem.W.findIn K (.ref C_Back) "__ne__" = some (some (.builtin "object.__ne__"))
  eo_Back : PySem.W.subIn K (.ref C_Back) (.type "object") = some true
  ty_Back : ∀ (H : Hp) (a dx : Addr) (fs : List (Str × V)), H a = some (.ins C_Back dx fs) → TyX K H (.ref a) (.ref C_Back)
  ks_Back : PySem.W.kitOne K (.type "str") (.ref C_Back) = some false
  kt_Back : PySem.W.kitOne K (.type "tuple") (.ref C_Back) = some false
  ns_Back : PySem.W.notFirst K C_Back (.type "str") = true
  nt_Back : PySem.W.notFirst K C_Back (.type "tuple") = true
  f_End_str : Addr
  d_End_str : FuncData
  F_End_str : Fun K "__str__" "End.__str__" s_End_str f_End_str d_End_str
  b_End_str : Binds K d_End_str P_End_str []
  si_End : PySem.W.findIn K (.ref C_End) "__str__" = some (some (.ref f_End_str))
  sf_End : PySem.W.isFn K (.ref f_End_str) = true
  f_End_eq : Addr
  d_End_eq : FuncData
  F_End_eq : Fun K "__eq__" "End.__eq__" s_End_eq f_End_eq d_End_eq
  b_End_eq : Binds K d_End_eq P_End_eq []
  ei_End : PySem.W.findIn K (.ref C_End) "__eq__" = some (some (.ref f_End_eq))
  ef_End : PySem.W.isFn K (.ref f_End_eq) = true
  en_End : PySem.W.findIn K (.ref C_End) "__ne__" = some (some (.builtin "object.__ne__"))
  eo_End : PySem.W.subIn K (.ref C_End) (.type "object") = some true
  ty_End : ∀ (H : Hp) (a dx : Addr) (fs : List (Str × V)), H a = some (.ins C_End dx fs) → TyX K H (.ref a) (.ref C_End)
  ks_End : PySem.W.kitOne K (.type "str") (.ref C_End) = some false
  kt_End : PySem.W.kitOne K (.type "tuple") (.ref C_End) = some false
  ns_End : PySem.W.notFirst K C_End (.type "str") = true
  nt_End : PySem.W.notFirst K C_End (.type "tuple") = true
  kk_Begin_Begin : PySem.W.kitOne K (.ref C_Begin) (.ref C_Begin) = some true
  nf_Begin_Begin : PySem.W.notFirst K C_Begin (.ref C_Begin) = true
  kk_Begin_Send : PySem.W.kitOne K (.ref C_Begin) (.ref C_Send) = some false
  nf_Begin_Send : PySem.W.notFirst K C_Begin (.ref C_Send) = true
  kk_Begin_Back : PySem.W.kitOne K (.ref C_Begin) (.ref C_Back) = some false
  nf_Begin_Back : PySem.W.notFirst K C_Begin (.ref C_Back) = true
  kk_Begin_End : PySem.W.kitOne K (.ref C_Begin) (.ref C_End) = some false
  nf_Begin_End : PySem.W.notFirst K C_Begin (.ref C_End) = true
  kk_Send_Begin : PySem.W.kitOne K (.ref C_Send) (.ref C_Begin) = some false
  nf_Send_Begin : PySem.W.notFirst K C_Send (.ref C_Begin) = true
  kk_Send_Send : PySem.W.kitOne K (.ref C_Send) (.ref C_Send) = some true
  nf_Send_Send : PySem.W.notFirst K C_Send (.ref C_Send) = true
  kk_Send_Back : PySem.W.kitOne K (.ref C_Send) (.ref C_Back) = some false
  nf_Send_Back : PySem.W.notFirst K C_Send (.ref C_Back) = true
  kk_Send_End : PySem.W.kitOne K (.ref C_Send) (.ref C_End) = some false
  nf_Send_End : PySem.W.notFirst K C_Send (.ref C_End) = true
  kk_Back_Begin : PySem.W.kitOne K (.ref C_Back) (.ref C_Begin) = some false
  nf_Back_Begin : PySem.W.notFirst K C_Back (.ref C_Begin) = true
  kk_Back_Send : PySem.W.kitOne K (.ref C_Back) (.ref C_Send) = some false
  nf_Back_Send : PySem.W.notFirst K C_Back (.ref C_Send) = true
  kk_Back_Back : PySem.W.kitOne K (.ref C_Back) (.ref C_Back) = some true
  nf_Back_Back : PySem.W.notFirst K C_Back (.ref C_Back) = true
  kk_Back_End : PySem.W.kitOne K (.ref C_Back) (.ref C_End) = some false
  nf_Back_End : PySem.W.notFirst K C_Back (.ref C_End) = true
  kk_End_Begin : PySem.W.kitOne K (.ref C_End) (.ref C_Begin) = some false
  nf_End_Begin : PySem.W.notFirst K C_End (.ref C_Begin) = true
  kk_End_Send : PySem.W.kitOne K (.ref C_End) (.ref C_Send) = some false
  nf_End_Send : PySem.W.notFirst K C_End (.ref C_Send) = true
  kk_End_Back : PySem.W.kitOne K (.ref C_End) (.ref C_Back) = some false
  nf_End_Back : PySem.W.notFirst K C_End (.ref C_Back) = true
  kk_End_End : PySem.W.kitOne K (.ref C_End) (.ref C_End) = some true
  nf_End_End : PySem.W.notFirst K C_End (.ref C_End) = true
def spStr {w : World} {K : PySem.W.Frag} {mg : Str → Option Value} (T : TxRows w K mg) (s : Str) : Sp := fun vs H Q _ => ∃ (a : Addr) (ws : List Str), vs = [.ref a] ∧ RowAt T H a s ws ∧ Q (.str (rowTxt s ws)) H
def spEq {w : World} {K : PySem.W.Frag} {mg : Str → Option Value} (T : TxRows w K mg) (s : Str) : Sp := fun vs H Q _ => ∃ (a : Addr) (ws : List Str) (y : V), vs = [.ref a, y] ∧ RowAt T H a s ws ∧
  ((∃ (b : Addr) (s2 : Str) (ws2 : List Str), y = .ref b ∧ RowAt T H b s2 ws2 ∧ Q (.bl (decide (s = s2) && decide (rowTxt s ws = rowTxt s2 ws2))) H) ∨
   ∃ t, TyX K H y t ∧ PySem.W.kitOne K t (.ref (clsOf T s)) = some false ∧ Q (.bl false) H)
section
variable {P : Program} {w : World} {K : PySem.W.Frag} {mg : Str → Option Value} {base : Heap}
theorem ok_Begin_str (T : TxStr w K mg) : FnOk P w K mg base CX0 1 T.f_Begin_str T.d_Begin_str P_Begin_str (spStr T.toTxRows "begin") := by
  refine T.F_Begin_str.ok sc_Begin_str (fun vs H Q E h => ?_) (fun cdv A outer s H vs Q E hr h => ?_)
  · obtain ⟨a, ws, rfl, _⟩ := h
    rfl
  obtain ⟨a, ws, rfl, R, q⟩ := h
  obtain ⟨⟨dx, ha⟩, hl, hsh, _⟩ := R
  obtain ⟨y0, y1, y2, rfl⟩ : ∃ y0 y1 y2, ws = [y0, y1, y2] := by
    match ws, hl with
    | [y0, y1, y2], _ => exact ⟨y0, y1, y2, rfl⟩
  have l0 : y0.length ≤ 10 := hsh y0 (by simp)
  have l1 : y1.length ≤ 10 := hsh y1 (by simp)
  have l2 : y2.length ≤ 10 := hsh y2 (by simp)
  have z0 : (Str.empty : Str).length = 0 := rfl
  have z1 : (Str.ofString "begin ").length = 6 := by decide +kernel
  have z2 : (Str.ofString " ").length = 1 := by decide +kernel
  refine ⟨_, (pss_one (ps_ret (pe_joined (.cons pe_str (.cons (pe_fmt (pe_fldK K (pv 0))) (.cons pe_str (.cons (pe_fmt (pe_fldK K (pv 0))) (.cons pe_str (.cons (pe_fmt (pe_fldK K (pv 0))) .nil))))))))), ?_⟩
  refine ⟨_, rfl, (by rw [sizeLine_eq]; (try simp only [Str.length_append]); omega), _, rfl, a, T.C_Begin, dx, _, _, rfl, ha, T.c_Begin, T.n_Begin_mark, rfl, .inl ⟨_, rfl, (by rw [sizeLine_eq]; (try simp only [Str.length_append]); omega), _, rfl, (by rw [sizeLine_eq]; (try simp only [Str.length_append]); omega), _, rfl, (by rw [sizeLine_eq]; (try simp only [Str.length_append]); omega), _, rfl, a, T.C_Begin, dx, _, _, rfl, ha, T.c_Begin, T.n_Begin_kind, rfl, .inl ⟨_, rfl, (by rw [sizeLine_eq]; (try simp only [Str.length_append]); omega), _, rfl, (by rw [sizeLine_eq]; (try simp only [Str.length_append]); omega), _, rfl, (by rw [sizeLine_eq]; (try simp only [Str.length_append]); omega), _, rfl, a, T.C_Begin, dx, _, _, rfl, ha, T.c_Begin, T.n_Begin_mood, rfl, .inl ⟨_, rfl, (by rw [sizeLine_eq]; (try simp only [Str.length_append]); omega), _, rfl, (by rw [sizeLine_eq]; (try simp only [Str.length_append]); omega), ?_⟩⟩⟩⟩
  have e : rowTxt "begin" [y0, y1, y2] = _ := txt3 "begin" y0 y1 y2
  rw [e] at q
  have e2 : (Str.ofString "begin ") = "begin" ++ " " := by decide +kernel
  rw [e2]
  simp only [Str.empty_append, Str.append_assoc] at q ⊢
  exact q
theorem ok_Send_str (T : TxStr w K mg) : FnOk P w K mg base CX0 1 T.f_Send_str T.d_Send_str P_Send_str (spStr T.toTxRows "send") := by
  refine T.F_Send_str.ok sc_Send_str (fun vs H Q E h => ?_) (fun cdv A outer s H vs Q E hr h => ?_)
  · obtain ⟨a, ws, rfl, _⟩ := h
    rfl
  obtain ⟨a, ws, rfl, R, q⟩ := h
  obtain ⟨⟨dx, ha⟩, hl, hsh, _⟩ := R
  obtain ⟨y0, y1, y2, rfl⟩ : ∃ y0 y1 y2, ws = [y0, y1, y2] := by
    match ws, hl with
    | [y0, y1, y2], _ => exact ⟨y0, y1, y2, rfl⟩
  have l0 : y0.length ≤ 10 := hsh y0 (by simp)
  have l1 : y1.length ≤ 10 := hsh y1 (by simp)
  have l2 : y2.length ≤ 10 := hsh y2 (by simp)
  have z0 : (Str.empty : Str).length = 0 := rfl
  have z1 : (Str.ofString "send ").length = 5 := by decide +kernel
  have z2 : (Str.ofString " ").length = 1 := by decide +kernel
  refine ⟨_, (pss_one (ps_ret (pe_joined (.cons pe_str (.cons (pe_fmt (pe_fldK K (pv 0))) (.cons pe_str (.cons (pe_fmt (pe_fldK K (pv 0))) (.cons pe_str (.cons (pe_fmt (pe_fldK K (pv 0))) .nil))))))))), ?_⟩
  refine ⟨_, rfl, (by rw [sizeLine_eq]; (try simp only [Str.length_append]); omega), _, rfl, a, T.C_Send, dx, _, _, rfl, ha, T.c_Send, T.n_Send_mood, rfl, .inl ⟨_, rfl, (by rw [sizeLine_eq]; (try simp only [Str.length_append]); omega), _, rfl, (by rw [sizeLine_eq]; (try simp only [Str.length_append]); omega), _, rfl, (by rw [sizeLine_eq]; (try simp only [Str.length_append]); omega), _, rfl, a, T.C_Send, dx, _, _, rfl, ha, T.c_Send, T.n_Send_service, rfl, .inl ⟨_, rfl, (by rw [sizeLine_eq]; (try simp only [Str.length_append]); omega), _, rfl, (by rw [sizeLine_eq]; (try simp only [Str.length_append]); omega), _, rfl, (by rw [sizeLine_eq]; (try simp only [Str.length_append]); omega), _, rfl, a, T.C_Send, dx, _, _, rfl, ha, T.c_Send, T.n_Send_mark, rfl, .inl ⟨_, rfl, (by rw [sizeLine_eq]; (try simp only [Str.length_append]); omega), _, rfl, (by rw [sizeLine_eq]; (try simp only [Str.length_append]); omega), ?_⟩⟩⟩⟩
  have e : rowTxt "send" [y0, y1, y2] = _ := txt3 "send" y0 y1 y2
  rw [e] at q
  have e2 : (Str.ofString "send ") = "send" ++ " " := by decide +kernel
  rw [e2]
  simp only [Str.empty_append, Str.append_assoc] at q ⊢
  exact q
theorem ok_Back_str (T : TxStr w K mg) : FnOk P w K mg base CX0 1 T.f_Back_str T.d_Back_str P_Back_str (spStr T.toTxRows "back") := by
  refine T.F_Back_str.ok sc_Back_str (fun vs H Q E h => ?_) (fun cdv A outer s H vs Q E hr h => ?_)
  · obtain ⟨a, ws, rfl, _⟩ := h
    rfl
  obtain ⟨a, ws, rfl, R, q⟩ := h
  obtain ⟨⟨dx, ha⟩, hl, hsh, _⟩ := R
  obtain ⟨y0, y1, y2, y3, rfl⟩ : ∃ y0 y1 y2 y3, ws = [y0, y1, y2, y3] := by
    match ws, hl with
    | [y0, y1, y2, y3], _ => exact ⟨y0, y1, y2, y3, rfl⟩
  have l0 : y0.length ≤ 10 := hsh y0 (by simp)
  have l1 : y1.length ≤ 10 := hsh y1 (by simp)
  have l2 : y2.length ≤ 10 := hsh y2 (by simp)
  have l3 : y3.length ≤ 10 := hsh y3 (by simp)
  have z0 : (Str.empty : Str).length = 0 := rfl
  have z1 : (Str.ofString "back ").length = 5 := by decide +kernel
  have z2 : (Str.ofString " ").length = 1 := by decide +kernel
  refine ⟨_, (pss_one (ps_ret (pe_joined (.cons pe_str (.cons (pe_fmt (pe_fldK K (pv 0))) (.cons pe_str (.cons (pe_fmt (pe_fldK K (pv 0))) (.cons pe_str (.cons (pe_fmt (pe_fldK K (pv 0))) (.cons pe_str (.cons (pe_fmt (pe_fldK K (pv 0))) .nil))))))))))), ?_⟩
  refine ⟨_, rfl, (by rw [sizeLine_eq]; (try simp only [Str.length_append]); omega), _, rfl, a, T.C_Back, dx, _, _, rfl, ha, T.c_Back, T.n_Back_mood, rfl, .inl ⟨_, rfl, (by rw [sizeLine_eq]; (try simp only [Str.length_append]); omega), _, rfl, (by rw [sizeLine_eq]; (try simp only [Str.length_append]); omega), _, rfl, (by rw [sizeLine_eq]; (try simp only [Str.length_append]); omega), _, rfl, a, T.C_Back, dx, _, _, rfl, ha, T.c_Back, T.n_Back_service, rfl, .inl ⟨_, rfl, (by rw [sizeLine_eq]; (try simp only [Str.length_append]); omega), _, rfl, (by rw [sizeLine_eq]; (try simp only [Str.length_append]); omega), _, rfl, (by rw [sizeLine_eq]; (try simp only [Str.length_append]); omega), _, rfl, a, T.C_Back, dx, _, _, rfl, ha, T.c_Back, T.n_Back_sign, rfl, .inl ⟨_, rfl, (by rw [sizeLine_eq]; (try simp only [Str.length_append]); omega), _, rfl, (by rw [sizeLine_eq]; (try simp only [Str.length_append]); omega), _, rfl, (by rw [sizeLine_eq]; (try simp only [Str.length_append]); omega), _, rfl, a, T.C_Back, dx, _, _, rfl, ha, T.c_Back, T.n_Back_then, rfl, .inl ⟨_, rfl, (by rw [sizeLine_eq]; (try simp only [Str.length_append]); omega), _, rfl, (by rw [sizeLine_eq]; (try simp only [Str.length_append]); omega), ?_⟩⟩⟩⟩⟩
  have e : rowTxt "back" [y0, y1, y2, y3] = _ := txt4 "back" y0 y1 y2 y3
  rw [e] at q
  have e2 : (Str.ofString "back ") = "back" ++ " " := by decide +kernel
  rw [e2]
  simp only [Str.empty_append, Str.append_assoc] at q ⊢
  exact q
theorem ok_End_str (T : TxStr w K mg) : FnOk P w K mg base CX0 1 T.f_End_str T.d_End_str P_End_str (spStr T.toTxRows "end") := by
  refine T.F_End_str.ok sc_End_str (fun vs H Q E h => ?_) (fun cdv A outer s H vs Q E hr h => ?_)
  · obtain ⟨a, ws, rfl, _⟩ := h
    rfl
  obtain ⟨a, ws, rfl, R, q⟩ := h
  obtain ⟨⟨dx, ha⟩, hl, hsh, _⟩ := R
  obtain ⟨y0, y1, y2, y3, rfl⟩ : ∃ y0 y1 y2 y3, ws = [y0, y1, y2, y3] := by
    match ws, hl with
    | [y0, y1, y2, y3], _ => exact ⟨y0, y1, y2, y3, rfl⟩
  have l0 : y0.length ≤ 10 := hsh y0 (by simp)
  have l1 : y1.length ≤ 10 := hsh y1 (by simp)
  have l2 : y2.length ≤ 10 := hsh y2 (by simp)
  have l3 : y3.length ≤ 10 := hsh y3 (by simp)
  have z0 : (Str.empty : Str).length = 0 := rfl
  have z1 : (Str.ofString "end ").length = 4 := by decide +kernel
  have z2 : (Str.ofString " ").length = 1 := by decide +kernel
  refine ⟨_, (pss_one (ps_ret (pe_joined (.cons pe_str (.cons (pe_fmt (pe_fldK K (pv 0))) (.cons pe_str (.cons (pe_fmt (pe_fldK K (pv 0))) (.cons pe_str (.cons (pe_fmt (pe_fldK K (pv 0))) (.cons pe_str (.cons (pe_fmt (pe_fldK K (pv 0))) .nil))))))))))), ?_⟩
  refine ⟨_, rfl, (by rw [sizeLine_eq]; (try simp only [Str.length_append]); omega), _, rfl, a, T.C_End, dx, _, _, rfl, ha, T.c_End, T.n_End_mood, rfl, .inl ⟨_, rfl, (by rw [sizeLine_eq]; (try simp only [Str.length_append]); omega), _, rfl, (by rw [sizeLine_eq]; (try simp only [Str.length_append]); omega), _, rfl, (by rw [sizeLine_eq]; (try simp only [Str.length_append]); omega), _, rfl, a, T.C_End, dx, _, _, rfl, ha, T.c_End, T.n_End_outcome, rfl, .inl ⟨_, rfl, (by rw [sizeLine_eq]; (try simp only [Str.length_append]); omega), _, rfl, (by rw [sizeLine_eq]; (try simp only [Str.length_append]); omega), _, rfl, (by rw [sizeLine_eq]; (try simp only [Str.length_append]); omega), _, rfl, a, T.C_End, dx, _, _, rfl, ha, T.c_End, T.n_End_sign, rfl, .inl ⟨_, rfl, (by rw [sizeLine_eq]; (try simp only [Str.length_append]); omega), _, rfl, (by rw [sizeLine_eq]; (try simp only [Str.length_append]); omega), _, rfl, (by rw [sizeLine_eq]; (try simp only [Str.length_append]); omega), _, rfl, a, T.C_End, dx, _, _, rfl, ha, T.c_End, T.n_End_part, rfl, .inl ⟨_, rfl, (by rw [sizeLine_eq]; (try simp only [Str.length_append]); omega), _, rfl, (by rw [sizeLine_eq]; (try simp only [Str.length_append]); omega), ?_⟩⟩⟩⟩⟩
  have e : rowTxt "end" [y0, y1, y2, y3] = _ := txt4 "end" y0 y1 y2 y3
  rw [e] at q
  have e2 : (Str.ofString "end ") = "end" ++ " " := by decide +kernel
  rw [e2]
  simp only [Str.empty_append, Str.append_assoc] at q ⊢
  exact q
theorem str_rows (T : TxStr w K mg) : OwnStr P w K mg base (clsOf T.toTxRows) (· ∈ SORTS) 1 (spStr T.toTxRows) := by
  refine ⟨fun s hs => ?_⟩
  simp only [SORTS, List.mem_cons, List.not_mem_nil, or_false] at hs
  rcases hs with rfl | rfl | rfl | rfl
  · exact ⟨_, _, _, ok_Begin_str T, T.b_Begin_str, T.si_Begin, T.sf_Begin⟩
  · exact ⟨_, _, _, ok_Send_str T, T.b_Send_str, T.si_Send, T.sf_Send⟩
  · exact ⟨_, _, _, ok_Back_str T, T.b_Back_str, T.si_Back, T.sf_Back⟩
  · exact ⟨_, _, _, ok_End_str T, T.b_End_str, T.si_End, T.sf_End⟩
theorem ty_row (T : TxStr w K mg) {s : Str} (hs : s ∈ SORTS) {H : Hp} {a dx : Addr} {fs : List (Str × V)} (h : H a = some (.ins (clsOf T.toTxRows s) dx fs)) : TyX K H (.ref a) (.ref (clsOf T.toTxRows s)) := by
  simp only [SORTS, List.mem_cons, List.not_mem_nil, or_false] at hs
  rcases hs with rfl | rfl | rfl | rfl
  · exact T.ty_Begin _ _ _ _ h
  · exact T.ty_Send _ _ _ _ h
  · exact T.ty_Back _ _ _ _ h
  · exact T.ty_End _ _ _ _ h
theorem kit_row (T : TxStr w K mg) {s s2 : Str} (hs2 : s2 ∈ SORTS) (hs : s ∈ SORTS) : PySem.W.kitOne K (.ref (clsOf T.toTxRows s2)) (.ref (clsOf T.toTxRows s)) = some (decide (s2 = s)) := by
  simp only [SORTS, List.mem_cons, List.not_mem_nil, or_false] at hs hs2
  rcases hs with rfl | rfl | rfl | rfl <;> rcases hs2 with rfl | rfl | rfl | rfl
  · exact T.kk_Begin_Begin
  · exact T.kk_Send_Begin
  · exact T.kk_Back_Begin
  · exact T.kk_End_Begin
  · exact T.kk_Begin_Send
  · exact T.kk_Send_Send
  · exact T.kk_Back_Send
  · exact T.kk_End_Send
  · exact T.kk_Begin_Back
  · exact T.kk_Send_Back
  · exact T.kk_Back_Back
  · exact T.kk_End_Back
  · exact T.kk_Begin_End
  · exact T.kk_Send_End
  · exact T.kk_Back_End
  · exact T.kk_End_End
theorem nf_row (T : TxStr w K mg) {s s2 : Str} (hs2 : s2 ∈ SORTS) (hs : s ∈ SORTS) : PySem.W.notFirst K (clsOf T.toTxRows s) (.ref (clsOf T.toTxRows s2)) = true := by
  simp only [SORTS, List.mem_cons, List.not_mem_nil, or_false] at hs hs2
  rcases hs with rfl | rfl | rfl | rfl <;> rcases hs2 with rfl | rfl | rfl | rfl
  · exact T.nf_Begin_Begin
  · exact T.nf_Begin_Send
  · exact T.nf_Begin_Back
  · exact T.nf_Begin_End
  · exact T.nf_Send_Begin
  · exact T.nf_Send_Send
  · exact T.nf_Send_Back
  · exact T.nf_Send_End
  · exact T.nf_Back_Begin
  · exact T.nf_Back_Send
  · exact T.nf_Back_Back
  · exact T.nf_Back_End
  · exact T.nf_End_Begin
  · exact T.nf_End_Send
  · exact T.nf_End_Back
  · exact T.nf_End_End
theorem ok_Begin_eq (T : TxStr w K mg) : FnOk P w K mg base CX0 4 T.f_Begin_eq T.d_Begin_eq P_Begin_eq (spEq T.toTxRows "begin") := by
  have G_str := str_rows (P := P) (w := w) (base := base) T
  refine T.F_Begin_eq.ok sc_Begin_eq (fun vs H Q E h => ?_) (fun cdv A outer s H vs Q E hr h => ?_)
  · obtain ⟨a, ws, y, rfl, _⟩ := h
    rfl
  obtain ⟨a, ws, y, rfl, R, h⟩ := h
  refine ⟨_, (pss_one (ps_ret (pe_and (pe_callB (call_isiV K) (by rfl) T.z_isinstance (by decide +kernel) (pa_cons (pv 1) (pa_cons (pe_glob (v := .ref T.C_Begin) (by rfl) T.m_Begin rfl) pa_nil))) (pe_one (pe_cmpR op_eq (pe_callTy (call_strO K G_str (hr.mono (by decide))) (by rfl) T.z_str (by decide +kernel) (pa_cons (pv 0) pa_nil)) (pe_callTy (call_strO K G_str (hr.mono (by decide))) (by rfl) T.z_str (by decide +kernel) (pa_cons (pv 1) pa_nil)) (nomark _)))))), ?_⟩
  rcases h with ⟨b, s2, ws2, rfl, R2, q⟩ | ⟨t, ty, kf, q⟩
  · obtain ⟨⟨dx, ha⟩, hl, hsh, hs1⟩ := id R
    obtain ⟨⟨dx2, hb⟩, hl2, hsh2, hs2⟩ := id R2
    refine ⟨_, rfl, .ref b, .ref T.C_Begin, .ref (clsOf T.toTxRows s2), _, decide (s2 = "begin"), rfl, .own _, ty_row T hs2 hb, kit_row T (s := "begin") hs2 hs1, _, rfl, ?_⟩
    refine ite2 (fun c => ?_) (fun c => ?_)
    · have e2 : s2 = "begin" := of_decide_eq_true c
      subst e2
      refine ⟨_, rfl, a, "begin", dx, _, rfl, hs1, ha, a, ws, rfl, R, _, rfl, _, rfl, b, "begin", dx2, _, rfl, hs2, hb, b, ws2, rfl, R2, _, rfl, rfl, ?_⟩
      rw [dec_str]
      have r := q
      rw [decide_eq_true (rfl : ("begin" : Str) = "begin"), Bool.true_and] at r
      exact r
    · have r := q
      rw [decide_eq_false (fun z => c (decide_eq_true z.symm)), Bool.false_and] at r
      exact r
  · refine ⟨_, rfl, y, .ref T.C_Begin, t, _, false, rfl, .own _, ty, kf, _, rfl, ?_⟩
    exact q
theorem ok_Send_eq (T : TxStr w K mg) : FnOk P w K mg base CX0 4 T.f_Send_eq T.d_Send_eq P_Send_eq (spEq T.toTxRows "send") := by
  have G_str := str_rows (P := P) (w := w) (base := base) T
  refine T.F_Send_eq.ok sc_Send_eq (fun vs H Q E h => ?_) (fun cdv A outer s H vs Q E hr h => ?_)
  · obtain ⟨a, ws, y, rfl, _⟩ := h
    rfl
  obtain ⟨a, ws, y, rfl, R, h⟩ := h
  refine ⟨_, (pss_one (ps_ret (pe_and (pe_callB (call_isiV K) (by rfl) T.z_isinstance (by decide +kernel) (pa_cons (pv 1) (pa_cons (pe_glob (v := .ref T.C_Send) (by rfl) T.m_Send rfl) pa_nil))) (pe_one (pe_cmpR op_eq (pe_callTy (call_strO K G_str (hr.mono (by decide))) (by rfl) T.z_str (by decide +kernel) (pa_cons (pv 0) pa_nil)) (pe_callTy (call_strO K G_str (hr.mono (by decide))) (by rfl) T.z_str (by decide +kernel) (pa_cons (pv 1) pa_nil)) (nomark _)))))), ?_⟩
  rcases h with ⟨b, s2, ws2, rfl, R2, q⟩ | ⟨t, ty, kf, q⟩
  · obtain ⟨⟨dx, ha⟩, hl, hsh, hs1⟩ := id R
    obtain ⟨⟨dx2, hb⟩, hl2, hsh2, hs2⟩ := id R2
    refine ⟨_, rfl, .ref b, .ref T.C_Send, .ref (clsOf T.toTxRows s2), _, decide (s2 = "send"), rfl, .own _, ty_row T hs2 hb, kit_row T (s := "send") hs2 hs1, _, rfl, ?_⟩
    refine ite2 (fun c => ?_) (fun c => ?_)
    · have e2 : s2 = "send" := of_decide_eq_true c
      subst e2
      refine ⟨_, rfl, a, "send", dx, _, rfl, hs1, ha, a, ws, rfl, R, _, rfl, _, rfl, b, "send", dx2, _, rfl, hs2, hb, b, ws2, rfl, R2, _, rfl, rfl, ?_⟩
      rw [dec_str]
      have r := q
      rw [decide_eq_true (rfl : ("send" : Str) = "send"), Bool.true_and] at r
      exact r
    · have r := q
      rw [decide_eq_false (fun z => c (decide_eq_true z.symm)), Bool.false_and] at r
      exact r
  · refine ⟨_, rfl, y, .ref T.C_Send, t, _, false, rfl, .own _, ty, kf, _, rfl, ?_⟩
    exact q
theorem ok_Back_eq (T : TxStr w K mg) : FnOk P w K mg base CX0 4 T.f_Back_eq T.d_Back_eq P_Back_eq (spEq T.toTxRows "back") := by
  have G_str := str_rows (P := P) (w := w) (base := base) T
  refine T.F_Back_eq.ok sc_Back_eq (fun vs H Q E h => ?_) (fun cdv A outer s H vs Q E hr h => ?_)
  · obtain ⟨a, ws, y, rfl, _⟩ := h
    rfl
  obtain ⟨a, ws, y, rfl, R, h⟩ := h
  refine ⟨_, (pss_one (ps_ret (pe_and (pe_callB (call_isiV K) (by rfl) T.z_isinstance (by decide +kernel) (pa_cons (pv 1) (pa_cons (pe_glob (v := .ref T.C_Back) (by rfl) T.m_Back rfl) pa_nil))) (pe_one (pe_cmpR op_eq (pe_callTy (call_strO K G_str (hr.mono (by decide))) (by rfl) T.z_str (by decide +kernel) (pa_cons (pv 0) pa_nil)) (pe_callTy (call_strO K G_str (hr.mono (by decide))) (by rfl) T.z_str (by decide +kernel) (pa_cons (pv 1) pa_nil)) (nomark _)))))), ?_⟩
  rcases h with ⟨b, s2, ws2, rfl, R2, q⟩ | ⟨t, ty, kf, q⟩
  · obtain ⟨⟨dx, ha⟩, hl, hsh, hs1⟩ := id R
    obtain ⟨⟨dx2, hb⟩, hl2, hsh2, hs2⟩ := id R2
    refine ⟨_, rfl, .ref b, .ref T.C_Back, .ref (clsOf T.toTxRows s2), _, decide (s2 = "back"), rfl, .own _, ty_row T hs2 hb, kit_row T (s := "back") hs2 hs1, _, rfl, ?_⟩
    refine ite2 (fun c => ?_) (fun c => ?_)
    · have e2 : s2 = "back" := of_decide_eq_true c
      subst e2
      refine ⟨_, rfl, a, "back", dx, _, rfl, hs1, ha, a, ws, rfl, R, _, rfl, _, rfl, b, "back", dx2, _, rfl, hs2, hb, b, ws2, rfl, R2, _, rfl, rfl, ?_⟩
      rw [dec_str]
      have r := q
      rw [decide_eq_true (rfl : ("back" : Str) = "back"), Bool.true_and] at r
      exact r
    · have r := q
      rw [decide_eq_false (fun z => c (decide_eq_true z.symm)), Bool.false_and] at r
      exact r
  · refine ⟨_, rfl, y, .ref T.C_Back, t, _, false, rfl, .own _, ty, kf, _, rfl, ?_⟩
    exact q
theorem ok_End_eq (T : TxStr w K mg) : FnOk P w K mg base CX0 4 T.f_End_eq T.d_End_eq P_End_eq (spEq T.toTxRows "end") := by
  have G_str := str_rows (P := P) (w := w) (base := base) T
  refine T.F_End_eq.ok sc_End_eq (fun vs H Q E h => ?_) (fun cdv A outer s H vs Q E hr h => ?_)
  · obtain ⟨a, ws, y, rfl, _⟩ := h
    rfl
  obtain ⟨a, ws, y, rfl, R, h⟩ := h
  refine ⟨_, (pss_one (ps_ret (pe_and (pe_callB (call_isiV K) (by rfl) T.z_isinstance (by decide +kernel) (pa_cons (pv 1) (pa_cons (pe_glob (v := .ref T.C_End) (by rfl) T.m_End rfl) pa_nil))) (pe_one (pe_cmpR op_eq (pe_callTy (call_strO K G_str (hr.mono (by decide))) (by rfl) T.z_str (by decide +kernel) (pa_cons (pv 0) pa_nil)) (pe_callTy (call_strO K G_str (hr.mono (by decide))) (by rfl) T.z_str (by decide +kernel) (pa_cons (pv 1) pa_nil)) (nomark _)))))), ?_⟩
  rcases h with ⟨b, s2, ws2, rfl, R2, q⟩ | ⟨t, ty, kf, q⟩
  · obtain ⟨⟨dx, ha⟩, hl, hsh, hs1⟩ := id R
    obtain ⟨⟨dx2, hb⟩, hl2, hsh2, hs2⟩ := id R2
    refine ⟨_, rfl, .ref b, .ref T.C_End, .ref (clsOf T.toTxRows s2), _, decide (s2 = "end"), rfl, .own _, ty_row T hs2 hb, kit_row T (s := "end") hs2 hs1, _, rfl, ?_⟩
    refine ite2 (fun c => ?_) (fun c => ?_)
    · have e2 : s2 = "end" := of_decide_eq_true c
      subst e2
      refine ⟨_, rfl, a, "end", dx, _, rfl, hs1, ha, a, ws, rfl, R, _, rfl, _, rfl, b, "end", dx2, _, rfl, hs2, hb, b, ws2, rfl, R2, _, rfl, rfl, ?_⟩
      rw [dec_str]
      have r := q
      rw [decide_eq_true (rfl : ("end" : Str) = "end"), Bool.true_and] at r
      exact r
    · have r := q
      rw [decide_eq_false (fun z => c (decide_eq_true z.symm)), Bool.false_and] at r
      exact r
  · refine ⟨_, rfl, y, .ref T.C_End, t, _, false, rfl, .own _, ty, kf, _, rfl, ?_⟩
    exact q
theorem eq_rows (T : TxStr w K mg) : OwnEqs P w K mg base (clsOf T.toTxRows) (· ∈ SORTS) 4 (spEq T.toTxRows) := by
  refine ⟨fun s hs => ?_⟩
  simp only [SORTS, List.mem_cons, List.not_mem_nil, or_false] at hs
  rcases hs with rfl | rfl | rfl | rfl
  · exact ⟨_, _, _, ok_Begin_eq T, T.b_Begin_eq, T.ei_Begin, T.ef_Begin, T.en_Begin, T.eo_Begin⟩
  · exact ⟨_, _, _, ok_Send_eq T, T.b_Send_eq, T.ei_Send, T.ef_Send, T.en_Send, T.eo_Send⟩
  · exact ⟨_, _, _, ok_Back_eq T, T.b_Back_eq, T.ei_Back, T.ef_Back, T.en_Back, T.eo_Back⟩
  · exact ⟨_, _, _, ok_End_eq T, T.b_End_eq, T.ei_End, T.ef_End, T.en_End, T.eo_End⟩
end
end My

/-! ## Services made: words ascending, rows, the arguments kept -/
namespace My
open PySem PySem.Spec PyProof.Rows L2
abbrev s_ascending : Stmt := top 38
abbrev N_ascending : List Str := ["words", "word"]
abbrev P_ascending : List Str := ["words"]
theorem sc_ascending : FnScope N_ascending P_ascending (defScope s_ascending) := ⟨rfl, rfl, rfl, by decide +kernel, rfl, by decide +kernel, by decide +kernel⟩
abbrev s_are_rows : Stmt := top 39
abbrev N_are_rows : List Str := ["value", "row"]
abbrev P_are_rows : List Str := ["value"]
theorem sc_are_rows : FnScope N_are_rows P_are_rows (defScope s_are_rows) := ⟨rfl, rfl, rfl, by decide +kernel, rfl, by decide +kernel, by decide +kernel⟩
abbrev s_own_bits : Stmt := top 36
abbrev N_own_bits : List Str := ["bad", "kept"]
abbrev P_own_bits : List Str := ["bad", "kept"]
theorem sc_own_bits : FnScope N_own_bits P_own_bits (defScope s_own_bits) := ⟨rfl, rfl, rfl, by decide +kernel, rfl, by decide +kernel, by decide +kernel⟩
abbrev s_end_in : Stmt := top 43
abbrev N_end_in : List Str := ["ends", "mood", "bad", "outcome", "in_mood", "for_outcome", "sign", "part"]
abbrev P_end_in : List Str := ["ends", "mood", "bad"]
theorem sc_end_in : FnScope N_end_in P_end_in (defScope s_end_in) := ⟨rfl, rfl, rfl, by decide +kernel, rfl, by decide +kernel, by decide +kernel⟩
abbrev s_endings_in : Stmt := top 44
abbrev N_endings_in : List Str := ["ends", "mood", "found", "bad", "sign", "kept", "own", "near"]
abbrev P_endings_in : List Str := ["ends", "mood"]
theorem sc_endings_in : FnScope N_endings_in P_endings_in (defScope s_endings_in) := ⟨rfl, rfl, rfl, by decide +kernel, rfl, by decide +kernel, by decide +kernel⟩
abbrev s_InvalidService_init : Stmt := inClass (top 10) 0
abbrev N_InvalidService_init : List Str := ["self", "word"]
abbrev P_InvalidService_init : List Str := ["self", "word"]
theorem sc_InvalidService_init : FnScope N_InvalidService_init P_InvalidService_init (defScope s_InvalidService_init) := ⟨rfl, rfl, rfl, by decide +kernel, rfl, by decide +kernel, by decide +kernel⟩
abbrev s_Service_init : Stmt := inClass (top 45) 0
abbrev N_Service_init : List Str := ["self", "name", "kinds", "waits", "leaves", "rows", "led_to", "row", "mood"]
abbrev P_Service_init : List Str := ["self", "name", "kinds", "waits", "leaves", "rows"]
theorem sc_Service_init : FnScope N_Service_init P_Service_init (defScope s_Service_init) := ⟨rfl, rfl, rfl, by decide +kernel, rfl, by decide +kernel, by decide +kernel⟩
structure TxSvc (w : World) (K : PySem.W.Frag) (mg : Str → Option Value) extends TxSeq w K mg, TxRows w K mg where
  z_sorted : mg "sorted" = none
  f_ascending : Addr
  d_ascending : FuncData
  F_ascending : Fun K "ascending" "ascending" s_ascending f_ascending d_ascending
  m_ascending : mg "ascending" = some (.ref f_ascending)
  b_ascending : Binds K d_ascending P_ascending []
  f_are_rows : Addr
  d_are_rows : FuncData
  F_are_rows : Fun K "are_rows" "are_rows" s_are_rows f_are_rows d_are_rows
  m_are_rows : mg "are_rows" = some (.ref f_are_rows)
  b_are_rows : Binds K d_are_rows P_are_rows []
  C_Row : Addr
  m_Row : mg "Row" = some (.ref C_Row)
  ty_Begin : ∀ (H : Hp) (a dx : Addr) (fs : List (Str × V)), H a = some (.ins C_Begin dx fs) → TyX K H (.ref a) (.ref C_Begin)
  ty_Send : ∀ (H : Hp) (a dx : Addr) (fs : List (Str × V)), H a = some (.ins C_Send dx fs) → TyX K H (.ref a) (.ref C_Send)
  ty_Back : ∀ (H : Hp) (a dx : Addr) (fs : List (Str × V)), H a = some (.ins C_Back dx fs) → TyX K H (.ref a) (.ref C_Back)
  ty_End : ∀ (H : Hp) (a dx : Addr) (fs : List (Str × V)), H a = some (.ins C_End dx fs) → TyX K H (.ref a) (.ref C_End)
  kr_Begin : PySem.W.kitOne K (.ref C_Begin) (.ref C_Row) = some true
  kr_Send : PySem.W.kitOne K (.ref C_Send) (.ref C_Row) = some true
  kr_Back : PySem.W.kitOne K (.ref C_Back) (.ref C_Row) = some true
  kr_End : PySem.W.kitOne K (.ref C_End) (.ref C_Row) = some true
  kk_Begin_Begin : PySem.W.kitOne K (.ref C_Begin) (.ref C_Begin) = some true
  kk_Begin_Send : PySem.W.kitOne K (.ref C_Begin) (.ref C_Send) = some false
  kk_Begin_Back : PySem.W.kitOne K (.ref C_Begin) (.ref C_Back) = some false
  kk_Begin_End : PySem.W.kitOne K (.ref C_Begin) (.ref C_End) = some false
  kk_Send_Begin : PySem.W.kitOne K (.ref C_Send) (.ref C_Begin) = some false
  kk_Send_Send : PySem.W.kitOne K (.ref C_Send) (.ref C_Send) = some true
  kk_Send_Back : PySem.W.kitOne K (.ref C_Send) (.ref C_Back) = some false
  kk_Send_End : PySem.W.kitOne K (.ref C_Send) (.ref C_End) = some false
  kk_Back_Begin : PySem.W.kitOne K (.ref C_Back) (.ref C_Begin) = some false
  kk_Back_Send : PySem.W.kitOne K (.ref C_Back) (.ref C_Send) = some false
  kk_Back_Back : PySem.W.kitOne K (.ref C_Back) (.ref C_Back) = some true
  kk_Back_End : PySem.W.kitOne K (.ref C_Back) (.ref C_End) = some false
  kk_End_Begin : PySem.W.kitOne K (.ref C_End) (.ref C_Begin) = some false
  kk_End_Send : PySem.W.kitOne K (.ref C_End) (.ref C_Send) = some false
  kk_End_Back : PySem.W.kitOne K (.ref C_End) (.ref C_Back) = some false
  kk_End_End : PySem.W.kitOne K (.ref C_End) (.ref C_End) = some true
  C_InvalidService : Addr
  m_InvalidService : mg "InvalidService" = some (.ref C_InvalidService)
  oxSvc : OexC K C_InvalidService
  nwSvc : PySem.W.findIn K (.ref C_InvalidService) "word" = some none
  f_InvalidService_init : Addr
  d_InvalidService_init : FuncData
  iSvc : PySem.W.findIn K (.ref C_InvalidService) "__init__" = some (some (.ref f_InvalidService_init))
  tSvc : PySem.W.typeIn K (.ref f_InvalidService_init) = some (.type "function")
  F_InvalidService_init : Fun K "__init__" "InvalidService.__init__" s_InvalidService_init f_InvalidService_init d_InvalidService_init
  b_InvalidService_init : Binds K d_InvalidService_init P_InvalidService_init []
  C_Service : Addr
  m_Service : mg "Service" = some (.ref C_Service)
  c_Service : Cls K C_Service
  f_Service_init : Addr
  d_Service_init : FuncData
  mk_Service : Mk K C_Service f_Service_init
  e_waits : Addr
  e_leaves : Addr
  e_rows : Addr
  t_waits : ∀ H : Hp, SqT K H e_waits []
  t_leaves : ∀ H : Hp, SqT K H e_leaves []
  t_rows : ∀ H : Hp, SqT K H e_rows []
  F_Service_init : FunD K "__init__" "Service.__init__" (defArgs s_Service_init) (defBody s_Service_init) (defScope s_Service_init) [.ref e_waits, .ref e_leaves, .ref e_rows] [] f_Service_init d_Service_init
  n_Service_name : NoAttr K C_Service "name"
  n_Service_kinds : NoAttr K C_Service "kinds"
  n_Service_waits : NoAttr K C_Service "waits"
  n_Service_leaves : NoAttr K C_Service "leaves"
  n_Service_rows : NoAttr K C_Service "rows"
  n_Service_moods : NoAttr K C_Service "moods"
  n_Service__begins : NoAttr K C_Service "_begins"
  n_Service__sends : NoAttr K C_Service "_sends"
  n_Service__backs : NoAttr K C_Service "_backs"
  n_Service__ends : NoAttr K C_Service "_ends"
  n_Service_endings : NoAttr K C_Service "endings"
  tk_BAD : Tok
  m_BAD : mg "BAD" = some (.int 1 tk_BAD)
  tk_DROPPED : Tok
  m_DROPPED : mg "DROPPED" = some (.int 2 tk_DROPPED)
  tk_KEPT : Tok
  m_KEPT : mg "KEPT" = some (.int 4 tk_KEPT)
  tk_LOST : Tok
  m_LOST : mg "LOST" = some (.int 16 tk_LOST)
  tk_NEAR : Tok
  m_NEAR : mg "NEAR" = some (.int 32 tk_NEAR)
  tk_HIDDEN : Tok
  m_HIDDEN : mg "HIDDEN" = some (.int 64 tk_HIDDEN)
  f_own_bits : Addr
  d_own_bits : FuncData
  F_own_bits : Fun K "own_bits" "own_bits" s_own_bits f_own_bits d_own_bits
  m_own_bits : mg "own_bits" = some (.ref f_own_bits)
  b_own_bits : Binds K d_own_bits P_own_bits []
  f_end_in : Addr
  d_end_in : FuncData
  F_end_in : Fun K "end_in" "end_in" s_end_in f_end_in d_end_in
  m_end_in : mg "end_in" = some (.ref f_end_in)
  b_end_in : Binds K d_end_in P_end_in []
  f_endings_in : Addr
  d_endings_in : FuncData
  F_endings_in : Fun K "endings_in" "endings_in" s_endings_in f_endings_in d_endings_in
  m_endings_in : mg "endings_in" = some (.ref f_endings_in)
  b_endings_in : Binds K d_endings_in P_endings_in []
/-- words that stand for others -/
def ODDW2 : List Str := ["any", "same"]
def spAsc (K : PySem.W.Frag) : Sp := fun vs H Q _ => ∃ (a : Addr) (l : List Str), vs = [.ref a] ∧ SqA K H a (l.map V.str) ∧ l.length ≤ 60 ∧
  ∀ (ys : List Str) (p : Addr) (H' : Hp), Same H H' → H p = none → H' p = some (.tup (ys.map V.str)) → ys.Nodup → sortedS ys = true → (∀ y, y ∈ ys ↔ y ∈ l ∧ ODDW2.contains y = false) → Q (.ref p) H'
/-- a row at v: its sort, its words -/
inductive RwAt {w : World} {K : PySem.W.Frag} {mg : Str → Option Value} (T : TxSvc w K mg) (H : Hp) : V → Str × List Str → Prop
  | beg {a dx : Addr} {x y z : Str} (ha : H a = some (.ins T.C_Begin dx [("mark", .str x), ("kind", .str y), ("mood", .str z)])) : RwAt T H (.ref a) ("begin", [x, y, z])
  | snd {a dx : Addr} {x y z : Str} (ha : H a = some (.ins T.C_Send dx [("mood", .str x), ("service", .str y), ("mark", .str z)])) : RwAt T H (.ref a) ("send", [x, y, z])
  | bck {a dx : Addr} {x y z t : Str} (ha : H a = some (.ins T.C_Back dx [("mood", .str x), ("service", .str y), ("sign", .str z), ("then", .str t)])) : RwAt T H (.ref a) ("back", [x, y, z, t])
  | end_ {a dx : Addr} {x y z t : Str} (ha : H a = some (.ins T.C_End dx [("mood", .str x), ("outcome", .str y), ("sign", .str z), ("part", .str t)])) : RwAt T H (.ref a) ("end", [x, y, z, t])
theorem RwAt.keepF {w : World} {K : PySem.W.Frag} {mg : Str → Option Value} {T : TxSvc w K mg} {H H' : Hp} {v : V} {r : Str × List Str} (h : RwAt T H v r) (k : ∀ a C dx f fs, H a = some (.ins C dx (f :: fs)) → H' a = some (.ins C dx (f :: fs))) : RwAt T H' v r := by
  cases h with
  | beg ha => exact .beg (k _ _ _ _ _ ha)
  | snd ha => exact .snd (k _ _ _ _ _ ha)
  | bck ha => exact .bck (k _ _ _ _ _ ha)
  | end_ ha => exact .end_ (k _ _ _ _ _ ha)
theorem RwAt.same {w : World} {K : PySem.W.Frag} {mg : Str → Option Value} {T : TxSvc w K mg} {H H' : Hp} {v : V} {r : Str × List Str} (h : RwAt T H v r) (e : Same H H') : RwAt T H' v r := h.keepF fun a _ _ _ _ q => e a _ q
theorem RwAt.keep {w : World} {K : PySem.W.Frag} {mg : Str → Option Value} {T : TxSvc w K mg} {H H' : Hp} {v : V} {r : Str × List Str} (h : RwAt T H v r) (k : ∀ a C dx fs, H a = some (.ins C dx fs) → H' a = some (.ins C dx fs)) : RwAt T H' v r := h.keepF fun a C dx f fs => k a C dx (f :: fs)
/-- a row of these words at v -/
def RowIs {w : World} {K : PySem.W.Frag} {mg : Str → Option Value} (T : TxSvc w K mg) (H : Hp) (v : V) (r : Str × List Str) : Prop := ∃ (p dx : Addr), v = .ref p ∧ H p = some (.ins (clsOf T.toTxRows r.1) dx ((fnOf r.1).zip (r.2.map V.str)))
theorem RwAt.is {w : World} {K : PySem.W.Frag} {mg : Str → Option Value} {T : TxSvc w K mg} {H : Hp} {v : V} {r : Str × List Str} (h : RwAt T H v r) : RowIs T H v r := by
  cases h with
  | beg ha => exact ⟨_, _, rfl, ha⟩
  | snd ha => exact ⟨_, _, rfl, ha⟩
  | bck ha => exact ⟨_, _, rfl, ha⟩
  | end_ ha => exact ⟨_, _, rfl, ha⟩
theorem rw_is {w : World} {K : PySem.W.Frag} {mg : Str → Option Value} (T : TxSvc w K mg) {so : Str} (hso : so ∈ SORTS) {ws : List Str} (hl : ws.length = (fnOf so).length) {H : Hp} {p dx : Addr} (h : H p = some (.ins (clsOf T.toTxRows so) dx ((fnOf so).zip (ws.map V.str)))) : RwAt T H (.ref p) (so, ws) := by
  simp only [SORTS, List.mem_cons, List.not_mem_nil, or_false] at hso
  rcases hso with rfl | rfl | rfl | rfl
  · rw [show clsOf T.toTxRows "begin" = T.C_Begin by unfold clsOf; rw [if_pos rfl]] at h
    match ws, hl with
    | [x, y, z], _ => exact .beg h
  · rw [show clsOf T.toTxRows "send" = T.C_Send by unfold clsOf; rw [if_neg (by decide), if_pos rfl]] at h
    match ws, hl with
    | [x, y, z], _ => exact .snd h
  · rw [show clsOf T.toTxRows "back" = T.C_Back by unfold clsOf; rw [if_neg (by decide), if_neg (by decide), if_pos rfl]] at h
    match ws, hl with
    | [x, y, z, t], _ => exact .bck h
  · rw [show clsOf T.toTxRows "end" = T.C_End by unfold clsOf; rw [if_neg (by decide), if_neg (by decide), if_neg (by decide)]] at h
    match ws, hl with
    | [x, y, z, t], _ => exact .end_ h
theorem RwAt.not_bare {w : World} {K : PySem.W.Frag} {mg : Str → Option Value} {T : TxSvc w K mg} {H : Hp} {x C dx : Addr} {m : Str × List Str} (h : RwAt T H (.ref x) m) (hx : H x = some (.ins C dx [])) : False := by
  cases h with
  | beg ha => rw [hx] at ha; cases ha
  | snd ha => rw [hx] at ha; cases ha
  | bck ha => rw [hx] at ha; cases ha
  | end_ ha => rw [hx] at ha; cases ha
/-- all but what stands at p stays -/
def Kp (p : Addr) (H H' : Hp) : Prop := ∀ b u, b ≠ p → H b = some u → H' b = some u
theorem Kp.refl {p : Addr} {H : Hp} : Kp p H H := fun _ _ _ e => e
theorem Kp.same {p : Addr} {H H1 H2 : Hp} (k : Kp p H H1) (e : Same H1 H2) : Kp p H H2 := fun b u n z => e _ _ (k b u n z)
theorem Kp.put {p : Addr} {H H1 : Hp} (k : Kp p H H1) (o : HO) : Kp p H (upd H1 p o) := fun b u n z => by rw [upd_ne n]; exact k b u n z
theorem Kp.trans {p : Addr} {H H1 H2 : Hp} (x : Kp p H H1) (y : Kp p H1 H2) : Kp p H H2 := fun b u n z => y b u n (x b u n z)
theorem ins_ne {p b : Addr} {H : Hp} {C dx : Addr} {fs : List (Str × V)} {o : HO} (hp : H p = some (.ins C dx fs)) (hb : H b = some o) (n : ∀ C dx fs, o ≠ .ins C dx fs) : b ≠ p := fun e => by
  rw [e, hp] at hb
  exact n _ _ _ (Option.some.inj hb).symm
theorem SqA.kp {K : PySem.W.Frag} {p a : Addr} {H H' : Hp} {C dx : Addr} {fs : List (Str × V)} {xs : List V} (h : SqA K H a xs) (hp : H p = some (.ins C dx fs)) (k : Kp p H H') : SqA K H' a xs := by
  rcases h with ((h | ⟨o, h⟩) | h) | ((h | ⟨o, h⟩) | h)
  · exact .inl (.inl (.inl (k _ _ (ins_ne hp h (fun _ _ _ z => by cases z)) h)))
  · exact .inl (.inl (.inr ⟨o, k _ _ (ins_ne hp h (fun _ _ _ z => by cases z)) h⟩))
  · exact .inl (.inr h)
  · exact .inr (.inl (.inl (k _ _ (ins_ne hp h (fun _ _ _ z => by cases z)) h)))
  · exact .inr (.inl (.inr ⟨o, k _ _ (ins_ne hp h (fun _ _ _ z => by cases z)) h⟩))
  · exact .inr (.inr h)
theorem sqT_kp {K : PySem.W.Frag} {p a : Addr} {H H' : Hp} {C dx : Addr} {fs : List (Str × V)} {xs : List V} (h : SqT K H a xs) (hp : H p = some (.ins C dx fs)) (k : Kp p H H') : SqT K H' a xs := by
  rcases h with (h | ⟨o, h⟩) | h
  · exact .inl (.inl (k _ _ (ins_ne hp h (fun _ _ _ z => by cases z)) h))
  · exact .inl (.inr ⟨o, k _ _ (ins_ne hp h (fun _ _ _ z => by cases z)) h⟩)
  · exact .inr h
/-- a row is no service that is being made -/
theorem RwAt.kp {w : World} {K : PySem.W.Frag} {mg : Str → Option Value} {T : TxSvc w K mg} {H H' : Hp} {p C dx : Addr} {v : V} {r : Str × List Str} (h : RwAt T H v r) (hp : H p = some (.ins C dx [])) (k : Kp p H H') : RwAt T H' v r := h.keepF fun a _ _ _ _ q => k a _ (fun z => by
  rw [z, hp] at q
  cases q) q
/-- a tuple of words at v; a list of such at p -/
def TupAt (H : Hp) (v : V) (ws : List Str) : Prop := ∃ a, v = .ref a ∧ H a = some (.tup (ws.map V.str))
structure TupsAt (H : Hp) (p : Addr) (wss : List (List Str)) : Prop where
  ex : ∃ vs, H p = some (.lst vs) ∧ Paired (TupAt H) vs wss
theorem TupAt.same {H H' : Hp} {v : V} {ws : List Str} (h : TupAt H v ws) (e : Same H H') : TupAt H' v ws := by
  obtain ⟨a, h1, h2⟩ := h
  exact ⟨a, h1, e _ _ h2⟩
theorem TupsAt.same {H H' : Hp} {p : Addr} {wss : List (List Str)} (h : TupsAt H p wss) (e : Same H H') : TupsAt H' p wss := by
  obtain ⟨vs, h1, h2⟩ := h.ex
  exact ⟨vs, e _ _ h1, paired_imp (fun _ _ z => z.same e) h2⟩
theorem TupsAt.kp {H H' : Hp} {p q C dx : Addr} {fs : List (Str × V)} {wss : List (List Str)} (h : TupsAt H p wss) (hq : H q = some (.ins C dx fs)) (k : Kp q H H') : TupsAt H' p wss := by
  obtain ⟨vs, h1, h2⟩ := h.ex
  refine ⟨vs, k _ _ (ins_ne hq h1 (fun _ _ _ z => by cases z)) h1, paired_imp (fun _ _ z => ?_) h2⟩
  obtain ⟨a, e1, e2⟩ := z
  exact ⟨a, e1, k _ _ (ins_ne hq e2 (fun _ _ _ z => by cases z)) e2⟩
/-- one more -/
theorem TupsAt.more {H : Hp} {p t : Addr} {wss : List (List Str)} {ws : List Str} (h : TupsAt H p wss) (ht : H t = none) : ∃ vs, upd H t (.tup (ws.map V.str)) p = some (.lst vs) ∧ vs.length = wss.length ∧ TupsAt (upd (upd H t (.tup (ws.map V.str))) p (.lst (vs ++ [.ref t]))) p (wss ++ [ws]) := by
  obtain ⟨vs, h1, h2⟩ := h.ex
  have np : p ≠ t := ne_of_none h1 ht
  refine ⟨vs, by rw [upd_ne np]; exact h1, paired_len h2, vs ++ [.ref t], upd_same, paired_snoc (paired_imp (fun _ _ z => ?_) h2) ⟨t, rfl, by rw [upd_ne np.symm, upd_same]⟩⟩
  obtain ⟨a, e1, e2⟩ := z
  exact ⟨a, e1, by rw [upd_ne (fun z => by rw [z, h1] at e2; cases e2), upd_ne (ne_of_none e2 ht)]; exact e2⟩
/-- the words of the rows of a sort -/
def wordsOf (s : Str) (rs : List (Str × List Str)) : List (List Str) := (rs.filter fun r => decide (r.1 = s)).map (·.2)
theorem wordsOf_len (s : Str) (rs : List (Str × List Str)) : (wordsOf s rs).length ≤ rs.length := by
  unfold wordsOf
  rw [List.length_map]
  exact List.length_filter_le _ _
theorem wordsOf_yes {s : Str} {rs : List (Str × List Str)} {i : Nat} {ws : List Str} (h : rs[i]? = some (s, ws)) : wordsOf s (rs.take (i + 1)) = wordsOf s (rs.take i) ++ [ws] := by
  unfold wordsOf
  rw [List.take_add_one, h, Option.toList_some, List.filter_append, List.map_append, List.filter_cons_of_pos (by simp)]
  rfl
theorem wordsOf_no {s s' : Str} {rs : List (Str × List Str)} {i : Nat} {ws : List Str} (h : rs[i]? = some (s', ws)) (n : s' ≠ s) : wordsOf s (rs.take (i + 1)) = wordsOf s (rs.take i) := by
  unfold wordsOf
  rw [List.take_add_one, h, Option.toList_some, List.filter_append, List.map_append, List.filter_cons_of_neg (by simpa using n)]
  simp
theorem tuple_of {K : PySem.W.Frag} {H : Hp} {a : Addr} {xs : List V} {Q : VK} (h : SqA K H a xs) (q : ∀ t H', Same H H' → SqT K H' t xs → Q (.ref t) H') : rTupO K [.ref a] H Q := by
  rcases h with h | h
  · exact ⟨a, xs, rfl, .inl ⟨h, fun l hl => q l _ (same_upd hl _) (SqT.of upd_same)⟩⟩
  · exact ⟨a, xs, rfl, .inr ⟨h, q a H (Same.refl H) h⟩⟩
/-- what are_rows answers -/
inductive RowsV (K : PySem.W.Frag) (CR : Addr) (H : Hp) : V → Bool → Prop where
  | no {v : V} (h : SeqV K H v false) : RowsV K CR H v false
  | seq {a : Addr} {xs : List V} {bs : List Bool} (h : SqA K H a xs) (e : Paired (fun x b => ∃ t, TyX K H x t ∧ PySem.W.kitOne K t (.ref CR) = some b) xs bs) (n : xs.length ≤ 900) : RowsV K CR H (.ref a) (bs.all id)
theorem RowsV.same {K : PySem.W.Frag} {CR : Addr} {H H' : Hp} {v : V} {b : Bool} (h : RowsV K CR H v b) (s : Same H H') : RowsV K CR H' v b := by
  have mono : ∀ {xs : List V} {bs : List Bool}, Paired (fun x b => ∃ t, TyX K H x t ∧ PySem.W.kitOne K t (.ref CR) = some b) xs bs → Paired (fun x b => ∃ t, TyX K H' x t ∧ PySem.W.kitOne K t (.ref CR) = some b) xs bs := by
    intro xs bs p
    induction p with
    | nil => exact .nil
    | cons r _ ih =>
      obtain ⟨t, ty, k⟩ := r
      exact .cons ⟨t, tyx_keep s ty, k⟩ ih
  cases h with
  | no h => exact .no (h.same s)
  | seq h e n => exact .seq (h.same s) (mono e) n
def spAreRows {w : World} {K : PySem.W.Frag} {mg : Str → Option Value} (T : TxSvc w K mg) : Sp := fun vs H Q _ => ∃ (v : V) (b : Bool), vs = [v] ∧ RowsV K T.C_Row H v b ∧ ∀ H', Same H H' → Q (.bl b) H'
/-- where a service keeps its rows by sort, and the ends of its moods -/
structure SvcOwn where
  b : Addr
  s : Addr
  k : Addr
  e : Addr
  d : Addr
/-- its fields -/
abbrev svcFs (y : Str) (k2 w2 l2 r2 m2 : Addr) (o : SvcOwn) : List (Str × V) := [("name", .str y), ("kinds", .ref k2), ("waits", .ref w2), ("leaves", .ref l2), ("rows", .ref r2), ("moods", .ref m2), ("_begins", .ref o.b), ("_sends", .ref o.s), ("_backs", .ref o.k), ("_ends", .ref o.e), ("endings", .ref o.d)]
/-- how a call ends in a mood -/
def endF (m o : Str) : List Str → Option (Str × Str)
  | [x, y, z, t] => if ((decide (x = m) || decide (x = "any")) && (decide (y = o) || decide (y = "any"))) = true then some (z, t) else none
  | _ => none
def outW (bad : Bool) : Str := if bad then "bad" else "good"
def endV (m : Str) (bad : Bool) (wss : List (List Str)) : Str × Bool := match wss.findSome? (endF m (outW bad)) with
  | none => ("none", false)
  | some z => (z.1, decide (z.2 = "keep"))
def ownB (bad kept : Bool) : Int × Int := if kept then ((if bad then 37 else 36), 0) else ((if bad then 83 else 66), 32)
/-- both ends of a mood at t -/
def EndAt (H : Hp) (wss : List (List Str)) (m : Str) (t : Addr) : Prop := ∃ a1 a2 : Addr, H t = some (.tup [.ref a1, .ref a2]) ∧
  H a1 = some (.tup [.bl false, .str (endV m false wss).1, .int (ownB false (endV m false wss).2).1, .int (ownB false (endV m false wss).2).2]) ∧
  H a2 = some (.tup [.bl true, .str (endV m true wss).1, .int (ownB true (endV m true wss).2).1, .int (ownB true (endV m true wss).2).2])
theorem EndAt.same {H H' : Hp} {wss : List (List Str)} {m : Str} {t : Addr} (h : EndAt H wss m t) (e : Same H H') : EndAt H' wss m t := by
  obtain ⟨a1, a2, h1, h2, h3⟩ := h
  exact ⟨a1, a2, e _ _ h1, e _ _ h2, e _ _ h3⟩
/-- the dict of the ends of these moods at d -/
structure EndsAt (H : Hp) (wss : List (List Str)) (d : Addr) (ys : List Str) : Prop where
  ex : ∃ kvs, H d = some (.dK kvs) ∧ Paired (fun (kv : Key × V) y => kv.1 = .inr y ∧ ∃ t, kv.2 = .ref t ∧ EndAt H wss y t) kvs ys
/-- what a service keeps of its rows -/
structure Keeps (H H' : Hp) (o : SvcOwn) (rs : List (Str × List Str)) (ys : List Str) : Prop where
  fresh : H o.b = none ∧ H o.s = none ∧ H o.k = none ∧ H o.e = none ∧ H o.d = none
  b : TupsAt H' o.b (wordsOf "begin" rs)
  s : TupsAt H' o.s (wordsOf "send" rs)
  k : TupsAt H' o.k (wordsOf "back" rs)
  e : TupsAt H' o.e (wordsOf "end" rs)
  d : EndsAt H' (wordsOf "end" rs) o.d ys
/-- the word of the first wrong argument -/
def wrSvc (b0 b1 b2 b3 b4 : Bool) : Option Str := if b0 = false then some "name" else if b1 = false then some "kinds" else if b2 = false then some "waits" else if b3 = false then some "leaves" else if b4 = false then some "rows" else none
def spOwn : Sp := fun vs H Q _ => ∃ bad kept : Bool, vs = [.bl bad, .bl kept] ∧ ∀ t, H t = none → Q (.ref t) (upd H t (.tup [.int (ownB bad kept).1, .int (ownB bad kept).2]))
def spEndIn : Sp := fun vs H Q _ => ∃ (e : Addr) (wss : List (List Str)) (m : Str) (bad : Bool), vs = [.ref e, .str m, .bl bad] ∧ TupsAt H e wss ∧ (∀ ws ∈ wss, ws.length = 4) ∧ ∀ t, H t = none → Q (.ref t) (upd H t (.tup [.str (endV m bad wss).1, .bl (endV m bad wss).2]))
def spEndings : Sp := fun vs H Q _ => ∃ (e : Addr) (wss : List (List Str)) (m : Str), vs = [.ref e, .str m] ∧ TupsAt H e wss ∧ (∀ ws ∈ wss, ws.length = 4) ∧ ∀ t H', Same H H' → H t = none → EndAt H' wss m t → Q (.ref t) H'
def spSvcInit {w : World} {K : PySem.W.Frag} {mg : Str → Option Value} (T : TxSvc w K mg) : Sp := fun vs H Q E => ∃ (p dx : Addr) (n k wt lv rw : V) (b1 b2 b3 b4 : Bool), vs = [.ref p, n, k, wt, lv, rw] ∧ H p = some (.ins T.C_Service dx []) ∧
  AnyV K H n ∧ SomeV K H k b1 ∧ NamesV K H wt b2 ∧ NamesV K H lv b3 ∧ RowsV K T.C_Row H rw b4 ∧
  (wrSvc (nmV n) b1 b2 b3 b4 = none → ∃ (y : Str) (ka wa la ra : Addr) (lk lw ll : List Str) (xs : List V) (rs : List (Str × List Str)), n = .str y ∧ k = .ref ka ∧ wt = .ref wa ∧ lv = .ref la ∧ rw = .ref ra ∧
    SqA K H ka (lk.map V.str) ∧ SqA K H wa (lw.map V.str) ∧ SqA K H la (ll.map V.str) ∧ SqA K H ra xs ∧ Paired (RwAt T H) xs rs ∧ rs.length ≤ 28 ∧
    ∀ (H' : Hp) (k2 w2 l2 r2 m2 : Addr) (o : SvcOwn) (ys : List Str), Kp p H H' → H' p = some (.ins T.C_Service dx (svcFs y k2 w2 l2 r2 m2 o)) →
      SqT K H' k2 (lk.map V.str) → SqT K H' w2 (lw.map V.str) → SqT K H' l2 (ll.map V.str) → SqT K H' r2 xs → SqT K H' m2 (ys.map V.str) → ys.Nodup → sortedS ys = true → (∀ z, z ∈ ys ↔ z ∈ moodsL rs ∧ ODDW2.contains z = false) → Keeps H H' o rs ys → Q .non H') ∧
  (∀ wd d H', wrSvc (nmV n) b1 b2 b3 b4 = some wd → Same H H' → H d = none → H' d = some (.xd [("word", .str wd)]) → E (.ref T.C_InvalidService) (some d) H')
/-- what tuple(xs) asks -/
structure TupQ (K : PySem.W.Frag) (vs : List V) (H : Hp) (Q : VK) : Prop where
  ex : ∃ (a : Addr) (xs : List V), vs = [.ref a] ∧ SqA K H a xs ∧ ∀ t H', Same H H' → SqT K H' t xs → Q (.ref t) H'
theorem call_tupQ {X : Cx} (K : PySem.W.Frag) (hK : X.K = K := by rfl) : CallR X (.type "tuple") (TupQ K) := by
  subst hK
  intro pins s σ H xs us Q I r h
  obtain ⟨a, ys, rfl, hq, q⟩ := h.ex
  exact call_tuple_of pins s σ H _ us Q I r (tuple_of hq q)
section
variable {X : Cx}
theorem pa_starK (K : PySem.W.Frag) {e : Expr} {es : List Expr} {te : TE} {t : TA} {p : Pos} (he : PE X e te) (hr : PA X es t) (hK : X.K = K := by rfl) (hs : starEach (.Starred e p :: es) X.env = (true, eval e X.env) :: starEach es X.env := by rfl) : PA X (.Starred e p :: es) (StX.tStar K te t) := hK ▸ StX.pa_star he hr hs
end
section
variable {P : Program} {w : World} {K : PySem.W.Frag} {mg : Str → Option Value} {base : Heap}
theorem ok_ascending (T : TxSvc w K mg) : FnOk P w K mg base CX0 1 T.f_ascending T.d_ascending P_ascending (spAsc K) := by
  refine T.F_ascending.ok sc_ascending (fun vs H Q E h => ?_) (fun cdv A outer s H vs Q E hr h => ?_)
  · obtain ⟨a, l, rfl, _⟩ := h
    rfl
  obtain ⟨a, l, rfl, hS, hl, q⟩ := h
  refine ⟨_, (pss_one (ps_ret (pe_callTy (call_tupleK K) (by rfl) T.z_tuple (by decide +kernel) (pa_cons (pe_callB (cr_sortedTS rfl) (by rfl) T.z_sorted (by decide +kernel) (pa_cons (pe_setT ⟨gName 1, _, _, _⟩ (by rfl) sc_ascending.nd (pi_seqK K (pv 0)) (blkOk_by (own := [("word", 1)]) (N := N_ascending) (sc := defScope s_ascending) (by decide +kernel)) rfl (fun _ _ _ _ _ => (pg_name (i := 1) sc_ascending.nd rfl (Or.inl rfl))) (fun _ _ _ _ _ => pts_one (pt_cmpR (op_notInK K) (pv 1) (pe_tup (pa_cons pe_str (pa_cons pe_str pa_nil))) (by rfl))) (fun _ _ _ _ _ => (pv 1))) pa_nil)) pa_nil)))), ?_⟩
  refine ⟨_, rfl, a, _, rfl, hS, fun J G g0 gs wk D hD => ⟨(l.map V.str).length, fun i H' => Same H H' ∧ ∃ z : List Str, H' D = some (TSetO P w D z) ∧ z.length ≤ i ∧ ∀ y, y ∈ z ↔ y ∈ l.take i ∧ ODDW2.contains y = false, ?_, ?_, ?_⟩⟩
  · exact ⟨same_upd hD _, [], upd_same, Nat.le_refl _, fun y => by simp⟩
  · rintro H1 ⟨s1, z, hD1, zl, zm⟩
    rw [List.length_map] at zl
    refine ⟨wk.stops _ (gs _ _ s1 g0), D, z, rfl, hD1, by omega, fun ys sp pm nd so hsp => ?_⟩
    refine ⟨sp, _, rfl, .inl ⟨SqL.of upd_same, fun t ht => ?_⟩⟩
    have s2 := (s1.trans (same_upd hsp (.lst (ys.map V.str)))).trans (same_upd ht (.tup (ys.map V.str)))
    refine q ys t _ s2 ((s1.trans (same_upd hsp (.lst (ys.map V.str)))).free ht) upd_same (pm.nodup_iff.mpr nd) so fun y => ?_
    rw [pm.mem_iff, zm, List.length_map, List.take_length]
  · rintro i H1 hi ⟨s1, z, hD1, zl, zm⟩
    refine ⟨wk.goes i _ hi (gs _ _ s1 g0), fun x H2 hyy => ?_⟩
    obtain ⟨rfl, hx⟩ := wk.yields i _ _ _ hi (gs _ _ s1 g0) hyy
    rw [List.getElem?_map] at hx
    obtain ⟨y, hy, rfl⟩ : ∃ y, l[i]? = some y ∧ V.str y = x := by
      cases e : l[i]? with
      | none => rw [e] at hx; cases hx
      | some z => rw [e] at hx; cases hx; exact ⟨z, rfl, rfl⟩
    rw [List.length_map] at hi
    refine ⟨rfl, ?_⟩
    refine ⟨_, rfl, by show 2 ≤ sizeLine; decide, fun t ht => ⟨t, ODDW2.map V.str, rfl, .inr (SqT.of upd_same), rfl, by decide +kernel, _, rfl, ?_⟩⟩
    have s2 := s1.trans (same_upd ht (.tup [.str "any", .str "same"]))
    have hD2 := same_upd ht (.tup [.str "any", .str "same"]) _ _ hD1
    rw [inV_strs]
    have tk : ∀ v, v ∈ l.take (i + 1) ↔ v ∈ l.take i ∨ v = y := fun v => by
      rw [List.take_add_one, hy, List.mem_append]
      simp
    refine ⟨fun c => ?_, fun c => ⟨_, rfl, y, z, rfl, hD2, by omega, ?_⟩⟩
    · have c' : ODDW2.contains y = true := by simpa using c
      refine ⟨s2, z, hD2, by omega, fun v => ?_⟩
      rw [zm, tk]
      constructor
      · exact fun h => ⟨.inl h.1, h.2⟩
      · rintro ⟨h1 | h1, h2⟩
        · exact ⟨h1, h2⟩
        · rw [h1, c'] at h2
          cases h2
    · have c' : ODDW2.contains y = false := by simpa using c
      refine ⟨fun b o e => ?_, more z y, upd_same, ?_, fun v => ?_⟩
      · rw [upd_ne (ne_of_none e hD)]
        exact s2 b o e
      · unfold more
        split
        · omega
        · simp only [List.length_cons]
          omega
      · have mm : v ∈ more z y ↔ v ∈ z ∨ v = y := by
          unfold more
          split
          · rename_i h1
            exact ⟨.inl, fun h2 => h2.elim id fun e => e ▸ h1⟩
          · rw [List.mem_cons]
            exact Or.comm
        rw [mm, zm, tk]
        constructor
        · rintro (h1 | h1)
          · exact ⟨.inl h1.1, h1.2⟩
          · exact ⟨.inr h1, h1 ▸ c'⟩
        · rintro ⟨h1 | h1, h2⟩
          · exact .inl ⟨h1, h2⟩
          · exact .inr h1
theorem row_ty (T : TxSvc w K mg) {H : Hp} {v : V} {r : Str × List Str} (h : RwAt T H v r) : ∃ C, TyX K H v (.ref C) ∧ PySem.W.kitOne K (.ref C) (.ref T.C_Row) = some true ∧ PySem.W.kitOne K (.ref C) (.ref T.C_Back) = some (decide (r.1 = "back")) := by
  cases h with
  | beg ha => exact ⟨_, T.ty_Begin _ _ _ _ ha, T.kr_Begin, T.kk_Begin_Back⟩
  | snd ha => exact ⟨_, T.ty_Send _ _ _ _ ha, T.kr_Send, T.kk_Send_Back⟩
  | bck ha => exact ⟨_, T.ty_Back _ _ _ _ ha, T.kr_Back, T.kk_Back_Back⟩
  | end_ ha => exact ⟨_, T.ty_End _ _ _ _ ha, T.kr_End, T.kk_End_Back⟩
theorem ok_are_rows (T : TxSvc w K mg) : FnOk P w K mg base CX0 2 T.f_are_rows T.d_are_rows P_are_rows (spAreRows T) := by
  have G_is_sequence := ok_is_sequence (P := P) (w := w) (base := base) T.toTxSeq
  refine T.F_are_rows.ok sc_are_rows (fun vs H Q E h => ?_) (fun cdv A outer s H vs Q E hr h => ?_)
  · obtain ⟨v, b, rfl, _⟩ := h
    rfl
  obtain ⟨v, b, rfl, hR, q⟩ := h
  refine ⟨_, (pss_one (ps_ret (pe_and (pe_call G_is_sequence (hr.mono (by decide)) (by rfl) T.m_is_sequence T.F_is_sequence.kp T.b_is_sequence .nil pass0 (pa_cons (pv 0) pa_nil)) (pe_one (pe_callB (cr_allK K rfl) (by rfl) T.z_all (by decide +kernel) (pa_cons (pe_lc (own := [("row", 1)]) (g := gName 1) (by rfl) sc_are_rows.nd (pi_seqK K (pv 0)) (blkOk_by (own := [("row", 1)]) (N := N_are_rows) (sc := defScope s_are_rows) (by decide +kernel)) (fun _ _ _ _ _ => (pg_name (i := 1) sc_are_rows.nd rfl (Or.inl rfl))) (fun _ _ _ _ _ => pts_nil) (fun _ _ _ _ _ => (pe_callB (call_isiV K) (by rfl) T.z_isinstance (by decide +kernel) (pa_cons (pv 1) (pa_cons (pe_glob (v := .ref T.C_Row) (by rfl) T.m_Row rfl) pa_nil))))) pa_nil)))))), ?_⟩
  cases hR with
  | no h =>
    refine ⟨_, rfl, v, false, rfl, h, fun H1 s1 => ⟨_, rfl, ?_⟩⟩
    exact q H1 s1
  | @seq a xs bs h e n =>
    refine ⟨_, rfl, .ref a, true, rfl, h.seqV, fun H1 s1 => ⟨_, rfl, ?_⟩⟩
    refine ⟨_, rfl, a, xs, rfl, h.same s1, fun J G g0 gs wk D hD => ?_⟩
    refine lc_it wk (fun i H' => Same H1 H' ∧ H' D = some (.lst ((bs.take i).map V.bl))) ⟨same_upd hD _, upd_same⟩ (fun i H' _ h => gs _ _ h.1 g0) ?_ ?_
    · rintro i x H2 H3 hi ⟨s2, hD2⟩ ⟨rfl, hx⟩
      obtain ⟨bb, hb, t, ty, kr⟩ := paired_get e hx
      refine ⟨rfl, ?_⟩
      refine ⟨_, rfl, x, .ref T.C_Row, t, _, bb, rfl, .own _, tyx_keep (s1.trans s2) ty, kr, ?_⟩
      refine ⟨_, hD2, small1000 (by rw [List.length_map, List.length_take]; omega), ?_, ?_⟩
      · intro b o e
        rw [upd_ne (ne_of_none e hD)]
        exact s2 b o e
      · rw [upd_same, List.take_add_one, hb, List.map_append]
        rfl
    · rintro H2 ⟨s2, hD2⟩
      have ln : xs.length = bs.length := pair_len e
      rw [ln, List.take_length] at hD2
      refine ⟨D, _, rfl, SqL.of hD2, ?_⟩
      exact q H2 (s1.trans s2)
theorem ok_xsvc (T : TxSvc w K mg) : FnOk P w K mg base CX0 1 T.f_InvalidService_init T.d_InvalidService_init P_InvalidService_init (spXInit K T.C_InvalidService) := by
  refine T.F_InvalidService_init.ok sc_InvalidService_init (fun vs H Q E h => ?_) (fun cdv A outer s H vs Q E hr h => ?_)
  · obtain ⟨a, y, rfl, _⟩ := h
    rfl
  obtain ⟨a, y, rfl, ha, q⟩ := h
  refine ⟨_, (pss_one (ps_ost (pv 0) (pv 1))), ?_⟩
  exact ⟨_, rfl, _, rfl, a, T.C_InvalidService, rfl, T.oxSvc, T.nwSvc, .inl ⟨ha, fun dx h1 h2 => q dx h1 h2⟩⟩
theorem paired_rw (T : TxSvc w K mg) {H H' : Hp} {p C dx : Addr} (hp : H p = some (.ins C dx [])) (k : Kp p H H') {xs : List V} {rs : List (Str × List Str)} (h : Paired (RwAt T H) xs rs) : Paired (RwAt T H') xs rs := paired_imp (fun _ _ z => z.kp hp k) h
theorem paired_rwS (T : TxSvc w K mg) {H H' : Hp} (k : Same H H') {xs : List V} {rs : List (Str × List Str)} (h : Paired (RwAt T H) xs rs) : Paired (RwAt T H') xs rs := paired_imp (fun _ _ z => z.same k) h
end
end My

/-! ## How calls end: the program's own look -/
namespace My
open PySem PySem.Spec PyProof.Rows L2
section
variable {P : Program} {w : World} {K : PySem.W.Frag} {mg : Str → Option Value} {base : Heap}
/-- x == y or x == 'any' -/
theorem or_eq {σ : L2.St} {H : Hp} {i j : Nat} {x m s : Str} {k : Bool → Hp → Prop} (hi : σ[i]? = some (some (.str x))) (hj : σ[j]? = some (some (.str m))) (h : k (decide (x = m) || decide (x = s)) H) :
    tOr (tTest (tOp rEq (tVar i) (tVar j))) (tTest (tOp rEq (tVar i) (tC (V.str s)))) σ H k := by
  refine ⟨_, hi, _, hj, rfl, _, rfl, ?_⟩
  rw [dec_str2]
  cases c : decide (x = m) with
  | true =>
    rw [c] at h
    exact h
  | false =>
    rw [c] at h
    refine ⟨_, hi, rfl, _, rfl, ?_⟩
    rw [dec_str2]
    exact h
theorem ok_own_bits (T : TxSvc w K mg) : FnOk P w K mg base CX0 1 T.f_own_bits T.d_own_bits P_own_bits spOwn := by
  refine T.F_own_bits.ok sc_own_bits (fun vs H Q E h => ?_) (fun cdv A outer s H vs Q E hr h => ?_)
  · obtain ⟨bad, kept, rfl, _⟩ := h
    rfl
  obtain ⟨bad, kept, rfl, q⟩ := h
  refine ⟨_, (pss_cons (ps_if (pt_val (pv 1)) (pss_one (ps_ret (pe_tup (pa_cons (pe_op op_or (pe_op op_or (pe_ifExp (pt_val (pv 0)) (pe_glob (v := .int 1) (by rfl) T.m_BAD ⟨_, rfl⟩) pe_int) (pe_glob (v := .int 4) (by rfl) T.m_KEPT ⟨_, rfl⟩)) (pe_glob (v := .int 32) (by rfl) T.m_NEAR ⟨_, rfl⟩)) (pa_cons pe_int pa_nil))))) pss_nil)
      (pss_one (ps_ret (pe_tup (pa_cons (pe_op op_or (pe_op op_or (pe_ifExp (pt_val (pv 0)) (pe_op op_or (pe_glob (v := .int 1) (by rfl) T.m_BAD ⟨_, rfl⟩) (pe_glob (v := .int 16) (by rfl) T.m_LOST ⟨_, rfl⟩)) pe_int) (pe_glob (v := .int 2) (by rfl) T.m_DROPPED ⟨_, rfl⟩)) (pe_glob (v := .int 64) (by rfl) T.m_HIDDEN ⟨_, rfl⟩)) (pa_cons (pe_glob (v := .int 32) (by rfl) T.m_NEAR ⟨_, rfl⟩) pa_nil)))))), ?_⟩
  refine ⟨_, rfl, _, rfl, ?_⟩
  cases kept with
  | true =>
    cases bad with
    | true => exact ⟨_, rfl, _, rfl, _, _, rfl, rfl, _, _, rfl, rfl, by show 2 ≤ sizeLine; decide, fun t ht => q t ht⟩
    | false => exact ⟨_, rfl, _, rfl, _, _, rfl, rfl, _, _, rfl, rfl, by show 2 ≤ sizeLine; decide, fun t ht => q t ht⟩
  | false =>
    cases bad with
    | true => exact ⟨_, rfl, _, rfl, _, _, rfl, rfl, _, _, rfl, rfl, _, _, rfl, rfl, by show 2 ≤ sizeLine; decide, fun t ht => q t ht⟩
    | false => exact ⟨_, rfl, _, rfl, _, _, rfl, rfl, _, _, rfl, rfl, by show 2 ≤ sizeLine; decide, fun t ht => q t ht⟩
theorem endF_yes {m o x y z t : Str} (h1 : (decide (x = m) || decide (x = "any")) = true) (h2 : (decide (y = o) || decide (y = "any")) = true) : endF m o [x, y, z, t] = some (z, t) := if_pos (by rw [h1, h2]; rfl)
theorem endF_no1 {m o x y z t : Str} (h1 : (decide (x = m) || decide (x = "any")) = false) : endF m o [x, y, z, t] = none := if_neg (by rw [h1]; intro q; cases q)
theorem endF_no2 {m o x y z t : Str} (h1 : (decide (y = o) || decide (y = "any")) = false) : endF m o [x, y, z, t] = none := if_neg (by rw [h1, Bool.and_false]; intro q; cases q)
theorem ok_end_in (T : TxSvc w K mg) : FnOk P w K mg base CX0 1 T.f_end_in T.d_end_in P_end_in spEndIn := by
  refine T.F_end_in.ok sc_end_in (fun vs H Q E h => ?_) (fun cdv A outer s H vs Q E hr h => ?_)
  · obtain ⟨e, wss, m, bad, rfl, _⟩ := h
    rfl
  obtain ⟨e, wss, m, bad, rfl, he, h4, q⟩ := h
  obtain ⟨vs, hvs, pr⟩ := he.ex
  refine ⟨_, (Evl.pss_cut (ps_set (i := 3) sc_end_in.nd rfl (Or.inl rfl) (pe_ifExp (pt_val (pv 2)) pe_str pe_str))
      (pss_cons (ps_for PassesOwn.never rfl (pi_listK K (pv 0)) (pg_tup rfl (pgs_cons (pg_name (i := 4) sc_end_in.nd rfl (Or.inl rfl)) (pgs_cons (pg_name (i := 5) sc_end_in.nd rfl (Or.inl rfl)) (pgs_cons (pg_name (i := 6) sc_end_in.nd rfl (Or.inl rfl)) (pgs_cons (pg_name (i := 7) sc_end_in.nd rfl (Or.inl rfl)) pgs_nil))))) (pss_one (ps_if (PW.pt (pw_and (PW.pt (pw_or (pt_cmpR op_eq (pv 4) (pv 1) (nomark _)) (pw_or1 (pt_cmpR op_eq (pv 4) pe_str (nomark _))))) (pw_and1 (PW.pt (pw_or (pt_cmpR op_eq (pv 5) (pv 3) (nomark _)) (pw_or1 (pt_cmpR op_eq (pv 5) pe_str (nomark _)))))))) (pss_one (ps_ret (pe_tup (pa_cons (pv 6) (pa_cons (pe_cmpR op_eq (pv 7) pe_str (nomark _)) pa_nil))))) pss_nil)))
      (pss_one (ps_ret (pe_tup (pa_cons pe_str (pa_cons pe_bl pa_nil))))))), ?_⟩
  refine ⟨fun σ H' => H' = H ∧ σ = [some (.ref e), some (.str m), some (.bl bad), some (.str (outW bad)), none, none, none, none], ?_, ?_⟩
  · refine ⟨_, rfl, _, rfl, ?_⟩
    cases bad with
    | true => exact ⟨rfl, rfl⟩
    | false => exact ⟨rfl, rfl⟩
  rintro σ H1 ⟨rfl, rfl⟩
  unfold endV at q
  refine ⟨_, rfl, e, rfl, ⟨_, SqL.of hvs⟩, for_list (K := K) (a := e) (xs := vs) (fun i σ H' => (∃ a b c d : Option V, σ = [some (.ref e), some (.str m), some (.bl bad), some (.str (outW bad)), a, b, c, d]) ∧ H' = H1 ∧ wss.findSome? (endF m (outW bad)) = (wss.drop i).findSome? (endF m (outW bad)))
    ⟨⟨none, none, none, none, rfl⟩, rfl, rfl⟩ (fun i σ H' _ h => SqL.of (by rw [h.2.1]; exact hvs)) ?_ ?_⟩
  · rintro i x σ H2 hi ⟨⟨a, b, c, d, rfl⟩, rfl, eq⟩
    obtain ⟨ws, hw, t0, rfl, ht0⟩ := paired_get pr hi
    rw [find_step hw] at eq
    have l4 := h4 ws (List.mem_of_getElem? hw)
    match ws, l4 with
    | [x, y, z, t], _ =>
    refine ⟨t0, _, rfl, SqT.of ht0, rfl, _, _, rfl, _, _, rfl, _, _, rfl, _, _, rfl, rfl, ?_⟩
    refine or_eq (by rfl) (by rfl) ?_
    refine ite2 (fun c1 => ?_) (fun c1 => ?_)
    · refine or_eq (by rfl) (by rfl) ?_
      refine ite2 (fun c2 => ?_) (fun c2 => ?_)
      · rw [eq, endF_yes c1 c2] at q
        refine ⟨_, rfl, _, rfl, rfl, by show 2 ≤ sizeLine; decide, fun t' ht => ?_⟩
        rw [dec_str2]
        exact q t' ht
      · exact ⟨⟨_, _, _, _, rfl⟩, rfl, by rw [eq, endF_no2 (Bool.eq_false_iff.mpr c2)]; rfl⟩
    · exact ⟨⟨_, _, _, _, rfl⟩, rfl, by rw [eq, endF_no1 (Bool.eq_false_iff.mpr c1)]; rfl⟩
  · rintro σ H2 ⟨⟨a, b, c, d, rfl⟩, rfl, eq⟩
    rw [eq, List.drop_of_length_le (Nat.le_of_eq (paired_len pr).symm)] at q
    exact ⟨by show 2 ≤ sizeLine; decide, fun t' ht => q t' ht⟩
theorem ok_endings_in (T : TxSvc w K mg) : FnOk P w K mg base CX0 2 T.f_endings_in T.d_endings_in P_endings_in spEndings := by
  have G_end_in := ok_end_in (P := P) (w := w) (base := base) T
  have G_own_bits := ok_own_bits (P := P) (w := w) (base := base) T
  refine T.F_endings_in.ok sc_endings_in (fun vs H Q E h => ?_) (fun cdv A outer s H vs Q E hr h => ?_)
  · obtain ⟨e, wss, m, rfl, _⟩ := h
    rfl
  obtain ⟨e, wss, m, rfl, he, h4, q⟩ := h
  refine ⟨_, (pss_cons (ps_set (i := 2) sc_endings_in.nd rfl (Or.inl rfl) (pe_lst pa_nil))
      (pss_cons (ps_for PassesOwn.never rfl (pi_tupK K (pe_tup (pa_cons pe_bl (pa_cons pe_bl pa_nil)))) (pg_name (i := 3) sc_endings_in.nd rfl (Or.inl rfl)) (pss_cons (ps_asg (pe_call G_end_in (hr.mono (by decide)) (by rfl) T.m_end_in T.F_end_in.kp T.b_end_in .nil pass0 (pa_cons (pv 0) (pa_cons (pv 1) (pa_cons (pv 3) pa_nil)))) (pg_tup rfl (pgs_cons (pg_name (i := 4) sc_endings_in.nd rfl (Or.inl rfl)) (pgs_cons (pg_name (i := 5) sc_endings_in.nd rfl (Or.inl rfl)) pgs_nil))))
      (pss_cons (ps_asg (pe_call G_own_bits (hr.mono (by decide)) (by rfl) T.m_own_bits T.F_own_bits.kp T.b_own_bits .nil pass0 (pa_cons (pv 3) (pa_cons (pv 5) pa_nil))) (pg_tup rfl (pgs_cons (pg_name (i := 6) sc_endings_in.nd rfl (Or.inl rfl)) (pgs_cons (pg_name (i := 7) sc_endings_in.nd rfl (Or.inl rfl)) pgs_nil))))
      (pss_one (ps_expr (pe_bm PySem.F.plainAttrs_list PySem.F.slot_list_append PySem.F.type_list_append mt_append (pv 2) (pa_cons (pe_tup (pa_cons (pv 3) (pa_cons (pv 4) (pa_cons (pv 6) (pa_cons (pv 7) pa_nil))))) pa_nil)))))))
      (pss_one (ps_ret (pe_callTy (call_tupleK K) (by rfl) T.z_tuple (by decide +kernel) (pa_cons (pv 2) pa_nil)))))), ?_⟩
  let B : Bool → HO := fun bad => .tup [.bl bad, .str (endV m bad wss).1, .int (ownB bad (endV m bad wss).2).1, .int (ownB bad (endV m bad wss).2).2]
  refine ⟨Nat.zero_le _, fun fo hfo => ?_⟩
  refine ⟨by show 2 ≤ sizeLine; decide, fun tp htp => ⟨tp, rfl, ⟨_, SqT.of upd_same⟩, for_tup (K := K) (a := tp) (xs := [.bl false, .bl true]) (fun i σ H' => (∃ v3 v4 v5 v6 v7 : Option V, σ = [some (.ref e), some (.str m), some (.ref fo), v3, v4, v5, v6, v7]) ∧ Same H H' ∧ H' tp = some (.tup [.bl false, .bl true]) ∧
    ∃ as : List Addr, H' fo = some (.lst (as.map V.ref)) ∧ Paired (fun a bad => H' a = some (B bad)) as (([false, true] : List Bool).take i))
    ⟨⟨none, none, none, none, none, rfl⟩, (same_upd hfo _).trans (same_upd htp _), upd_same, [], same_upd htp _ _ _ upd_same, .nil⟩ (fun i σ H' _ h => SqT.of h.2.2.1) ?_ ?_⟩⟩
  · rintro i x σ H2 hi ⟨⟨v3, v4, v5, v6, v7, rfl⟩, s2, htp2, as, hfo2, pr⟩
    obtain ⟨bad, rfl, hb⟩ : ∃ bad, x = .bl bad ∧ ([false, true] : List Bool)[i]? = some bad := by
      match i, hi with
      | 0, hi => exact ⟨false, by simpa using hi.symm, rfl⟩
      | 1, hi => exact ⟨true, by simpa using hi.symm, rfl⟩
    have al : as.length ≤ 2 := by
      rw [paired_len pr, List.length_take]
      show min i 2 ≤ 2
      omega
    refine ⟨_, rfl, _, rfl, _, rfl, e, wss, m, bad, rfl, he.same s2, h4, fun t1 ht1 => ?_⟩
    have s3 := same_upd ht1 (.tup [.str (endV m bad wss).1, .bl (endV m bad wss).2])
    refine ⟨t1, _, rfl, SqT.of upd_same, rfl, _, _, rfl, _, _, rfl, rfl, ?_⟩
    refine ⟨_, rfl, _, rfl, bad, (endV m bad wss).2, rfl, fun t2 ht2 => ?_⟩
    have s4 := s3.trans (same_upd ht2 (.tup [.int (ownB bad (endV m bad wss).2).1, .int (ownB bad (endV m bad wss).2).2]))
    refine ⟨t2, _, rfl, SqT.of upd_same, rfl, _, _, rfl, _, _, rfl, rfl, ?_⟩
    refine ⟨_, rfl, .inl ⟨rfl, _, SqL.of (s4 _ _ hfo2)⟩, _, rfl, _, rfl, _, rfl, _, rfl, by show 4 ≤ sizeLine; decide, fun t5 ht5 => ?_⟩
    have s5 := s4.trans (same_upd ht5 (B bad))
    refine ⟨fo, _, _, rfl, rfl, s5 _ _ hfo2, small1000 (by rw [List.length_map]; omega), ⟨_, _, _, _, _, rfl⟩, fun b o eb => ?_, ?_, as ++ [t5], ?_, ?_⟩
    · rw [upd_ne (ne_of_none eb hfo)]
      exact s5 _ _ (s2 _ _ eb)
    · rw [upd_ne (fun z => by rw [z, hfo2] at htp2; cases htp2)]
      exact s5 _ _ htp2
    · rw [upd_same, List.map_append]
      rfl
    · rw [List.take_add_one, hb]
      refine paired_snoc (paired_imp (fun a bd z => ?_) pr) ?_
      · rw [upd_ne (fun z2 => by rw [z2, hfo2] at z; cases z)]
        exact s5 _ _ z
      · rw [upd_ne (fun z2 => by rw [z2, s4 _ _ hfo2] at ht5; cases ht5)]
        exact upd_same
  · rintro σ H2 ⟨⟨v3, v4, v5, v6, v7, rfl⟩, s2, htp2, as, hfo2, pr⟩
    match as, pr with
    | [a1, a2], .cons r1 (.cons r2 .nil) =>
    refine ⟨_, rfl, fo, _, rfl, .inl ⟨SqL.of hfo2, fun t ht => ?_⟩⟩
    have s3 := same_upd ht (.tup [.ref a1, .ref a2])
    exact q t _ (s2.trans s3) (s2.free ht) ⟨a1, a2, upd_same, s3 _ _ r1, s3 _ _ r2⟩
end
end My

/-! ## A service is made, or refused -/
namespace My
open PySem PySem.Spec PyProof.Rows L2
section
variable {P : Program} {w : World} {K : PySem.W.Frag} {mg : Str → Option Value} {base : Heap}
/-- the mood that a row names first; where it leads to -/
def mood1 (r : Str × List Str) : Str := if r.1 = "begin" then r.2.getD 2 Str.empty else r.2.getD 0 Str.empty
def then1 (r : Str × List Str) : List Str := if r.1 = "back" then [r.2.getD 3 Str.empty] else []
theorem then1_len (r : Str × List Str) : (then1 r).length ≤ 1 := by
  unfold then1
  split
  · exact Nat.le_refl 1
  · exact Nat.zero_le _
theorem thens_len : ∀ rs : List (Str × List Str), (rs.flatMap then1).length ≤ rs.length
  | [] => Nat.le_refl _
  | r :: rs => by
    rw [List.flatMap_cons, List.length_append, List.length_cons]
    have := thens_len rs
    have := then1_len r
    omega
theorem moods_mem {z : Str} : ∀ rs : List (Str × List Str), z ∈ rs.map mood1 ++ rs.flatMap then1 ↔ z ∈ rs.flatMap moodsR
  | [] => Iff.rfl
  | r :: rs => by
    have ih := moods_mem (z := z) rs
    have e : moodsR r = mood1 r :: then1 r := by
      obtain ⟨s, ws⟩ := r
      unfold moodsR mood1 then1
      by_cases h : s = "begin"
      · simp [h]
      · simp [h]
    rw [List.map_cons, List.flatMap_cons, List.flatMap_cons, List.mem_append (s := moodsR r), ← ih, e]
    simp only [List.cons_append, List.mem_cons, List.mem_append]
    constructor
    · rintro (h | h | h | h)
      · exact .inl (.inl h)
      · exact .inr (.inl h)
      · exact .inl (.inr h)
      · exact .inr (.inr h)
    · rintro ((h | h) | h | h)
      · exact .inl h
      · exact .inr (.inr (.inl h))
      · exact .inr (.inl h)
      · exact .inr (.inr (.inr h))
theorem row_mood (T : TxSvc w K mg) {H : Hp} {v : V} {r : Str × List Str} (h : RwAt T H v r) : ∃ (a C dx : Addr) (fs : List (Str × V)), v = .ref a ∧ H a = some (.ins C dx fs) ∧ Cls K C ∧ NoAttr K C "mood" ∧ fs.lookup ("mood" : Str) = some (.str (mood1 r)) := by
  cases h with
  | beg ha => exact ⟨_, _, _, _, rfl, ha, T.c_Begin, T.n_Begin_mood, rfl⟩
  | snd ha => exact ⟨_, _, _, _, rfl, ha, T.c_Send, T.n_Send_mood, rfl⟩
  | bck ha => exact ⟨_, _, _, _, rfl, ha, T.c_Back, T.n_Back_mood, rfl⟩
  | end_ ha => exact ⟨_, _, _, _, rfl, ha, T.c_End, T.n_End_mood, rfl⟩
theorem ends4 {T : TxSvc w K mg} {H : Hp} {xs : List V} {rs : List (Str × List Str)} (h : Paired (RwAt T H) xs rs) : ∀ ws ∈ wordsOf "end" rs, ws.length = 4 := by
  intro ws hw
  obtain ⟨r, hr, rfl⟩ := List.mem_map.mp hw
  obtain ⟨hr1, hr2⟩ := List.mem_filter.mp hr
  have hr2 := of_decide_eq_true hr2
  have all : ∀ {xs : List V} {rs : List (Str × List Str)}, Paired (RwAt T H) xs rs → ∀ r ∈ rs, r.1 = "end" → r.2.length = 4 := by
    intro xs rs p
    induction p with
    | nil => exact fun r h => nomatch h
    | cons q _ ih =>
      intro r hr e
      rcases List.mem_cons.mp hr with z | z
      · subst z
        cases q with
        | beg _ => exact absurd (show ("begin" : Str) = "end" from e) (by decide)
        | snd _ => exact absurd (show ("send" : Str) = "end" from e) (by decide)
        | bck _ => exact absurd (show ("back" : Str) = "end" from e) (by decide)
        | end_ _ => rfl
      · exact ih r z e
  exact all h r hr1 hr2
theorem kp_free {p D : Addr} {H H' : Hp} {o : HO} (k : Kp p H H') (hp : H' p = some o) (h : H' D = none) : H D = none := by
  cases q : H D with
  | none => rfl
  | some u =>
    rw [k D u (fun z => by rw [z, hp] at h; cases h) q] at h
    cases h
theorem nodup_sub {ys : List Str} : ∀ {l : List Str}, ys.Nodup → (∀ y ∈ ys, y ∈ l) → ys.length ≤ l.length := by
  induction ys with
  | nil => exact fun _ _ => Nat.zero_le _
  | cons y ys ih =>
    intro l nd sub
    have hy := sub y List.mem_cons_self
    obtain ⟨n1, n2⟩ := List.nodup_cons.mp nd
    have h := ih (l := l.erase y) n2 fun z hz => (List.mem_erase_of_ne (fun e => n1 (by rw [← e]; exact hz))).mpr (sub z (List.mem_cons_of_mem _ hz))
    rw [List.length_erase_of_mem hy] at h
    have : 0 < l.length := List.length_pos_of_mem hy
    rw [List.length_cons]
    omega
theorem putK_new {kvs : List (Key × V)} {k : Key} {v : V} (h : ∀ kv ∈ kvs, kv.1 ≠ k) : putK kvs k v = kvs ++ [(k, v)] := by
  unfold putK
  rw [if_neg]
  intro z
  obtain ⟨kv, h1, h2⟩ := List.any_eq_true.mp z
  exact h kv h1 (of_decide_eq_true h2)
theorem nodup_take {ys : List Str} {i : Nat} {z : Str} (nd : ys.Nodup) (h : ys[i]? = some z) : z ∉ ys.take i := by
  obtain ⟨hl, e⟩ := List.getElem?_eq_some_iff.mp h
  have e2 : ys = ys.take i ++ (z :: ys.drop (i + 1)) := by rw [← e, ← List.drop_eq_getElem_cons hl, List.take_append_drop]
  rw [e2] at nd
  intro q
  exact (List.nodup_append.mp nd).2.2 z q z List.mem_cons_self rfl
theorem EndAt.put {H : Hp} {wss : List (List Str)} {m : Str} {t d : Addr} {kvs kvs' : List (Key × V)} (h : EndAt H wss m t) (hd : H d = some (.dK kvs)) : EndAt (upd H d (.dK kvs')) wss m t := by
  obtain ⟨a1, a2, h1, h2, h3⟩ := h
  have ne : ∀ {a : Addr} {xs : List V}, H a = some (.tup xs) → a ≠ d := fun e z => by
    rw [z, hd] at e
    cases e
  exact ⟨a1, a2, by rw [upd_ne (ne h1)]; exact h1, by rw [upd_ne (ne h2)]; exact h2, by rw [upd_ne (ne h3)]; exact h3⟩
theorem EndAt.kp {H H' : Hp} {wss : List (List Str)} {m : Str} {t p C dx : Addr} {fs : List (Str × V)} (h : EndAt H wss m t) (hp : H p = some (.ins C dx fs)) (k : Kp p H H') : EndAt H' wss m t := by
  obtain ⟨a1, a2, h1, h2, h3⟩ := h
  have ne : ∀ {a : Addr} {xs : List V}, H a = some (.tup xs) → a ≠ p := fun e => ins_ne hp e (fun _ _ _ z => by cases z)
  exact ⟨a1, a2, k _ _ (ne h1) h1, k _ _ (ne h2) h2, k _ _ (ne h3) h3⟩
theorem ok_Service_init (T : TxSvc w K mg) : FnOk P w K mg base (L2.CX P w) 5 T.f_Service_init T.d_Service_init P_Service_init (spSvcInit T) := by
  have G_is_name := ok_is_name (P := P) (w := w) (base := base) T.toTxCheck
  have G_are_names := ok_are_names (P := P) (w := w) (base := base) T.toTxSeq
  have G_are_some_names := ok_are_some_names (P := P) (w := w) (base := base) T.toTxSeq
  have G_are_rows := ok_are_rows (P := P) (w := w) (base := base) T
  have G_ascending := ok_ascending (P := P) (w := w) (base := base) T
  have G_InvalidService_init := ok_xsvc (P := P) (w := w) (base := base) T
  have G_endings_in := ok_endings_in (P := P) (w := w) (base := base) T
  refine T.F_Service_init.ok sc_Service_init (fun vs H Q E h => ?_) (fun cdv A outer s H vs Q E hr h => ?_)
  · obtain ⟨p, dx, n, k, wt, lv, rw, b1, b2, b3, b4, rfl, _⟩ := h
    rfl
  obtain ⟨p, dx, n, k, wt, lv, rw, b1, b2, b3, b4, rfl, hp, hn, hk, hw, hl, hr5, q, qe⟩ := h
  refine ⟨_, (pss_cons (ps_if (pt_not (pt_val (pe_call G_is_name (hr.mono (by decide)) (by rfl) T.m_is_name T.F_is_name.kp T.b_is_name .nil pass0 (pa_cons (pv 1) pa_nil)))) (pss_one (ps_raise rfl (takes_of rfl rfl rfl rfl) (pmk_oex T.oxSvc T.iSvc T.tSvc G_InvalidService_init (hr.mono (by decide)) T.b_InvalidService_init .nil pass0 (by rfl) T.m_InvalidService (pa_cons pe_str pa_nil)))) pss_nil)
      (pss_cons (ps_if (pt_not (pt_val (pe_call G_are_some_names (hr.mono (by decide)) (by rfl) T.m_are_some_names T.F_are_some_names.kp T.b_are_some_names .nil pass0 (pa_cons (pv 2) pa_nil)))) (pss_one (ps_raise rfl (takes_of rfl rfl rfl rfl) (pmk_oex T.oxSvc T.iSvc T.tSvc G_InvalidService_init (hr.mono (by decide)) T.b_InvalidService_init .nil pass0 (by rfl) T.m_InvalidService (pa_cons pe_str pa_nil)))) pss_nil)
      (pss_cons (ps_if (pt_not (pt_val (pe_call G_are_names (hr.mono (by decide)) (by rfl) T.m_are_names T.F_are_names.kp T.b_are_names .nil pass0 (pa_cons (pv 3) pa_nil)))) (pss_one (ps_raise rfl (takes_of rfl rfl rfl rfl) (pmk_oex T.oxSvc T.iSvc T.tSvc G_InvalidService_init (hr.mono (by decide)) T.b_InvalidService_init .nil pass0 (by rfl) T.m_InvalidService (pa_cons pe_str pa_nil)))) pss_nil)
      (pss_cons (ps_if (pt_not (pt_val (pe_call G_are_names (hr.mono (by decide)) (by rfl) T.m_are_names T.F_are_names.kp T.b_are_names .nil pass0 (pa_cons (pv 4) pa_nil)))) (pss_one (ps_raise rfl (takes_of rfl rfl rfl rfl) (pmk_oex T.oxSvc T.iSvc T.tSvc G_InvalidService_init (hr.mono (by decide)) T.b_InvalidService_init .nil pass0 (by rfl) T.m_InvalidService (pa_cons pe_str pa_nil)))) pss_nil)
      (pss_cons (ps_if (pt_not (pt_val (pe_call G_are_rows (hr.mono (by decide)) (by rfl) T.m_are_rows T.F_are_rows.kp T.b_are_rows .nil pass0 (pa_cons (pv 5) pa_nil)))) (pss_one (ps_raise rfl (takes_of rfl rfl rfl rfl) (pmk_oex T.oxSvc T.iSvc T.tSvc G_InvalidService_init (hr.mono (by decide)) T.b_InvalidService_init .nil pass0 (by rfl) T.m_InvalidService (pa_cons pe_str pa_nil)))) pss_nil)
      (pss_cons (ps_fld (pv 0) (pv 1) rfl)
      (pss_cons (ps_fld (pv 0) (pe_callTy (call_tupQ K) (by rfl) T.z_tuple (by decide +kernel) (pa_cons (pv 2) pa_nil)) rfl)
      (pss_cons (ps_fld (pv 0) (pe_callTy (call_tupQ K) (by rfl) T.z_tuple (by decide +kernel) (pa_cons (pv 3) pa_nil)) rfl)
      (pss_cons (ps_fld (pv 0) (pe_callTy (call_tupQ K) (by rfl) T.z_tuple (by decide +kernel) (pa_cons (pv 4) pa_nil)) rfl)
      (pss_cons (ps_fld (pv 0) (pe_callTy (call_tupQ K) (by rfl) T.z_tuple (by decide +kernel) (pa_cons (pv 5) pa_nil)) rfl)
      (pss_cons (ps_setLc (i := 6) (own := [("row", 7)]) (g := gName 7) (by rfl) sc_Service_init.nd rfl rfl (sw_true rfl rfl rfl (by decide +kernel)) (pi_seqK K (pv 5)) (blkOk_by (own := [("row", 7)]) (N := N_Service_init) (sc := defScope s_Service_init) (by decide +kernel)) (fun _ _ _ _ _ => (pg_name (i := 7) sc_Service_init.nd rfl (Or.inl rfl))) (fun _ _ _ _ _ => pts_one (by exact (pt_val (pe_callB (call_isiV K) (by rfl) T.z_isinstance (by decide +kernel) (pa_cons (pv 7) (pa_cons (pe_glob (v := .ref T.C_Back) (by rfl) T.m_Back rfl) pa_nil)))))) (fun _ _ _ _ _ => (pe_fldK K (pv 7))))
      (pss_cons (ps_fld (pv 0) (pe_call G_ascending (hr.mono (by decide)) (by rfl) T.m_ascending T.F_ascending.kp T.b_ascending .nil pass0 (pa_cons (pe_lst (pa_cons pe_str (pa_starK K (pe_lc (own := [("row", 7)]) (g := gName 7) (by rfl) sc_Service_init.nd (pi_seqK K (pv 5)) (blkOk_by (own := [("row", 7)]) (N := N_Service_init) (sc := defScope s_Service_init) (by decide +kernel)) (fun _ _ _ _ _ => (pg_name (i := 7) sc_Service_init.nd rfl (Or.inl rfl))) (fun _ _ _ _ _ => pts_nil) (fun _ _ _ _ _ => (pe_fldK K (pv 7)))) (pa_starK K (pv 6) pa_nil)))) pa_nil)) rfl)
      (pss_cons (ps_fld (pv 0) (pe_lc (own := [("row", 7)]) (g := gName 7) (by rfl) sc_Service_init.nd (pi_seqK K (pv 5)) (blkOk_by (own := [("row", 7)]) (N := N_Service_init) (sc := defScope s_Service_init) (by decide +kernel)) (fun _ _ _ _ _ => (pg_name (i := 7) sc_Service_init.nd rfl (Or.inl rfl))) (fun _ _ _ _ _ => pts_one (by exact (pt_val (pe_callB (call_isiV K) (by rfl) T.z_isinstance (by decide +kernel) (pa_cons (pv 7) (pa_cons (pe_glob (v := .ref T.C_Begin) (by rfl) T.m_Begin rfl) pa_nil)))))) (fun _ _ _ _ _ => (pe_tup (pa_cons (pe_fldK K (pv 7)) (pa_cons (pe_fldK K (pv 7)) (pa_cons (pe_fldK K (pv 7)) pa_nil)))))) rfl)
      (pss_cons (ps_fld (pv 0) (pe_lc (own := [("row", 7)]) (g := gName 7) (by rfl) sc_Service_init.nd (pi_seqK K (pv 5)) (blkOk_by (own := [("row", 7)]) (N := N_Service_init) (sc := defScope s_Service_init) (by decide +kernel)) (fun _ _ _ _ _ => (pg_name (i := 7) sc_Service_init.nd rfl (Or.inl rfl))) (fun _ _ _ _ _ => pts_one (by exact (pt_val (pe_callB (call_isiV K) (by rfl) T.z_isinstance (by decide +kernel) (pa_cons (pv 7) (pa_cons (pe_glob (v := .ref T.C_Send) (by rfl) T.m_Send rfl) pa_nil)))))) (fun _ _ _ _ _ => (pe_tup (pa_cons (pe_fldK K (pv 7)) (pa_cons (pe_fldK K (pv 7)) (pa_cons (pe_fldK K (pv 7)) pa_nil)))))) rfl)
      (pss_cons (ps_fld (pv 0) (pe_lc (own := [("row", 7)]) (g := gName 7) (by rfl) sc_Service_init.nd (pi_seqK K (pv 5)) (blkOk_by (own := [("row", 7)]) (N := N_Service_init) (sc := defScope s_Service_init) (by decide +kernel)) (fun _ _ _ _ _ => (pg_name (i := 7) sc_Service_init.nd rfl (Or.inl rfl))) (fun _ _ _ _ _ => pts_one (by exact (pt_val (pe_callB (call_isiV K) (by rfl) T.z_isinstance (by decide +kernel) (pa_cons (pv 7) (pa_cons (pe_glob (v := .ref T.C_Back) (by rfl) T.m_Back rfl) pa_nil)))))) (fun _ _ _ _ _ => (pe_tup (pa_cons (pe_fldK K (pv 7)) (pa_cons (pe_fldK K (pv 7)) (pa_cons (pe_fldK K (pv 7)) (pa_cons (pe_fldK K (pv 7)) pa_nil))))))) rfl)
      (pss_cons (ps_fld (pv 0) (pe_lc (own := [("row", 7)]) (g := gName 7) (by rfl) sc_Service_init.nd (pi_seqK K (pv 5)) (blkOk_by (own := [("row", 7)]) (N := N_Service_init) (sc := defScope s_Service_init) (by decide +kernel)) (fun _ _ _ _ _ => (pg_name (i := 7) sc_Service_init.nd rfl (Or.inl rfl))) (fun _ _ _ _ _ => pts_one (by exact (pt_val (pe_callB (call_isiV K) (by rfl) T.z_isinstance (by decide +kernel) (pa_cons (pv 7) (pa_cons (pe_glob (v := .ref T.C_End) (by rfl) T.m_End rfl) pa_nil)))))) (fun _ _ _ _ _ => (pe_tup (pa_cons (pe_fldK K (pv 7)) (pa_cons (pe_fldK K (pv 7)) (pa_cons (pe_fldK K (pv 7)) (pa_cons (pe_fldK K (pv 7)) pa_nil))))))) rfl)
      (pss_one (ps_fld (pv 0) (pe_dc (own := [("mood", 8)]) (g := gName 8) (by rfl) sc_Service_init.nd (pi_tupK K (pe_fldK K (pv 0))) (blkOk_by (own := [("mood", 8)]) (N := N_Service_init) (sc := defScope s_Service_init) (by decide +kernel)) (fun _ _ _ _ _ => (pg_name (i := 8) sc_Service_init.nd rfl (Or.inl rfl))) (fun _ _ _ _ _ => pts_nil) (fun _ _ _ _ _ => (pv 8)) (fun _ _ _ _ _ => (pe_call G_endings_in (hr.mono (by decide)) (by rfl) T.m_endings_in T.F_endings_in.kp T.b_endings_in .nil pass0 (pa_cons (pe_fldK K (pv 0)) (pa_cons (pv 8) pa_nil))))) rfl)))))))))))))))))), ?_⟩
  have bad : ∀ {b : Bool} {α : Prop}, b = false → b = true → α := fun h1 h2 => by rw [h1] at h2; cases h2
  refine ⟨_, rfl, n, rfl, hn, fun H1 s1 => ⟨_, rfl, ?_⟩⟩
  refine ite2 (fun c => ?_) (fun c0 => ?_)
  · exact mk_word fun d H' s' n' e' => qe "name" d H' (by unfold wrSvc; rw [if_pos (bnot_eq c)]) (s1.trans s') (s1.free n') e'
  have w0 : ¬ nmV n = false := fun z => bad z (bnot_ne c0)
  refine ⟨_, rfl, k, b1, rfl, hk.same s1, fun H2 s2 => ⟨_, rfl, ?_⟩⟩
  have t2 := s1.trans s2
  refine ite2 (fun c => ?_) (fun c1 => ?_)
  · exact mk_word fun d H' s' n' e' => qe "kinds" d H' (by unfold wrSvc; rw [if_neg w0, if_pos (bnot_eq c)]) (t2.trans s') (t2.free n') e'
  have w1 : ¬ b1 = false := fun z => bad z (bnot_ne c1)
  refine ⟨_, rfl, wt, b2, rfl, hw.same t2, fun H3 s3 => ⟨_, rfl, ?_⟩⟩
  have t3 := t2.trans s3
  refine ite2 (fun c => ?_) (fun c2 => ?_)
  · exact mk_word fun d H' s' n' e' => qe "waits" d H' (by unfold wrSvc; rw [if_neg w0, if_neg w1, if_pos (bnot_eq c)]) (t3.trans s') (t3.free n') e'
  have w2 : ¬ b2 = false := fun z => bad z (bnot_ne c2)
  refine ⟨_, rfl, lv, b3, rfl, hl.same t3, fun H4 s4 => ⟨_, rfl, ?_⟩⟩
  have t4 := t3.trans s4
  refine ite2 (fun c => ?_) (fun c3 => ?_)
  · exact mk_word fun d H' s' n' e' => qe "leaves" d H' (by unfold wrSvc; rw [if_neg w0, if_neg w1, if_neg w2, if_pos (bnot_eq c)]) (t4.trans s') (t4.free n') e'
  have w3 : ¬ b3 = false := fun z => bad z (bnot_ne c3)
  refine ⟨_, rfl, rw, b4, rfl, hr5.same t4, fun H5 s5 => ⟨_, rfl, ?_⟩⟩
  have t5 := t4.trans s5
  refine ite2 (fun c => ?_) (fun c4 => ?_)
  · exact mk_word fun d H' s' n' e' => qe "rows" d H' (by unfold wrSvc; rw [if_neg w0, if_neg w1, if_neg w2, if_neg w3, if_pos (bnot_eq c)]) (t5.trans s') (t5.free n') e'
  have w4 : ¬ b4 = false := fun z => bad z (bnot_ne c4)
  obtain ⟨y, ka, wa, la, ra, lk, lw, ll0, xs, rs, rfl, rfl, rfl, rfl, rfl, hK, hW, hL, hR, hrows, hms, fin⟩ := q (by unfold wrSvc; rw [if_neg w0, if_neg w1, if_neg w2, if_neg w3, if_neg w4])
  have lxs := paired_len2 hrows
  · skip
    have hp5 := t5 _ _ hp
    have k5 : Kp p H5 H5 := Kp.refl
    -- the fields, one by one
    refine ⟨_, rfl, _, rfl, p, T.C_Service, dx, _, rfl, hp5, T.c_Service, T.n_Service_name, (by show 0 < 1000; decide), ?_⟩
    have k6 := k5.put (.ins T.C_Service dx [("name", .str y)])
    refine ⟨_, rfl, ⟨ka, _, rfl, (hK.same t5).kp hp5 k6, fun k2 H7 s7 c7 => ?_⟩⟩
    have p7 := s7 _ _ (upd_same (H := H5) (a := p) (o := .ins T.C_Service dx [("name", .str y)]))
    have k7 := k6.same s7
    refine ⟨_, rfl, p, T.C_Service, dx, _, rfl, p7, T.c_Service, T.n_Service_kinds, (by show 1 < 1000; decide), ?_⟩
    have k8 := k7.put (.ins T.C_Service dx [("name", .str y), ("kinds", .ref k2)])
    have j8 : Kp p H7 _ := Kp.refl.put (.ins T.C_Service dx [("name", .str y), ("kinds", .ref k2)])
    refine ⟨_, rfl, ⟨wa, _, rfl, (hW.same t5).kp hp5 k8, fun w2 H9 s9 c9 => ?_⟩⟩
    have p9 := s9 _ _ (upd_same (H := H7) (a := p) (o := .ins T.C_Service dx [("name", .str y), ("kinds", .ref k2)]))
    have k9 := k8.same s9
    have j9 := j8.same s9
    refine ⟨_, rfl, p, T.C_Service, dx, _, rfl, p9, T.c_Service, T.n_Service_waits, (by show 2 < 1000; decide), ?_⟩
    have k10 := k9.put (.ins T.C_Service dx [("name", .str y), ("kinds", .ref k2), ("waits", .ref w2)])
    have j10 : Kp p H9 _ := Kp.refl.put (.ins T.C_Service dx [("name", .str y), ("kinds", .ref k2), ("waits", .ref w2)])
    refine ⟨_, rfl, ⟨la, _, rfl, (hL.same t5).kp hp5 k10, fun e2 H11 s11 c11 => ?_⟩⟩
    have p11 := s11 _ _ (upd_same (H := H9) (a := p) (o := .ins T.C_Service dx [("name", .str y), ("kinds", .ref k2), ("waits", .ref w2)]))
    have k11 := k10.same s11
    have j11 := j10.same s11
    refine ⟨_, rfl, p, T.C_Service, dx, _, rfl, p11, T.c_Service, T.n_Service_leaves, (by show 3 < 1000; decide), ?_⟩
    have k12 := k11.put (.ins T.C_Service dx [("name", .str y), ("kinds", .ref k2), ("waits", .ref w2), ("leaves", .ref e2)])
    have j12 : Kp p H11 _ := Kp.refl.put (.ins T.C_Service dx [("name", .str y), ("kinds", .ref k2), ("waits", .ref w2), ("leaves", .ref e2)])
    refine ⟨_, rfl, ⟨ra, _, rfl, (hR.same t5).kp hp5 k12, fun r2 H13 s13 c13 => ?_⟩⟩
    have p13 := s13 _ _ (upd_same (H := H11) (a := p) (o := .ins T.C_Service dx [("name", .str y), ("kinds", .ref k2), ("waits", .ref w2), ("leaves", .ref e2)]))
    have k13 := k12.same s13
    have j13 := j12.same s13
    refine ⟨_, rfl, p, T.C_Service, dx, _, rfl, p13, T.c_Service, T.n_Service_rows, (by show 4 < 1000; decide), ?_⟩
    have k14 := k13.put (.ins T.C_Service dx [("name", .str y), ("kinds", .ref k2), ("waits", .ref w2), ("leaves", .ref e2), ("rows", .ref r2)])
    have j14 : Kp p H13 _ := Kp.refl.put (.ins T.C_Service dx [("name", .str y), ("kinds", .ref k2), ("waits", .ref w2), ("leaves", .ref e2), ("rows", .ref r2)])
    have p14 : upd H13 p (.ins T.C_Service dx [("name", .str y), ("kinds", .ref k2), ("waits", .ref w2), ("leaves", .ref e2), ("rows", .ref r2)]) p = some (.ins T.C_Service dx [("name", .str y), ("kinds", .ref k2), ("waits", .ref w2), ("leaves", .ref e2), ("rows", .ref r2)]) := upd_same
    have rows14 := paired_rw T hp5 k14 (paired_rwS T t5 hrows)
    have sq14 := (hR.same t5).kp hp5 k14
    have cK := sqT_kp (sqT_kp (sqT_kp (sqT_kp c7 p7 j9) p9 j11) p11 j13) p13 j14
    have cW := sqT_kp (sqT_kp (sqT_kp c9 p9 j11) p11 j13) p13 j14
    have cL := sqT_kp (sqT_kp c11 p11 j13) p13 j14
    have cR := sqT_kp c13 p13 j14
    have kAll : Kp p H (upd H13 p (.ins T.C_Service dx [("name", .str y), ("kinds", .ref k2), ("waits", .ref w2), ("leaves", .ref e2), ("rows", .ref r2)])) := fun b u n e => k14 b u n (t5 b u e)
    generalize hH14 : upd H13 p (.ins T.C_Service dx (putF "rows" (.ref r2) [("name", .str y), ("kinds", .ref k2), ("waits", .ref w2), ("leaves", .ref e2)])) = H14
    have e14 : upd H13 p (.ins T.C_Service dx [("name", .str y), ("kinds", .ref k2), ("waits", .ref w2), ("leaves", .ref e2), ("rows", .ref r2)]) = H14 := hH14
    rw [e14] at p14 rows14 sq14 cK cW cL cR kAll
    clear k14 j14 k13 j13 k12 j12 k11 j11 k10 j10 k9 j9 k8 j8 k7 k6 k5
    refine ⟨_, rfl, ra, xs, rfl, sq14, fun J G g0 gs wk D hD => ?_⟩
    refine lc_it wk (fun i H' => Same H14 H' ∧ H' D = some (.lst (((rs.take i).flatMap then1).map V.str))) ⟨same_upd hD _, upd_same⟩ (fun i H' _ h => gs _ _ h.1 g0) ?_ ?_
    · rintro i x H2 H3 hi ⟨s2, hD2⟩ ⟨rfl, hx⟩
      obtain ⟨r, hr1, hrw⟩ := paired_get rows14 hx
      have hrw2 := hrw.same s2
      have tk : (rs.take (i + 1)).flatMap then1 = (rs.take i).flatMap then1 ++ then1 r := by
        rw [List.take_add_one, hr1, List.flatMap_append]
        simp
      have few : ((rs.take i).flatMap then1).length ≤ rs.length := Nat.le_trans (thens_len _) (List.length_take_le' _ _)
      refine ⟨rfl, ?_⟩
      rw [tk]
      cases hrw2 with
      | @beg a dx2 x y z ha =>
        refine ⟨_, rfl, .ref a, .ref T.C_Back, .ref T.C_Begin, _, false, rfl, .own _, T.ty_Begin _ _ _ _ ha, T.kk_Begin_Back, _, rfl, iteF ⟨s2, ?_⟩⟩
        rw [show then1 ("begin", [x, y, z]) = [] from rfl, List.append_nil]
        exact hD2
      | @snd a dx2 x y z ha =>
        refine ⟨_, rfl, .ref a, .ref T.C_Back, .ref T.C_Send, _, false, rfl, .own _, T.ty_Send _ _ _ _ ha, T.kk_Send_Back, _, rfl, iteF ⟨s2, ?_⟩⟩
        rw [show then1 ("send", [x, y, z]) = [] from rfl, List.append_nil]
        exact hD2
      | @end_ a dx2 x y z t ha =>
        refine ⟨_, rfl, .ref a, .ref T.C_Back, .ref T.C_End, _, false, rfl, .own _, T.ty_End _ _ _ _ ha, T.kk_End_Back, _, rfl, iteF ⟨s2, ?_⟩⟩
        rw [show then1 ("end", [x, y, z, t]) = [] from rfl, List.append_nil]
        exact hD2
      | @bck a dx2 x y z t ha =>
        refine ⟨_, rfl, .ref a, .ref T.C_Back, .ref T.C_Back, _, true, rfl, .own _, T.ty_Back _ _ _ _ ha, T.kk_Back_Back, _, rfl, iteT ?_⟩
        refine ⟨_, rfl, a, T.C_Back, dx2, _, _, rfl, ha, T.c_Back, T.n_Back_then, rfl, _, hD2, small1000 (by rw [List.length_map]; omega), fun b o e => ?_, ?_⟩
        · rw [upd_ne (ne_of_none e hD)]
          exact s2 b o e
        · rw [upd_same, List.map_append]
          rfl
    rintro H2 ⟨s2, hD2⟩
    have lms : xs.length = rs.length := lxs
    rw [lms, List.take_length] at hD2
    refine ⟨_, rfl, ra, xs, rfl, sq14.same s2, fun J2 G2 g2 gs2 wk2 D2 hD3 => ?_⟩
    refine lc_it wk2 (fun i H' => Same H2 H' ∧ H' D2 = some (.lst (((rs.take i).map mood1).map V.str))) ⟨same_upd hD3 _, upd_same⟩ (fun i H' _ h => gs2 _ _ h.1 g2) ?_ ?_
    · rintro i x H3 H4 hi ⟨s3, hD4⟩ ⟨rfl, hx⟩
      obtain ⟨r, hr1, hrw⟩ := paired_get rows14 hx
      obtain ⟨a, C, dx2, fs, rfl, ha, cl, na, hm⟩ := row_mood T (hrw.same (s2.trans s3))
      have few : ((rs.take i).map mood1).length ≤ rs.length := by rw [List.length_map]; exact List.length_take_le' _ _
      refine ⟨rfl, ?_⟩
      refine ⟨_, rfl, a, C, dx2, fs, _, rfl, ha, cl, na, hm, _, hD4, small1000 (by rw [List.length_map]; omega), fun b o e => ?_, ?_⟩
      · rw [upd_ne (ne_of_none e hD3)]
        exact s3 b o e
      · rw [upd_same, List.take_add_one, hr1, List.map_append, List.map_append]
        rfl
    rintro H3 ⟨s3, hD4⟩
    rw [lms, List.take_length] at hD4
    have s23 := s2.trans s3
    have fl : (rs.flatMap then1).length ≤ rs.length := thens_len _
    refine ⟨D2, _, rfl, .inr (SqL.of hD4), _, rfl, D, _, rfl, .inr (SqL.of (s3 _ _ hD2)), ?_, fun ll hll => ?_⟩
    · simp only [List.length_cons, List.length_append, List.length_map, List.length_nil]
      rw [sizeLine_eq]
      omega
    have s4 := s23.trans (same_upd hll (.lst (V.str "calm" :: (((rs.map mood1).map V.str) ++ (((rs.flatMap then1).map V.str) ++ [])))))
    have eL : (V.str "calm" :: (((rs.map mood1).map V.str) ++ (((rs.flatMap then1).map V.str) ++ []))) = ((("calm" : Str) :: (rs.map mood1 ++ rs.flatMap then1)).map V.str) := by
      rw [List.append_nil, List.map_cons, List.map_append]
    have lenL : (("calm" : Str) :: (rs.map mood1 ++ rs.flatMap then1)).length ≤ 57 := by
      simp only [List.length_cons, List.length_append, List.length_map]
      omega
    refine ⟨ll, ("calm" : Str) :: (rs.map mood1 ++ rs.flatMap then1), rfl, .inl (SqL.of (by rw [← eL]; exact upd_same)), by omega, fun ys m2 H5 s5 nm2 hm2 nd so mem0 => ?_⟩
    have yl : ys.length ≤ 57 := Nat.le_trans (nodup_sub nd fun y hy => ((mem0 y).mp hy).1) lenL
    have mem : ∀ z, z ∈ ys ↔ z ∈ moodsL rs ∧ ODDW2.contains z = false := fun z => by
      rw [mem0]
      unfold moodsL
      rw [List.mem_cons, List.mem_cons, moods_mem]
    clear mem0
    have s6 := s4.trans s5
    have p6 := s6 _ _ p14
    refine ⟨_, rfl, p, T.C_Service, dx, _, rfl, p6, T.c_Service, T.n_Service_moods, (by show 5 < 1000; decide), ?_⟩
    -- what is carried on
    let Base : Hp → Prop := fun A => Kp p H A ∧ SqT K A k2 (lk.map V.str) ∧ SqT K A w2 (lw.map V.str) ∧ SqT K A e2 (ll0.map V.str) ∧ SqT K A r2 xs ∧ SqT K A m2 (ys.map V.str)
    have bS : ∀ {A B : Hp}, Base A → Same A B → Base B := fun h s => ⟨h.1.same s, seqT_same s h.2.1, seqT_same s h.2.2.1, seqT_same s h.2.2.2.1, seqT_same s h.2.2.2.2.1, seqT_same s h.2.2.2.2.2⟩
    have bK : ∀ {A B : Hp} {C dx : Addr} {fs : List (Str × V)}, Base A → A p = some (.ins C dx fs) → Kp p A B → Base B := fun h e k => ⟨h.1.trans k, sqT_kp h.2.1 e k, sqT_kp h.2.2.1 e k, sqT_kp h.2.2.2.1 e k, sqT_kp h.2.2.2.2.1 e k, sqT_kp h.2.2.2.2.2 e k⟩
    have base6 : Base H5 := ⟨kAll.same s6, seqT_same s6 cK, seqT_same s6 cW, seqT_same s6 cL, seqT_same s6 cR, SqT.of hm2⟩
    have base7 := bK base6 p6 (Kp.refl.put (.ins T.C_Service dx [("name", .str y), ("kinds", .ref k2), ("waits", .ref w2), ("leaves", .ref e2), ("rows", .ref r2), ("moods", .ref m2)]))
    have rowsB : ∀ {A : Hp}, Base A → Paired (RwAt T A) xs rs := fun h => paired_rw T hp h.1 hrows
    have sqB : ∀ {A : Hp}, Base A → SqA K A ra xs := fun h => hR.kp hp h.1
    have n4 := ends4 hrows
    clear base6 cK cW cL cR kAll rows14 sq14
    have pX := upd_same (H := H5) (a := p) (o := .ins T.C_Service dx [("name", .str y), ("kinds", .ref k2), ("waits", .ref w2), ("leaves", .ref e2), ("rows", .ref r2), ("moods", .ref m2)])
    generalize hX : upd H5 p (.ins T.C_Service dx (putF "moods" (.ref m2) [("name", .str y), ("kinds", .ref k2), ("waits", .ref w2), ("leaves", .ref e2), ("rows", .ref r2)])) = HX
    have eX : upd H5 p (.ins T.C_Service dx [("name", .str y), ("kinds", .ref k2), ("waits", .ref w2), ("leaves", .ref e2), ("rows", .ref r2), ("moods", .ref m2)]) = HX := hX
    rw [eX] at base7 pX
    clear hX eX
    -- _begins
    refine ⟨_, rfl, ra, xs, rfl, sqB base7, fun J3 G3 g3 gs3 wk3 Dbegin hDbegin => ?_⟩
    refine lc_it wk3 (fun i H' => Same HX H' ∧ TupsAt H' Dbegin (wordsOf "begin" (rs.take i))) ⟨same_upd hDbegin _, ⟨[], upd_same, .nil⟩⟩ (fun i H' _ h => gs3 _ _ h.1 g3) ?_ ?_
    · rintro i x H3 H4 hi ⟨s3, tp⟩ ⟨rfl, hx⟩
      obtain ⟨r, hr1, hrw⟩ := paired_get (rowsB base7) hx
      have few : (wordsOf "begin" (rs.take i)).length ≤ 28 := Nat.le_trans (wordsOf_len _ _) (Nat.le_trans (List.length_take_le' _ _) hms)
      refine ⟨rfl, ?_⟩
      cases hrw.same s3 with
      | @beg a dx2 x y z ha =>
        refine ⟨_, rfl, .ref a, .ref T.C_Begin, .ref T.C_Begin, _, true, rfl, .own _, T.ty_Begin _ _ _ _ ha, T.kk_Begin_Begin, _, rfl, iteT ?_⟩
        refine ⟨_, rfl, a, T.C_Begin, dx2, _, _, rfl, ha, T.c_Begin, T.n_Begin_mark, rfl, _, rfl, a, T.C_Begin, dx2, _, _, rfl, ha, T.c_Begin, T.n_Begin_kind, rfl, _, rfl, a, T.C_Begin, dx2, _, _, rfl, ha, T.c_Begin, T.n_Begin_mood, rfl, by show 3 ≤ sizeLine; decide, fun t9 ht => ?_⟩
        obtain ⟨vs, h1, h2, h3⟩ := tp.more (ws := [x, y, z]) ht
        refine ⟨vs, h1, small1000 (by omega), fun b o e => ?_, by rw [wordsOf_yes hr1]; exact h3⟩
        rw [upd_ne (ne_of_none e hDbegin)]
        exact same_upd ht _ _ _ (s3 b o e)
      | @snd a dx2 x y z ha =>
        refine ⟨_, rfl, .ref a, .ref T.C_Begin, .ref T.C_Send, _, false, rfl, .own _, T.ty_Send _ _ _ _ ha, T.kk_Send_Begin, _, rfl, iteF ⟨s3, ?_⟩⟩
        rw [wordsOf_no hr1 (by decide)]
        exact tp
      | @bck a dx2 x y z t ha =>
        refine ⟨_, rfl, .ref a, .ref T.C_Begin, .ref T.C_Back, _, false, rfl, .own _, T.ty_Back _ _ _ _ ha, T.kk_Back_Begin, _, rfl, iteF ⟨s3, ?_⟩⟩
        rw [wordsOf_no hr1 (by decide)]
        exact tp
      | @end_ a dx2 x y z t ha =>
        refine ⟨_, rfl, .ref a, .ref T.C_Begin, .ref T.C_End, _, false, rfl, .own _, T.ty_End _ _ _ _ ha, T.kk_End_Begin, _, rfl, iteF ⟨s3, ?_⟩⟩
        rw [wordsOf_no hr1 (by decide)]
        exact tp
    rintro HA0 ⟨sA0, tpbegin⟩
    rw [lms, List.take_length] at tpbegin
    have frbegin := kp_free base7.1 pX hDbegin
    have pA0 := sA0 _ _ pX
    refine ⟨_, rfl, p, T.C_Service, dx, _, rfl, pA0, T.c_Service, T.n_Service__begins, (by show 6 < 1000; decide), ?_⟩
    have kB0 : Kp p HA0 (upd HA0 p (.ins T.C_Service dx [("name", .str y), ("kinds", .ref k2), ("waits", .ref w2), ("leaves", .ref e2), ("rows", .ref r2), ("moods", .ref m2), ("_begins", .ref Dbegin)])) := Kp.refl.put _
    have pB0 := upd_same (H := HA0) (a := p) (o := .ins T.C_Service dx [("name", .str y), ("kinds", .ref k2), ("waits", .ref w2), ("leaves", .ref e2), ("rows", .ref r2), ("moods", .ref m2), ("_begins", .ref Dbegin)])
    have base8 := bK (bS base7 sA0) pA0 kB0
    have tqbegin := tpbegin.kp pA0 kB0
    generalize hX : upd HA0 p (.ins T.C_Service dx (putF "_begins" (.ref Dbegin) [("name", .str y), ("kinds", .ref k2), ("waits", .ref w2), ("leaves", .ref e2), ("rows", .ref r2), ("moods", .ref m2)])) = HB0
    have eX : upd HA0 p (.ins T.C_Service dx [("name", .str y), ("kinds", .ref k2), ("waits", .ref w2), ("leaves", .ref e2), ("rows", .ref r2), ("moods", .ref m2), ("_begins", .ref Dbegin)]) = HB0 := hX
    rw [eX] at base8 pB0 tqbegin kB0
    clear hX eX
    -- _sends
    refine ⟨_, rfl, ra, xs, rfl, sqB base8, fun J4 G4 g4 gs4 wk4 Dsend hDsend => ?_⟩
    refine lc_it wk4 (fun i H' => Same HB0 H' ∧ TupsAt H' Dsend (wordsOf "send" (rs.take i))) ⟨same_upd hDsend _, ⟨[], upd_same, .nil⟩⟩ (fun i H' _ h => gs4 _ _ h.1 g4) ?_ ?_
    · rintro i x H3 H4 hi ⟨s3, tp⟩ ⟨rfl, hx⟩
      obtain ⟨r, hr1, hrw⟩ := paired_get (rowsB base8) hx
      have few : (wordsOf "send" (rs.take i)).length ≤ 28 := Nat.le_trans (wordsOf_len _ _) (Nat.le_trans (List.length_take_le' _ _) hms)
      refine ⟨rfl, ?_⟩
      cases hrw.same s3 with
      | @beg a dx2 x y z ha =>
        refine ⟨_, rfl, .ref a, .ref T.C_Send, .ref T.C_Begin, _, false, rfl, .own _, T.ty_Begin _ _ _ _ ha, T.kk_Begin_Send, _, rfl, iteF ⟨s3, ?_⟩⟩
        rw [wordsOf_no hr1 (by decide)]
        exact tp
      | @snd a dx2 x y z ha =>
        refine ⟨_, rfl, .ref a, .ref T.C_Send, .ref T.C_Send, _, true, rfl, .own _, T.ty_Send _ _ _ _ ha, T.kk_Send_Send, _, rfl, iteT ?_⟩
        refine ⟨_, rfl, a, T.C_Send, dx2, _, _, rfl, ha, T.c_Send, T.n_Send_mood, rfl, _, rfl, a, T.C_Send, dx2, _, _, rfl, ha, T.c_Send, T.n_Send_service, rfl, _, rfl, a, T.C_Send, dx2, _, _, rfl, ha, T.c_Send, T.n_Send_mark, rfl, by show 3 ≤ sizeLine; decide, fun t9 ht => ?_⟩
        obtain ⟨vs, h1, h2, h3⟩ := tp.more (ws := [x, y, z]) ht
        refine ⟨vs, h1, small1000 (by omega), fun b o e => ?_, by rw [wordsOf_yes hr1]; exact h3⟩
        rw [upd_ne (ne_of_none e hDsend)]
        exact same_upd ht _ _ _ (s3 b o e)
      | @bck a dx2 x y z t ha =>
        refine ⟨_, rfl, .ref a, .ref T.C_Send, .ref T.C_Back, _, false, rfl, .own _, T.ty_Back _ _ _ _ ha, T.kk_Back_Send, _, rfl, iteF ⟨s3, ?_⟩⟩
        rw [wordsOf_no hr1 (by decide)]
        exact tp
      | @end_ a dx2 x y z t ha =>
        refine ⟨_, rfl, .ref a, .ref T.C_Send, .ref T.C_End, _, false, rfl, .own _, T.ty_End _ _ _ _ ha, T.kk_End_Send, _, rfl, iteF ⟨s3, ?_⟩⟩
        rw [wordsOf_no hr1 (by decide)]
        exact tp
    rintro HA1 ⟨sA1, tpsend⟩
    rw [lms, List.take_length] at tpsend
    have frsend := kp_free base8.1 pB0 hDsend
    have pA1 := sA1 _ _ pB0
    refine ⟨_, rfl, p, T.C_Service, dx, _, rfl, pA1, T.c_Service, T.n_Service__sends, (by show 7 < 1000; decide), ?_⟩
    have kB1 : Kp p HA1 (upd HA1 p (.ins T.C_Service dx [("name", .str y), ("kinds", .ref k2), ("waits", .ref w2), ("leaves", .ref e2), ("rows", .ref r2), ("moods", .ref m2), ("_begins", .ref Dbegin), ("_sends", .ref Dsend)])) := Kp.refl.put _
    have pB1 := upd_same (H := HA1) (a := p) (o := .ins T.C_Service dx [("name", .str y), ("kinds", .ref k2), ("waits", .ref w2), ("leaves", .ref e2), ("rows", .ref r2), ("moods", .ref m2), ("_begins", .ref Dbegin), ("_sends", .ref Dsend)])
    have base9 := bK (bS base8 sA1) pA1 kB1
    have tqsend := tpsend.kp pA1 kB1
    have tqbegin := (tqbegin.same sA1).kp pA1 kB1
    generalize hX : upd HA1 p (.ins T.C_Service dx (putF "_sends" (.ref Dsend) [("name", .str y), ("kinds", .ref k2), ("waits", .ref w2), ("leaves", .ref e2), ("rows", .ref r2), ("moods", .ref m2), ("_begins", .ref Dbegin)])) = HB1
    have eX : upd HA1 p (.ins T.C_Service dx [("name", .str y), ("kinds", .ref k2), ("waits", .ref w2), ("leaves", .ref e2), ("rows", .ref r2), ("moods", .ref m2), ("_begins", .ref Dbegin), ("_sends", .ref Dsend)]) = HB1 := hX
    rw [eX] at base9 pB1 tqbegin tqsend kB1
    clear hX eX
    -- _backs
    refine ⟨_, rfl, ra, xs, rfl, sqB base9, fun J5 G5 g5 gs5 wk5 Dback hDback => ?_⟩
    refine lc_it wk5 (fun i H' => Same HB1 H' ∧ TupsAt H' Dback (wordsOf "back" (rs.take i))) ⟨same_upd hDback _, ⟨[], upd_same, .nil⟩⟩ (fun i H' _ h => gs5 _ _ h.1 g5) ?_ ?_
    · rintro i x H3 H4 hi ⟨s3, tp⟩ ⟨rfl, hx⟩
      obtain ⟨r, hr1, hrw⟩ := paired_get (rowsB base9) hx
      have few : (wordsOf "back" (rs.take i)).length ≤ 28 := Nat.le_trans (wordsOf_len _ _) (Nat.le_trans (List.length_take_le' _ _) hms)
      refine ⟨rfl, ?_⟩
      cases hrw.same s3 with
      | @beg a dx2 x y z ha =>
        refine ⟨_, rfl, .ref a, .ref T.C_Back, .ref T.C_Begin, _, false, rfl, .own _, T.ty_Begin _ _ _ _ ha, T.kk_Begin_Back, _, rfl, iteF ⟨s3, ?_⟩⟩
        rw [wordsOf_no hr1 (by decide)]
        exact tp
      | @snd a dx2 x y z ha =>
        refine ⟨_, rfl, .ref a, .ref T.C_Back, .ref T.C_Send, _, false, rfl, .own _, T.ty_Send _ _ _ _ ha, T.kk_Send_Back, _, rfl, iteF ⟨s3, ?_⟩⟩
        rw [wordsOf_no hr1 (by decide)]
        exact tp
      | @bck a dx2 x y z t ha =>
        refine ⟨_, rfl, .ref a, .ref T.C_Back, .ref T.C_Back, _, true, rfl, .own _, T.ty_Back _ _ _ _ ha, T.kk_Back_Back, _, rfl, iteT ?_⟩
        refine ⟨_, rfl, a, T.C_Back, dx2, _, _, rfl, ha, T.c_Back, T.n_Back_mood, rfl, _, rfl, a, T.C_Back, dx2, _, _, rfl, ha, T.c_Back, T.n_Back_service, rfl, _, rfl, a, T.C_Back, dx2, _, _, rfl, ha, T.c_Back, T.n_Back_sign, rfl, _, rfl, a, T.C_Back, dx2, _, _, rfl, ha, T.c_Back, T.n_Back_then, rfl, by show 4 ≤ sizeLine; decide, fun t9 ht => ?_⟩
        obtain ⟨vs, h1, h2, h3⟩ := tp.more (ws := [x, y, z, t]) ht
        refine ⟨vs, h1, small1000 (by omega), fun b o e => ?_, by rw [wordsOf_yes hr1]; exact h3⟩
        rw [upd_ne (ne_of_none e hDback)]
        exact same_upd ht _ _ _ (s3 b o e)
      | @end_ a dx2 x y z t ha =>
        refine ⟨_, rfl, .ref a, .ref T.C_Back, .ref T.C_End, _, false, rfl, .own _, T.ty_End _ _ _ _ ha, T.kk_End_Back, _, rfl, iteF ⟨s3, ?_⟩⟩
        rw [wordsOf_no hr1 (by decide)]
        exact tp
    rintro HA2 ⟨sA2, tpback⟩
    rw [lms, List.take_length] at tpback
    have frback := kp_free base9.1 pB1 hDback
    have pA2 := sA2 _ _ pB1
    refine ⟨_, rfl, p, T.C_Service, dx, _, rfl, pA2, T.c_Service, T.n_Service__backs, (by show 8 < 1000; decide), ?_⟩
    have kB2 : Kp p HA2 (upd HA2 p (.ins T.C_Service dx [("name", .str y), ("kinds", .ref k2), ("waits", .ref w2), ("leaves", .ref e2), ("rows", .ref r2), ("moods", .ref m2), ("_begins", .ref Dbegin), ("_sends", .ref Dsend), ("_backs", .ref Dback)])) := Kp.refl.put _
    have pB2 := upd_same (H := HA2) (a := p) (o := .ins T.C_Service dx [("name", .str y), ("kinds", .ref k2), ("waits", .ref w2), ("leaves", .ref e2), ("rows", .ref r2), ("moods", .ref m2), ("_begins", .ref Dbegin), ("_sends", .ref Dsend), ("_backs", .ref Dback)])
    have base10 := bK (bS base9 sA2) pA2 kB2
    have tqback := tpback.kp pA2 kB2
    have tqbegin := (tqbegin.same sA2).kp pA2 kB2
    have tqsend := (tqsend.same sA2).kp pA2 kB2
    generalize hX : upd HA2 p (.ins T.C_Service dx (putF "_backs" (.ref Dback) [("name", .str y), ("kinds", .ref k2), ("waits", .ref w2), ("leaves", .ref e2), ("rows", .ref r2), ("moods", .ref m2), ("_begins", .ref Dbegin), ("_sends", .ref Dsend)])) = HB2
    have eX : upd HA2 p (.ins T.C_Service dx [("name", .str y), ("kinds", .ref k2), ("waits", .ref w2), ("leaves", .ref e2), ("rows", .ref r2), ("moods", .ref m2), ("_begins", .ref Dbegin), ("_sends", .ref Dsend), ("_backs", .ref Dback)]) = HB2 := hX
    rw [eX] at base10 pB2 tqbegin tqsend tqback kB2
    clear hX eX
    -- _ends
    refine ⟨_, rfl, ra, xs, rfl, sqB base10, fun J6 G6 g6 gs6 wk6 Dend hDend => ?_⟩
    refine lc_it wk6 (fun i H' => Same HB2 H' ∧ TupsAt H' Dend (wordsOf "end" (rs.take i))) ⟨same_upd hDend _, ⟨[], upd_same, .nil⟩⟩ (fun i H' _ h => gs6 _ _ h.1 g6) ?_ ?_
    · rintro i x H3 H4 hi ⟨s3, tp⟩ ⟨rfl, hx⟩
      obtain ⟨r, hr1, hrw⟩ := paired_get (rowsB base10) hx
      have few : (wordsOf "end" (rs.take i)).length ≤ 28 := Nat.le_trans (wordsOf_len _ _) (Nat.le_trans (List.length_take_le' _ _) hms)
      refine ⟨rfl, ?_⟩
      cases hrw.same s3 with
      | @beg a dx2 x y z ha =>
        refine ⟨_, rfl, .ref a, .ref T.C_End, .ref T.C_Begin, _, false, rfl, .own _, T.ty_Begin _ _ _ _ ha, T.kk_Begin_End, _, rfl, iteF ⟨s3, ?_⟩⟩
        rw [wordsOf_no hr1 (by decide)]
        exact tp
      | @snd a dx2 x y z ha =>
        refine ⟨_, rfl, .ref a, .ref T.C_End, .ref T.C_Send, _, false, rfl, .own _, T.ty_Send _ _ _ _ ha, T.kk_Send_End, _, rfl, iteF ⟨s3, ?_⟩⟩
        rw [wordsOf_no hr1 (by decide)]
        exact tp
      | @bck a dx2 x y z t ha =>
        refine ⟨_, rfl, .ref a, .ref T.C_End, .ref T.C_Back, _, false, rfl, .own _, T.ty_Back _ _ _ _ ha, T.kk_Back_End, _, rfl, iteF ⟨s3, ?_⟩⟩
        rw [wordsOf_no hr1 (by decide)]
        exact tp
      | @end_ a dx2 x y z t ha =>
        refine ⟨_, rfl, .ref a, .ref T.C_End, .ref T.C_End, _, true, rfl, .own _, T.ty_End _ _ _ _ ha, T.kk_End_End, _, rfl, iteT ?_⟩
        refine ⟨_, rfl, a, T.C_End, dx2, _, _, rfl, ha, T.c_End, T.n_End_mood, rfl, _, rfl, a, T.C_End, dx2, _, _, rfl, ha, T.c_End, T.n_End_outcome, rfl, _, rfl, a, T.C_End, dx2, _, _, rfl, ha, T.c_End, T.n_End_sign, rfl, _, rfl, a, T.C_End, dx2, _, _, rfl, ha, T.c_End, T.n_End_part, rfl, by show 4 ≤ sizeLine; decide, fun t9 ht => ?_⟩
        obtain ⟨vs, h1, h2, h3⟩ := tp.more (ws := [x, y, z, t]) ht
        refine ⟨vs, h1, small1000 (by omega), fun b o e => ?_, by rw [wordsOf_yes hr1]; exact h3⟩
        rw [upd_ne (ne_of_none e hDend)]
        exact same_upd ht _ _ _ (s3 b o e)
    rintro HA3 ⟨sA3, tpend⟩
    rw [lms, List.take_length] at tpend
    have frend := kp_free base10.1 pB2 hDend
    have pA3 := sA3 _ _ pB2
    refine ⟨_, rfl, p, T.C_Service, dx, _, rfl, pA3, T.c_Service, T.n_Service__ends, (by show 9 < 1000; decide), ?_⟩
    have kB3 : Kp p HA3 (upd HA3 p (.ins T.C_Service dx [("name", .str y), ("kinds", .ref k2), ("waits", .ref w2), ("leaves", .ref e2), ("rows", .ref r2), ("moods", .ref m2), ("_begins", .ref Dbegin), ("_sends", .ref Dsend), ("_backs", .ref Dback), ("_ends", .ref Dend)])) := Kp.refl.put _
    have pB3 := upd_same (H := HA3) (a := p) (o := .ins T.C_Service dx [("name", .str y), ("kinds", .ref k2), ("waits", .ref w2), ("leaves", .ref e2), ("rows", .ref r2), ("moods", .ref m2), ("_begins", .ref Dbegin), ("_sends", .ref Dsend), ("_backs", .ref Dback), ("_ends", .ref Dend)])
    have base11 := bK (bS base10 sA3) pA3 kB3
    have tqend := tpend.kp pA3 kB3
    have tqbegin := (tqbegin.same sA3).kp pA3 kB3
    have tqsend := (tqsend.same sA3).kp pA3 kB3
    have tqback := (tqback.same sA3).kp pA3 kB3
    generalize hX : upd HA3 p (.ins T.C_Service dx (putF "_ends" (.ref Dend) [("name", .str y), ("kinds", .ref k2), ("waits", .ref w2), ("leaves", .ref e2), ("rows", .ref r2), ("moods", .ref m2), ("_begins", .ref Dbegin), ("_sends", .ref Dsend), ("_backs", .ref Dback)])) = HB3
    have eX : upd HA3 p (.ins T.C_Service dx [("name", .str y), ("kinds", .ref k2), ("waits", .ref w2), ("leaves", .ref e2), ("rows", .ref r2), ("moods", .ref m2), ("_begins", .ref Dbegin), ("_sends", .ref Dsend), ("_backs", .ref Dback), ("_ends", .ref Dend)]) = HB3 := hX
    rw [eX] at base11 pB3 tqbegin tqsend tqback tqend kB3
    clear hX eX
    -- the ends of all moods
    refine ⟨_, rfl, p, T.C_Service, dx, _, _, rfl, pB3, T.c_Service, T.n_Service_moods, rfl, m2, rfl, ⟨_, base11.2.2.2.2.2⟩, fun Dd hDd => dc_tup (K := K) (a := m2) (xs := ys.map V.str) (fun i H' => Same HB3 H' ∧ ∃ kvs, H' Dd = some (.dK kvs) ∧ Paired (fun (kv : Key × V) y => kv.1 = .inr y ∧ ∃ t, kv.2 = .ref t ∧ EndAt H' (wordsOf "end" rs) y t) kvs (ys.take i)) ⟨same_upd hDd _, [], upd_same, .nil⟩ (fun i H' _ h => seqT_same h.1 base11.2.2.2.2.2) ?_ ?_⟩
    · rintro i x H3 hx ⟨s3, kvs, hkv, pr⟩
      rw [List.getElem?_map] at hx
      obtain ⟨z, hz, rfl⟩ : ∃ z, ys[i]? = some z ∧ V.str z = x := by
        cases e : ys[i]? with
        | none => rw [e] at hx; cases hx
        | some z => rw [e] at hx; cases hx; exact ⟨z, rfl, rfl⟩
      have kvl : kvs.length ≤ 57 := by rw [paired_len pr, List.length_take]; omega
      have hp3 := s3 _ _ pB3
      refine ⟨rfl, ?_⟩
      refine ⟨_, rfl, _, rfl, p, T.C_Service, dx, _, _, rfl, hp3, T.c_Service, T.n_Service__ends, rfl, _, rfl, Dend, wordsOf "end" rs, z, rfl, tqend.same s3, n4, fun t9 H4 s4 nt9 e4 => ⟨kvs, .inr z, rfl, s4 _ _ hkv, small1000 (by omega), ?_⟩⟩
      have pk : putK kvs (.inr z) (.ref t9) = kvs ++ [(.inr z, .ref t9)] := putK_new fun kv hkv2 e => by
        obtain ⟨y2, hy2, e2, _⟩ := paired_mem pr hkv2
        rw [e2] at e
        injection e with e
        exact nodup_take nd hz (e ▸ hy2)
      rw [pk]
      refine ⟨fun b o e => ?_, kvs ++ [(.inr z, .ref t9)], upd_same, ?_⟩
      · rw [upd_ne (ne_of_none e hDd)]
        exact s4 _ _ (s3 _ _ e)
      · rw [List.take_add_one, hz]
        refine paired_snoc (paired_imp (fun kv y2 q => ?_) pr) ⟨rfl, t9, rfl, e4.put (s4 _ _ hkv)⟩
        obtain ⟨q1, t8, q2, q3⟩ := q
        exact ⟨q1, t8, q2, (q3.same s4).put (s4 _ _ hkv)⟩
    rintro HZ ⟨sZ, kvs, hkv, pr⟩
    rw [List.length_map, List.take_length] at pr
    have frd := kp_free base11.1 pB3 hDd
    have pA4 := sZ _ _ pB3
    refine ⟨_, rfl, p, T.C_Service, dx, _, rfl, pA4, T.c_Service, T.n_Service_endings, (by show 10 < 1000; decide), ?_⟩
    have kB4 : Kp p HZ (upd HZ p (.ins T.C_Service dx (svcFs y k2 w2 e2 r2 m2 ⟨Dbegin, Dsend, Dback, Dend, Dd⟩))) := Kp.refl.put _
    have baseF := bK (bS base11 sZ) pA4 kB4
    refine fin _ k2 w2 e2 r2 m2 ⟨Dbegin, Dsend, Dback, Dend, Dd⟩ ys baseF.1 upd_same baseF.2.1 baseF.2.2.1 baseF.2.2.2.1 baseF.2.2.2.2.1 baseF.2.2.2.2.2 nd so mem ⟨⟨frbegin, frsend, frback, frend, frd⟩, (tqbegin.same sZ).kp pA4 kB4, (tqsend.same sZ).kp pA4 kB4, (tqback.same sZ).kp pA4 kB4, (tqend.same sZ).kp pA4 kB4, ⟨kvs, kB4 _ _ (ins_ne pA4 hkv (fun _ _ _ z => by cases z)) hkv, paired_imp (fun kv y2 q => ?_) pr⟩⟩
    obtain ⟨q1, t8, q2, q3⟩ := q
    exact ⟨q1, t8, q2, q3.kp pA4 kB4⟩
end
end My

/-! ## The words that may stand in rows (no law's function) -/
namespace My
open PySem L2
def ws_begin : List (Str × List Str) := [("mark", ["none", "any"]), ("kind", ["any"]), ("mood", [])]
def ws_send : List (Str × List Str) := [("mood", ["any"]), ("service", ["any"]), ("mark", ["none", "same"])]
def ws_back : List (Str × List Str) := [("mood", ["any"]), ("service", ["any"]), ("sign", ["none", "any"]), ("then", ["same"])]
def ws_end : List (Str × List Str) := [("mood", ["any"]), ("outcome", ["good", "bad", "any"]), ("sign", ["none"]), ("part", ["keep", "drop"])]
/-- the words of a sort -/
def wsOf (s : Str) : List (Str × List Str) := if s = "begin" then ws_begin else if s = "send" then ws_send else if s = "back" then ws_back else ws_end
def POOLW : List Str := ["mark", "kind", "mood", "service", "sign"]
/-- a word that may stand: one of the others, or a name where the word is none of those two -/
def fitW (y : Str) (w : Str × List Str) : Prop := y ∈ w.2 ∨ (w.1 ≠ "outcome" ∧ w.1 ≠ "part" ∧ isNm y = true)
/-- the words of each sort: where nothing else may stand a name is asked for; each but those two has its pool -/
def wsGood (ws : List (Str × List Str)) : Bool := ws.all fun w => decide (w.2.length ≤ 3) && (if w.1 = "outcome" ∨ w.1 = "part" then decide (w.2 ≠ []) else decide ((if w.1 = ("then" : Str) then ("mood" : Str) else w.1) ∈ POOLW))
theorem wsOf_good : ∀ s ∈ SORTS, wsGood (wsOf s) = true ∧ (wsOf s).length ≤ 4 := by decide +kernel
theorem isNm_calm : isNm "calm" = true := by decide +kernel
end My

/-! ## Drawn rows are no wrong ones; what the loops share -/
namespace My
open PySem L2
/-- the first word whose value is none that may stand -/
def lw : List (Str × List Str) → List PyData → Option Str
  | (w, ls) :: ws, d :: ds => if txD ls d = false ∧ ((w = "outcome" ∨ w = "part") ∨ nmD d = false) then some w else lw ws ds
  | _, _ => none
theorem gr_same {b : Addr} {H H1 H2 : Hp} {o : HO} (s : Same H H1) (n : H1 b = none) (g : Gr b (upd H1 b o) H2) : Same H H2 := fun a u e => by
  have na : a ≠ b := fun z => by
    have z1 := s a u e
    rw [z, n] at z1
    cases z1
  exact g.keep a u na (by rw [upd_ne na]; exact s a u e)
theorem gr_box {b : Addr} {H1 : Hp} {w s c : Int} : Gr b (upd H1 b (bx w s c)) (upd H1 b (bx w s c)) := ⟨fun _ _ _ e => e, w, s, c, upd_same⟩
theorem gr_self {b : Addr} {H H' : Hp} (g : Gr b H H') : Gr b H' H' := ⟨fun _ _ _ e => e, g.box⟩
/-- max(1, min(n, len)) -/
theorem many_turns {n : Int} {l : Nat} (h : 1 ≤ n) (hn : n ≤ 10) : let m : Int := if (l : Int) < n then (l : Int) else n
    let t : Int := if m > 1 then m else 1
    1 ≤ t ∧ t ≤ n := by
  intro m t
  constructor
  · show 1 ≤ (if m > 1 then m else 1)
    split <;> omega
  · show (if m > 1 then m else 1) ≤ n
    have : m ≤ n := by
      show (if (l : Int) < n then (l : Int) else n) ≤ n
      split <;> omega
    split <;> omega
/-- the two readings of a row agree -/
theorem lw_wr {s : Str} (hs : s ∈ SORTS) {ds : List PyData} (hl : ds.length = (wsOf s).length) : lw (wsOf s) ds = wrOf s ds := by
  have t0 : ∀ d, txD [] d = false := fun d => by cases d <;> rfl
  simp only [SORTS, List.mem_cons, List.not_mem_nil, or_false] at hs
  rcases hs with rfl | rfl | rfl | rfl
  · match ds, hl with
    | [a, b, c], _ =>
      show lw ws_begin [a, b, c] = wBegin [a, b, c]
      simp only [ws_begin, lw, wBegin, t0]
      cases nmD a <;> cases txD ["none", "any"] a <;> cases nmD b <;> cases txD ["any"] b <;> cases nmD c <;> first | rfl | decide +kernel
  · match ds, hl with
    | [a, b, c], _ =>
      show lw ws_send [a, b, c] = wSend [a, b, c]
      simp only [ws_send, lw, wSend]
      cases nmD a <;> cases txD ["any"] a <;> cases nmD b <;> cases txD ["any"] b <;> cases nmD c <;> cases txD ["none", "same"] c <;> first | rfl | decide +kernel
  · match ds, hl with
    | [a, b, c, d], _ =>
      show lw ws_back [a, b, c, d] = wBack [a, b, c, d]
      simp only [ws_back, lw, wBack]
      cases nmD a <;> cases txD ["any"] a <;> cases nmD b <;> cases txD ["any"] b <;> cases nmD c <;> cases txD ["none", "any"] c <;> cases nmD d <;> cases txD ["same"] d <;> first | rfl | decide +kernel
  · match ds, hl with
    | [a, b, c, d], _ =>
      show lw ws_end [a, b, c, d] = wEnd [a, b, c, d]
      simp only [ws_end, lw, wEnd]
      cases nmD a <;> cases txD ["any"] a <;> cases nmD b <;> cases txD ["good", "bad", "any"] b <;> cases nmD c <;> cases txD ["none"] c <;> cases nmD d <;> cases txD ["keep", "drop"] d <;> first | rfl | decide +kernel
theorem fn_ws : ∀ s ∈ SORTS, (fnOf s).length = (wsOf s).length := by decide +kernel
theorem abc_lt : ∀ c ∈ ABC.cps.toList, c < 0x110000 ∧ c ≠ 32 := by decide +kernel
/-- a short word of code points without a blank -/
def okW (x : Str) : Bool := okS x && decide (x.length ≤ 10) && x.cps.toList.all fun c => decide (c ≠ 32)
theorem isNm_okW {x : Str} (h : isNm x = true) : okW x = true := by
  have l := (isNm_len h).2
  unfold isNm at h
  have h4 := (Bool.and_eq_true_iff.mp h).2
  have h5 := List.all_eq_true.mp h4
  unfold okW okS
  rw [Bool.and_eq_true_iff, Bool.and_eq_true_iff, Bool.and_eq_true_iff]
  refine ⟨⟨⟨decide_eq_true (by omega), ?_⟩, decide_eq_true (by omega)⟩, List.all_eq_true.mpr fun c hc => decide_eq_true (abc_lt c (of_decide_eq_true (h5 c hc))).2⟩
  unfold PyData.strOk
  rw [← Array.all_toList, List.all_eq_true]
  exact fun c hc => decide_eq_true (abc_lt c (of_decide_eq_true (h5 c hc))).1
theorem ws_okW : ∀ s ∈ SORTS, ∀ w ∈ wsOf s, w.2.all okW = true := by decide +kernel
theorem ws_len : ∀ s ∈ SORTS, 3 ≤ (wsOf s).length := by decide +kernel
theorem so_okW : ∀ s ∈ SORTS, okW s = true := by decide +kernel
/-- a drawn row: its sort, its words -/
structure GoodR (r : Str × List Str) : Prop where
  so : r.1 ∈ SORTS
  fit : Paired fitW r.2 (wsOf r.1)
theorem GoodR.len {r : Str × List Str} (g : GoodR r) : r.2.length = (wsOf r.1).length := paired_len g.fit
theorem GoodR.len2 {r : Str × List Str} (g : GoodR r) : r.2.length = (fnOf r.1).length := g.len.trans (fn_ws _ g.so).symm
theorem GoodR.okW {r : Str × List Str} (g : GoodR r) : ∀ y ∈ r.2, okW y = true := fun y hy => by
  obtain ⟨w, hw, f⟩ := paired_mem g.fit hy
  rcases f with f | f
  · exact List.all_eq_true.mp (ws_okW _ g.so w hw) y f
  · exact isNm_okW f.2.2
theorem lw_fit : ∀ {ys : List Str} {ws : List (Str × List Str)}, Paired fitW ys ws → lw ws (ys.map PyData.str) = none
  | _, _, .nil => rfl
  | _, _, .cons (a := y) (b := w) f t => by
    show (if txD w.2 (.str y) = false ∧ ((w.1 = "outcome" ∨ w.1 = "part") ∨ nmD (.str y) = false) then some w.1 else lw _ _) = none
    rw [if_neg, lw_fit t]
    rintro ⟨h1, h2⟩
    rcases f with f | f
    · have : w.2.contains y = true := List.contains_iff_mem.mpr f
      have h1' : w.2.contains y = false := h1
      rw [this] at h1'
      cases h1'
    · rcases h2 with (h2 | h2) | h2
      · exact f.1 h2
      · exact f.2.1 h2
      · have h2' : isNm y = false := h2
        rw [f.2.2] at h2'
        cases h2'
theorem GoodR.wr {r : Str × List Str} (g : GoodR r) : wrOf r.1 (r.2.map PyData.str) = none := by
  rw [← lw_wr g.so (by rw [List.length_map]; exact g.len)]
  exact lw_fit g.fit
theorem okW_S {x : Str} (h : okW x = true) : okS x = true := (Bool.and_eq_true_iff.mp (Bool.and_eq_true_iff.mp h).1).1
theorem okW_l {x : Str} (h : okW x = true) : x.length ≤ 10 := of_decide_eq_true (Bool.and_eq_true_iff.mp (Bool.and_eq_true_iff.mp h).1).2
theorem okW_b {x : Str} (h : okW x = true) : 32 ∉ x.cps.toList := fun z => of_decide_eq_true (List.all_eq_true.mp (Bool.and_eq_true_iff.mp h).2 32 z) rfl
theorem dvs_strs {K : PySem.W.Frag} {H : Hp} : ∀ {ys : List Str}, (∀ y ∈ ys, okW y = true) → Paired (Dv K H) (ys.map V.str) (ys.map PyData.str)
  | [], _ => .nil
  | y :: ys, h => .cons (Dv.str (okW_S (h y List.mem_cons_self))) (dvs_strs fun z hz => h z (List.mem_cons_of_mem _ hz))
end My

/-! ## A service of these words stands (no law's function) -/
namespace My
open PySem PySem.Spec PyProof.Rows L2
/-- the service of these arguments at p -/
structure SvcIs {w : World} {K : PySem.W.Frag} {mg : Str → Option Value} (T : TxSvc w K mg) (H : Hp) (p : Addr) (nm : Str) (ks ws ls : List Str) (rs : List (Str × List Str)) : Prop where
  ex : ∃ (dx k2 w2 l2 r2 m2 : Addr) (o : SvcOwn) (xs : List V) (ys : List Str), H p = some (.ins T.C_Service dx (svcFs nm k2 w2 l2 r2 m2 o)) ∧
    SqT K H k2 (ks.map V.str) ∧ SqT K H w2 (ws.map V.str) ∧ SqT K H l2 (ls.map V.str) ∧ SqT K H r2 xs ∧ Paired (RwAt T H) xs rs ∧ SqT K H m2 (ys.map V.str) ∧ ys.Nodup ∧ sortedS ys = true ∧ (∀ z, z ∈ ys ↔ z ∈ moodsL rs ∧ ODDW2.contains z = false)
/-- what a new service keeps of its rows -/
def KeepsAt {w : World} {K : PySem.W.Frag} {mg : Str → Option Value} (T : TxSvc w K mg) (H H' : Hp) (q : Addr) (rs : List (Str × List Str)) : Prop := ∃ (dx k2 w2 l2 r2 m2 : Addr) (nm : Str) (o : SvcOwn) (ys : List Str), H' q = some (.ins T.C_Service dx (svcFs nm k2 w2 l2 r2 m2 o)) ∧ SqT K H' m2 (ys.map V.str) ∧ Keeps H H' o rs ys
theorem namesB_strs {l : List Str} (h : ∀ y ∈ l, isNm y = true) (n : l.Nodup) : namesB (l.map V.str) = true := by
  have e : (l.map V.str).map txV = l := by
    rw [List.map_map]
    exact List.map_id' l
  unfold namesB
  rw [e, decide_eq_true n, Bool.and_true, List.all_map]
  exact List.all_eq_true.mpr h
theorem rws_kit2 {w : World} {K : PySem.W.Frag} {mg : Str → Option Value} {H : Hp} (T : TxSvc w K mg) : ∀ {xs : List V} {ms : List (Str × List Str)}, Paired (RwAt T H) xs ms → Paired (fun x b => ∃ t, TyX K H x t ∧ PySem.W.kitOne K t (.ref T.C_Row) = some b) xs (xs.map fun _ => true)
  | _, _, .nil => .nil
  | _, _, .cons r t => .cons (by obtain ⟨C, h1, h2, _⟩ := row_ty T r; exact ⟨_, h1, h2⟩) (rws_kit2 T t)
theorem all_true2 : ∀ xs : List V, (xs.map fun _ => true).all id = true
  | [] => rfl
  | _ :: xs => by rw [List.map_cons, List.all_cons, all_true2 xs]; rfl
theorem RowIs.keep {w : World} {K : PySem.W.Frag} {mg : Str → Option Value} {T : TxSvc w K mg} {H H' : Hp} {v : V} {r : Str × List Str} (h : RowIs T H v r) (k : ∀ a C dx fs, H a = some (.ins C dx fs) → H' a = some (.ins C dx fs)) : RowIs T H' v r := by
  obtain ⟨p, dx, e, h⟩ := h
  exact ⟨p, dx, e, k _ _ _ _ h⟩
end My

/-! ## Services: their texts, ==, what they tell -/
namespace My
open PySem PySem.Spec PyProof.Rows L2
abbrev s_Service_str : Stmt := inClass (top 45) 6
abbrev N_Service_str : List Str := ["self", "lines", "row"]
abbrev P_Service_str : List Str := ["self"]
theorem sc_Service_str : FnScope N_Service_str P_Service_str (defScope s_Service_str) := ⟨rfl, rfl, rfl, by decide +kernel, rfl, by decide +kernel, by decide +kernel⟩
abbrev s_Service_eq : Stmt := inClass (top 45) 5
abbrev N_Service_eq : List Str := ["self", "other"]
abbrev P_Service_eq : List Str := ["self", "other"]
theorem sc_Service_eq : FnScope N_Service_eq P_Service_eq (defScope s_Service_eq) := ⟨rfl, rfl, rfl, by decide +kernel, rfl, by decide +kernel, by decide +kernel⟩
structure TxSvcStr (w : World) (K : PySem.W.Frag) (mg : Str → Option Value) extends TxSvc w K mg, TxStr w K mg where
  f_Service_str : Addr
  d_Service_str : FuncData
  F_Service_str : Fun K "__str__" "Service.__str__" s_Service_str f_Service_str d_Service_str
  b_Service_str : Binds K d_Service_str P_Service_str []
  si_Service : PySem.W.findIn K (.ref C_Service) "__str__" = some (some (.ref f_Service_str))
  sf_Service : PySem.W.isFn K (.ref f_Service_str) = true
  f_Service_eq : Addr
  d_Service_eq : FuncData
  F_Service_eq : Fun K "__eq__" "Service.__eq__" s_Service_eq f_Service_eq d_Service_eq
  b_Service_eq : Binds K d_Service_eq P_Service_eq []
  ei_Service : PySem.W.findIn K (.ref C_Service) "__eq__" = some (some (.ref f_Service_eq))
  ef_Service : PySem.W.isFn K (.ref f_Service_eq) = true
  en_Service : PySem.W.findIn K (.ref C_Service) "__ne__" = some (some (.builtin "object.__ne__"))
  eo_Service : PySem.W.subIn K (.ref C_Service) (.type "object") = some true
  ty_Service : ∀ (H : Hp) (a dx : Addr) (fs : List (Str × V)), H a = some (.ins C_Service dx fs) → TyX K H (.ref a) (.ref C_Service)
  kk_Service : PySem.W.kitOne K (.ref C_Service) (.ref C_Service) = some true
  nf_Service : PySem.W.notFirst K C_Service (.ref C_Service) = true
/-- a service by its words -/
structure SvD where
  nm : Str
  kinds : List Str
  waits : List Str
  leaves : List Str
  rows : List (Str × List Str)
def headTxt (v : SvD) : Str := Txt.join " " ("service" :: v.nm :: v.kinds)
/-- the lines ahead of the rows -/
def svHead (v : SvD) : List Str := headTxt v :: ((if v.waits.isEmpty then [] else [Txt.join " " ("waits" :: v.waits)]) ++ (if v.leaves.isEmpty then [] else [Txt.join " " ("leaves" :: v.leaves)]))
def svTxt (v : SvD) : Str := Txt.join "\n" (svHead v ++ v.rows.map fun r => rowTxt r.1 r.2)
/-- it stands at p -/
structure SvcAt {w : World} {K : PySem.W.Frag} {mg : Str → Option Value} (T : TxSvcStr w K mg) (H : Hp) (p : Addr) (v : SvD) : Prop where
  at_ : ∃ (dx ka wa la ra ma : Addr) (o : SvcOwn) (xs : List V), H p = some (.ins T.C_Service dx (svcFs v.nm ka wa la ra ma o)) ∧
    SqT K H ka (v.kinds.map V.str) ∧ SqT K H wa (v.waits.map V.str) ∧ SqT K H la (v.leaves.map V.str) ∧ SqT K H ra xs ∧ Paired (fun x (r : Str × List Str) => ∃ a, x = V.ref a ∧ RowAt T.toTxRows H a r.1 r.2) xs v.rows
  nm : v.nm.length ≤ 10
  ks : v.kinds.length ≤ 10 ∧ ∀ y ∈ v.kinds, y.length ≤ 10
  ws : v.waits.length ≤ 10 ∧ ∀ y ∈ v.waits, y.length ≤ 10
  ls : v.leaves.length ≤ 10 ∧ ∀ y ∈ v.leaves, y.length ≤ 10
  rs : v.rows.length ≤ 30
theorem paired_mono {α β : Type} {R S : α → β → Prop} (h : ∀ x y, R x y → S x y) : ∀ {xs : List α} {ys : List β}, Paired R xs ys → Paired S xs ys
  | _, _, .nil => .nil
  | _, _, .cons r t => .cons (h _ _ r) (paired_mono h t)
theorem SvcAt.same {w : World} {K : PySem.W.Frag} {mg : Str → Option Value} {T : TxSvcStr w K mg} {H H' : Hp} {p : Addr} {v : SvD} (h : SvcAt T H p v) (e : Same H H') : SvcAt T H' p v := by
  obtain ⟨⟨dx, ka, wa, la, ra, ma, o, xs, h1, h2, h3, h4, h5, h6⟩, r1, r2, r3, r4, r5⟩ := h
  exact ⟨⟨dx, ka, wa, la, ra, ma, o, xs, e _ _ h1, seqT_same e h2, seqT_same e h3, seqT_same e h4, seqT_same e h5, paired_mono (fun x r ⟨a, e1, e2⟩ => ⟨a, e1, e2.same e⟩) h6⟩, r1, r2, r3, r4, r5⟩
theorem join_len0 (sep : Str) : ∀ l : List Str, (Str.join sep l).length ≤ (l.map (·.length)).sum + l.length * sep.length
  | [] => Nat.zero_le _
  | [x] => by
    show x.length ≤ (x.length + 0) + 1 * sep.length
    omega
  | x :: y :: l => by
    have ih := join_len0 sep (y :: l)
    have e : (Str.join sep (x :: y :: l)).length = x.length + sep.length + (Str.join sep (y :: l)).length := by
      show (x ++ sep ++ Str.join sep (y :: l)).length = _
      rw [Str.length_append, Str.length_append]
    rw [e]
    simp only [List.map_cons, List.sum_cons, List.length_cons] at ih ⊢
    have m : (l.length + 1 + 1) * sep.length = (l.length + 1) * sep.length + sep.length := Nat.succ_mul _ _
    omega
theorem join_len (sep : Str) (l : List Str) : (Txt.join sep l).length ≤ (l.map (·.length)).sum + l.length * sep.length := by
  rw [TL.join_eq]
  exact join_len0 sep l
theorem sum_le2 {α : Type} {f : α → Nat} {m : Nat} : ∀ {l : List α}, (∀ x ∈ l, f x ≤ m) → (l.map f).sum ≤ m * l.length
  | [], _ => Nat.zero_le _
  | x :: l, h => by
    have a := h x List.mem_cons_self
    have b := sum_le2 (f := f) (m := m) (l := l) fun y hy => h y (List.mem_cons_of_mem _ hy)
    rw [List.map_cons, List.sum_cons, List.length_cons, Nat.mul_succ]
    omega
/-- words of ten signs, twelve of them: their line -/
theorem line_len {l : List Str} (n : l.length ≤ 12) (h : ∀ y ∈ l, y.length ≤ 10) : (l.map (·.length)).sum ≤ 120 ∧ (Txt.join " " l).length ≤ 132 := by
  have a := sum_le2 (f := Str.length) (m := 10) h
  have b := join_len " " l
  have c : (Str.ofString " ").length = 1 := by decide +kernel
  rw [c, Nat.mul_one] at b
  have d : (l.map Str.length).sum ≤ 120 := Nat.le_trans a (by omega)
  exact ⟨d, Nat.le_trans b (by have : (l.map fun x => x.length).sum ≤ 120 := d; omega)⟩
def spSvcStr {w : World} {K : PySem.W.Frag} {mg : Str → Option Value} (T : TxSvcStr w K mg) : Unit → Sp := fun _ vs H Q _ => ∃ (p : Addr) (v : SvD), vs = [.ref p] ∧ SvcAt T H p v ∧ ∀ H', Same H H' → Q (.str (svTxt v)) H'
def spSvcEq {w : World} {K : PySem.W.Frag} {mg : Str → Option Value} (T : TxSvcStr w K mg) : Unit → Sp := fun _ vs H Q _ => ∃ (p q : Addr) (v v2 : SvD), vs = [.ref p, .ref q] ∧ SvcAt T H p v ∧ SvcAt T H q v2 ∧ ∀ H', Same H H' → Q (.bl (decide (svTxt v = svTxt v2))) H'
section
variable {P : Program} {w : World} {K : PySem.W.Frag} {mg : Str → Option Value} {base : Heap}
theorem ok_Service_str (T : TxSvcStr w K mg) : FnOk P w K mg base CX0 4 T.f_Service_str T.d_Service_str P_Service_str (spSvcStr T ()) := by
  have G_str := str_rows (P := P) (w := w) (base := base) T.toTxStr
  refine T.F_Service_str.ok sc_Service_str (fun vs H Q E h => ?_) (fun cdv A outer s H vs Q E hr h => ?_)
  · obtain ⟨p, v, rfl, _⟩ := h
    rfl
  obtain ⟨p, v, rfl, sv, q⟩ := h
  obtain ⟨⟨dx, ka, wa, la, ra, ma, o, xs, hp, hK, hW, hL', hR, rows⟩, sn, sk, sw, sl, sr⟩ := id sv
  refine ⟨_, (pss_cons (ps_set (i := 1) sc_Service_str.nd rfl (Or.inl rfl) (pe_lst (pa_cons (pe_m1 PySem.F.slot_str_join PySem.F.type_str_join (mt_joinK K) pe_str (pe_lst (pa_cons pe_str (pa_cons (pe_fldK K (pv 0)) (pa_starK K (pe_fldK K (pv 0)) pa_nil))))) pa_nil)))
      (Evl.pss_cut (ps_if (pt_truth (pe_fldK K (pv 0)) (by intro _; rfl)) (pss_one (ps_expr (pe_bm PySem.F.plainAttrs_list PySem.F.slot_list_append PySem.F.type_list_append mt_append (pv 1) (pa_cons (pe_m1 PySem.F.slot_str_join PySem.F.type_str_join (mt_joinK K) pe_str (pe_lst (pa_cons pe_str (pa_starK K (pe_fldK K (pv 0)) pa_nil)))) pa_nil)))) pss_nil)
      (Evl.pss_cut (ps_if (pt_truth (pe_fldK K (pv 0)) (by intro _; rfl)) (pss_one (ps_expr (pe_bm PySem.F.plainAttrs_list PySem.F.slot_list_append PySem.F.type_list_append mt_append (pv 1) (pa_cons (pe_m1 PySem.F.slot_str_join PySem.F.type_str_join (mt_joinK K) pe_str (pe_lst (pa_cons pe_str (pa_starK K (pe_fldK K (pv 0)) pa_nil)))) pa_nil)))) pss_nil)
      (pss_one (ps_ret (pe_m1 PySem.F.slot_str_join PySem.F.type_str_join (mt_joinK K) pe_str (pe_lst (pa_starK K (pv 1) (pa_starK K (pe_lc (own := [("row", 2)]) (g := gName 2) (by rfl) sc_Service_str.nd (pi_seqK K (pe_fldK K (pv 0))) (blkOk_by (own := [("row", 2)]) (N := N_Service_str) (sc := defScope s_Service_str) (by decide +kernel)) (fun _ _ _ _ _ => (pg_name (i := 2) sc_Service_str.nd rfl (Or.inl rfl))) (fun _ _ _ _ _ => pts_nil) (fun _ _ _ _ _ => (pe_callTy (call_strO K G_str (hr.mono (by decide))) (by rfl) T.z_str (by decide +kernel) (pa_cons (pv 2) pa_nil)))) pa_nil))))))))), ?_⟩
  have one : (Str.ofString " ").length = 1 := by decide +kernel
  have nl : (Str.ofString "\n").length = 1 := by decide +kernel
  have w1 : ("service" : Str).length ≤ 10 := by decide +kernel
  have w2 : ("waits" : Str).length ≤ 10 := by decide +kernel
  have w3 : ("leaves" : Str).length ≤ 10 := by decide +kernel
  have fK := line_len (l := "service" :: v.nm :: v.kinds) (by simp only [List.length_cons]; omega) (fun y hy => by
    rcases List.mem_cons.mp hy with h | h
    · rw [h]; exact w1
    rcases List.mem_cons.mp h with h | h
    · rw [h]; exact sn
    · exact sk.2 y h)
  have fW := line_len (l := "waits" :: v.waits) (by simp only [List.length_cons]; omega) (fun y hy => by
    rcases List.mem_cons.mp hy with h | h
    · rw [h]; exact w2
    · exact sw.2 y h)
  have fL := line_len (l := "leaves" :: v.leaves) (by simp only [List.length_cons]; omega) (fun y hy => by
    rcases List.mem_cons.mp hy with h | h
    · rw [h]; exact w3
    · exact sl.2 y h)
  have lit : ∀ (a : Str) (l : List Str), V.str a :: (l.map V.str ++ []) = (a :: l).map V.str := fun a l => by rw [List.append_nil]; rfl
  refine ⟨⟨_, rfl⟩, _, rfl, p, T.C_Service, dx, _, _, rfl, hp, T.c_Service, T.n_Service_name, rfl, _, rfl, p, T.C_Service, dx, _, _, rfl, hp, T.c_Service, T.n_Service_kinds, rfl, ka, _, rfl, .inl hK, ?_, fun l1 h1 => ⟨" ", l1, "service" :: v.nm :: v.kinds, rfl, rfl, ?_, ?_, by show 1 ≤ sizeLine; decide, fun L hL => ?_⟩⟩
  · simp only [List.length_cons, List.length_append, List.length_map, List.length_nil]
    rw [sizeLine_eq]
    omega
  · refine .inl (SqL.of ?_)
    rw [upd_same, List.append_nil]
    rfl
  · rw [one]
    simp only [List.length_cons]
    have := fK.1
    omega
  have y1 : Same H (upd H l1 (.lst (V.str "service" :: V.str v.nm :: (v.kinds.map V.str ++ [])))) := same_upd h1 _
  have y2 := y1.trans (same_upd hL (.lst [.str (headTxt v)]))
  have t1 : upd (upd H l1 (.lst (V.str "service" :: V.str v.nm :: (v.kinds.map V.str ++ [])))) L (.lst [.str (headTxt v)]) L = some (.lst ([headTxt v].map V.str)) := upd_same
  have fresh : H L = none := y1.free hL
  refine ⟨fun σ H' => σ = [some (.ref p), some (.ref L), none] ∧ Same H H' ∧ H' L = some (.lst ((headTxt v :: (if v.waits.isEmpty then [] else [Txt.join " " ("waits" :: v.waits)])).map V.str)), ?_, ?_⟩
  · refine ⟨_, rfl, p, T.C_Service, dx, _, _, rfl, y2 _ _ hp, T.c_Service, T.n_Service_waits, rfl, _, .inr (.inl ⟨_, seqT_same y2 hW, rfl⟩), ?_⟩
    refine ite2 (fun c => ?_) (fun c => ?_)
    · have em : v.waits.isEmpty = false := by
        have c' : (!(v.waits.map V.str).isEmpty) = true := c
        rw [List.isEmpty_map] at c'
        simpa using c'
      refine ⟨_, rfl, .inl ⟨rfl, _, SqL.of t1⟩, ⟨_, rfl⟩, _, rfl, p, T.C_Service, dx, _, _, rfl, y2 _ _ hp, T.c_Service, T.n_Service_waits, rfl, wa, _, rfl, .inl (seqT_same y2 hW), ?_, fun l2 h2 => ⟨" ", l2, "waits" :: v.waits, rfl, rfl, .inl (SqL.of (by rw [upd_same, lit])), ?_, ?_⟩⟩
      · simp only [List.length_cons, List.length_append, List.length_map, List.length_nil]
        rw [sizeLine_eq]
        omega
      · rw [one]
        simp only [List.length_cons]
        have := fW.1
        omega
      · have y3 := same_upd h2 (.lst (V.str "waits" :: (v.waits.map V.str ++ [])))
        refine ⟨L, _, _, rfl, rfl, y3 _ _ t1, small1000 (by simp), rfl, fun b o e => ?_, ?_⟩
        · rw [upd_ne (ne_of_none e fresh)]
          exact y3 _ _ (y2 _ _ e)
        · rw [upd_same, em]
          rfl
    · have em : v.waits.isEmpty = true := by
        have c' : ¬ (!(v.waits.map V.str).isEmpty) = true := c
        rw [List.isEmpty_map] at c'
        simpa using c'
      refine ⟨rfl, y2, ?_⟩
      rw [em]
      exact t1
  rintro σ H2 ⟨rfl, s2, t2⟩
  refine ⟨fun σ H' => σ = [some (.ref p), some (.ref L), none] ∧ Same H H' ∧ H' L = some (.lst ((svHead v).map V.str)), ?_, ?_⟩
  · refine ⟨_, rfl, p, T.C_Service, dx, _, _, rfl, s2 _ _ hp, T.c_Service, T.n_Service_leaves, rfl, _, .inr (.inl ⟨_, seqT_same s2 hL', rfl⟩), ?_⟩
    refine ite2 (fun c => ?_) (fun c => ?_)
    · have em : v.leaves.isEmpty = false := by
        have c' : (!(v.leaves.map V.str).isEmpty) = true := c
        rw [List.isEmpty_map] at c'
        simpa using c'
      refine ⟨_, rfl, .inl ⟨rfl, _, SqL.of t2⟩, ⟨_, rfl⟩, _, rfl, p, T.C_Service, dx, _, _, rfl, s2 _ _ hp, T.c_Service, T.n_Service_leaves, rfl, la, _, rfl, .inl (seqT_same s2 hL'), ?_, fun l2 h2 => ⟨" ", l2, "leaves" :: v.leaves, rfl, rfl, .inl (SqL.of (by rw [upd_same, lit])), ?_, ?_⟩⟩
      · simp only [List.length_cons, List.length_append, List.length_map, List.length_nil]
        rw [sizeLine_eq]
        omega
      · rw [one]
        simp only [List.length_cons]
        have := fL.1
        omega
      · have y3 := same_upd h2 (.lst (V.str "leaves" :: (v.leaves.map V.str ++ [])))
        refine ⟨L, _, _, rfl, rfl, y3 _ _ t2, small1000 (by cases v.waits.isEmpty <;> simp), rfl, fun b o e => ?_, ?_⟩
        · rw [upd_ne (ne_of_none e fresh)]
          exact y3 _ _ (s2 _ _ e)
        · unfold svHead
          rw [upd_same, em, if_neg Bool.false_ne_true, ← List.cons_append, List.map_append]
          rfl
    · have em : v.leaves.isEmpty = true := by
        have c' : ¬ (!(v.leaves.map V.str).isEmpty) = true := c
        rw [List.isEmpty_map] at c'
        simpa using c'
      refine ⟨rfl, s2, ?_⟩
      unfold svHead
      rw [em, if_pos rfl, List.append_nil]
      exact t2
  rintro σ H3 ⟨rfl, s3, t3⟩
  have rows3 := paired_mono (S := fun x (r : Str × List Str) => ∃ a, x = V.ref a ∧ RowAt T.toTxRows H3 a r.1 r.2) (fun x r ⟨a, e1, e2⟩ => ⟨a, e1, e2.same s3⟩) rows
  have lxs := paired_len2 rows
  refine ⟨⟨_, rfl⟩, _, rfl, L, _, rfl, .inr (SqL.of t3), _, rfl, p, T.C_Service, dx, _, _, rfl, s3 _ _ hp, T.c_Service, T.n_Service_rows, rfl, ra, xs, rfl, .inr (seqT_same s3 hR), fun J G g0 gs wk D hD => ?_⟩
  refine lc_it wk (fun i H' => Same H3 H' ∧ H' D = some (.lst (((v.rows.take i).map fun r => rowTxt r.1 r.2).map V.str))) ⟨same_upd hD _, upd_same⟩ (fun i H' _ h => gs _ _ h.1 g0) ?_ ?_
  · rintro i x H4 H5 hi ⟨s4, hD4⟩ ⟨rfl, hx⟩
    obtain ⟨r, hr1, a, rfl, R⟩ := paired_get rows3 hx
    have R4 := R.same s4
    obtain ⟨⟨dx2, ha⟩, _, _, hso⟩ := id R4
    refine ⟨rfl, ?_⟩
    refine ⟨_, rfl, a, r.1, dx2, _, rfl, hso, ha, a, r.2, rfl, R4, _, rfl, _, hD4, small1000 (by rw [List.length_map, List.length_map, List.length_take]; omega), fun b o e => ?_, ?_⟩
    · rw [upd_ne (ne_of_none e hD)]
      exact s4 b o e
    · rw [upd_same, List.take_add_one, hr1, List.map_append, List.map_append]
      rfl
  · rintro H4 ⟨s4, hD4⟩
    rw [lxs, List.take_length] at hD4
    have hh : (svHead v).length ≤ 3 ∧ ∀ y ∈ svHead v, y.length ≤ 132 := by
      unfold svHead headTxt
      constructor
      · cases v.waits.isEmpty <;> cases v.leaves.isEmpty <;> simp
      · intro y hy
        rcases List.mem_cons.mp hy with h | h
        · rw [h]
          exact fK.2
        rcases List.mem_append.mp h with h | h
        · cases e : v.waits.isEmpty with
          | true => rw [e] at h; cases h
          | false =>
            rw [e] at h
            rw [List.mem_singleton.mp h]
            exact fW.2
        · cases e : v.leaves.isEmpty with
          | true => rw [e] at h; cases h
          | false =>
            rw [e] at h
            rw [List.mem_singleton.mp h]
            exact fL.2
    have rl : ∀ y ∈ v.rows.map (fun r => rowTxt r.1 r.2), y.length ≤ 132 := fun y hy => by
      obtain ⟨r, hr2, rfl⟩ := List.mem_map.mp hy
      obtain ⟨i, hi⟩ := List.getElem?_of_mem hr2
      have hi2 : i < xs.length := by rw [lxs]; exact (List.getElem?_eq_some_iff.mp hi).1
      obtain ⟨r', e', a, _, R⟩ := paired_get rows3 (List.getElem?_eq_getElem hi2)
      rw [hi] at e'
      cases e'
      have ln := R.len
      have l5 : ∀ s ∈ SORTS, (fnOf s).length ≤ 4 ∧ s.length ≤ 10 := by decide +kernel
      exact (line_len (l := r.1 :: r.2) (by rw [List.length_cons, ln]; have := (l5 _ R.so).1; omega) (fun y hy => by
        rcases List.mem_cons.mp hy with h | h
        · rw [h]; exact (l5 _ R.so).2
        · exact R.sh y h)).2
    have all_ : ∀ y ∈ svHead v ++ v.rows.map (fun r => rowTxt r.1 r.2), y.length ≤ 132 := fun y hy => (List.mem_append.mp hy).elim (hh.2 y) (rl y)
    have tot := sum_le2 (f := Str.length) (m := 132) all_
    have few : (svHead v ++ v.rows.map (fun r => rowTxt r.1 r.2)).length ≤ 33 := by rw [List.length_append, List.length_map]; have := hh.1; omega
    have e : (svHead v).map V.str ++ ((v.rows.map fun r => rowTxt r.1 r.2).map V.str ++ []) = (svHead v ++ v.rows.map fun r => rowTxt r.1 r.2).map V.str := by rw [List.append_nil, List.map_append]
    refine ⟨D, _, rfl, .inr (SqL.of hD4), ?_, fun l hl => ⟨"\n", l, svHead v ++ v.rows.map (fun r => rowTxt r.1 r.2), rfl, rfl, .inl (SqL.of (by rw [upd_same, e])), ?_, ?_⟩⟩
    · rw [e, List.length_map, sizeLine_eq]
      omega
    · rw [nl]
      have tot' : ((svHead v ++ v.rows.map (fun r => rowTxt r.1 r.2)).map fun x => x.length).sum ≤ 132 * 33 := Nat.le_trans tot (Nat.mul_le_mul_left _ few)
      omega
    · exact q _ ((s3.trans s4).trans (same_upd hl _))
end
end My

/-! ## What is no list stays: services stay -/
namespace My
open PySem PySem.Spec PyProof.Rows L2
/-- what is no list stays -/
def KL (H H' : Hp) : Prop := ∀ a o, H a = some o → (∀ xs, o ≠ .lst xs) → H' a = some o
theorem KL.refl (H : Hp) : KL H H := fun _ _ e _ => e
theorem KL.trans {H1 H2 H3 : Hp} (x : KL H1 H2) (y : KL H2 H3) : KL H1 H3 := fun a o e n => y a o (x a o e n) n
theorem KL.of_same {H H' : Hp} (s : Same H H') : KL H H' := fun a o e _ => s a o e
theorem KL.of_gr {b : Addr} {H H' : Hp} {w s c : Int} (hb : H b = some (bx w s c)) (g : Gr b H H') : KL H H' := fun a o e n => g.keep a o (fun z => by
  rw [z, hb] at e
  exact n _ (Option.some.inj e).symm) e
theorem KL.put {H : Hp} {p : Addr} {xs : List V} (h : H p = some (.lst xs)) (o' : HO) : KL H (upd H p o') := fun a o e n => by
  rw [upd_ne (fun z => by rw [z, h] at e; exact n _ (Option.some.inj e).symm)]
  exact e
theorem KL.ins {H H' : Hp} (k : KL H H') {a C dx : Addr} {fs : List (Str × V)} (h : H a = some (.ins C dx fs)) : H' a = some (.ins C dx fs) := k _ _ h fun _ z => nomatch z
theorem KL.seqT {K : PySem.W.Frag} {H H' : Hp} (k : KL H H') {a : Addr} {xs : List V} (hs : SqT K H a xs) : SqT K H' a xs := by
  rcases hs with (hs | ⟨o, hs⟩) | hs
  · exact .inl (.inl (k _ _ hs fun _ z => nomatch z))
  · exact .inl (.inr ⟨o, k _ _ hs fun _ z => nomatch z⟩)
  · exact .inr hs
section
variable {w : World} {K : PySem.W.Frag} {mg : Str → Option Value}
theorem SvcIs.kl {T : TxSvc w K mg} {H H' : Hp} {p : Addr} {nm : Str} {ks ws ls : List Str} {rs : List (Str × List Str)} (h : SvcIs T H p nm ks ws ls rs) (k : KL H H') : SvcIs T H' p nm ks ws ls rs := by
  obtain ⟨dx, k2, w2, l2, r2, m2, o, xs, ys, hp, t1, t2, t3, t4, q1, t5, nd, so, mem⟩ := h.ex
  exact ⟨dx, k2, w2, l2, r2, m2, o, xs, ys, k.ins hp, k.seqT t1, k.seqT t2, k.seqT t3, k.seqT t4, paired_imp (fun _ _ z => RwAt.keep z fun a C dx fs e => k.ins e) q1, k.seqT t5, nd, so, mem⟩
/-- a service is none that is being made -/
theorem SvcIs.kp {T : TxSvc w K mg} {H H' : Hp} {a p C dx : Addr} {nm : Str} {ks ws ls : List Str} {rs : List (Str × List Str)} (h : SvcIs T H a nm ks ws ls rs) (hp : H p = some (.ins C dx [])) (k : Kp p H H') : SvcIs T H' a nm ks ws ls rs := by
  obtain ⟨dx0, k2, w2, l2, r2, m2, o, xs, ys, h1, t1, t2, t3, t4, q1, t5, nd, so, mem⟩ := h.ex
  have ne : a ≠ p := fun z => by
    rw [z, hp] at h1
    cases h1
  exact ⟨dx0, k2, w2, l2, r2, m2, o, xs, ys, k a _ ne h1, sqT_kp t1 hp k, sqT_kp t2 hp k, sqT_kp t3 hp k, sqT_kp t4 hp k, paired_imp (fun _ _ z => z.kp hp k) q1, sqT_kp t5 hp k, nd, so, mem⟩
end
end My

/-! ## A service of arguments is made -/
namespace My
open PySem PySem.Spec PyProof.Rows L2
section
variable {w : World} {K : PySem.W.Frag} {mg : Str → Option Value}
theorem rows_rw (T : TxSvc w K mg) {H : Hp} : ∀ {xs : List V} {rs : List (Str × List Str)}, Paired (RowIs T H) xs rs → (∀ r ∈ rs, GoodR r) → Paired (RwAt T H) xs rs
  | _, _, .nil, _ => .nil
  | _, _, .cons (a := x) (b := r) h t, g => by
    obtain ⟨p, dx, e, h⟩ := h
    have gd := g _ List.mem_cons_self
    subst e
    exact .cons (rw_is T gd.so gd.len2 h) (rows_rw T t fun r hr => g r (List.mem_cons_of_mem _ hr))
/-- what Service(..) asks where all its arguments are right -/
theorem svcInit_is (T : TxSvc w K mg) {H5 : Hp} {x dx ka wa la ra : Addr} {nm : Str} {ks ws ls : List Str} {rs : List (Str × List Str)} {xs : List V} {Q : VK} {E : XK} (h5 : H5 x = some (.ins T.C_Service dx []))
    (hnm : isNm nm = true) (hk : ∀ y ∈ ks, isNm y = true) (hw : ∀ y ∈ ws, isNm y = true) (hl : ∀ y ∈ ls, isNm y = true) (k0 : ks ≠ []) (kn : ks.Nodup) (wn : ws.Nodup) (ln : ls.Nodup) (kl : ks.length ≤ 100) (wl : ws.length ≤ 100) (ll : ls.length ≤ 100) (rl28 : rs.length ≤ 28) (good : ∀ r ∈ rs, GoodR r)
    (kS : SqA K H5 ka (ks.map V.str)) (wS : SqA K H5 wa (ws.map V.str)) (lS : SqA K H5 la (ls.map V.str)) (rS : SqA K H5 ra xs) (q1 : Paired (RowIs T H5) xs rs)
    (q : ∀ H', Kp x H5 H' → SvcIs T H' x nm ks ws ls rs → Q .non H') : spSvcInit T [.ref x, .str nm, .ref ka, .ref wa, .ref la, .ref ra] H5 Q E := by
  have q2 := rows_rw T q1 good
  have an : ∀ l : List Str, (∀ y ∈ l, isNm y = true) → ∀ v ∈ l.map V.str, AnyV K H5 v := fun l hl v hv => by
    obtain ⟨y, hy, rfl⟩ := List.mem_map.mp hv
    exact .str y (by have := isNm_len (hl y hy); omega)
  have xl : xs.length ≤ 28 := by rw [paired_len q1]; exact rl28
  have v1 := SomeV.seq kS (an ks hk) (by rw [List.length_map]; omega)
  rw [namesB_strs hk kn, decide_eq_true (show 0 < (ks.map V.str).length by rw [List.length_map]; exact List.length_pos_iff.mpr k0)] at v1
  have v2 := NamesV.seq wS (an ws hw) (by rw [List.length_map]; omega)
  rw [namesB_strs hw wn] at v2
  have v3 := NamesV.seq lS (an ls hl) (by rw [List.length_map]; omega)
  rw [namesB_strs hl ln] at v3
  have v4 := RowsV.seq (CR := T.C_Row) rS (rws_kit2 T q2) (by omega)
  rw [all_true2] at v4
  have wn : wrSvc (nmV (.str nm)) (true && true) true true true = none := by
    show wrSvc (isNm nm) true true true true = none
    rw [hnm]
    rfl
  refine ⟨x, dx, .str nm, .ref ka, .ref wa, .ref la, .ref ra, true && true, true, true, true, rfl, h5, .str nm (by have := isNm_len hnm; omega), v1, v2, v3, v4, fun _ => ?_, fun wd d H' e => by rw [wn] at e; cases e⟩
  refine ⟨nm, ka, wa, la, ra, ks, ws, ls, xs, rs, rfl, rfl, rfl, rfl, rfl, kS, wS, lS, rS, q2, rl28, fun H' k2 w2 l2 r2 m2 o ys kp hp t1 t2 t3 t4 t5 nd so mem _ => ?_⟩
  have q3 : Paired (RwAt T H') xs rs := paired_imp (fun _ _ z => z.kp h5 kp) q2
  exact q H' kp ⟨dx, k2, w2, l2, r2, m2, o, xs, ys, hp, t1, t2, t3, t4, q3, t5, nd, so, mem⟩
end
end My

/-! ## A service of arguments: made, kept, its text, its moods -/
namespace My
open PySem PySem.Spec PyProof.Rows L2
section
variable {w : World} {K : PySem.W.Frag} {mg : Str → Option Value}
theorem ins_fs {H : Hp} {a C C' dx dx' : Addr} {fs fs' : List (Str × V)} (h : H a = some (.ins C dx fs)) (h' : H a = some (.ins C' dx' fs')) : C = C' ∧ fs' = fs := by
  rw [h] at h'
  have e := Option.some.inj h'
  injection e with e1 e2 e3
  exact ⟨e1, e3.symm⟩
theorem SvcIs.moods {T : TxSvc w K mg} {H : Hp} {p : Addr} {nm : Str} {ks ws ls : List Str} {rs : List (Str × List Str)} (h : SvcIs T H p nm ks ws ls rs) (g : ∀ r ∈ rs, GoodR r) : ∃ (dx k2 w2 l2 r2 m2 : Addr) (o : SvcOwn) (xs : List V) (ys : List Str), H p = some (.ins T.C_Service dx (svcFs nm k2 w2 l2 r2 m2 o)) ∧
    SqT K H k2 (ks.map V.str) ∧ SqT K H w2 (ws.map V.str) ∧ SqT K H l2 (ls.map V.str) ∧ SqT K H r2 xs ∧ Paired (RowIs T H) xs rs ∧ SqT K H m2 (ys.map V.str) ∧ ys.Nodup ∧ sortedS ys = true ∧ (∀ z, z ∈ ys ↔ z ∈ moodsL rs ∧ ODDW2.contains z = false) := by
  obtain ⟨dx, k2, w2, l2, r2, m2, o, xs, ys, hp, t1, t2, t3, t4, q1, t5, nd, so, mem⟩ := h.ex
  exact ⟨dx, k2, w2, l2, r2, m2, o, xs, ys, hp, t1, t2, t3, t4, paired_imp (fun _ _ z => z.is) q1, t5, nd, so, mem⟩
end
section
variable {w : World} {K : PySem.W.Frag} {mg : Str → Option Value}
theorem RowIs.at2 {T : TxStr w K mg} {T' : TxSvc w K mg} (e : T'.toTxRows = T.toTxRows) {H : Hp} {v : V} {r : Str × List Str} (g : GoodR r) (h : RowIs T' H v r) : ∃ a, v = V.ref a ∧ RowAt T.toTxRows H a r.1 r.2 := by
  obtain ⟨p, dx, e1, h⟩ := h
  rw [e] at h
  exact ⟨p, e1, ⟨dx, h⟩, g.len2, fun y hy => okW_l (g.okW y hy), g.so⟩
end
end My

/-! ## Two ascending lists of the same words are one; lines joined tell the lines -/
namespace My
open PySem PySem.Spec PyProof.Rows L2
def leS (a b : Str) : Prop := a.cps.toList ≤ b.cps.toList
theorem leS_trans {a b c : Str} (h1 : leS a b) (h2 : leS b c) : leS a c := List.le_trans h1 h2
theorem not_ltCps {a b : Str} (h : (!ltCps b.cps.toList a.cps.toList) = true) : leS a b := by
  rw [ltCps_eq] at h
  simp only [Bool.not_eq_true', decide_eq_false_iff_not] at h
  exact List.not_lt.mp h
theorem rising_pw : ∀ {l : List Str} {p : Str}, risingS p l = true → (∀ x ∈ l, leS p x) ∧ l.Pairwise leS
  | [], _, _ => ⟨(fun _ h => nomatch h), List.Pairwise.nil⟩
  | x :: r, p, h => by
    obtain ⟨h1, h2⟩ := Bool.and_eq_true_iff.mp h
    obtain ⟨i1, i2⟩ := rising_pw h2
    have px := not_ltCps h1
    refine ⟨fun y hy => ?_, List.Pairwise.cons i1 i2⟩
    rcases List.mem_cons.mp hy with z | z
    · rw [z]; exact px
    · exact leS_trans px (i1 y z)
theorem sortedS_pw : ∀ {l : List Str}, sortedS l = true → l.Pairwise leS
  | [], _ => List.Pairwise.nil
  | _ :: _, h => List.Pairwise.cons (rising_pw h).1 (rising_pw h).2
theorem sorted_uniq {l m : List Str} (hl : sortedS l = true) (hm : sortedS m = true) (nl : l.Nodup) (nm : m.Nodup) (mem : ∀ z, z ∈ l ↔ z ∈ m) : l = m := by
  refine List.Perm.eq_of_pairwise (le := leS) (fun a b _ _ h1 h2 => ?_) (sortedS_pw hl) (sortedS_pw hm) ((List.perm_ext_iff_of_nodup nl nm).mpr mem)
  have e : a.cps.toList = b.cps.toList := List.le_antisymm h1 h2
  obtain ⟨⟨x⟩⟩ := a
  obtain ⟨⟨y⟩⟩ := b
  simp at e
  rw [e]
theorem cut_at {c : Nat} : ∀ {x y a b : List Nat}, c ∉ x → c ∉ y → x ++ c :: a = y ++ c :: b → x = y ∧ a = b
  | [], [], _, _, _, _, e => by
    simp at e
    exact ⟨rfl, e⟩
  | [], z :: y, _, _, _, h, e => by
    simp at e
    exact absurd (by rw [e.1]; exact List.mem_cons_self) h
  | z :: x, [], _, _, h, _, e => by
    simp at e
    exact absurd (by rw [e.1]; exact List.mem_cons_self) h
  | z :: x, z' :: y, a, b, h1, h2, e => by
    simp at e
    obtain ⟨e1, e2⟩ := e
    obtain ⟨r1, r2⟩ := cut_at (fun h => h1 (List.mem_cons_of_mem _ h)) (fun h => h2 (List.mem_cons_of_mem _ h)) e2
    exact ⟨by rw [e1, r1], r2⟩
theorem str_toList {a b : Str} (h : a.cps.toList = b.cps.toList) : a = b := by
  obtain ⟨⟨x⟩⟩ := a
  obtain ⟨⟨y⟩⟩ := b
  simp at h
  rw [h]
theorem app_toList (a b : Str) : (a ++ b).cps.toList = a.cps.toList ++ b.cps.toList := by
  show (a.cps ++ b.cps).toList = _
  rw [Array.toList_append]
theorem nl_toList : (Str.ofString "\n").cps.toList = [10] := by decide +kernel
theorem sp_toList : (Str.ofString " ").cps.toList = [32] := by decide +kernel
theorem join_cons2 (sep x y : Str) (l : List Str) : (Str.join sep (x :: y :: l)).cps.toList = x.cps.toList ++ (sep.cps.toList ++ (Str.join sep (y :: l)).cps.toList) := by
  show (x ++ sep ++ Str.join sep (y :: l)).cps.toList = _
  rw [app_toList, app_toList, List.append_assoc]
theorem join_inj0 {sep : Str} {c : Nat} (hs : sep.cps.toList = [c]) : ∀ {l m : List Str}, (∀ x ∈ l, c ∉ x.cps.toList) → (∀ x ∈ m, c ∉ x.cps.toList) → l ≠ [] → m ≠ [] → Str.join sep l = Str.join sep m → l = m
  | [], _, _, _, h, _, _ => absurd rfl h
  | _ :: _, [], _, _, _, h, _ => absurd rfl h
  | [x], [y], _, _, _, _, e => by
    have e' : x = y := e
    rw [e']
  | [x], y :: y2 :: t, h1, _, _, _, e => by
    have e2 : x.cps.toList = _ := (congrArg (fun z : Str => z.cps.toList) e).trans (join_cons2 sep y y2 t)
    rw [hs] at e2
    exact absurd (by rw [e2]; simp) (h1 x List.mem_cons_self)
  | x :: x2 :: t, [y], _, h2, _, _, e => by
    have e2 : y.cps.toList = _ := (congrArg (fun z : Str => z.cps.toList) e.symm).trans (join_cons2 sep x x2 t)
    rw [hs] at e2
    exact absurd (by rw [e2]; simp) (h2 y List.mem_cons_self)
  | x :: x2 :: t, y :: y2 :: u, h1, h2, _, _, e => by
    have e2 := congrArg (fun z : Str => z.cps.toList) e
    change (Str.join sep (x :: x2 :: t)).cps.toList = (Str.join sep (y :: y2 :: u)).cps.toList at e2
    rw [join_cons2, join_cons2, hs] at e2
    obtain ⟨r1, r2⟩ := cut_at (h1 x List.mem_cons_self) (h2 y List.mem_cons_self) e2
    rw [str_toList r1, join_inj0 hs (fun z hz => h1 z (List.mem_cons_of_mem _ hz)) (fun z hz => h2 z (List.mem_cons_of_mem _ hz)) (fun z => nomatch z) (fun z => nomatch z) (str_toList r2)]
theorem join_inj {sep : Str} {c : Nat} (hs : sep.cps.toList = [c]) {l m : List Str} (h1 : ∀ x ∈ l, c ∉ x.cps.toList) (h2 : ∀ x ∈ m, c ∉ x.cps.toList) (l0 : l ≠ []) (m0 : m ≠ []) (e : Txt.join sep l = Txt.join sep m) : l = m := by
  rw [TL.join_eq, TL.join_eq] at e
  exact join_inj0 hs h1 h2 l0 m0 e
/-- a sign that is in no word nor the sign between them is not in the line -/
theorem join_free {sep : Str} {c : Nat} (hs : c ∉ sep.cps.toList) : ∀ {l : List Str}, (∀ x ∈ l, c ∉ x.cps.toList) → c ∉ (Str.join sep l).cps.toList
  | [], _ => fun h => nomatch h
  | [x], h => h x List.mem_cons_self
  | x :: y :: t, h => by
    rw [join_cons2]
    intro z
    rcases List.mem_append.mp z with z | z
    · exact h x List.mem_cons_self z
    rcases List.mem_append.mp z with z | z
    · exact hs z
    · exact join_free hs (fun w hw => h w (List.mem_cons_of_mem _ hw)) z
theorem joinT_free {sep : Str} {c : Nat} (hs : c ∉ sep.cps.toList) {l : List Str} (h : ∀ x ∈ l, c ∉ x.cps.toList) : c ∉ (Txt.join sep l).cps.toList := by
  rw [TL.join_eq]
  exact join_free hs h
end My

/-! ## Data of texts: how long they are shown, when they are equal -/
namespace My
open PySem PySem.Spec PyProof.Rows L2
theorem strOk_of {x : Str} (h : ∀ c ∈ x.cps.toList, c < 0x110000) : PyData.strOk x = true := by
  unfold PyData.strOk
  rw [← Array.all_toList, List.all_eq_true]
  exact fun c hc => decide_eq_true (h c hc)
theorem strOk_lt {x : Str} (h : PyData.strOk x = true) : ∀ c ∈ x.cps.toList, c < 0x110000 := by
  unfold PyData.strOk at h
  rw [← Array.all_toList, List.all_eq_true] at h
  exact fun c hc => of_decide_eq_true (h c hc)
theorem join_lt {sep : Str} {p : Nat → Prop} (hs : ∀ c ∈ sep.cps.toList, p c) : ∀ {l : List Str}, (∀ x ∈ l, ∀ c ∈ x.cps.toList, p c) → ∀ c ∈ (Str.join sep l).cps.toList, p c
  | [], _, _, h => nomatch h
  | [x], h, c, hc => h x List.mem_cons_self c hc
  | x :: y :: t, h, c, hc => by
    rw [join_cons2] at hc
    rcases List.mem_append.mp hc with z | z
    · exact h x List.mem_cons_self c z
    rcases List.mem_append.mp z with z | z
    · exact hs c z
    · exact join_lt hs (fun w hw => h w (List.mem_cons_of_mem _ hw)) c z
theorem strOk_join {sep : Str} (hs : PyData.strOk sep = true) {l : List Str} (h : ∀ x ∈ l, PyData.strOk x = true) : PyData.strOk (Txt.join sep l) = true := by
  rw [TL.join_eq]
  exact strOk_of (join_lt (p := fun c => c < 0x110000) (strOk_lt hs) fun x hx => strOk_lt (h x hx))
theorem eqvAll_strs : ∀ l l2 : List Str, PyData.eqvAll (l.map PyData.str) (l2.map PyData.str) = decide (l = l2)
  | [], [] => rfl
  | [], _ :: _ => by simp [PyData.eqvAll]
  | _ :: _, [] => by simp [PyData.eqvAll]
  | x :: l, y :: l2 => by
    have ih := eqvAll_strs l l2
    simp only [List.map_cons, PyData.eqvAll, PyData.eqv, ih]
    rw [Bool.eq_iff_iff]
    simp
theorem eqv_strs (l l2 : List Str) : PyData.eqv (.tuple (l.map PyData.str)) (.tuple (l2.map PyData.str)) = decide (l = l2) := by
  simp only [PyData.eqv]
  exact eqvAll_strs l l2
theorem eqvL_strs (l l2 : List Str) : PyData.eqv (.list (l.map PyData.str)) (.list (l2.map PyData.str)) = decide (l = l2) := by
  simp only [PyData.eqv]
  exact eqvAll_strs l l2
theorem tupleText_len (ts : List Str) : (tupleText ts).length ≤ (ts.map (·.length)).sum + 2 * ts.length + 4 := by
  have p : ∀ l : List Str, piled l = (l.map (·.length)).sum + 2 * l.length := by
    intro l
    induction l with
    | nil => rfl
    | cons x l ih =>
      rw [piled_cons, ih, List.map_cons, List.sum_cons, List.length_cons]
      omega
  unfold tupleText
  rw [Str.length_append, Str.length_append]
  have e1 : (Str.ofString "(").length = 1 := by decide +kernel
  have e3 : (Str.ofString (if ts.length == 1 then ",)" else ")")).length ≤ 2 := by split <;> decide +kernel
  rw [e1]
  cases ts with
  | nil =>
    have e4 : (Str.join ", " []).length = 0 := rfl
    rw [e4]
    simp
    simp at e3
    omega
  | cons x l =>
    have h := join_length_add (x :: l) (by simp)
    rw [p] at h
    omega
theorem shownAll_strs : ∀ l : List Str, PyData.shownAll (l.map PyData.str) = l.map reprText
  | [] => rfl
  | x :: l => by
    show PyData.shown (.str x) :: PyData.shownAll (l.map PyData.str) = _
    rw [shownAll_strs l]
    rfl
theorem repr_small2 {x : Str} (h : PyData.strOk x = true) (l : x.length ≤ 100) : (reprText x).length ≤ 1002 := by
  have := StrLaws.reprText_len x fun c hc => by
    have := strOk_lt h c hc
    omega
  omega
theorem shown_strs {l : List Str} (n : l.length ≤ 100) (h : ∀ y ∈ l, PyData.strOk y = true ∧ y.length ≤ 100) : (PyData.shown (.tuple (l.map PyData.str))).length ≤ 100404 := by
  show (tupleText (PyData.shownAll (l.map PyData.str))).length ≤ _
  rw [shownAll_strs]
  have a := tupleText_len (l.map reprText)
  have b : ((l.map reprText).map fun x => x.length).sum ≤ 1002 * (l.map reprText).length := sum_le2 (f := Str.length) fun y hy => by
    obtain ⟨z, hz, rfl⟩ := List.mem_map.mp hy
    exact repr_small2 (h z hz).1 (h z hz).2
  rw [List.length_map] at a b
  omega
theorem showable_strs : ∀ l : List Str, PyData.showableAll (l.map PyData.str) = true
  | [] => rfl
  | x :: l => by
    show (PyData.showable (.str x) && PyData.showableAll (l.map PyData.str)) = true
    rw [showable_strs l]
    rfl
theorem noDict_strs : ∀ l : List Str, PyData.hasDictAll (l.map PyData.str) = false
  | [] => rfl
  | x :: l => by
    show (PyData.hasDict (.str x) || PyData.hasDictAll (l.map PyData.str)) = false
    rw [noDict_strs l]
    rfl
end My

/-! ## A service made, as one of words -/
namespace My
open PySem PySem.Spec PyProof.Rows L2
theorem svc_at {w : World} {K : PySem.W.Frag} {mg : Str → Option Value} (T : TxSvcStr w K mg) {H : Hp} {p : Addr} {nm : Str} {ks ws ls : List Str} {rs : List (Str × List Str)} (h : SvcIs T.toTxSvc H p nm ks ws ls rs) (hnm : isNm nm = true)
    (hall : ∀ y ∈ ks ++ ws ++ ls, isNm y = true) (kl : ks.length ≤ 10) (wl : ws.length ≤ 10) (ll : ls.length ≤ 10) (rl : rs.length ≤ 28) (good : ∀ r ∈ rs, GoodR r) : SvcAt T H p ⟨nm, ks, ws, ls, rs⟩ := by
  obtain ⟨dx, k2, w2, l2, r2, m2, o, xs, ys, hp, t1, t2, t3, t4, q1, t5, nd, so, mem⟩ := h.ex
  have n10 : ∀ y, isNm y = true → y.length ≤ 10 := fun y hy => by have := (isNm_len hy).2; omega
  have rows : ∀ {xs : List V} {rs : List (Str × List Str)}, Paired (RowIs T.toTxSvc H) xs rs → (∀ r ∈ rs, GoodR r) → Paired (fun x (r : Str × List Str) => ∃ a, x = V.ref a ∧ RowAt T.toTxRows H a r.1 r.2) xs rs := by
    intro xs rs h
    induction h with
    | nil => exact fun _ => .nil
    | cons r t ih =>
      intro g
      obtain ⟨p, dx, e1, h⟩ := r
      have gd := g _ List.mem_cons_self
      exact .cons ⟨p, e1, ⟨dx, h⟩, gd.len2, (fun y hy => okW_l (gd.okW y hy)), gd.so⟩ (ih fun r hr => g r (List.mem_cons_of_mem _ hr))
  exact ⟨⟨dx, k2, w2, l2, r2, m2, o, xs, hp, t1, t2, t3, t4, rows (paired_imp (fun _ _ z => z.is) q1) good⟩, n10 _ hnm, ⟨kl, fun y hy => n10 y (hall y (by simp [hy]))⟩, ⟨wl, fun y hy => n10 y (hall y (by simp [hy]))⟩, ⟨ll, fun y hy => n10 y (hall y (by simp [hy]))⟩, by show rs.length ≤ 30; omega⟩
theorem isNm_ok {y : Str} (h : isNm y = true) : PyData.strOk y = true ∧ y.length ≤ 100 := by
  have h2 := isNm_okW h
  exact ⟨(Bool.and_eq_true_iff.mp (okW_S h2)).2, by have := okW_l h2; omega⟩
theorem row_text_ok {r : Str × List Str} (g : GoodR r) : PyData.strOk (rowTxt r.1 r.2) = true := by
  refine strOk_join (by decide +kernel) fun x hx => ?_
  rcases List.mem_cons.mp hx with z | z
  · rw [z]; exact (Bool.and_eq_true_iff.mp (okW_S (so_okW _ g.so))).2
  · exact (Bool.and_eq_true_iff.mp (okW_S (g.okW x z))).2
def svLines (v : SvD) : List Str := svHead v ++ v.rows.map fun r => rowTxt r.1 r.2
end My

/-! ## Words of a drawn service -/
namespace My
open PySem PySem.Spec PyProof.Rows L2
/-- words of a service that is drawn -/
structure GoodV (nm : Str) (ks ws ls : List Str) (rs : List (Str × List Str)) : Prop where
  nm : isNm nm = true
  all : ∀ y ∈ ks ++ ws ++ ls, isNm y = true
  k0 : ks ≠ []
  kn : ks.Nodup
  wn : ws.Nodup
  ln : ls.Nodup
  kl : ks.length ≤ 10
  wl : ws.length ≤ 10
  ll : ls.length ≤ 10
  rl : rs.length ≤ 28
  good : ∀ r ∈ rs, GoodR r
theorem GoodV.hk {nm : Str} {ks ws ls : List Str} {rs : List (Str × List Str)} (g : GoodV nm ks ws ls rs) : ∀ y ∈ ks, isNm y = true := fun y hy => g.all y (by simp [hy])
theorem GoodV.hw {nm : Str} {ks ws ls : List Str} {rs : List (Str × List Str)} (g : GoodV nm ks ws ls rs) : ∀ y ∈ ws, isNm y = true := fun y hy => g.all y (by simp [hy])
theorem GoodV.hl {nm : Str} {ks ws ls : List Str} {rs : List (Str × List Str)} (g : GoodV nm ks ws ls rs) : ∀ y ∈ ls, isNm y = true := fun y hy => g.all y (by simp [hy])
theorem GoodV.n10 {l : List Str} (h : ∀ y ∈ l, isNm y = true) (n : l.length ≤ 10) : l.length ≤ 10 ∧ ∀ y ∈ l, y.length ≤ 10 := ⟨n, fun y hy => by have := (isNm_len (h y hy)).2; omega⟩
theorem GoodV.nm10 {nm : Str} {ks ws ls : List Str} {rs : List (Str × List Str)} (g : GoodV nm ks ws ls rs) : nm.length ≤ 10 := by have := (isNm_len g.nm).2; omega
/-- a service by its words -/
structure SvW where
  nm : Str
  kinds : List Str
  waits : List Str
  leaves : List Str
  rows : List (Str × List Str)
def SvW.good (v : SvW) : Prop := GoodV v.nm v.kinds v.waits v.leaves v.rows
end My

/-! ## A row is of one of the four sorts -/
namespace My
open PySem PySem.Spec PyProof.Rows L2
/-- a row is of one of the four sorts -/
inductive RowK {w : World} {K : PySem.W.Frag} {mg : Str → Option Value} (T : TxSvc w K mg) (H : Hp) : V → Str × List Str → Prop
  | beg {o dx : Addr} {x y z : Str} (h : H o = some (.ins T.C_Begin dx [("mark", .str x), ("kind", .str y), ("mood", .str z)])) : RowK T H (.ref o) ("begin", [x, y, z])
  | snd {o dx : Addr} {x y z : Str} (h : H o = some (.ins T.C_Send dx [("mood", .str x), ("service", .str y), ("mark", .str z)])) : RowK T H (.ref o) ("send", [x, y, z])
  | bck {o dx : Addr} {x y z t : Str} (h : H o = some (.ins T.C_Back dx [("mood", .str x), ("service", .str y), ("sign", .str z), ("then", .str t)])) : RowK T H (.ref o) ("back", [x, y, z, t])
  | end_ {o dx : Addr} {x y z t : Str} (h : H o = some (.ins T.C_End dx [("mood", .str x), ("outcome", .str y), ("sign", .str z), ("part", .str t)])) : RowK T H (.ref o) ("end", [x, y, z, t])
theorem RowIs.kind {w : World} {K : PySem.W.Frag} {mg : Str → Option Value} {T : TxSvc w K mg} {H : Hp} {v : V} {r : Str × List Str} (g : GoodR r) (h : RowIs T H v r) : RowK T H v r := by
  obtain ⟨so, ws⟩ := r
  obtain ⟨o, dx, rfl, h⟩ := h
  have hso := g.so
  have hl := g.len2
  simp only [SORTS, List.mem_cons, List.not_mem_nil, or_false] at hso
  rcases hso with rfl | rfl | rfl | rfl
  · rw [show clsOf T.toTxRows "begin" = T.C_Begin by unfold clsOf; rw [if_pos rfl]] at h
    match ws, hl with
    | [x, y, z], _ => exact .beg h
  · rw [show clsOf T.toTxRows "send" = T.C_Send by unfold clsOf; rw [if_neg (by decide), if_pos rfl]] at h
    match ws, hl with
    | [x, y, z], _ => exact .snd h
  · rw [show clsOf T.toTxRows "back" = T.C_Back by unfold clsOf; rw [if_neg (by decide), if_neg (by decide), if_pos rfl]] at h
    match ws, hl with
    | [x, y, z, t], _ => exact .bck h
  · rw [show clsOf T.toTxRows "end" = T.C_End by unfold clsOf; rw [if_neg (by decide), if_neg (by decide), if_neg (by decide)]] at h
    match ws, hl with
    | [x, y, z, t], _ => exact .end_ h
end My

/-! ## [e for a in xs for b in ys]: its two walks -/
namespace My
open PySem PySem.Spec PyProof.Rows L2
section
variable {J J1 : It} {n m : Nat} {G G1 : Hp → Prop} {Y Y1 : Nat → Hp → V → Hp → Prop}
theorem two_out (w : Walk J n G Y) {B : V → Hp → (Hp → Prop) → Prop} {H0 : Hp} {Qd : Hp → Prop} (Pv : Nat → Hp → Prop) (h0 : Pv 0 H0) (hG : ∀ i H, i ≤ n → Pv i H → G H) (hs : ∀ i x H H', i < n → Pv i H → Y i H x H' → B x H' (Pv (i + 1))) (hd : ∀ H, Pv n H → Qd H) :
    ∃ W : Nat → Nat → Hp → Prop, (∃ k, W 0 k H0) ∧ ∀ i k H, W i k H → (J.stop i H ∧ Qd H) ∨ (J.go i H ∧ ∃ Nx : Hp → Prop, (∀ H', Nx H' → ∃ k', k' < k ∧ W (i + 1) k' H') ∧ ∀ x H', J.yld i H x H' → B x H' Nx) := by
  refine ⟨fun i k H => k + i = n ∧ Pv i H, ⟨n, Nat.add_zero n, h0⟩, fun i k H h => ?_⟩
  obtain ⟨hk, hp⟩ := h
  have hi : i ≤ n := by omega
  have hg := hG i H hi hp
  cases k with
  | zero =>
    obtain rfl : i = n := by omega
    exact .inl ⟨w.stops H hg, hd H hp⟩
  | succ k =>
    have lt : i < n := by omega
    exact .inr ⟨w.goes i H lt hg, Pv (i + 1), fun H' h' => ⟨k, Nat.lt_succ_self k, by omega, h'⟩, fun x H' y => hs i x H H' lt hp (w.yields i H x H' lt hg y)⟩
end
end My

/-! ## Books: what is looked at before one is made -/
namespace My
open PySem PySem.Spec PyProof.Rows L2
abbrev s_are_some_services : Stmt := top 40
abbrev N_are_some_services : List Str := ["value", "service"]
abbrev P_are_some_services : List Str := ["value"]
theorem sc_are_some_services : FnScope N_are_some_services P_are_some_services (defScope s_are_some_services) := ⟨rfl, rfl, rfl, by decide +kernel, rfl, by decide +kernel, by decide +kernel⟩
abbrev s_all_among : Stmt := top 41
abbrev N_all_among : List Str := ["words", "names", "word"]
abbrev P_all_among : List Str := ["words", "names"]
theorem sc_all_among : FnScope N_all_among P_all_among (defScope s_all_among) := ⟨rfl, rfl, rfl, by decide +kernel, rfl, by decide +kernel, by decide +kernel⟩
abbrev s_InvalidBook_init : Stmt := inClass (top 11) 0
abbrev N_InvalidBook_init : List Str := ["self", "word"]
abbrev P_InvalidBook_init : List Str := ["self", "word"]
theorem sc_InvalidBook_init : FnScope N_InvalidBook_init P_InvalidBook_init (defScope s_InvalidBook_init) := ⟨rfl, rfl, rfl, by decide +kernel, rfl, by decide +kernel, by decide +kernel⟩
structure TxBkChk (w : World) (K : PySem.W.Frag) (mg : Str → Option Value) extends TxSvc w K mg where
  f_are_some_services : Addr
  d_are_some_services : FuncData
  F_are_some_services : Fun K "are_some_services" "are_some_services" s_are_some_services f_are_some_services d_are_some_services
  m_are_some_services : mg "are_some_services" = some (.ref f_are_some_services)
  b_are_some_services : Binds K d_are_some_services P_are_some_services []
  f_all_among : Addr
  d_all_among : FuncData
  F_all_among : Fun K "all_among" "all_among" s_all_among f_all_among d_all_among
  m_all_among : mg "all_among" = some (.ref f_all_among)
  b_all_among : Binds K d_all_among P_all_among []
  C_InvalidBook : Addr
  m_InvalidBook : mg "InvalidBook" = some (.ref C_InvalidBook)
  oxBk : OexC K C_InvalidBook
  nwBk : PySem.W.findIn K (.ref C_InvalidBook) "word" = some none
  f_InvalidBook_init : Addr
  d_InvalidBook_init : FuncData
  iBk : PySem.W.findIn K (.ref C_InvalidBook) "__init__" = some (some (.ref f_InvalidBook_init))
  tBk : PySem.W.typeIn K (.ref f_InvalidBook_init) = some (.type "function")
  F_InvalidBook_init : Fun K "__init__" "InvalidBook.__init__" s_InvalidBook_init f_InvalidBook_init d_InvalidBook_init
  b_InvalidBook_init : Binds K d_InvalidBook_init P_InvalidBook_init []
/-- what are_some_services answers -/
inductive SvcsV (K : PySem.W.Frag) (CS : Addr) (H : Hp) : V → Bool → Prop where
  | no {v : V} (h : SeqV K H v false) : SvcsV K CS H v false
  | seq {a : Addr} {xs : List V} {bs : List Bool} (h : SqA K H a xs) (e : Paired (fun x b => ∃ t, TyX K H x t ∧ PySem.W.kitOne K t (.ref CS) = some b) xs bs) (n : xs.length ≤ 900) : SvcsV K CS H (.ref a) (!xs.isEmpty && bs.all id)
theorem SvcsV.same {K : PySem.W.Frag} {CS : Addr} {H H' : Hp} {v : V} {b : Bool} (h : SvcsV K CS H v b) (s : Same H H') : SvcsV K CS H' v b := by
  have mono : ∀ {xs : List V} {bs : List Bool}, Paired (fun x b => ∃ t, TyX K H x t ∧ PySem.W.kitOne K t (.ref CS) = some b) xs bs → Paired (fun x b => ∃ t, TyX K H' x t ∧ PySem.W.kitOne K t (.ref CS) = some b) xs bs := by
    intro xs bs p
    induction p with
    | nil => exact .nil
    | cons r _ ih =>
      obtain ⟨t, ty, k⟩ := r
      exact .cons ⟨t, tyx_keep s ty, k⟩ ih
  cases h with
  | no h => exact .no (h.same s)
  | seq h e n => exact .seq (h.same s) (mono e) n
def spSvcs {w : World} {K : PySem.W.Frag} {mg : Str → Option Value} (T : TxBkChk w K mg) : Sp := fun vs H Q _ => ∃ (v : V) (b : Bool), vs = [v] ∧ SvcsV K T.C_Service H v b ∧ ∀ H', Same H H' → Q (.bl b) H'
def spAmong (K : PySem.W.Frag) : Sp := fun vs H Q _ => ∃ (a c : Addr) (l ns : List Str), vs = [.ref a, .ref c] ∧ SqA K H a (l.map V.str) ∧ SqA K H c (ns.map V.str) ∧ l.length ≤ 900 ∧ ∀ H', Same H H' → Q (.bl (l.all fun y => ns.contains y)) H'
section
variable {P : Program} {w : World} {K : PySem.W.Frag} {mg : Str → Option Value} {base : Heap}
theorem ok_xbk (T : TxBkChk w K mg) : FnOk P w K mg base CX0 1 T.f_InvalidBook_init T.d_InvalidBook_init P_InvalidBook_init (spXInit K T.C_InvalidBook) := by
  refine T.F_InvalidBook_init.ok sc_InvalidBook_init (fun vs H Q E h => ?_) (fun cdv A outer s H vs Q E hr h => ?_)
  · obtain ⟨a, y, rfl, _⟩ := h
    rfl
  obtain ⟨a, y, rfl, ha, q⟩ := h
  refine ⟨_, (pss_one (ps_ost (pv 0) (pv 1))), ?_⟩
  exact ⟨_, rfl, _, rfl, a, T.C_InvalidBook, rfl, T.oxBk, T.nwBk, .inl ⟨ha, fun dx h1 h2 => q dx h1 h2⟩⟩
theorem flat_strs : ∀ l : List Str, (l.map V.str).all flatV = true
  | [] => rfl
  | _ :: l => by
    rw [List.map_cons, List.all_cons, flat_strs l]
    rfl
theorem ok_all_among (T : TxBkChk w K mg) : FnOk P w K mg base CX0 1 T.f_all_among T.d_all_among P_all_among (spAmong K) := by
  refine T.F_all_among.ok sc_all_among (fun vs H Q E h => ?_) (fun cdv A outer s H vs Q E hr h => ?_)
  · obtain ⟨a, c, l, ns, rfl, _⟩ := h
    rfl
  obtain ⟨a, c, l, ns, rfl, hl, hn, n9, q⟩ := h
  refine ⟨_, (pss_one (ps_ret (pe_callB (cr_allK K rfl) (by rfl) T.z_all (by decide +kernel) (pa_cons (pe_lc (own := [("word", 2)]) (g := gName 2) (by rfl) sc_all_among.nd (pi_seqK K (pv 0)) (blkOk_by (own := [("word", 2)]) (N := N_all_among) (sc := defScope s_all_among) (by decide +kernel)) (fun _ _ _ _ _ => (pg_name (i := 2) sc_all_among.nd rfl (Or.inl rfl))) (fun _ _ _ _ _ => pts_nil) (fun _ _ _ _ _ => (pe_cmpR (op_inK K) (pv 2) (pv 1) (by rfl)))) pa_nil)))), ?_⟩
  refine ⟨_, rfl, a, _, rfl, hl, fun J G g0 gs wk D hD => ?_⟩
  refine lc_it wk (fun i H' => Same H H' ∧ H' D = some (.lst (((l.take i).map fun y => ns.contains y).map V.bl))) ⟨same_upd hD _, upd_same⟩ (fun i H' _ h => gs _ _ h.1 g0) ?_ ?_
  · rintro i x H2 H3 hi ⟨s2, hD2⟩ ⟨rfl, hx⟩
    rw [List.getElem?_map] at hx
    obtain ⟨y, hy, rfl⟩ : ∃ y, l[i]? = some y ∧ V.str y = x := by
      cases e : l[i]? with
      | none => rw [e] at hx; cases hx
      | some z => rw [e] at hx; cases hx; exact ⟨z, rfl, rfl⟩
    refine ⟨rfl, ?_⟩
    refine ⟨_, rfl, _, rfl, c, ns.map V.str, rfl, hn.same s2, rfl, flat_strs ns, ?_⟩
    rw [if_neg Bool.false_ne_true, inV_strs]
    refine ⟨_, hD2, small1000 (by rw [List.length_map, List.length_map, List.length_take]; omega), fun b o e => ?_, ?_⟩
    · rw [upd_ne (ne_of_none e hD)]
      exact s2 b o e
    · rw [upd_same, List.take_add_one, hy, List.map_append, List.map_append]
      rfl
  rintro H2 ⟨s2, hD2⟩
  rw [List.length_map, List.take_length] at hD2
  refine ⟨D, _, rfl, SqL.of hD2, ?_⟩
  have z := q H2 s2
  have e : ((l.map fun y => ns.contains y).all id) = l.all fun y => ns.contains y := by rw [List.all_map]; rfl
  rw [← e] at z
  exact z
theorem ok_are_some_services (T : TxBkChk w K mg) : FnOk P w K mg base CX0 2 T.f_are_some_services T.d_are_some_services P_are_some_services (spSvcs T) := by
  have G_is_sequence := ok_is_sequence (P := P) (w := w) (base := base) T.toTxSeq
  refine T.F_are_some_services.ok sc_are_some_services (fun vs H Q E h => ?_) (fun cdv A outer s H vs Q E hr h => ?_)
  · obtain ⟨v, b, rfl, _⟩ := h
    rfl
  obtain ⟨v, b, rfl, hS, q⟩ := h
  refine ⟨_, (pss_cons (ps_if (PW.pt (pw_or (pt_not (pt_val (pe_call G_is_sequence (hr.mono (by decide)) (by rfl) T.m_is_sequence T.F_is_sequence.kp T.b_is_sequence .nil pass0 (pa_cons (pv 0) pa_nil)))) (pw_or1 (pt_cmpR op_eq (pe_callB (call_lenK K) (by rfl) T.z_len (by decide +kernel) (pa_cons (pv 0) pa_nil)) pe_int (nomark _))))) (pss_one (ps_ret pe_bl)) pss_nil)
      (pss_one (ps_ret (pe_callB (cr_allK K rfl) (by rfl) T.z_all (by decide +kernel) (pa_cons (pe_lc (own := [("service", 1)]) (g := gName 1) (by rfl) sc_are_some_services.nd (pi_seqK K (pv 0)) (blkOk_by (own := [("service", 1)]) (N := N_are_some_services) (sc := defScope s_are_some_services) (by decide +kernel)) (fun _ _ _ _ _ => (pg_name (i := 1) sc_are_some_services.nd rfl (Or.inl rfl))) (fun _ _ _ _ _ => pts_nil) (fun _ _ _ _ _ => (pe_callB (call_isiV K) (by rfl) T.z_isinstance (by decide +kernel) (pa_cons (pv 1) (pa_cons (pe_glob (v := .ref T.C_Service) (by rfl) T.m_Service rfl) pa_nil))))) pa_nil))))), ?_⟩
  cases hS with
  | no h =>
    refine ⟨_, rfl, v, false, rfl, h, fun H1 s1 => ⟨_, rfl, ?_⟩⟩
    refine ite2 (fun _ => ?_) (fun z => absurd rfl z)
    refine ite2 (fun _ => ?_) (fun z => absurd rfl z)
    exact q H1 s1
  | @seq a xs bs h e n =>
    refine ⟨_, rfl, .ref a, true, rfl, h.seqV, fun H1 s1 => ⟨_, rfl, ?_⟩⟩
    refine ite2 (fun z => nomatch z) (fun _ => ?_)
    have h1 := h.same s1
    refine ⟨_, rfl, a, xs, rfl, h1, rfl, _, rfl, ?_⟩
    cases xs with
    | nil => exact ite2 (fun _ => q H1 s1) (fun z => absurd (by simp) z)
    | cons x0 xt =>
      refine ite2 (fun z => absurd z (by simp; omega)) (fun _ => ?_)
      refine ⟨_, rfl, a, x0 :: xt, rfl, h1, fun J G g0 gs wk D hD => ?_⟩
      refine lc_it wk (fun i H' => Same H1 H' ∧ H' D = some (.lst ((bs.take i).map V.bl))) ⟨same_upd hD _, upd_same⟩ (fun i H' _ h => gs _ _ h.1 g0) ?_ ?_
      · rintro i x H2 H3 hi ⟨s2, hD2⟩ ⟨rfl, hx⟩
        obtain ⟨bb, hb, t, ty, kr⟩ := paired_get e hx
        refine ⟨rfl, ?_⟩
        refine ⟨_, rfl, x, .ref T.C_Service, t, _, bb, rfl, .own _, tyx_keep (s1.trans s2) ty, kr, ?_⟩
        refine ⟨_, hD2, small1000 (by rw [List.length_map, List.length_take]; omega), ?_, ?_⟩
        · intro b o e
          rw [upd_ne (ne_of_none e hD)]
          exact s2 b o e
        · rw [upd_same, List.take_add_one, hb, List.map_append]
          rfl
      · rintro H2 ⟨s2, hD2⟩
        have ln : (x0 :: xt).length = bs.length := pair_len e
        rw [ln, List.take_length] at hD2
        refine ⟨D, _, rfl, SqL.of hD2, ?_⟩
        exact q H2 (s1.trans s2)
end
end My

/-! ## A book is made, or refused -/
namespace My
open PySem PySem.Spec PyProof.Rows L2
abbrev s_Book_init : Stmt := inClass (top 46) 0
abbrev N_Book_init : List Str := ["self", "services", "roots", "names", "service", "rows", "row", "marks", "signs"]
abbrev P_Book_init : List Str := ["self", "services", "roots"]
theorem sc_Book_init : FnScope N_Book_init P_Book_init (defScope s_Book_init) := ⟨rfl, rfl, rfl, by decide +kernel, rfl, by decide +kernel, by decide +kernel⟩
structure TxBook (w : World) (K : PySem.W.Frag) (mg : Str → Option Value) extends TxBkChk w K mg where
  ty_Service : ∀ (H : Hp) (a dx : Addr) (fs : List (Str × V)), H a = some (.ins C_Service dx fs) → TyX K H (.ref a) (.ref C_Service)
  kk_Service : PySem.W.kitOne K (.ref C_Service) (.ref C_Service) = some true
  C_Book : Addr
  m_Book : mg "Book" = some (.ref C_Book)
  c_Book : Cls K C_Book
  f_Book_init : Addr
  d_Book_init : FuncData
  mk_Book : Mk K C_Book f_Book_init
  F_Book_init : Fun K "__init__" "Book.__init__" s_Book_init f_Book_init d_Book_init
  b_Book_init : Binds K d_Book_init P_Book_init []
  n_Book_services : NoAttr K C_Book "services"
  n_Book_roots : NoAttr K C_Book "roots"
  n_Book_names : NoAttr K C_Book "names"
  n_Book_marks : NoAttr K C_Book "marks"
  n_Book_signs : NoAttr K C_Book "signs"
  n_Book__rows : NoAttr K C_Book "_rows"
def SvcRef {w : World} {K : PySem.W.Frag} {mg : Str → Option Value} (T : TxSvc w K mg) (H : Hp) (x : V) (v : SvW) : Prop := ∃ a, x = .ref a ∧ SvcIs T H a v.nm v.kinds v.waits v.leaves v.rows
/-- ascending, without words that stand for others -/
def Asc (ys l : List Str) : Prop := ys.Nodup ∧ sortedS ys = true ∧ ∀ y, y ∈ ys ↔ y ∈ l ∧ ODDW2.contains y = false
def markOf : Str × List Str → Option Str
  | (s, ws) => if s = "begin" then some (ws.getD 0 Str.empty) else if s = "send" then some (ws.getD 2 Str.empty) else none
def signOf : Str × List Str → Option Str
  | (s, ws) => if s = "back" then some (ws.getD 2 Str.empty) else if s = "end" then some (ws.getD 2 Str.empty) else none
def rowsOf (vs : List SvW) : List (Str × List Str) := vs.flatMap (·.rows)
/-- the book of these services and roots stands at p -/
structure BkIs {w : World} {K : PySem.W.Frag} {mg : Str → Option Value} (T : TxBook w K mg) (H : Hp) (p : Addr) (vs : List SvW) (roots : List Str) : Prop where
  ex : ∃ (dx s2 r2 n2 m2 g2 w2 : Addr) (xs ws : List V) (ns ms gs : List Str), H p = some (.ins T.C_Book dx [("services", .ref s2), ("roots", .ref r2), ("names", .ref n2), ("marks", .ref m2), ("signs", .ref g2), ("_rows", .ref w2)]) ∧
    SqT K H s2 xs ∧ Paired (SvcRef T.toTxSvc H) xs vs ∧ SqT K H r2 (roots.map V.str) ∧ SqT K H n2 (ns.map V.str) ∧ Asc ns (vs.map (·.nm)) ∧ SqT K H m2 (ms.map V.str) ∧ Asc ms ("none" :: (rowsOf vs).filterMap markOf) ∧
    SqT K H g2 (gs.map V.str) ∧ Asc gs ("none" :: (rowsOf vs).filterMap signOf) ∧ SqT K H w2 ws ∧ Paired (RowIs T.toTxSvc H) ws (rowsOf vs)
/-- its services are these very ones -/
structure BkSv {w : World} {K : PySem.W.Frag} {mg : Str → Option Value} (T : TxBook w K mg) (H : Hp) (p : Addr) (xs : List V) : Prop where
  ex : ∃ (dx s2 : Addr) (fs : List (Str × V)), H p = some (.ins T.C_Book dx (("services", .ref s2) :: fs)) ∧ SqT K H s2 xs
def wrRo (ns : List Str) : Option (List Str) → Option Str
  | none => some "roots"
  | some l => if (l.all fun y => ns.contains y) = false then some "roots" else none
/-- the word of the first thing that is not as it must be; ro: the roots, where they are some names -/
def wrBk (vs : List SvW) (ro : Option (List Str)) : Option Str :=
  if ¬ (vs.map (·.nm)).Nodup then some "name" else if (vs.all fun v => v.waits.all fun y => (vs.map (·.nm)).contains y) = false then some "waits" else if (vs.all fun v => v.leaves.all fun y => (vs.map (·.nm)).contains y) = false then some "leaves"
  else wrRo (vs.map (·.nm)) ro
def spBookInit {w : World} {K : PySem.W.Frag} {mg : Str → Option Value} (T : TxBook w K mg) : Sp := fun us H Q E => ∃ (p dx : Addr) (sv rt : V) (b1 b5 : Bool), us = [.ref p, sv, rt] ∧ H p = some (.ins T.C_Book dx []) ∧ SvcsV K T.C_Service H sv b1 ∧ SomeV K H rt b5 ∧
  (b1 = false → ∀ d H', Same H H' → H d = none → H' d = some (.xd [("word", .str "services")]) → E (.ref T.C_InvalidBook) (some d) H') ∧
  (b1 = true → ∃ (sa : Addr) (xs : List V) (vs : List SvW) (ro : Option (List Str)), sv = .ref sa ∧ SqA K H sa xs ∧ Paired (SvcRef T.toTxSvc H) xs vs ∧ (∀ v ∈ vs, v.good) ∧ vs.length ≤ 10 ∧ (rowsOf vs).length ≤ 50 ∧ (b5 = ro.isSome) ∧
    (∀ l, ro = some l → ∃ ra, rt = .ref ra ∧ SqA K H ra (l.map V.str) ∧ l.length ≤ 100) ∧
    (∀ wd d H', wrBk vs ro = some wd → Same H H' → H d = none → H' d = some (.xd [("word", .str wd)]) → E (.ref T.C_InvalidBook) (some d) H') ∧
    (∀ l H', ro = some l → wrBk vs ro = none → Kp p H H' → BkIs T H' p vs l → BkSv T H' p xs → Q .non H'))
theorem paired_app {α β : Type} {R : α → β → Prop} : ∀ {xs xs2 : List α} {ys ys2 : List β}, Paired R xs ys → Paired R xs2 ys2 → Paired R (xs ++ xs2) (ys ++ ys2)
  | _, _, _, _, .nil, h => h
  | _, _, _, _, .cons r t, h => .cons r (paired_app t h)
theorem row_mark {w : World} {K : PySem.W.Frag} {mg : Str → Option Value} (T : TxBook w K mg) {H : Hp} {x : V} {r : Str × List Str} (h : RowK T.toTxSvc H x r) : ∃ C, TyX K H x (.ref C) ∧ PySem.W.kitAny K (.ref C) [.ref T.C_Begin, .ref T.C_Send] = some (markOf r).isSome ∧
    ∀ m, markOf r = some m → ∃ (a dx : Addr) (fs : List (Str × V)), x = .ref a ∧ H a = some (.ins C dx fs) ∧ Cls K C ∧ NoAttr K C "mark" ∧ fs.lookup ("mark" : Str) = some (.str m) := by
  cases h with
  | beg h => exact ⟨_, T.ty_Begin _ _ _ _ h, kitAny_cons (b := true) T.kk_Begin_Begin (fun z => nomatch z) (fun _ => rfl), (fun m e => by cases e; exact ⟨_, _, _, rfl, h, T.c_Begin, T.n_Begin_mark, rfl⟩)⟩
  | snd h => exact ⟨_, T.ty_Send _ _ _ _ h, kitAny_cons (b := false) T.kk_Send_Begin (fun _ => kitAny_cons (b := true) T.kk_Send_Send (fun z => nomatch z) (fun _ => rfl)) (fun z => nomatch z), (fun m e => by cases e; exact ⟨_, _, _, rfl, h, T.c_Send, T.n_Send_mark, rfl⟩)⟩
  | bck h => exact ⟨_, T.ty_Back _ _ _ _ h, kitAny_cons (b := false) T.kk_Back_Begin (fun _ => kitAny_cons (b := false) T.kk_Back_Send (fun _ => rfl) (fun z => nomatch z)) (fun z => nomatch z), (fun m e => nomatch e)⟩
  | end_ h => exact ⟨_, T.ty_End _ _ _ _ h, kitAny_cons (b := false) T.kk_End_Begin (fun _ => kitAny_cons (b := false) T.kk_End_Send (fun _ => rfl) (fun z => nomatch z)) (fun z => nomatch z), (fun m e => nomatch e)⟩
theorem row_sign {w : World} {K : PySem.W.Frag} {mg : Str → Option Value} (T : TxBook w K mg) {H : Hp} {x : V} {r : Str × List Str} (h : RowK T.toTxSvc H x r) : ∃ C, TyX K H x (.ref C) ∧ PySem.W.kitAny K (.ref C) [.ref T.C_Back, .ref T.C_End] = some (signOf r).isSome ∧
    ∀ m, signOf r = some m → ∃ (a dx : Addr) (fs : List (Str × V)), x = .ref a ∧ H a = some (.ins C dx fs) ∧ Cls K C ∧ NoAttr K C "sign" ∧ fs.lookup ("sign" : Str) = some (.str m) := by
  cases h with
  | beg h => exact ⟨_, T.ty_Begin _ _ _ _ h, kitAny_cons (b := false) T.kk_Begin_Back (fun _ => kitAny_cons (b := false) T.kk_Begin_End (fun _ => rfl) (fun z => nomatch z)) (fun z => nomatch z), (fun m e => nomatch e)⟩
  | snd h => exact ⟨_, T.ty_Send _ _ _ _ h, kitAny_cons (b := false) T.kk_Send_Back (fun _ => kitAny_cons (b := false) T.kk_Send_End (fun _ => rfl) (fun z => nomatch z)) (fun z => nomatch z), (fun m e => nomatch e)⟩
  | bck h => exact ⟨_, T.ty_Back _ _ _ _ h, kitAny_cons (b := true) T.kk_Back_Back (fun z => nomatch z) (fun _ => rfl), (fun m e => by cases e; exact ⟨_, _, _, rfl, h, T.c_Back, T.n_Back_sign, rfl⟩)⟩
  | end_ h => exact ⟨_, T.ty_End _ _ _ _ h, kitAny_cons (b := false) T.kk_End_Back (fun _ => kitAny_cons (b := true) T.kk_End_End (fun z => nomatch z) (fun _ => rfl)) (fun z => nomatch z), (fun m e => by cases e; exact ⟨_, _, _, rfl, h, T.c_End, T.n_End_sign, rfl⟩)⟩
theorem rowis_kp {w : World} {K : PySem.W.Frag} {mg : Str → Option Value} {T : TxSvc w K mg} {H H' : Hp} {p C dx : Addr} (hp : H p = some (.ins C dx [])) (k : Kp p H H') : ∀ {xs : List V} {rs : List (Str × List Str)}, Paired (RowIs T H) xs rs → (∀ r ∈ rs, GoodR r) → Paired (RowIs T H') xs rs
  | _, _, .nil, _ => .nil
  | _, _, .cons (b := r) h t, g => by
    obtain ⟨a, dx0, e, h⟩ := h
    have gd := g _ List.mem_cons_self
    have hm := rw_is T gd.so gd.len2 h
    subst e
    exact .cons ⟨a, dx0, rfl, k a _ (fun z => by subst z; exact hm.not_bare hp) h⟩ (rowis_kp hp k t fun r hr => g r (List.mem_cons_of_mem _ hr))
theorem SvcRef.same {w : World} {K : PySem.W.Frag} {mg : Str → Option Value} {T : TxSvc w K mg} {H H' : Hp} {x : V} {v : SvW} (h : SvcRef T H x v) (s : Same H H') : SvcRef T H' x v := by
  obtain ⟨a, e, h⟩ := h
  exact ⟨a, e, h.kl (KL.of_same s)⟩
theorem namesB_dec {l : List Str} (h : ∀ y ∈ l, isNm y = true) : namesB (l.map V.str) = decide l.Nodup := by
  have e : (l.map V.str).map txV = l := by
    rw [List.map_map]
    exact List.map_id' l
  unfold namesB
  rw [e, List.all_map]
  have a : (l.all (nmV ∘ V.str)) = true := List.all_eq_true.mpr h
  rw [a, Bool.true_and]
section
variable {P : Program} {w : World} {K : PySem.W.Frag} {mg : Str → Option Value} {base : Heap}
theorem ok_Book_init (T : TxBook w K mg) : FnOk P w K mg base (L2.CX P w) 5 T.f_Book_init T.d_Book_init P_Book_init (spBookInit T) := by
  have G_are_names := ok_are_names (P := P) (w := w) (base := base) T.toTxSeq
  have G_are_some_names := ok_are_some_names (P := P) (w := w) (base := base) T.toTxSeq
  have G_are_some_services := ok_are_some_services (P := P) (w := w) (base := base) T.toTxBkChk
  have G_all_among := ok_all_among (P := P) (w := w) (base := base) T.toTxBkChk
  have G_ascending := ok_ascending (P := P) (w := w) (base := base) T.toTxSvc
  have G_InvalidBook_init := ok_xbk (P := P) (w := w) (base := base) T.toTxBkChk
  refine T.F_Book_init.okX sc_Book_init (fun vs H Q E h => ?_) (fun cdv A outer s H vs Q E hr h => ?_)
  · obtain ⟨p, dx, sv, rt, b1, b5, rfl, _⟩ := h
    rfl
  obtain ⟨p, dx, sv, rt, b1, b5, rfl, hp, hs1, hrt, qe1, rest⟩ := h
  refine ⟨_, (pss_cons (ps_if (pt_not (pt_val (pe_call G_are_some_services (hr.mono (by decide)) (by rfl) T.m_are_some_services T.F_are_some_services.kp T.b_are_some_services .nil pass0 (pa_cons (pv 1) pa_nil)))) (pss_one (ps_raise rfl (takes_of rfl rfl rfl rfl) (pmk_oex T.oxBk T.iBk T.tBk G_InvalidBook_init (hr.mono (by decide)) T.b_InvalidBook_init .nil pass0 (by rfl) T.m_InvalidBook (pa_cons pe_str pa_nil)))) pss_nil)
      (pss_cons (ps_set (i := 3) sc_Book_init.nd rfl (Or.inr rfl) (pe_lc (own := [("service", 4)]) (g := gName 4) (by rfl) sc_Book_init.nd (pi_seqK K (pv 1)) (blkOk_by (own := [("service", 4)]) (N := N_Book_init) (sc := defScope s_Book_init) (by decide +kernel)) (fun _ _ _ _ _ => (pg_name (i := 4) sc_Book_init.nd rfl (Or.inl rfl))) (fun _ _ _ _ _ => pts_nil) (fun _ _ _ _ _ => (pe_fldK K (pv 4)))))
      (pss_cons (ps_if (pt_not (pt_val (pe_call G_are_names (hr.mono (by decide)) (by rfl) T.m_are_names T.F_are_names.kp T.b_are_names .nil pass0 (pa_cons (pv 3) pa_nil)))) (pss_one (ps_raise rfl (takes_of rfl rfl rfl rfl) (pmk_oex T.oxBk T.iBk T.tBk G_InvalidBook_init (hr.mono (by decide)) T.b_InvalidBook_init .nil pass0 (by rfl) T.m_InvalidBook (pa_cons pe_str pa_nil)))) pss_nil)
      (pss_cons (ps_if (pt_not (pt_val (pe_callB (cr_allK K rfl) (by rfl) T.z_all (by decide +kernel) (pa_cons (pe_lc (own := [("service", 4)]) (g := gName 4) (by rfl) sc_Book_init.nd (pi_seqK K (pv 1)) (blkOk_by (own := [("service", 4)]) (N := N_Book_init) (sc := defScope s_Book_init) (by decide +kernel)) (fun _ _ _ _ _ => (pg_name (i := 4) sc_Book_init.nd rfl (Or.inl rfl))) (fun _ _ _ _ _ => pts_nil) (fun _ _ _ _ _ => (pe_call G_all_among (hr.mono (by decide)) (by rfl) T.m_all_among T.F_all_among.kp T.b_all_among .nil pass0 (pa_cons (pe_fldK K (pv 4)) (pa_cons (pv 3) pa_nil))))) pa_nil)))) (pss_one (ps_raise rfl (takes_of rfl rfl rfl rfl) (pmk_oex T.oxBk T.iBk T.tBk G_InvalidBook_init (hr.mono (by decide)) T.b_InvalidBook_init .nil pass0 (by rfl) T.m_InvalidBook (pa_cons pe_str pa_nil)))) pss_nil)
      (pss_cons (ps_if (pt_not (pt_val (pe_callB (cr_allK K rfl) (by rfl) T.z_all (by decide +kernel) (pa_cons (pe_lc (own := [("service", 4)]) (g := gName 4) (by rfl) sc_Book_init.nd (pi_seqK K (pv 1)) (blkOk_by (own := [("service", 4)]) (N := N_Book_init) (sc := defScope s_Book_init) (by decide +kernel)) (fun _ _ _ _ _ => (pg_name (i := 4) sc_Book_init.nd rfl (Or.inl rfl))) (fun _ _ _ _ _ => pts_nil) (fun _ _ _ _ _ => (pe_call G_all_among (hr.mono (by decide)) (by rfl) T.m_all_among T.F_all_among.kp T.b_all_among .nil pass0 (pa_cons (pe_fldK K (pv 4)) (pa_cons (pv 3) pa_nil))))) pa_nil)))) (pss_one (ps_raise rfl (takes_of rfl rfl rfl rfl) (pmk_oex T.oxBk T.iBk T.tBk G_InvalidBook_init (hr.mono (by decide)) T.b_InvalidBook_init .nil pass0 (by rfl) T.m_InvalidBook (pa_cons pe_str pa_nil)))) pss_nil)
      (pss_cons (ps_if (PW.pt (pw_or (pt_not (pt_val (pe_call G_are_some_names (hr.mono (by decide)) (by rfl) T.m_are_some_names T.F_are_some_names.kp T.b_are_some_names .nil pass0 (pa_cons (pv 2) pa_nil)))) (pw_or1 (pt_not (pt_val (pe_call G_all_among (hr.mono (by decide)) (by rfl) T.m_all_among T.F_all_among.kp T.b_all_among .nil pass0 (pa_cons (pv 2) (pa_cons (pv 3) pa_nil)))))))) (pss_one (ps_raise rfl (takes_of rfl rfl rfl rfl) (pmk_oex T.oxBk T.iBk T.tBk G_InvalidBook_init (hr.mono (by decide)) T.b_InvalidBook_init .nil pass0 (by rfl) T.m_InvalidBook (pa_cons pe_str pa_nil)))) pss_nil)
      (pss_cons (ps_setLc2 (i := 5) (own := [("service", 4), ("row", 6)]) (vs1 := [6]) (g := gName 4) (g1 := gName 6) (by rfl) sc_Book_init.nd rfl rfl (sw_true rfl rfl rfl (by decide +kernel)) (pi_seqK K (pv 1)) (blkOk_by (own := [("service", 4), ("row", 6)]) (N := N_Book_init) (sc := defScope s_Book_init) (by decide +kernel)) (by decide) (fun _ _ _ _ _ => (pg_name (i := 4) sc_Book_init.nd rfl (Or.inl rfl))) (fun _ _ _ _ _ => pts_nil) (fun _ _ _ _ _ => (pi_tupK K (pe_fldK K (pv 4)))) (fun _ _ _ _ _ => (pg_name (i := 6) sc_Book_init.nd rfl (Or.inl rfl))) (fun _ _ _ _ _ => pts_nil) (fun _ _ _ _ _ => (pv 6)))
      (pss_cons (ps_setLc (i := 7) (own := [("row", 6)]) (g := gName 6) (by rfl) sc_Book_init.nd rfl rfl (sw_true rfl rfl rfl (by decide +kernel)) (pi_listK K (pv 5)) (blkOk_by (own := [("row", 6)]) (N := N_Book_init) (sc := defScope s_Book_init) (by decide +kernel)) (fun _ _ _ _ _ => (pg_name (i := 6) sc_Book_init.nd rfl (Or.inl rfl))) (fun _ _ _ _ _ => pts_one (by exact (pt_val (pe_callB (call_isiTV K) (by rfl) T.z_isinstance (by decide +kernel) (pa_cons (pv 6) (pa_cons (pe_tup (pa_cons (pe_glob (v := .ref T.C_Begin) (by rfl) T.m_Begin rfl) (pa_cons (pe_glob (v := .ref T.C_Send) (by rfl) T.m_Send rfl) pa_nil))) pa_nil)))))) (fun _ _ _ _ _ => (pe_fldK K (pv 6))))
      (pss_cons (ps_setLc (i := 8) (own := [("row", 6)]) (g := gName 6) (by rfl) sc_Book_init.nd rfl rfl (sw_true rfl rfl rfl (by decide +kernel)) (pi_listK K (pv 5)) (blkOk_by (own := [("row", 6)]) (N := N_Book_init) (sc := defScope s_Book_init) (by decide +kernel)) (fun _ _ _ _ _ => (pg_name (i := 6) sc_Book_init.nd rfl (Or.inl rfl))) (fun _ _ _ _ _ => pts_one (by exact (pt_val (pe_callB (call_isiTV K) (by rfl) T.z_isinstance (by decide +kernel) (pa_cons (pv 6) (pa_cons (pe_tup (pa_cons (pe_glob (v := .ref T.C_Back) (by rfl) T.m_Back rfl) (pa_cons (pe_glob (v := .ref T.C_End) (by rfl) T.m_End rfl) pa_nil))) pa_nil)))))) (fun _ _ _ _ _ => (pe_fldK K (pv 6))))
      (pss_cons (ps_fld (pv 0) (pe_callTy (call_tupQ K) (by rfl) T.z_tuple (by decide +kernel) (pa_cons (pv 1) pa_nil)) rfl)
      (pss_cons (ps_fld (pv 0) (pe_callTy (call_tupQ K) (by rfl) T.z_tuple (by decide +kernel) (pa_cons (pv 2) pa_nil)) rfl)
      (pss_cons (ps_fld (pv 0) (pe_call G_ascending (hr.mono (by decide)) (by rfl) T.m_ascending T.F_ascending.kp T.b_ascending .nil pass0 (pa_cons (pv 3) pa_nil)) rfl)
      (pss_cons (ps_fld (pv 0) (pe_call G_ascending (hr.mono (by decide)) (by rfl) T.m_ascending T.F_ascending.kp T.b_ascending .nil pass0 (pa_cons (pe_lst (pa_cons pe_str (pa_starK K (pv 7) pa_nil))) pa_nil)) rfl)
      (pss_cons (ps_fld (pv 0) (pe_call G_ascending (hr.mono (by decide)) (by rfl) T.m_ascending T.F_ascending.kp T.b_ascending .nil pass0 (pa_cons (pe_lst (pa_cons pe_str (pa_starK K (pv 8) pa_nil))) pa_nil)) rfl)
      (pss_one (ps_fld (pv 0) (pe_callTy (call_tupQ K) (by rfl) T.z_tuple (by decide +kernel) (pa_cons (pv 5) pa_nil)) rfl)))))))))))))))), ?_⟩
  have bad : ∀ {b : Bool} {α : Prop}, b = false → b = true → α := fun h1 h2 => by rw [h1] at h2; cases h2
  refine ⟨_, rfl, sv, b1, rfl, hs1, fun H1 s1 => ⟨_, rfl, ?_⟩⟩
  refine ite2 (fun c => ?_) (fun c0 => ?_)
  · exact mk_word fun d H' s' n' e' => qe1 (bnot_eq c) d H' (s1.trans s') (s1.free n') e'
  obtain ⟨sa, xs, vs, ro, rfl, hS, prs, good, v10, r50, eb5, hro, qe, fin⟩ := rest (bnot_ne c0)
  subst eb5
  have lxs : xs.length = vs.length := paired_len prs
  have hp1 := s1 _ _ hp
  -- names
  refine ⟨_, rfl, sa, xs, rfl, hS.same s1, fun J G g0 gs wk D hD => ?_⟩
  refine lc_it wk (fun i H' => Same H1 H' ∧ H' D = some (.lst (((vs.take i).map (·.nm)).map V.str))) ⟨same_upd hD _, upd_same⟩ (fun i H' _ h => gs _ _ h.1 g0) ?_ ?_
  · rintro i x H2 H3 hi ⟨s2, hD2⟩ ⟨rfl, hx⟩
    obtain ⟨v, hv, a, rfl, S⟩ := paired_get prs hx
    obtain ⟨dx0, _, _, _, _, _, _, _, _, ha, _⟩ := S.ex
    refine ⟨rfl, ?_⟩
    refine ⟨_, rfl, a, T.C_Service, dx0, _, _, rfl, (s1.trans s2) _ _ ha, T.c_Service, T.n_Service_name, rfl, _, hD2, small1000 (by rw [List.length_map, List.length_map, List.length_take]; omega), fun b o e => ?_, ?_⟩
    · rw [upd_ne (ne_of_none e hD)]
      exact s2 b o e
    · rw [upd_same, List.take_add_one, hv, List.map_append, List.map_append]
      rfl
  rintro H2 ⟨s2, hD2⟩
  rw [lxs, List.take_length] at hD2
  have t2 := s1.trans s2
  have nms : ∀ y ∈ vs.map (·.nm), isNm y = true := fun y hy => by
    obtain ⟨v, hv, rfl⟩ := List.mem_map.mp hy
    exact (good v hv).nm
  have an : ∀ (H' : Hp), ∀ v ∈ (vs.map (·.nm)).map V.str, AnyV K H' v := fun H' v hv => by
    obtain ⟨y, hy, rfl⟩ := List.mem_map.mp hv
    exact .str y (by have := isNm_len (nms y hy); omega)
  have nv := NamesV.seq (K := K) (H := H2) (a := D) (.inl (SqL.of hD2)) (an H2) (by rw [List.length_map, List.length_map]; omega)
  rw [namesB_dec nms] at nv
  refine ⟨_, rfl, .ref D, _, rfl, nv, fun H3 s3 => ⟨_, rfl, ?_⟩⟩
  have t3 := t2.trans s3
  refine ite2 (fun c => ?_) (fun c1 => ?_)
  · refine mk_word fun d H' s' n' e' => qe "name" d H' ?_ (t3.trans s') (t3.free n') e'
    unfold wrBk
    rw [if_pos (of_decide_eq_false (bnot_eq c))]
  have nd : (vs.map (·.nm)).Nodup := of_decide_eq_true (bnot_ne c1)
  have hD3 := s3 _ _ hD2
  -- waits
  refine ⟨_, rfl, sa, xs, rfl, hS.same t3, fun Jw Gw g0w gsw wkw Dw hDw => ?_⟩
  refine lc_it wkw (fun i H' => Same H3 H' ∧ H' Dw = some (.lst (((vs.take i).map fun v => v.waits.all fun y => (vs.map (·.nm)).contains y).map V.bl))) ⟨same_upd hDw _, upd_same⟩ (fun i H' _ h => gsw _ _ h.1 g0w) ?_ ?_
  · rintro i x H4 H5 hi ⟨s4, hD4⟩ ⟨rfl, hx⟩
    obtain ⟨v, hv, a, rfl, S⟩ := paired_get prs hx
    have gv := good v (List.mem_of_getElem? hv)
    have t4 := t3.trans s4
    obtain ⟨dx0, k2, w2, l2, r2, m2, _, _, _, ha, hk2, hw2, hl2, _⟩ := (S.kl (KL.of_same t4)).ex
    refine ⟨rfl, ?_⟩
    refine ⟨_, rfl, a, T.C_Service, dx0, _, _, rfl, ha, T.c_Service, T.n_Service_waits, rfl, _, rfl, w2, D, v.waits, vs.map (·.nm), rfl, .inr hw2, .inl (SqL.of (s4 _ _ hD3)), by have := gv.wl; omega, fun H6 s6 => ?_⟩
    refine ⟨_, s6 _ _ hD4, small1000 (by rw [List.length_map, List.length_map, List.length_take]; omega), fun b o e => ?_, ?_⟩
    · rw [upd_ne (ne_of_none e hDw)]
      exact (s4.trans s6) b o e
    · rw [upd_same, List.take_add_one, hv, List.map_append, List.map_append]
      rfl
  rintro H4w ⟨s4w, hD4w⟩
  rw [lxs, List.take_length] at hD4w
  refine ⟨Dw, _, rfl, SqL.of hD4w, _, rfl, ?_⟩
  have t4w := t3.trans s4w
  have e4w : ((vs.map fun v => v.waits.all fun y => (vs.map (·.nm)).contains y).all id) = vs.all fun v => v.waits.all fun y => (vs.map (·.nm)).contains y := by rw [List.all_map]; rfl
  rw [e4w]
  refine ite2 (fun c => ?_) (fun c2 => ?_)
  · refine mk_word fun d H' s' n' e' => qe "waits" d H' ?_ (t4w.trans s') (t4w.free n') e'
    unfold wrBk
    rw [if_neg (fun z => z nd), if_pos (bnot_eq c)]
  have wk0 : ¬ (vs.all fun v => v.waits.all fun y => (vs.map (·.nm)).contains y) = false := fun z => bad z (bnot_ne c2)
  have hD4n := s4w _ _ hD3
  -- leaves
  refine ⟨_, rfl, sa, xs, rfl, hS.same t4w, fun Jl Gl g0l gsl wkl Dl hDl => ?_⟩
  refine lc_it wkl (fun i H' => Same H4w H' ∧ H' Dl = some (.lst (((vs.take i).map fun v => v.leaves.all fun y => (vs.map (·.nm)).contains y).map V.bl))) ⟨same_upd hDl _, upd_same⟩ (fun i H' _ h => gsl _ _ h.1 g0l) ?_ ?_
  · rintro i x H4 H5 hi ⟨s4, hD4⟩ ⟨rfl, hx⟩
    obtain ⟨v, hv, a, rfl, S⟩ := paired_get prs hx
    have gv := good v (List.mem_of_getElem? hv)
    have t4 := t4w.trans s4
    obtain ⟨dx0, k2, w2, l2, r2, m2, _, _, _, ha, hk2, hw2, hl2, _⟩ := (S.kl (KL.of_same t4)).ex
    refine ⟨rfl, ?_⟩
    refine ⟨_, rfl, a, T.C_Service, dx0, _, _, rfl, ha, T.c_Service, T.n_Service_leaves, rfl, _, rfl, l2, D, v.leaves, vs.map (·.nm), rfl, .inr hl2, .inl (SqL.of (s4 _ _ hD4n)), by have := gv.ll; omega, fun H6 s6 => ?_⟩
    refine ⟨_, s6 _ _ hD4, small1000 (by rw [List.length_map, List.length_map, List.length_take]; omega), fun b o e => ?_, ?_⟩
    · rw [upd_ne (ne_of_none e hDl)]
      exact (s4.trans s6) b o e
    · rw [upd_same, List.take_add_one, hv, List.map_append, List.map_append]
      rfl
  rintro H4l ⟨s4l, hD4l⟩
  rw [lxs, List.take_length] at hD4l
  refine ⟨Dl, _, rfl, SqL.of hD4l, _, rfl, ?_⟩
  have t4l := t4w.trans s4l
  have e4l : ((vs.map fun v => v.leaves.all fun y => (vs.map (·.nm)).contains y).all id) = vs.all fun v => v.leaves.all fun y => (vs.map (·.nm)).contains y := by rw [List.all_map]; rfl
  rw [e4l]
  refine ite2 (fun c => ?_) (fun c3 => ?_)
  · refine mk_word fun d H' s' n' e' => qe "leaves" d H' ?_ (t4l.trans s') (t4l.free n') e'
    unfold wrBk
    rw [if_neg (fun z => z nd), if_neg wk0, if_pos (bnot_eq c)]
  have lk0 : ¬ (vs.all fun v => v.leaves.all fun y => (vs.map (·.nm)).contains y) = false := fun z => bad z (bnot_ne c3)
  have hD5 := s4l _ _ hD4n
  have wro : wrBk vs ro = wrRo (vs.map (·.nm)) ro := by
    unfold wrBk
    rw [if_neg (fun z => z nd), if_neg wk0, if_neg lk0]
  -- roots
  refine ⟨_, rfl, rt, ro.isSome, rfl, hrt.same t4l, fun H6 s6 => ⟨_, rfl, ?_⟩⟩
  have t6 := t4l.trans s6
  cases ro with
  | none =>
    refine ite2 (fun _ => ?_) (fun z => absurd rfl z)
    refine ite2 (fun _ => ?_) (fun z => absurd rfl z)
    exact mk_word fun d H' s' n' e' => qe "roots" d H' wro (t6.trans s') (t6.free n') e'
  | some l =>
    obtain ⟨ra, rfl, hR, l100⟩ := hro l rfl
    refine ite2 (fun z => nomatch z) (fun _ => ?_)
    have hD6 := s6 _ _ hD5
    refine ⟨_, rfl, _, rfl, ra, D, l, vs.map (·.nm), rfl, hR.same t6, .inl (SqL.of hD6), by omega, fun H7 s7 => ⟨_, rfl, ?_⟩⟩
    have t7 := t6.trans s7
    refine ite2 (fun c => ?_) (fun c => ?_)
    · refine mk_word fun d H' s' n' e' => qe "roots" d H' ?_ (t7.trans s') (t7.free n') e'
      rw [wro]
      exact if_pos (bnot_eq c)
    have wn : wrBk vs (some l) = none := by
      rw [wro]
      exact if_neg fun z => bad z (bnot_ne c)
    have hD7 := s7 _ _ hD6
    clear hD2 hD3 hD4n hD4w hD4l hD5 hD6 c1 c2 c3 nv qe qe1 rest hro
    -- rows
    refine ⟨_, rfl, sa, xs, rfl, hS.same t7, fun J2 G2 g2 gs2 wk2 D2 hD2 => ?_⟩
    have rl : ∀ i, (rowsOf (vs.take i)).length ≤ 50 := fun i => by
      refine Nat.le_trans ?_ r50
      have e : rowsOf vs = rowsOf (vs.take i) ++ rowsOf (vs.drop i) := by
        unfold rowsOf
        rw [← List.flatMap_append, List.take_append_drop]
      rw [e, List.length_append]
      exact Nat.le_add_right _ _
    refine two_out wk2 (fun i H' => Same H7 H' ∧ ∃ ws, H' D2 = some (.lst ws) ∧ Paired (RowIs T.toTxSvc H) ws (rowsOf (vs.take i))) ⟨same_upd hD2 _, [], upd_same, .nil⟩ (fun i H' _ h => gs2 _ _ h.1 g2) ?_ ?_
    · rintro i x H8 H9 hi ⟨s8, ws, hw8, prw⟩ ⟨rfl, hx⟩
      obtain ⟨v, hv, a, rfl, S⟩ := paired_get prs hx
      obtain ⟨dx0, k2, w2, l2, r2, m2, _, xr, _, ha, _, _, _, hr2, q0, _⟩ := S.ex
      have q1 := paired_imp (fun _ _ z => z.is) q0
      have t8 := t7.trans s8
      have step : rowsOf (vs.take (i + 1)) = rowsOf (vs.take i) ++ v.rows := by
        unfold rowsOf
        rw [List.take_add_one, hv, List.flatMap_append]
        simp
      have le1 := rl (i + 1)
      rw [step, List.length_append] at le1
      have lw : ws.length = (rowsOf (vs.take i)).length := paired_len prw
      have lr : xr.length = v.rows.length := paired_len q1
      refine ⟨rfl, ?_⟩
      refine ⟨_, rfl, a, T.C_Service, dx0, _, _, rfl, t8 _ _ ha, T.c_Service, T.n_Service_rows, rfl, r2, rfl, ⟨_, seqT_same t8 hr2⟩, ?_⟩
      refine two_out (walk_tup (K := K) (a := r2) (xs := xr)) (fun j H' => Same H7 H' ∧ H' D2 = some (.lst (ws ++ xr.take j))) ⟨s8, by rw [List.take_zero, List.append_nil]; exact hw8⟩ (fun j H' _ h => seqT_same (t7.trans h.1) hr2) ?_ ?_
      · rintro j y H10 H11 hj ⟨s10, h10⟩ ⟨rfl, hy⟩
        refine ⟨rfl, ?_⟩
        refine ⟨_, rfl, _, h10, small1000 (by rw [List.length_append, List.length_take]; omega), fun b o e => ?_, ?_⟩
        · rw [upd_ne (ne_of_none e hD2)]
          exact s10 b o e
        · rw [upd_same, List.take_add_one, hy, List.append_assoc]
          rfl
      · rintro H10 ⟨s10, h10⟩
        rw [List.take_length] at h10
        refine ⟨s10, _, h10, ?_⟩
        rw [step]
        exact paired_app prw q1
    rintro H8 ⟨s8, ws, hw8, prw⟩
    rw [lxs, List.take_length] at prw
    have t8 := t7.trans s8
    have goodRows : ∀ r ∈ rowsOf vs, GoodR r := fun r hr => by
      obtain ⟨v, hv, hr⟩ := List.mem_flatMap.mp hr
      exact (good v hv).good r hr
    -- marks
    refine ⟨_, rfl, D2, rfl, ⟨_, SqL.of hw8⟩, fun D3 hD3 => ?_⟩
    refine lc_list (K := K) (a := D2) (xs := ws) (fun i H' => Same H8 H' ∧ H' D3 = some (.lst ((((rowsOf vs).take i).filterMap markOf).map V.str))) ⟨same_upd hD3 _, upd_same⟩ (fun i H' _ h => SqL.of (h.1 _ _ hw8)) ?_ ?_
    · rintro i x H9 hx ⟨s9, d9⟩
      obtain ⟨r, hr1, R⟩ := paired_get prw hx
      have gd := goodRows r (List.mem_of_getElem? hr1)
      have t9 := t8.trans s9
      have few : (((rowsOf vs).take i).filterMap markOf).length ≤ 50 := Nat.le_trans (List.length_filterMap_le _ _) (Nat.le_trans (by rw [List.length_take]; exact Nat.min_le_right _ _) r50)
      have stp : ((rowsOf vs).take (i + 1)).filterMap markOf = ((rowsOf vs).take i).filterMap markOf ++ (markOf r).toList := by
        rw [List.take_add_one, hr1, List.filterMap_append]
        show _ ++ List.filterMap markOf [r] = _
        rw [List.filterMap_cons]
        cases markOf r <;> rfl
      obtain ⟨C, ty, ka, at_⟩ := row_mark T (RowIs.kind gd R)
      refine ⟨rfl, ?_⟩
      refine ⟨_, rfl, by show 2 ≤ sizeLine; decide, fun t ht => ?_⟩
      have y9 := same_upd ht (.tup [.ref T.C_Begin, .ref T.C_Send])
      refine ⟨x, t, [.ref T.C_Begin, .ref T.C_Send], _, [.ref T.C_Begin, .ref T.C_Send], _, rfl, upd_same, .cons (.own _) (.cons (.own _) .nil), tyx_keep (t9.trans y9) ty, ka, _, rfl, ?_⟩
      cases em : markOf r with
      | none =>
        rw [em] at stp
        exact iteF ⟨s9.trans y9, by rw [stp]; simpa using y9 _ _ d9⟩
      | some m =>
        rw [em] at stp
        obtain ⟨a, dx0, fs, rfl, ha, cl, na, lk⟩ := at_ m em
        refine iteT ?_
        refine ⟨_, rfl, a, C, dx0, fs, _, rfl, (t9.trans y9) _ _ ha, cl, na, lk, _, y9 _ _ d9, small1000 (by rw [List.length_map]; omega), fun b o e => ?_, ?_⟩
        · rw [upd_ne (ne_of_none e hD3)]
          exact (s9.trans y9) _ _ e
        · rw [upd_same, stp, List.map_append]
          rfl
    rintro HM ⟨sM, dHM⟩
    rw [paired_len prw, List.take_length] at dHM
    have tM := t8.trans sM
    have hwM := sM _ _ hw8
    -- signs
    refine ⟨_, rfl, D2, rfl, ⟨_, SqL.of hwM⟩, fun D4 hD4 => ?_⟩
    refine lc_list (K := K) (a := D2) (xs := ws) (fun i H' => Same HM H' ∧ H' D4 = some (.lst ((((rowsOf vs).take i).filterMap signOf).map V.str))) ⟨same_upd hD4 _, upd_same⟩ (fun i H' _ h => SqL.of (h.1 _ _ hwM)) ?_ ?_
    · rintro i x H9 hx ⟨s9, d9⟩
      obtain ⟨r, hr1, R⟩ := paired_get prw hx
      have gd := goodRows r (List.mem_of_getElem? hr1)
      have t9 := tM.trans s9
      have few : (((rowsOf vs).take i).filterMap signOf).length ≤ 50 := Nat.le_trans (List.length_filterMap_le _ _) (Nat.le_trans (by rw [List.length_take]; exact Nat.min_le_right _ _) r50)
      have stp : ((rowsOf vs).take (i + 1)).filterMap signOf = ((rowsOf vs).take i).filterMap signOf ++ (signOf r).toList := by
        rw [List.take_add_one, hr1, List.filterMap_append]
        show _ ++ List.filterMap signOf [r] = _
        rw [List.filterMap_cons]
        cases signOf r <;> rfl
      obtain ⟨C, ty, ka, at_⟩ := row_sign T (RowIs.kind gd R)
      refine ⟨rfl, ?_⟩
      refine ⟨_, rfl, by show 2 ≤ sizeLine; decide, fun t ht => ?_⟩
      have y9 := same_upd ht (.tup [.ref T.C_Back, .ref T.C_End])
      refine ⟨x, t, [.ref T.C_Back, .ref T.C_End], _, [.ref T.C_Back, .ref T.C_End], _, rfl, upd_same, .cons (.own _) (.cons (.own _) .nil), tyx_keep (t9.trans y9) ty, ka, _, rfl, ?_⟩
      cases em : signOf r with
      | none =>
        rw [em] at stp
        exact iteF ⟨s9.trans y9, by rw [stp]; simpa using y9 _ _ d9⟩
      | some m =>
        rw [em] at stp
        obtain ⟨a, dx0, fs, rfl, ha, cl, na, lk⟩ := at_ m em
        refine iteT ?_
        refine ⟨_, rfl, a, C, dx0, fs, _, rfl, (t9.trans y9) _ _ ha, cl, na, lk, _, y9 _ _ d9, small1000 (by rw [List.length_map]; omega), fun b o e => ?_, ?_⟩
        · rw [upd_ne (ne_of_none e hD4)]
          exact (s9.trans y9) _ _ e
        · rw [upd_same, stp, List.map_append]
          rfl
    rintro HS ⟨sS, dHS⟩
    rw [paired_len prw, List.take_length] at dHS
    have tS := tM.trans sS
    have dM := sS _ _ dHM
    have hwS := sS _ _ hwM
    have hDS := ((s8.trans sM).trans sS) _ _ hD7
    have pS := tS _ _ hp
    have kHS : Kp p H HS := Kp.refl.same tS
    have lne : ∀ {c : Addr} {ys : List V}, HS c = some (.lst ys) → c ≠ p := fun h => ins_ne pS h fun _ _ _ z => nomatch z
    -- the fields
    refine ⟨_, rfl, ⟨sa, xs, rfl, hS.same tS, fun s2 A1 sA cA => ?_⟩⟩
    have pA := sA _ _ pS
    refine ⟨_, rfl, p, T.C_Book, dx, _, rfl, pA, T.c_Book, T.n_Book_services, (by show 0 < 1000; decide), ?_⟩
    have kSA : Kp p HS A1 := Kp.refl.same sA
    have jA := (Kp.refl (p := p) (H := A1)).put (.ins T.C_Book dx [("services", .ref s2)])
    refine ⟨_, rfl, ⟨ra, _, rfl, hR.kp hp ((kHS.trans kSA).trans jA), fun r2 B1 sB cB => ?_⟩⟩
    have pB := sB _ _ (upd_same (H := A1) (a := p) (o := .ins T.C_Book dx [("services", .ref s2)]))
    have kAB : Kp p A1 B1 := jA.same sB
    refine ⟨_, rfl, p, T.C_Book, dx, _, rfl, pB, T.c_Book, T.n_Book_roots, (by show 1 < 1000; decide), ?_⟩
    have jB := (Kp.refl (p := p) (H := B1)).put (.ins T.C_Book dx [("services", .ref s2), ("roots", .ref r2)])
    have kSB := (kSA.trans kAB).trans jB
    refine ⟨_, rfl, D, vs.map (·.nm), rfl, .inl (SqL.of (kSB _ _ (lne hDS) hDS)), by rw [List.length_map]; omega, fun ns n2 C1 sC nn hn nd1 so1 mem1 => ?_⟩
    have pC := sC _ _ (upd_same (H := B1) (a := p) (o := .ins T.C_Book dx [("services", .ref s2), ("roots", .ref r2)]))
    have kBC : Kp p B1 C1 := jB.same sC
    refine ⟨_, rfl, p, T.C_Book, dx, _, rfl, pC, T.c_Book, T.n_Book_names, (by show 2 < 1000; decide), ?_⟩
    have jC := (Kp.refl (p := p) (H := C1)).put (.ins T.C_Book dx [("services", .ref s2), ("roots", .ref r2), ("names", .ref n2)])
    have kSC := ((kSA.trans kAB).trans kBC).trans jC
    refine ⟨_, rfl, ?_⟩
    -- marks
    refine ⟨D3, _, rfl, .inr (SqL.of (kSC _ _ (lne dM) dM)), ?_, fun lE hlE => ?_⟩
    · simp only [List.length_cons, List.length_append, List.length_map, List.length_nil]
      rw [sizeLine_eq]
      have := Nat.le_trans (List.length_filterMap_le markOf (rowsOf vs)) r50
      omega
    have eE : (V.str "none" :: ((((rowsOf vs).filterMap markOf).map V.str) ++ [])) = (("none" : Str) :: (rowsOf vs).filterMap markOf).map V.str := by rw [List.append_nil, List.map_cons]
    refine ⟨lE, ("none" : Str) :: (rowsOf vs).filterMap markOf, rfl, .inl (SqL.of (by rw [← eE]; exact upd_same)), ?_, fun m2s m2 E1 sE nE hE ndE soE memE => ?_⟩
    · have := Nat.le_trans (List.length_filterMap_le markOf (rowsOf vs)) r50
      simp only [List.length_cons]
      omega
    have sE' := (same_upd hlE _).trans sE
    have pE := sE' _ _ (upd_same (H := C1) (a := p) (o := .ins T.C_Book dx [("services", .ref s2), ("roots", .ref r2), ("names", .ref n2)]))
    have kCE : Kp p C1 E1 := jC.same sE'
    refine ⟨_, rfl, p, T.C_Book, dx, _, rfl, pE, T.c_Book, T.n_Book_marks, (by show 3 < 1000; decide), ?_⟩
    have jE := (Kp.refl (p := p) (H := E1)).put (.ins T.C_Book dx [("services", .ref s2), ("roots", .ref r2), ("names", .ref n2), ("marks", .ref m2)])
    have kSE := (((kSA.trans kAB).trans kBC).trans kCE).trans jE
    refine ⟨_, rfl, ?_⟩
    -- signs
    refine ⟨D4, _, rfl, .inr (SqL.of (kSE _ _ (lne dHS) dHS)), ?_, fun lF hlF => ?_⟩
    · simp only [List.length_cons, List.length_append, List.length_map, List.length_nil]
      rw [sizeLine_eq]
      have := Nat.le_trans (List.length_filterMap_le signOf (rowsOf vs)) r50
      omega
    have eF : (V.str "none" :: ((((rowsOf vs).filterMap signOf).map V.str) ++ [])) = (("none" : Str) :: (rowsOf vs).filterMap signOf).map V.str := by rw [List.append_nil, List.map_cons]
    refine ⟨lF, ("none" : Str) :: (rowsOf vs).filterMap signOf, rfl, .inl (SqL.of (by rw [← eF]; exact upd_same)), ?_, fun g2s g2 F1 sF nF hF ndF soF memF => ?_⟩
    · have := Nat.le_trans (List.length_filterMap_le signOf (rowsOf vs)) r50
      simp only [List.length_cons]
      omega
    have sF' := (same_upd hlF _).trans sF
    have pF := sF' _ _ (upd_same (H := E1) (a := p) (o := .ins T.C_Book dx [("services", .ref s2), ("roots", .ref r2), ("names", .ref n2), ("marks", .ref m2)]))
    have kEF : Kp p E1 F1 := jE.same sF'
    refine ⟨_, rfl, p, T.C_Book, dx, _, rfl, pF, T.c_Book, T.n_Book_signs, (by show 4 < 1000; decide), ?_⟩
    have jF := (Kp.refl (p := p) (H := F1)).put (.ins T.C_Book dx [("services", .ref s2), ("roots", .ref r2), ("names", .ref n2), ("marks", .ref m2), ("signs", .ref g2)])
    have kSF := ((((kSA.trans kAB).trans kBC).trans kCE).trans kEF).trans jF
    refine ⟨_, rfl, ⟨D2, ws, rfl, .inl (SqL.of (kSF _ _ (lne hwS) hwS)), fun w2 G1 sG cG => ?_⟩⟩
    have pG := sG _ _ (upd_same (H := F1) (a := p) (o := .ins T.C_Book dx [("services", .ref s2), ("roots", .ref r2), ("names", .ref n2), ("marks", .ref m2), ("signs", .ref g2)]))
    have kFG : Kp p F1 G1 := jF.same sG
    refine ⟨_, rfl, p, T.C_Book, dx, _, rfl, pG, T.c_Book, T.n_Book__rows, (by show 5 < 1000; decide), ?_⟩
    have jG := (Kp.refl (p := p) (H := G1)).put (.ins T.C_Book dx [("services", .ref s2), ("roots", .ref r2), ("names", .ref n2), ("marks", .ref m2), ("signs", .ref g2), ("_rows", .ref w2)])
    have zF := kFG.trans jG
    have zE := kEF.trans zF
    have zC := kCE.trans zE
    have zB := kBC.trans zC
    have zA := kAB.trans zB
    have zS := kSA.trans zA
    refine fin l _ rfl wn (kHS.trans zS) ⟨dx, s2, r2, n2, m2, g2, w2, xs, ws, ns, m2s, g2s, upd_same, sqT_kp cA pA zA, paired_imp (fun x v hx => ?_) prs, sqT_kp cB pB zB, sqT_kp (SqT.of hn) pC zC, ⟨nd1, so1, mem1⟩, sqT_kp (SqT.of hE) pE zE, ⟨ndE, soE, memE⟩, sqT_kp (SqT.of hF) pF zF, ⟨ndF, soF, memF⟩, sqT_kp cG pG jG, ?_⟩ ⟨dx, s2, _, upd_same, sqT_kp cA pA zA⟩
    · obtain ⟨a, e, S⟩ := hx
      exact ⟨a, e, S.kp hp (kHS.trans zS)⟩
    · exact rowis_kp hp (kHS.trans zS) prw goodRows
end
end My

/-! ## Books: what several laws share (no law's function) -/
namespace My
open PySem PySem.Spec PyProof.Rows L2
theorem gr_of_same {b : Addr} {H0 H H' : Hp} (g : Gr b H0 H) (s : Same H H') : Gr b H H' := ⟨fun a o _ e => s a o e, by
  obtain ⟨w, s', c, hb⟩ := g.box
  exact ⟨w, s', c, s _ _ hb⟩⟩
theorem get_ref {al : List Addr} {i : Nat} {x : V} (hx : (al.map V.ref)[i]? = some x) : ∃ q, al[i]? = some q ∧ V.ref q = x := by
  rw [List.getElem?_map] at hx
  cases e : al[i]? with
  | none => rw [e] at hx; cases hx
  | some z => rw [e] at hx; cases hx; exact ⟨z, rfl, rfl⟩
theorem SvcRef.put {w : World} {K : PySem.W.Frag} {mg : Str → Option Value} {T : TxSvc w K mg} {H : Hp} {D : Addr} {xs : List V} {x : V} {v : SvW} (h : SvcRef T H x v) (hD : H D = some (.lst xs)) (o : HO) : SvcRef T (upd H D o) x v := by
  obtain ⟨a, e, S⟩ := h
  exact ⟨a, e, S.kl (KL.put hD o)⟩
theorem SvcRef.kl {w : World} {K : PySem.W.Frag} {mg : Str → Option Value} {T : TxSvc w K mg} {H H' : Hp} {x : V} {v : SvW} (h : SvcRef T H x v) (k : KL H H') : SvcRef T H' x v := by
  obtain ⟨a, e, S⟩ := h
  exact ⟨a, e, S.kl k⟩
section
variable {w : World} {K : PySem.W.Frag} {mg : Str → Option Value} {H : Hp}
theorem svcs_kit (T : TxBook w K mg) : ∀ {xs : List V} {vs : List SvW}, Paired (SvcRef T.toTxSvc H) xs vs → Paired (fun x b => ∃ t, TyX K H x t ∧ PySem.W.kitOne K t (.ref T.C_Service) = some b) xs (xs.map fun _ => true)
  | _, _, .nil => .nil
  | _, _, .cons r t => .cons (by
    obtain ⟨a, rfl, S⟩ := r
    obtain ⟨dx, k2, w2, l2, r2, m2, o, xs, ys, hp, _⟩ := S.ex
    exact ⟨_, T.ty_Service _ _ _ _ hp, T.kk_Service⟩) (svcs_kit T t)
theorem some_strs {a : Addr} {l : List Str} (h : SqA K H a (l.map V.str)) (nm : ∀ y ∈ l, isNm y = true) (nd : l.Nodup) (l0 : l ≠ []) (n : l.length ≤ 100) : SomeV K H (.ref a) true := by
  have an : ∀ v ∈ l.map V.str, AnyV K H v := fun v hv => by
    obtain ⟨y, hy, rfl⟩ := List.mem_map.mp hv
    exact .str y (by have := isNm_len (nm y hy); omega)
  have r := SomeV.seq h an (by rw [List.length_map]; omega)
  rw [namesB_strs nm nd, decide_eq_true (show 0 < (l.map V.str).length by rw [List.length_map]; exact List.length_pos_iff.mpr l0)] at r
  exact r
theorem svcs_yes (T : TxBook w K mg) {a : Addr} {xs : List V} {vs : List SvW} (h : SqA K H a xs) (p : Paired (SvcRef T.toTxSvc H) xs vs) (v0 : vs ≠ []) (n : vs.length ≤ 10) : SvcsV K T.C_Service H (.ref a) true := by
  have l := paired_len' p
  have r := SvcsV.seq h (svcs_kit T p) (by omega)
  have e : (!xs.isEmpty && (xs.map fun _ => true).all id) = true := by
    rw [all_true2, Bool.and_true]
    cases xs with
    | nil => cases p; exact absurd rfl v0
    | cons _ _ => rfl
  rw [e] at r
  exact r
theorem rows_few : ∀ {vs : List SvW}, (∀ v ∈ vs, v.rows.length ≤ 5) → (rowsOf vs).length ≤ 5 * vs.length
  | [], _ => Nat.zero_le _
  | v :: vs, h => by
    have h1 := h v List.mem_cons_self
    have h2 := rows_few fun x hx => h x (List.mem_cons_of_mem _ hx)
    unfold rowsOf at h2 ⊢
    rw [List.flatMap_cons, List.length_append, List.length_cons]
    omega
end
/-- what makes a book right -/
structure BkWell (vs : List SvW) (roots : List Str) : Prop where
  svc : ∀ v ∈ vs, v.good
  v0 : vs ≠ []
  few : vs.length ≤ 10
  r50 : (rowsOf vs).length ≤ 50
  rn : ∀ y ∈ roots, isNm y = true
  rd : roots.Nodup
  r0 : roots ≠ []
  rl : roots.length ≤ 10
  nd : (vs.map (·.nm)).Nodup
  ws : ∀ v ∈ vs, ∀ y ∈ v.waits, y ∈ vs.map (·.nm)
  ls : ∀ v ∈ vs, ∀ y ∈ v.leaves, y ∈ vs.map (·.nm)
  rs : ∀ y ∈ roots, y ∈ vs.map (·.nm)
theorem BkWell.wr {vs : List SvW} {roots : List Str} (h : BkWell vs roots) : wrBk vs (some roots) = none := by
  unfold wrBk
  rw [if_neg (fun z => z h.nd), if_neg, if_neg]
  · show (if (roots.all fun y => (vs.map (·.nm)).contains y) = false then some ("roots" : Str) else none) = none
    rw [List.all_eq_true.mpr fun y hy => List.contains_iff_mem.mpr (h.rs y hy)]
    rfl
  · rw [List.all_eq_true.mpr fun v hv => List.all_eq_true.mpr fun y hy => List.contains_iff_mem.mpr (h.ls v hv y hy)]
    decide
  · rw [List.all_eq_true.mpr fun v hv => List.all_eq_true.mpr fun y hy => List.contains_iff_mem.mpr (h.ws v hv y hy)]
    decide
end My

/-! ## What a book tells of its rows by their numbers -/
namespace My
open PySem PySem.Spec PyProof.Rows L2
abbrev s_is_integer : Stmt := top 2
abbrev N_is_integer : List Str := ["value"]
abbrev P_is_integer : List Str := ["value"]
theorem sc_is_integer : FnScope N_is_integer P_is_integer (defScope s_is_integer) := ⟨rfl, rfl, rfl, by decide +kernel, rfl, by decide +kernel, by decide +kernel⟩
abbrev s_Book__has_row : Stmt := inClass (top 46) 5
abbrev N_Book__has_row : List Str := ["self", "at"]
abbrev P_Book__has_row : List Str := ["self", "at"]
theorem sc_Book__has_row : FnScope N_Book__has_row P_Book__has_row (defScope s_Book__has_row) := ⟨rfl, rfl, rfl, by decide +kernel, rfl, by decide +kernel, by decide +kernel⟩
structure TxBkHas (w : World) (K : PySem.W.Frag) (mg : Str → Option Value) extends TxBook w K mg where
  z_int : mg "int" = none
  z_bool : mg "bool" = none
  f_is_integer : Addr
  d_is_integer : FuncData
  F_is_integer : Fun K "is_integer" "is_integer" s_is_integer f_is_integer d_is_integer
  m_is_integer : mg "is_integer" = some (.ref f_is_integer)
  b_is_integer : Binds K d_is_integer P_is_integer []
  f_Book__has_row : Addr
  d_Book__has_row : FuncData
  F_Book__has_row : Fun K "_has_row" "Book._has_row" s_Book__has_row f_Book__has_row d_Book__has_row
  mt_Book__has_row : Meth K C_Book "_has_row" f_Book__has_row
  b_Book__has_row : Binds K d_Book__has_row P_Book__has_row []
def spIsInt : Sp := fun us H Q _ => ∃ i : Int, us = [.int i] ∧ Q (.bl true) H
def spHasRow {w : World} {K : PySem.W.Frag} {mg : Str → Option Value} (T : TxBook w K mg) : Sp := fun us H Q _ => ∃ (p : Addr) (i : Int) (vs : List SvW) (roots : List Str), us = [.ref p, .int i] ∧ BkIs T H p vs roots ∧ Q (.bl (decide (0 ≤ i ∧ i < ((rowsOf vs).length : Int)))) H
section
variable {P : Program} {w : World} {K : PySem.W.Frag} {mg : Str → Option Value} {base : Heap}
theorem ok_is_integer (T : TxBkHas w K mg) : FnOk P w K mg base CX0 1 T.f_is_integer T.d_is_integer P_is_integer spIsInt := by
  refine T.F_is_integer.ok sc_is_integer (fun vs H Q E h => ?_) (fun cdv A outer s H vs Q E hr h => ?_)
  · obtain ⟨i, rfl, _⟩ := h
    rfl
  obtain ⟨i, rfl, q⟩ := h
  refine ⟨_, (pss_one (ps_ret (pe_and (pe_callB (call_isiV K) (by rfl) T.z_isinstance (by decide +kernel) (pa_cons (pv 0) (pa_cons (pe_bltn (v := .ty "int") (by rfl) T.z_int (by decide +kernel) rfl) pa_nil))) (pe_one (pe_not (pe_callB (call_isiV K) (by rfl) T.z_isinstance (by decide +kernel) (pa_cons (pv 0) (pa_cons (pe_bltn (v := .ty "bool") (by rfl) T.z_bool (by decide +kernel) rfl) pa_nil)))))))), ?_⟩
  refine ⟨_, rfl, .int i, .ty "int", _, _, true, rfl, .ty _, .base (.int i), kit_ty (by decide +kernel), _, rfl, ?_⟩
  refine iteT ?_
  exact ⟨_, rfl, .int i, .ty "bool", _, _, false, rfl, .ty _, .base (.int i), kit_ty (by decide +kernel), _, rfl, q⟩
theorem ok_Book_has_row (T : TxBkHas w K mg) : FnOk P w K mg base CX0 2 T.f_Book__has_row T.d_Book__has_row P_Book__has_row (spHasRow T.toTxBook) := by
  have G_is_integer := ok_is_integer (P := P) (w := w) (base := base) T
  refine T.F_Book__has_row.ok sc_Book__has_row (fun vs H Q E h => ?_) (fun cdv A outer s H vs Q E hr h => ?_)
  · obtain ⟨p, i, vs, roots, rfl, _⟩ := h
    rfl
  obtain ⟨p, i, vs, roots, rfl, B, q⟩ := h
  refine ⟨_, (pss_one (ps_ret (pe_and (pe_call G_is_integer (hr.mono (by decide)) (by rfl) T.m_is_integer T.F_is_integer.kp T.b_is_integer .nil pass0 (pa_cons (pv 1) pa_nil)) (pe_one (pe_chain op_le op_lt pe_int (pv 1) (pe_callB (call_lenK K) (by rfl) T.z_len (by decide +kernel) (pa_cons (pe_fldK K (pv 0)) pa_nil))))))), ?_⟩
  obtain ⟨dx, s2, r2, n2, m2, g2, w2, xs, ws, ns, ms, gs, hp, _, _, _, _, _, _, _, _, _, h7, h8⟩ := B.ex
  refine ⟨_, rfl, i, rfl, _, rfl, ?_⟩
  refine iteT ?_
  refine ⟨_, rfl, _, _, rfl, rfl, _, rfl, ?_⟩
  refine ite2 (fun c => ?_) (fun c => ?_)
  · have h0 : 0 ≤ i := of_decide_eq_true c
    refine ⟨_, rfl, p, T.C_Book, dx, _, _, rfl, hp, T.c_Book, T.n_Book__rows, rfl, ?_⟩
    refine ⟨w2, ws, rfl, .inr h7, _, _, rfl, rfl, ?_⟩
    rw [paired_len' h8]
    show Q (.bl (decide (i < ((rowsOf vs).length : Int)))) H
    by_cases c2 : i < ((rowsOf vs).length : Int)
    · rw [decide_eq_true (show 0 ≤ i ∧ i < ((rowsOf vs).length : Int) from ⟨h0, c2⟩)] at q
      rw [decide_eq_true c2]
      exact q
    · rw [decide_eq_false (show ¬ (0 ≤ i ∧ i < ((rowsOf vs).length : Int)) from fun z => c2 z.2)] at q
      rw [decide_eq_false c2]
      exact q
  · have h0 : ¬ 0 ≤ i := fun z => c (decide_eq_true z)
    rw [decide_eq_false (show ¬ (0 ≤ i ∧ i < ((rowsOf vs).length : Int)) from fun z => h0 z.1)] at q
    exact q
end
end My

/-! ## What a book tells of its services; a book with another service -/
namespace My
open PySem PySem.Spec PyProof.Rows L2
abbrev s_Book_named : Stmt := inClass (top 46) 2
abbrev N_Book_named : List Str := ["self", "name", "service"]
abbrev P_Book_named : List Str := ["self", "name"]
theorem sc_Book_named : FnScope N_Book_named P_Book_named (defScope s_Book_named) := ⟨rfl, rfl, rfl, by decide +kernel, rfl, by decide +kernel, by decide +kernel⟩
abbrev s_Book_changed : Stmt := inClass (top 46) 4
abbrev N_Book_changed : List Str := ["self", "service", "services", "old"]
abbrev P_Book_changed : List Str := ["self", "service"]
theorem sc_Book_changed : FnScope N_Book_changed P_Book_changed (defScope s_Book_changed) := ⟨rfl, rfl, rfl, by decide +kernel, rfl, by decide +kernel, by decide +kernel⟩
structure TxBkOps (w : World) (K : PySem.W.Frag) (mg : Str → Option Value) extends TxBkHas w K mg where
  f_Book_named : Addr
  d_Book_named : FuncData
  F_Book_named : Fun K "named" "Book.named" s_Book_named f_Book_named d_Book_named
  mt_Book_named : Meth K C_Book "named" f_Book_named
  b_Book_named : Binds K d_Book_named P_Book_named []
  f_Book_changed : Addr
  d_Book_changed : FuncData
  F_Book_changed : Fun K "changed" "Book.changed" s_Book_changed f_Book_changed d_Book_changed
  mt_Book_changed : Meth K C_Book "changed" f_Book_changed
  b_Book_changed : Binds K d_Book_changed P_Book_changed []
/-- the first service of this name, the very one -/
def spNamed {w : World} {K : PySem.W.Frag} {mg : Str → Option Value} (T : TxBook w K mg) : Sp := fun us H Q _ => ∃ (p : Addr) (n : Str) (xs : List V) (vs : List SvW) (k : Nat) (x : V) (v : SvW), us = [.ref p, .str n] ∧ BkSv T H p xs ∧ Paired (SvcRef T.toTxSvc H) xs vs ∧
  xs[k]? = some x ∧ vs[k]? = some v ∧ v.nm = n ∧ (∀ j < k, ∀ u, vs[j]? = some u → u.nm ≠ n) ∧ Q x H
theorem nm_even {y : Str} (h : isNm y = true) : ODDW2.contains y = false := by
  cases c : ODDW2.contains y with
  | false => rfl
  | true =>
    have e := (by decide +kernel : ∀ z ∈ ODDW2, isNm z = false) y (List.contains_iff_mem.mp c)
    rw [h] at e
    cases e
/-- the services with this one in the place of the one of its name -/
def swapV (v2 : SvW) (vs : List SvW) : List SvW := vs.map fun v => if v.nm = v2.nm then v2 else v
def swapX (y : V) (n : Str) (xs : List V) (vs : List SvW) : List V := List.zipWith (fun x v => if v.nm = n then y else x) xs vs
theorem swap_snoc {y : V} {n : Str} {xs : List V} {vs : List SvW} {i : Nat} {x : V} {v : SvW} (hx : xs[i]? = some x) (hv : vs[i]? = some v) : (swapX y n xs vs).take (i + 1) = (swapX y n xs vs).take i ++ [if v.nm = n then y else x] := by
  rw [List.take_add_one]
  congr 1
  unfold swapX
  rw [List.getElem?_zipWith, hx, hv]
  rfl
theorem swap_ref {w : World} {K : PySem.W.Frag} {mg : Str → Option Value} {T : TxSvc w K mg} {H : Hp} {y : V} {v2 : SvW} (R : SvcRef T H y v2) {xs : List V} {vs : List SvW} (p : Paired (SvcRef T H) xs vs) : Paired (SvcRef T H) (swapX y v2.nm xs vs) (swapV v2 vs) := by
  unfold swapX swapV
  induction p with
  | nil => exact .nil
  | @cons x v xs vs h t ih =>
    rw [List.zipWith_cons_cons, List.map_cons]
    refine .cons ?_ ih
    by_cases e : v.nm = v2.nm
    · rw [if_pos e, if_pos e]; exact R
    · rw [if_neg e, if_neg e]; exact h
def spChanged {w : World} {K : PySem.W.Frag} {mg : Str → Option Value} (T : TxBook w K mg) : Sp := fun us H Q _ => ∃ (p a : Addr) (v2 : SvW) (xs : List V) (vs : List SvW) (roots : List Str), us = [.ref p, .ref a] ∧ BkIs T H p vs roots ∧ BkSv T H p xs ∧ Paired (SvcRef T.toTxSvc H) xs vs ∧ SvcRef T.toTxSvc H (.ref a) v2 ∧ v2.good ∧ v2.nm ∈ vs.map (·.nm) ∧ BkWell (swapV v2 vs) roots ∧
  ∀ q H', Same H H' → H q = none → BkIs T H' q (swapV v2 vs) roots → BkSv T H' q (swapX (.ref a) v2.nm xs vs) → Q (.ref q) H'
section
variable {P : Program} {w : World} {K : PySem.W.Frag} {mg : Str → Option Value} {base : Heap}
theorem ok_Book_named (T : TxBkOps w K mg) : FnOk P w K mg base CX0 1 T.f_Book_named T.d_Book_named P_Book_named (spNamed T.toTxBook) := by
  refine T.F_Book_named.ok sc_Book_named (fun vs H Q E h => ?_) (fun cdv A outer s H vs Q E hr h => ?_)
  · obtain ⟨p, n, xs, vs, k, x, v, rfl, _⟩ := h
    rfl
  obtain ⟨p, n, xs, vs, k, x, v, rfl, S, prs, hx, hv, en, no, q⟩ := h
  refine ⟨_, (pss_cons (ps_for PassesOwn.never rfl (pi_tupK K (pe_fldK K (pv 0))) (pg_name (i := 2) sc_Book_named.nd rfl (Or.inl rfl)) (pss_one (ps_if (pt_cmpR op_eq (pe_fldK K (pv 2)) (pv 1) (nomark _)) (pss_one (ps_ret (pv 2))) pss_nil)))
      (pss_one ps_never)), ?_⟩
  obtain ⟨dx, s2, fs, hp, hs⟩ := S.ex
  refine ⟨_, rfl, p, T.C_Book, dx, _, _, rfl, hp, T.c_Book, T.n_Book_services, rfl, s2, rfl, ⟨_, hs⟩, for_tup (K := K) (a := s2) (xs := xs) (fun i σ H' => i ≤ k ∧ (∃ u, σ = [some (.ref p), some (.str n), u]) ∧ H' = H) ⟨Nat.zero_le _, ⟨none, rfl⟩, rfl⟩ (fun i σ H' _ h => by rw [h.2.2]; exact hs) ?_ ?_⟩
  · rintro i y σ H1 hy ⟨ik, ⟨u, rfl⟩, e⟩
    rw [e]
    obtain ⟨v2, hv2, a, rfl, SI⟩ := paired_get prs hy
    obtain ⟨dxc, k2, w2, l2, r2, m2, o, xs2, ys, ho, _⟩ := SI.ex
    refine ⟨_, rfl, a, T.C_Service, dxc, _, _, rfl, ho, T.c_Service, T.n_Service_name, rfl, _, rfl, rfl, _, rfl, ?_⟩
    rw [dec_str2]
    by_cases c : i = k
    · subst c
      rw [hv] at hv2
      injection hv2 with hv2
      subst hv2
      rw [decide_eq_true en]
      refine iteT ?_
      rw [hx] at hy
      injection hy with hy
      subst hy
      exact ⟨_, rfl, q⟩
    · have lt : i < k := by omega
      rw [decide_eq_false (no i lt v2 hv2)]
      refine iteF ?_
      exact ⟨lt, ⟨_, rfl⟩, rfl⟩
  · rintro σ H1 ⟨ik, _, _⟩
    have := (List.getElem?_eq_some_iff.mp hx).1
    exact absurd ik (by omega)
theorem ok_Book_changed (T : TxBkOps w K mg) : FnOk P w K mg base CX0 7 T.f_Book_changed T.d_Book_changed P_Book_changed (spChanged T.toTxBook) := by
  have G_Book_init := ok_Book_init (P := P) (w := w) (base := base) T.toTxBook
  refine T.F_Book_changed.ok sc_Book_changed (fun vs H Q E h => ?_) (fun cdv A outer s H vs Q E hr h => ?_)
  · obtain ⟨p, a, v2, xs, vs, roots, rfl, _⟩ := h
    rfl
  obtain ⟨p, a, v2, xs, vs, roots, rfl, B, S, prs, R2, g2, mem, W, q⟩ := h
  refine ⟨_, (pss_cons (ps_if (pt_cmpR (op_notInK K) (pe_fldK K (pv 1)) (pe_fldK K (pv 0)) (by rfl)) (pss_one ps_never) pss_nil)
      (pss_cons (ps_setLc (i := 2) (own := [("old", 3)]) (g := gName 3) (by rfl) sc_Book_changed.nd rfl rfl (sw_true rfl rfl rfl (by decide +kernel)) (pi_tupK K (pe_fldK K (pv 0))) (blkOk_by (own := [("old", 3)]) (N := N_Book_changed) (sc := defScope s_Book_changed) (by decide +kernel)) (fun _ _ _ _ _ => (pg_name (i := 3) sc_Book_changed.nd rfl (Or.inl rfl))) (fun _ _ _ _ _ => pts_nil) (fun _ _ _ _ _ => (pe_ifExp (pt_cmpR op_eq (pe_fldK K (pv 3)) (pe_fldK K (pv 1)) (nomark _)) (pv 1) (pv 3))))
      (pss_one (ps_ret (pe_make T.mk_Book G_Book_init (hr.mono (by decide)) (by rfl) T.m_Book T.b_Book_init .nil passL (pa_cons (pv 2) (pa_cons (pe_fldK K (pv 0)) pa_nil))))))), ?_⟩
  obtain ⟨dx, s2, r2, n2, m2, gg2, w2, _, ws, ns, ms, gs, hp, _, _, hr2, hn2, an, _⟩ := id B.ex
  obtain ⟨dx', s2', fs, hp', hs⟩ := S.ex
  rw [hp] at hp'
  injection hp' with hp'
  injection hp' with _ e1 e2
  injection e2 with e2 _
  injection e2 with _ e2
  injection e2 with e2
  subst e1 e2
  obtain ⟨a', ea, SI⟩ := id R2
  injection ea with ea
  subst ea
  obtain ⟨dxa, ka, wa, la, ra, ma, oa, xsa, ysa, hoa, _⟩ := id SI.ex
  refine ⟨_, rfl, a, T.C_Service, dxa, _, _, rfl, hoa, T.c_Service, T.n_Service_name, rfl, ?_⟩
  refine ⟨_, rfl, p, T.C_Book, dx, _, _, rfl, hp, T.c_Book, T.n_Book_names, rfl, ?_⟩
  have flat : (ns.map V.str).all flatV = true := List.all_eq_true.mpr fun x hx => by
    obtain ⟨y, _, rfl⟩ := List.mem_map.mp hx
    rfl
  refine ⟨n2, _, rfl, .inr hn2, rfl, flat, _, rfl, ?_⟩
  have isin : inV (.str v2.nm) (ns.map V.str) = true := by
    rw [inV_strs]
    exact List.contains_iff_mem.mpr ((an.2.2 _).mpr ⟨mem, nm_even g2.nm⟩)
  rw [isin]
  refine iteF ?_
  have lxs : xs.length = vs.length := paired_len' prs
  have wfew := W.few
  have vl : vs.length ≤ 10 := by
    unfold swapV at wfew
    rw [List.length_map] at wfew
    exact wfew
  refine ⟨_, rfl, p, T.C_Book, dx, _, _, rfl, hp, T.c_Book, T.n_Book_services, rfl, s2, rfl, ⟨_, hs⟩, fun D hD => ?_⟩
  refine lc_tup (K := K) (a := s2) (xs := xs) (fun i H' => Same H H' ∧ H' D = some (.lst ((swapX (.ref a) v2.nm xs vs).take i))) ⟨same_upd hD _, upd_same⟩ (fun i H' _ h => seqT_same h.1 hs) ?_ ?_
  · rintro i x H1 hx ⟨s1, h1⟩
    obtain ⟨v, hv, c, rfl, SC⟩ := paired_get prs hx
    obtain ⟨dxc, kc, wc, lc, rc, mc, oc, xsc, ysc, hoc, _⟩ := SC.ex
    have sn := swap_snoc (y := .ref a) (n := v2.nm) hx hv
    have small : ((swapX (.ref a) v2.nm xs vs).take i).length < sizeLine := small1000 (by rw [List.length_take]; unfold swapX; rw [List.length_zipWith]; omega)
    refine ⟨rfl, ?_⟩
    refine ⟨_, rfl, c, T.C_Service, dxc, _, _, rfl, s1 _ _ hoc, T.c_Service, T.n_Service_name, rfl, _, rfl, a, T.C_Service, dxa, _, _, rfl, s1 _ _ hoa, T.c_Service, T.n_Service_name, rfl, rfl, _, rfl, ?_⟩
    rw [dec_str2]
    have keep : ∀ (b : Addr) (o : HO) (u : HO), H b = some o → upd H1 D u b = some o := fun b o u e => by
      rw [upd_ne (ne_of_none e hD)]
      exact s1 _ _ e
    by_cases e : v.nm = v2.nm
    · rw [decide_eq_true e]
      refine iteT ?_
      rw [if_pos e] at sn
      exact ⟨_, rfl, _, h1, small, fun b o z => keep b o _ z, by rw [upd_same, sn]⟩
    · rw [decide_eq_false e]
      refine iteF ?_
      rw [if_neg e] at sn
      exact ⟨_, rfl, _, h1, small, fun b o z => keep b o _ z, by rw [upd_same, sn]⟩
  rintro H5 ⟨s5, hD5⟩
  have lsw : (swapX (.ref a) v2.nm xs vs).length = xs.length := by
    unfold swapX
    rw [List.length_zipWith]
    omega
  rw [← lsw, List.take_length] at hD5
  refine ⟨_, rfl, _, rfl, p, T.C_Book, dx, _, _, rfl, s5 _ _ hp, T.c_Book, T.n_Book_roots, rfl, ?_⟩
  intro x dxn nx nd ne
  have s0 : Same H5 (upd (upd H5 dxn (.own x)) x (.ins T.C_Book dxn [])) := fun b o e => by rw [upd_ne (ne_of_none e nx), upd_ne (ne_of_none e nd)]; exact e
  have h6 := upd_same (H := upd H5 dxn (.own x)) (a := x) (o := .ins T.C_Book dxn [])
  generalize upd (upd H5 dxn (.own x)) x (.ins T.C_Book dxn []) = H6 at s0 h6
  have t6 := s5.trans s0
  have prq6 : Paired (SvcRef T.toTxSvc H6) (swapX (.ref a) v2.nm xs vs) (swapV v2 vs) := by
    have R6 := R2.same t6
    have p6 := paired_imp' (fun _ _ z => SvcRef.same z t6) prs
    exact swap_ref R6 p6
  have hS : SqA K H6 D (swapX (.ref a) v2.nm xs vs) := .inl (SqL.of (s0 _ _ hD5))
  have hR : SqA K H6 r2 (roots.map V.str) := .inr (seqT_same t6 hr2)
  have rl9 := W.rl
  refine ⟨x, dxn, .ref D, .ref r2, true, true, rfl, h6, svcs_yes T.toTxBook hS prq6 W.v0 W.few, some_strs hR W.rn W.rd W.r0 (by omega), (fun z => nomatch z), (fun _ => ⟨D, _, swapV v2 vs, some roots, rfl, hS, prq6, W.svc, W.few, W.r50, rfl, (fun l e => ?_), (fun wd d H' e => by rw [W.wr] at e; cases e), (fun l H' e _ k BI BS => ⟨rfl, ?_⟩)⟩)⟩
  · cases e
    exact ⟨r2, rfl, hR, by omega⟩
  · cases e
    exact q x H' (fun c o e => k c o (ne_of_none (s5 _ _ e) nx) (s0 _ _ (s5 _ _ e))) (s5.free nx) BI BS
end
end My

/-! ## enumerate(v), v a list or a tuple -/
namespace PySem
set_option maxHeartbeats 1000000 in
theorem my_meets_enumerate {v : Value} {o : Obj} {H : Heap → Prop} (B : Begins v o H) :
    Meets (Builtin.«enumerate.__new__» ⟨[.type "enumerate", v], []⟩) (fun _ R s => H s.heap ∧
      R (.ok (.ret (.ref (s.heap.push o).objs.size))) { s with heap := (s.heap.push o).push { cls := .type "enumerate", data := .fields #[.none, .bool false, .ref s.heap.objs.size, rawInt 0, .none, .none] } }) :=
  .of_wp fun prog w A R s h => by
    obtain ⟨hp, g, d, tk, os⟩ := s; obtain ⟨h1, h⟩ := h
    have hsub := sub_enumerate
    have q1 : ∀ {A' : Around} {E : Value → Shared → Prop} {Q : Value → Shared → Prop}, Q (.ref hp.objs.size) ⟨hp.push o, g, d, tk, os⟩ → wpAny (model prog w) A' (pyIter v) Q E ⟨hp, g, d, tk, os⟩ :=
      fun q => B.iter prog w _ _ ⟨hp, g, d, tk, os⟩ _ h1 q
    wp_walk using q1
    refine wpAny_stack_any fun st => wpAny_pure ?_
    split
    · rename_i c _ _ _ _ _
      cases (c == Value.type "enumerate")
      · wp_walk using q1
        exact ⟨_, rfl, h⟩
      · wp_walk using q1
        exact ⟨_, rfl, h⟩
    · wp_walk using q1
      exact ⟨_, rfl, h⟩
theorem my_call_enumerate {prog : Program} {w : World} {A : Around} {E : Value → Shared → Prop} {s : Shared} {v : Value} {o : Obj} {H : Heap → Prop} {Q : Value → Shared → Prop} (B : Begins v o H) (h1 : H s.heap)
    (h : ∀ h', IsEnum h' (s.heap.objs.size + 1) s.heap.objs.size 0 .none → h'.get? s.heap.objs.size = some o → h'.objs.size = s.heap.objs.size + 2 →
      (∀ b o, s.heap.get? b = some o → h'.get? b = some o) → Q (.ref (s.heap.objs.size + 1)) { s with heap := h' }) :
    wpAny (model prog w) A (call (.type "enumerate") [v]) Q E s := by
  refine callType_new F.called_enumerate (by decide) (F.typeCall_enumerate_1 _) (F.newCall_enumerate_1 _) (fun obj => F.args_object_init_2 obj _) F.entry_enumerate_new (my_meets_enumerate B) ⟨h1, ?_⟩
  have hz : (s.heap.push o).objs.size = s.heap.objs.size + 1 := Heap.size_push ..
  show _ ∧ _
  rw [hz]
  have he : IsEnum ((s.heap.push o).push { cls := .type "enumerate", data := .fields #[.none, .bool false, .ref s.heap.objs.size, rawInt 0, .none, .none] }) (s.heap.objs.size + 1) s.heap.objs.size 0 .none := by
    have := Heap.get?_push_size (s.heap.push o) (o := { cls := .type "enumerate", data := .fields #[.none, .bool false, .ref s.heap.objs.size, rawInt 0, .none, .none] }) rfl
    rw [hz] at this; exact this
  refine ⟨⟨_, he, rfl⟩, h _ he (Heap.get?_push_of_some _ (Heap.get?_push_size _ B.free)) (by rw [Heap.size_push, hz]) fun b o x => Heap.get?_push_of_some _ (Heap.get?_push_of_some _ x)⟩
end PySem
namespace My
open PySem PySem.Spec PyProof.Rows L2
/-- the tuple at a as it stands at each turn, each item in a new pair -/
def IteT (K : PySem.W.Frag) (a : Addr) : It :=
  ⟨fun i H => ∃ (xs : List V) (x : V), SqT K H a xs ∧ xs[i]? = some x, fun i H v H' => ∃ T x, v = .ref T ∧ H T = none ∧ H' = upd H T (.tup [.int (i : Nat), x]) ∧ ∀ xs, SqT K H a xs → xs[i]? = some x, fun i H => ∃ xs : List V, SqT K H a xs ∧ xs.length ≤ i⟩
theorem turn_enumT {P : Program} {w : World} {K : PySem.W.Frag} {elts : List Expr} {kk : Nat} {tpos : Pos} (a e it : Addr) :
    Turn P w K (.Tuple elts kk tpos) (IteT K a) [e, it] e (fun i h => (∃ old, IsEnum h e it ((i : Nat) : Int) old) ∧ h.IsTupleIter it a i ∧ e ≠ it) where
  mem := by simp
  obj := fun i h st b hb => by
    obtain ⟨⟨old, he⟩, ⟨o, ho, hc, hd⟩, _⟩ := st
    have e' : b = e ∨ b = it := by simpa using hb
    rcases e' with z | z
    · rw [z]; exact ⟨_, he, fun v q => nomatch q⟩
    · rw [z]; exact ⟨o, ho, fun v q => by rw [hd] at q; cases q⟩
  keep := fun i h h' st k => let ⟨⟨old, he⟩, hi, hne⟩ := st; ⟨⟨old, k e (by simp) _ he⟩, hi.at fun o q => k it (by simp) o q, hne⟩
  item := by
    intro X hP hw hK hc i pins s σ H E I hf st hg
    subst hP hw hK
    obtain ⟨⟨old, he⟩, hit, hne⟩ := st
    obtain ⟨xs, x, hq, hx⟩ := hg
    obtain ⟨its, rv, p, hz⟩ := I.tuple hq
    have pT : s.heap.IsTuple a its.toArray := p
    obtain ⟨u, hu, ru⟩ := rv.get hx
    have hel : e < s.heap.objs.size := Heap.lt_size he
    have hil : it < s.heap.objs.size := by obtain ⟨_, q, _⟩ := hit; exact Heap.lt_size q
    have hai : a ≠ it := fun z => by
      obtain ⟨o1, e1, c1, d1⟩ := hit
      obtain ⟨o2, e2, c2, n2, d2⟩ := pT
      rw [z, e1] at e2
      cases e2
      rw [d1] at d2
      cases d2
    have hae : e ≠ a := fun z => by
      obtain ⟨o2, e2, c2, n2, d2⟩ := pT
      rw [← z] at e2
      have he' : s.heap.get? e = _ := he
      rw [he'] at e2
      cases e2
      cases d2
    have hef : e ∉ [it, a] := fun z => by
      rcases List.mem_cons.mp z with z | z
      · exact hne z
      · exact hae (List.mem_singleton.mp z)
    have hi : i < its.toArray.size := by
      have := (List.getElem?_eq_some_iff.mp hu).1
      simpa using this
    refine wpAny_pyNext_enum_itemD (Draws.tuple (A := X.A.in1) (I.ok.hd hc) it a hai its.toArray) he ⟨hit, pT⟩ hi hne hef fun x' h' tk hP ho hit' hT hsz hk => ?_
    have ex : x' = u := by
      have h1 : its.toArray[i]? = some x' := hP
      rw [List.getElem?_toArray, hu] at h1
      exact (Option.some.inj h1).symm
    subst ex
    refine ⟨_, rfl, wpAny_letOwnedTupleGo_enum (s := { s with heap := h', toks := tk + 1 }) ho fun h'' he' sb => ?_⟩
    have hT2 : h''.get? s.heap.objs.size = some { cls := .type "tuple", data := .seq #[.int i tk, x'] } := (sb.2 _ (Nat.ne_of_gt hel)).trans hT
    have new : ObjOk X.prog X.w (upd H s.heap.objs.size (.tup [.int (i : Nat), x])) h'' s.heap.objs.size (.tup [.int (i : Nat), x]) :=
      ⟨by show 2 ≤ sizeLine; decide, [.int i tk, x'], .cons ⟨_, rfl⟩ (.cons ru .nil), ⟨_, hT2, rfl, _, rfl⟩⟩
    have I1 : Inv X pins σ (upd H s.heap.objs.size (.tup [.int (i : Nat), x])) { s with heap := h'', toks := tk + 1 } :=
      I.turnedNew (ch := [e, it]) (fun b ob hb q => (sb.2 b (fun z => hb (by simp [z]))).trans (hk b ob (fun z => hb (by simp [z])) (fun z => hb (by simp [z])) q)) hf (Nat.le_refl _) new
    refine ⟨.ref s.heap.objs.size, _, I1, rfl, ⟨_, x, rfl, I.hok.fresh (Nat.le_refl _), rfl, fun ys hy => by rw [I.tuple_inj hy hq]; exact hx⟩, ⟨⟨x', ?_⟩, hit'.1.at fun o q => (sb.2 it (Ne.symm hne)).trans q, hne⟩, fun b hb => ?_⟩
    · have e1 : ((i + 1 : Nat) : Int) = (i : Int) + 1 := by omega
      rw [e1]; exact he'
    · have hb' : b < s.heap.objs.size := by
        have e' : b = e ∨ b = it := by simpa using hb
        rcases e' with z | z
        · rw [z]; exact hel
        · rw [z]; exact hil
      rw [upd_ne (Nat.ne_of_lt hb')]
      exact (hf b hb).1
  done := by
    intro X hP hw hK hc i pins s σ H E I hf st hg
    subst hP hw hK
    obtain ⟨⟨old, he⟩, hit, hne⟩ := st
    obtain ⟨xs, hq, hx⟩ := hg
    obtain ⟨its, rv, p, hz⟩ := I.tuple hq
    have pT : s.heap.IsTuple a its.toArray := p
    obtain ⟨f0, f1, f2, f3, f4, f5⟩ := hf it (by simp)
    have hl := rv.length
    have D : Draws X.prog X.w X.A.in1 it [it, a] 0 (fun _ _ => True) (fun j h => j = 0 ∧ h.IsTupleIter it a i ∧ h.IsTuple a its.toArray) := {
      live := fun _ _ st => let ⟨o, ho, _⟩ := st.2.1; ⟨o, ho⟩
      frame := fun _ _ _ st hk => ⟨st.1, st.2.1.at fun o e => hk it (by simp) o e, st.2.2.at fun o e => hk a (by simp) o e⟩
      item := fun j s Q E hj => absurd hj (Nat.not_lt_zero _)
      done := fun s Q E st hE => wpAny_nextOf_tuple_end (I.ok.hd hc) st.2.1 st.2.2 (by simp; omega) hE }
    exact wpAny_pyNext_enum_endD D he ⟨rfl, hit, pT⟩ fun h' eb => ⟨rfl, I.turned (t' := s.toks) (fun b o hb q => eb b o hb q) f0 f1 f3 f4 f5⟩
  self := fun A i s Q E st h => let ⟨⟨_, he⟩, _⟩ := st; wpAny_pyIter_enum he h
theorem walk_enumT {K : PySem.W.Frag} {a : Addr} {xs : List V} : Walk (IteT K a) xs.length (fun H => SqT K H a xs) (YPair (fun i => some (.int (i : Nat))) (fun i => xs[i]?)) := by
  refine ⟨fun i _ hi q => ⟨xs, xs[i], q, by simp [hi]⟩, fun _ q => ⟨xs, q, Nat.le_refl _⟩, fun i H v H' _ q y => ?_⟩
  obtain ⟨T, x, h1, h2, h3, h4⟩ := y
  exact ⟨T, .int (i : Nat), x, h1, h2, h3, rfl, h4 xs q⟩
def iEnumA (K : PySem.W.Frag) (ta : TA) : TI := fun σ H R => ta σ H fun vs H1 => ∃ (a : Addr) (xs : List V), vs = [.ref a] ∧ SqA K H1 a xs ∧
  ∀ (J : It) (G : Hp → Prop), G H1 → (∀ H H', Same H H' → G H → G H') → Walk J xs.length G (YPair (fun i => some (.int (i : Nat))) (fun i => xs[i]?)) → R J H1
theorem pi_enumA {X : Cx} (K : PySem.W.Frag) {e : Expr} {ta : TA} {p pos tpos : Pos} {elts : List Expr} {kk : Nat} (hg : Gl X "enumerate") (hm : X.mg "enumerate" = none) (ha : PA X [e] ta) (hK : X.K = K := by rfl) (hs : starEach [e] X.env = [(false, eval e X.env)] := by rfl) :
    PI X (.Tuple elts kk tpos) (.Call (.Name "enumerate" p) [e] [] pos) (iEnumA K ta) := by
  subst hK
  refine ⟨fun pins s σ H R I h => ?_⟩
  refine Call_ (ld_blt I hg hm boot_enumerate (PyProof.Rows.callWith_type1 (thn (ha.run pos pins s σ H _ I h) fun us s1 ⟨vs, H1, I1, r1, q1⟩ => ?_) hs rfl))
  obtain ⟨a, xs, ex, hq, q⟩ := q1
  subst ex
  cases r1 with
  | cons r rr =>
    cases rr
    cases r
    have fresh : ∀ b, b ∈ [s1.heap.objs.size + 1, s1.heap.objs.size] → FpOk X pins H1 b := fun b hb => by
      have e' : b = s1.heap.objs.size + 1 ∨ b = s1.heap.objs.size := by simpa using hb
      have hle : s1.heap.objs.size ≤ b := by
        rcases e' with z | z
        · rw [z]; exact Nat.le_add_right _ _
        · rw [z]; exact Nat.le_refl _
      exact I1.fpOk hle (I1.hok.fresh hle)
    rcases hq with hq | hq
    · obtain ⟨its, rv, p', hz⟩ := I1.list hq
      refine call_enumerate_list p'.isList fun h' he hit hsz hk => wpAny_pyIter_enum he ?_
      have I2 : Inv X pins σ H1 { s1 with heap := h' } := I1.kept (t' := s1.toks) hk
      exact ⟨s1.heap.objs.size + 1, [s1.heap.objs.size + 1, s1.heap.objs.size], _, _, H1, rfl, I2, turn_enum a (s1.heap.objs.size + 1) s1.heap.objs.size, ⟨⟨.none, he⟩, hit, Nat.succ_ne_self _⟩, fresh, q _ (fun H => SqL X.K H a xs) hq (fun H H' e z => seqL_same e z) walk_enum⟩
    · obtain ⟨its, rv, p', hz⟩ := I1.tuple hq
      have pT : s1.heap.IsTuple a its.toArray := p'
      refine my_call_enumerate (begins_tuple a its.toArray) pT fun h' he hit hsz hk => wpAny_pyIter_enum he ?_
      have I2 : Inv X pins σ H1 { s1 with heap := h' } := I1.kept (t' := s1.toks) hk
      exact ⟨s1.heap.objs.size + 1, [s1.heap.objs.size + 1, s1.heap.objs.size], _, _, H1, rfl, I2, turn_enumT a (s1.heap.objs.size + 1) s1.heap.objs.size, ⟨⟨.none, he⟩, ⟨_, hit, rfl, rfl⟩, Nat.succ_ne_self _⟩, fresh, q _ (fun H => SqT X.K H a xs) hq (fun H H' e z => seqT_same e z) walk_enumT⟩
end My

/-! ## A service without a row; a book without one -/
namespace My
open PySem PySem.Spec PyProof.Rows L2
abbrev s_without_own_row : Stmt := top 42
abbrev N_without_own_row : List Str := ["service", "at", "rows", "number", "row"]
abbrev P_without_own_row : List Str := ["service", "at"]
theorem sc_without_own_row : FnScope N_without_own_row P_without_own_row (defScope s_without_own_row) := ⟨rfl, rfl, rfl, by decide +kernel, rfl, by decide +kernel, by decide +kernel⟩
abbrev s_Book_without : Stmt := inClass (top 46) 3
abbrev N_Book_without : List Str := ["self", "at", "services", "own_at", "service"]
abbrev P_Book_without : List Str := ["self", "at"]
theorem sc_Book_without : FnScope N_Book_without P_Book_without (defScope s_Book_without) := ⟨rfl, rfl, rfl, by decide +kernel, rfl, by decide +kernel, by decide +kernel⟩
structure TxLess (w : World) (K : PySem.W.Frag) (mg : Str → Option Value) extends TxBkHas w K mg where
  z_enumerate : mg "enumerate" = none
  f_without_own_row : Addr
  d_without_own_row : FuncData
  F_without_own_row : Fun K "without_own_row" "without_own_row" s_without_own_row f_without_own_row d_without_own_row
  m_without_own_row : mg "without_own_row" = some (.ref f_without_own_row)
  b_without_own_row : Binds K d_without_own_row P_without_own_row []
  f_Book_without : Addr
  d_Book_without : FuncData
  F_Book_without : Fun K "without" "Book.without" s_Book_without f_Book_without d_Book_without
  mt_Book_without : Meth K C_Book "without" f_Book_without
  b_Book_without : Binds K d_Book_without P_Book_without []
/-- without the item of this number -/
def dropR {α : Type} (i : Int) (xs : List α) : List α := (xs.zipIdx.filter fun p => decide ((p.2 : Int) ≠ i)).map (·.1)
theorem dropR_snoc {α : Type} (i : Int) (xs : List α) (x : α) : dropR i (xs ++ [x]) = dropR i xs ++ (if ((xs.length : Nat) : Int) = i then [] else [x]) := by
  unfold dropR
  rw [List.zipIdx_append, List.filter_append, List.map_append]
  congr 1
  by_cases c : ((xs.length : Nat) : Int) = i
  · simp [c]
  · simp [c]
theorem dropR_pair {α β : Type} {R : α → β → Prop} {i : Int} {xs : List α} {ys : List β} (p : Paired R xs ys) : Paired R (dropR i xs) (dropR i ys) := by
  have g : ∀ k, Paired R (((xs.zipIdx k).filter fun p => decide ((p.2 : Int) ≠ i)).map (·.1)) (((ys.zipIdx k).filter fun p => decide ((p.2 : Int) ≠ i)).map (·.1)) := by
    induction p with
    | nil => exact fun _ => .nil
    | @cons x y xs ys r _ ih =>
      intro k
      rw [List.zipIdx_cons, List.zipIdx_cons]
      by_cases c : ((k : Nat) : Int) = i
      · rw [List.filter_cons_of_neg (by simp [c]), List.filter_cons_of_neg (by simp [c])]
        exact ih (k + 1)
      · rw [List.filter_cons_of_pos (by simp [c]), List.filter_cons_of_pos (by simp [c]), List.map_cons, List.map_cons]
        exact .cons r (ih (k + 1))
  exact g 0
theorem dropR_mem {α : Type} {i : Int} {xs : List α} {x : α} (h : x ∈ dropR i xs) : x ∈ xs := by
  obtain ⟨⟨y, k⟩, hy, rfl⟩ := List.mem_map.mp h
  exact (List.mem_zipIdx (List.mem_filter.mp hy).1).2.2 ▸ List.getElem_mem _
theorem dropR_len {α : Type} (i : Int) (xs : List α) : (dropR i xs).length ≤ xs.length := by
  unfold dropR
  rw [List.length_map]
  exact Nat.le_trans (List.length_filter_le _ _) (Nat.le_of_eq List.length_zipIdx)
def SvW.less (v : SvW) (i : Int) : SvW := { v with rows := dropR i v.rows }
/-- the services without the row of this number, told over all of them -/
def lessV : Int → List SvW → List SvW
  | _, [] => []
  | i, v :: vs => v.less i :: lessV (i - (v.rows.length : Int)) vs
theorem lessV_snoc (v : SvW) : ∀ (i : Int) (vs : List SvW), lessV i (vs ++ [v]) = lessV i vs ++ [v.less (i - ((rowsOf vs).length : Int))]
  | i, [] => by
    show [v.less i] = [v.less (i - 0)]
    rw [Int.sub_zero]
  | i, u :: vs => by
    show u.less i :: lessV (i - (u.rows.length : Int)) (vs ++ [v]) = u.less i :: (lessV (i - (u.rows.length : Int)) vs ++ [v.less (i - ((rowsOf (u :: vs)).length : Int))])
    rw [lessV_snoc v _ vs]
    have e : i - (u.rows.length : Int) - ((rowsOf vs).length : Int) = i - ((rowsOf (u :: vs)).length : Int) := by
      unfold rowsOf
      rw [List.flatMap_cons, List.length_append]
      omega
    rw [e]
theorem lessV_nm : ∀ (i : Int) (vs : List SvW), (lessV i vs).map (·.nm) = vs.map (·.nm)
  | _, [] => rfl
  | i, v :: vs => by
    show v.nm :: (lessV _ vs).map (·.nm) = v.nm :: vs.map (·.nm)
    rw [lessV_nm _ vs]
theorem lessV_len : ∀ (i : Int) (vs : List SvW), (lessV i vs).length = vs.length
  | _, [] => rfl
  | i, v :: vs => by
    show (lessV _ vs).length + 1 = vs.length + 1
    rw [lessV_len _ vs]
theorem lessV_mem : ∀ {i : Int} {vs : List SvW} {u : SvW}, u ∈ lessV i vs → ∃ v ∈ vs, ∃ j, u = v.less j
  | i, v :: vs, u, h => by
    rcases List.mem_cons.mp h with h | h
    · exact ⟨v, List.mem_cons_self, i, h⟩
    · obtain ⟨v', hv, e⟩ := lessV_mem h
      exact ⟨v', List.mem_cons_of_mem _ hv, e⟩
theorem lessV_rows : ∀ (i : Int) (vs : List SvW), (rowsOf (lessV i vs)).length ≤ (rowsOf vs).length
  | _, [] => Nat.le_refl _
  | i, v :: vs => by
    have a := lessV_rows (i - (v.rows.length : Int)) vs
    have b := dropR_len i v.rows
    unfold rowsOf at a ⊢
    show ((v.less i :: lessV _ vs).flatMap _).length ≤ _
    rw [List.flatMap_cons, List.flatMap_cons, List.length_append, List.length_append]
    have c : (v.less i).rows.length ≤ v.rows.length := b
    omega
theorem SvW.good_less {v : SvW} (g : v.good) (i : Int) : (v.less i).good := ⟨g.nm, g.all, g.k0, g.kn, g.wn, g.ln, g.kl, g.wl, g.ll, Nat.le_trans (dropR_len i v.rows) g.rl, fun r hr => g.good r (dropR_mem hr)⟩
theorem BkWell.less {vs : List SvW} {roots : List Str} (W : BkWell vs roots) (i : Int) : BkWell (lessV i vs) roots := by
  refine ⟨fun u hu => ?_, fun z => ?_, ?_, ?_, W.rn, W.rd, W.r0, W.rl, ?_, fun u hu y hy => ?_, fun u hu y hy => ?_, ?_⟩
  · obtain ⟨v, hv, j, rfl⟩ := lessV_mem hu
    exact SvW.good_less (W.svc v hv) j
  · have e := lessV_len i vs
    rw [z] at e
    exact W.v0 (List.length_eq_zero_iff.mp e.symm)
  · rw [lessV_len]; exact W.few
  · exact Nat.le_trans (lessV_rows i vs) W.r50
  · rw [lessV_nm]; exact W.nd
  · rw [lessV_nm]
    obtain ⟨v, hv, j, rfl⟩ := lessV_mem hu
    exact W.ws v hv y hy
  · rw [lessV_nm]
    obtain ⟨v, hv, j, rfl⟩ := lessV_mem hu
    exact W.ls v hv y hy
  · rw [lessV_nm]; exact W.rs
def spWithout {w : World} {K : PySem.W.Frag} {mg : Str → Option Value} (T : TxBook w K mg) : Sp := fun us H Q _ => ∃ (p : Addr) (k : Nat) (vs : List SvW) (roots : List Str), us = [.ref p, .int (k : Int)] ∧ BkIs T H p vs roots ∧ BkWell vs roots ∧ k < (rowsOf vs).length ∧
  ∀ q H', Same H H' → H q = none → BkIs T H' q (lessV (k : Int) vs) roots → Q (.ref q) H'
def spLess {w : World} {K : PySem.W.Frag} {mg : Str → Option Value} (T : TxSvc w K mg) : Sp := fun us H Q _ => ∃ (a : Addr) (i : Int) (v : SvW), us = [.ref a, .int i] ∧ SvcRef T H (.ref a) v ∧ v.good ∧
  ∀ q H', Same H H' → H q = none → SvcIs T H' q v.nm v.kinds v.waits v.leaves (dropR i v.rows) → Q (.ref q) H'
section
variable {P : Program} {w : World} {K : PySem.W.Frag} {mg : Str → Option Value} {base : Heap}
theorem ok_without_own_row (T : TxLess w K mg) : FnOk P w K mg base CX0 7 T.f_without_own_row T.d_without_own_row P_without_own_row (spLess T.toTxSvc) := by
  have G_Service_init := ok_Service_init (P := P) (w := w) (base := base) T.toTxSvc
  obtain ⟨dsS, hv6, hb6⟩ := T.F_Service_init.binds1 (ps := P_Service_init) 6 3 (by simp) rfl (fun TT kV doc pm an cdv ct us its h1 h2 => by
    match us, h1, its, h2 with
    | [_, _, _, _, _, _], _, [_, _, _], _ => exact ⟨_, rfl, rfl⟩)
  refine T.F_without_own_row.ok sc_without_own_row (fun vs H Q E h => ?_) (fun cdv A outer s H vs Q E hr h => ?_)
  · obtain ⟨a, i, v, rfl, _⟩ := h
    rfl
  obtain ⟨a, i, v, rfl, R, g, q⟩ := h
  refine ⟨_, (pss_cons (ps_setLc (i := 2) (own := [("number", 3), ("row", 4)]) (g := gTup K 2 (gCons (gName 3) (gCons (gName 4) gNil))) (by rfl) sc_without_own_row.nd rfl rfl (sw_true rfl rfl rfl (by decide +kernel)) (pi_enumA K (by rfl) T.z_enumerate (pa_cons (pe_fldK K (pv 0)) pa_nil)) (blkOk_by (own := [("number", 3), ("row", 4)]) (N := N_without_own_row) (sc := defScope s_without_own_row) (by decide +kernel)) (fun _ _ _ _ _ => (by exact (pg_tup rfl (pgs_cons (pg_name (i := 3) sc_without_own_row.nd rfl (Or.inl rfl)) (pgs_cons (pg_name (i := 4) sc_without_own_row.nd rfl (Or.inl rfl)) pgs_nil))))) (fun _ _ _ _ _ => pts_one (by exact (pt_cmpR op_ne (pv 3) (pv 1) (nomark _)))) (fun _ _ _ _ _ => (pv 4)))
      (pss_one (ps_ret (pe_make T.mk_Service G_Service_init (hr.mono (by decide)) (by rfl) T.m_Service hb6 hv6 passL (pa_cons (pe_fldK K (pv 0)) (pa_cons (pe_fldK K (pv 0)) (pa_cons (pe_fldK K (pv 0)) (pa_cons (pe_fldK K (pv 0)) (pa_cons (pv 2) pa_nil))))))))), ?_⟩
  obtain ⟨a', ea, SI⟩ := id R
  injection ea with ea
  subst ea
  obtain ⟨dx, k2, w2, l2, r2, m2, o, xs, ys, hp, hk, hw, hl, hr2, prs, _⟩ := id SI.ex
  refine ⟨_, rfl, a, T.C_Service, dx, _, _, rfl, hp, T.c_Service, T.n_Service_rows, rfl, r2, xs, rfl, .inr hr2, fun J G g0 gm wk D hD => ?_⟩
  refine lc_it wk (fun n H' => Same H H' ∧ H' D = some (.lst (dropR i (xs.take n)))) ⟨same_upd hD _, upd_same⟩ (fun n H' _ h => gm _ _ h.1 g0) ?_ ?_
  · rintro n x H1 H2 hn ⟨s1, h1⟩ ⟨t, kx, y, rfl, ht, rfl, ek, ey⟩
    cases ek
    have ey : xs[n]? = some y := ey
    have lt := (List.getElem?_eq_some_iff.mp ey).1
    have xl : xs.length ≤ 28 := by rw [paired_len' prs]; exact g.rl
    have s2 := same_upd ht (.tup [.int ((n : Nat) : Int), y])
    have h2 := s2 _ _ h1
    have tk : xs.take (n + 1) = xs.take n ++ [y] := by rw [List.take_add_one, ey]; rfl
    have ln : (xs.take n).length = n := by rw [List.length_take]; omega
    have dl := dropR_len i (xs.take n)
    refine ⟨t, _, rfl, SqT.of upd_same, rfl, _, _, rfl, _, _, rfl, rfl, rfl, _, rfl, _, rfl, rfl, _, rfl, ?_⟩
    by_cases c : ((n : Nat) : Int) = i
    · rw [show decide (V.int ((n : Nat) : Int) = V.int i) = true from decide_eq_true (by rw [c])]
      refine iteF ?_
      refine ⟨s1.trans s2, ?_⟩
      rw [h2, tk, dropR_snoc, ln, if_pos c, List.append_nil]
    · rw [show decide (V.int ((n : Nat) : Int) = V.int i) = false from decide_eq_false fun z => c (by injection z)]
      refine iteT ?_
      refine ⟨_, rfl, _, h2, small1000 (by omega), fun b o e => ?_, ?_⟩
      · rw [upd_ne (ne_of_none e hD)]
        exact s2 _ _ (s1 _ _ e)
      · rw [upd_same, tk, dropR_snoc, ln, if_neg c]
  rintro H5 ⟨s5, hD5⟩
  rw [List.take_length] at hD5
  have hp5 := s5 _ _ hp
  refine ⟨_, rfl, a, T.C_Service, dx, _, _, rfl, hp5, T.c_Service, T.n_Service_name, rfl, ?_⟩
  refine ⟨_, rfl, a, T.C_Service, dx, _, _, rfl, hp5, T.c_Service, T.n_Service_kinds, rfl, ?_⟩
  refine ⟨_, rfl, a, T.C_Service, dx, _, _, rfl, hp5, T.c_Service, T.n_Service_waits, rfl, ?_⟩
  refine ⟨_, rfl, a, T.C_Service, dx, _, _, rfl, hp5, T.c_Service, T.n_Service_leaves, rfl, ?_⟩
  refine ⟨_, rfl, ?_⟩
  intro x dxn nx nd ne
  have s0 : Same H5 (upd (upd H5 dxn (.own x)) x (.ins T.C_Service dxn [])) := fun b o e => by rw [upd_ne (ne_of_none e nx), upd_ne (ne_of_none e nd)]; exact e
  have h6 := upd_same (H := upd H5 dxn (.own x)) (a := x) (o := .ins T.C_Service dxn [])
  generalize upd (upd H5 dxn (.own x)) x (.ins T.C_Service dxn []) = H6 at s0 h6
  have t6 := s5.trans s0
  have lr := dropR_len i v.rows
  have gr := g.rl
  refine svcInit_is T.toTxSvc (x := x) (dx := dxn) (ka := k2) (wa := w2) (la := l2) (ra := D) (nm := v.nm) (ks := v.kinds) (ws := v.waits) (ls := v.leaves) (rs := dropR i v.rows) (xs := dropR i xs) h6 g.nm g.hk g.hw g.hl g.k0 g.kn g.wn g.ln (by have := g.kl; omega) (by have := g.wl; omega) (by have := g.ll; omega) (by omega) (fun r hr => g.good r (dropR_mem hr))
    (.inr (seqT_same t6 hk)) (.inr (seqT_same t6 hw)) (.inr (seqT_same t6 hl)) (.inl (SqL.of (s0 _ _ hD5))) (dropR_pair (paired_imp (fun _ _ z => (z.same t6).is) prs)) (fun H7 kp SI7 => ⟨rfl, ?_⟩)
  exact q x H7 (fun b o e => kp b o (ne_of_none (s5 _ _ e) nx) (t6 _ _ e)) (s5.free nx) SI7
theorem ok_Book_without (T : TxLess w K mg) : FnOk P w K mg base CX0 9 T.f_Book_without T.d_Book_without P_Book_without (spWithout T.toTxBook) := by
  have G_Book__has_row := ok_Book_has_row (P := P) (w := w) (base := base) T.toTxBkHas
  have G_without_own_row := ok_without_own_row (P := P) (w := w) (base := base) T
  have G_Book_init := ok_Book_init (P := P) (w := w) (base := base) T.toTxBook
  refine T.F_Book_without.ok sc_Book_without (fun vs H Q E h => ?_) (fun cdv A outer s H vs Q E hr h => ?_)
  · obtain ⟨p, k, vs, roots, rfl, _⟩ := h
    rfl
  obtain ⟨p, k, vs, roots, rfl, B, W, hk, q⟩ := h
  refine ⟨_, (pss_cons (ps_if (pt_not (pt_val (pe_meth (pv 0) T.c_Book T.mt_Book__has_row G_Book__has_row (hr.mono (by decide)) T.b_Book__has_row .nil pass0 (pa_cons (pv 1) pa_nil)))) (pss_one ps_never) pss_nil)
      (pss_cons (ps_set (i := 2) sc_Book_without.nd rfl (Or.inl rfl) (pe_lst pa_nil))
      (pss_cons (ps_set (i := 3) sc_Book_without.nd rfl (Or.inl rfl) (pv 1))
      (pss_cons (ps_for PassesOwn.never rfl (pi_tupK K (pe_fldK K (pv 0))) (pg_name (i := 4) sc_Book_without.nd rfl (Or.inl rfl)) (pss_cons (ps_expr (pe_bm PySem.F.plainAttrs_list PySem.F.slot_list_append PySem.F.type_list_append mt_append (pv 2) (pa_cons (pe_call G_without_own_row (hr.mono (by decide)) (by rfl) T.m_without_own_row T.F_without_own_row.kp T.b_without_own_row .nil pass0 (pa_cons (pv 4) (pa_cons (pv 3) pa_nil))) pa_nil)))
      (pss_one (ps_aug (i := 3) sc_Book_without.nd rfl (Or.inl rfl) (pe_callB (call_lenK K) (by rfl) T.z_len (by decide +kernel) (pa_cons (pe_fldK K (pv 4)) pa_nil)) iop_sub))))
      (pss_one (ps_ret (pe_make T.mk_Book G_Book_init (hr.mono (by decide)) (by rfl) T.m_Book T.b_Book_init .nil passL (pa_cons (pv 2) (pa_cons (pe_fldK K (pv 0)) pa_nil))))))))), ?_⟩
  obtain ⟨dx, s2, r2, n2, m2, g2, w2, xs, ws, ns, ms, gs, hp, hs, prs, hr2, _⟩ := id B.ex
  refine ⟨_, rfl, p, dx, _, rfl, hp, rfl, _, rfl, p, (k : Int), vs, roots, rfl, B, _, rfl, ?_⟩
  rw [decide_eq_true (show 0 ≤ (k : Int) ∧ (k : Int) < ((rowsOf vs).length : Int) from ⟨by omega, by omega⟩)]
  refine iteF ?_
  refine ⟨Nat.zero_le _, fun D hD => ?_⟩
  refine ⟨_, rfl, ?_⟩
  have few := W.few
  have lxs : xs.length = vs.length := paired_len' prs
  have y1 := same_upd hD (.lst [])
  refine ⟨_, rfl, p, T.C_Book, dx, _, _, rfl, y1 _ _ hp, T.c_Book, T.n_Book_services, rfl, s2, rfl, ⟨_, seqT_same y1 hs⟩, for_tup (K := K) (a := s2) (xs := xs) (fun i σ H' => (∃ u, σ = [some (.ref p), some (.int (k : Int)), some (.ref D), some (.int ((k : Int) - ((rowsOf (vs.take i)).length : Int))), u]) ∧ Same H H' ∧ ∃ qs : List V, H' D = some (.lst qs) ∧ Paired (SvcRef T.toTxSvc H') qs (lessV (k : Int) (vs.take i))) ⟨⟨none, ?_⟩, y1, [], upd_same, .nil⟩ (fun i σ H' _ h => seqT_same h.2.1 hs) ?_ ?_⟩
  · exact congrArg (fun z : Int => [some (V.ref p), some (V.int (k : Int)), some (V.ref D), some (V.int z), none]) (by show (k : Int) = (k : Int) - 0; omega)
  · rintro i x σ H1 hx ⟨⟨u, rfl⟩, s1, qs, h1, prq⟩
    obtain ⟨v, hv, c, rfl, SC⟩ := paired_get prs hx
    have sc := SvcRef.same (⟨c, rfl, SC⟩ : SvcRef T.toTxSvc H (.ref c) v) s1
    have gv := W.svc v (List.mem_of_getElem? hv)
    have ql : qs.length ≤ 10 := by rw [paired_len' prq, lessV_len, List.length_take]; omega
    obtain ⟨dxc, kc, wc, lc, rc, mc, oc, xsc, ysc, hoc, _, _, _, hrc, prc, _⟩ := SC.ex
    have tk : vs.take (i + 1) = vs.take i ++ [v] := by rw [List.take_add_one, hv]; rfl
    refine ⟨_, rfl, .inl ⟨rfl, _, SqL.of h1⟩, _, rfl, _, rfl, c, _, v, rfl, sc, gv, fun q2 H2 t2 nq SI2 => ?_⟩
    have h2 := t2 _ _ h1
    have keep : Same H (upd H2 D (.lst (qs ++ [.ref q2]))) := fun b o e => by
      rw [upd_ne (ne_of_none e hD)]
      exact t2 _ _ (s1 _ _ e)
    refine ⟨D, _, _, rfl, rfl, h2, small1000 (by omega), ?_⟩
    refine ⟨_, rfl, _, rfl, c, T.C_Service, dxc, _, _, rfl, keep _ _ hoc, T.c_Service, T.n_Service_rows, rfl, rc, xsc, rfl, .inr (seqT_same keep hrc), _, _, rfl, rfl, ⟨some (.ref c), ?_⟩, keep, qs ++ [.ref q2], upd_same, ?_⟩
    · refine congrArg (fun z : Int => [some (V.ref p), some (V.int (k : Int)), some (V.ref D), some (V.int z), some (V.ref c)]) ?_
      rw [tk]
      unfold rowsOf
      rw [List.flatMap_append, List.length_append, paired_len' prc]
      simp
      omega
    · rw [tk, lessV_snoc]
      exact paired_snoc (paired_imp' (fun _ _ z => (z.same t2).put h2 _) prq) (SvcRef.put ⟨q2, rfl, SI2⟩ h2 _)
  rintro σ H5 ⟨⟨u, rfl⟩, s5, qs, hD5, prq⟩
  rw [lxs, List.take_length] at prq
  have W2 := W.less (k : Int)
  refine ⟨_, rfl, _, rfl, p, T.C_Book, dx, _, _, rfl, s5 _ _ hp, T.c_Book, T.n_Book_roots, rfl, ?_⟩
  intro x dxn nx nd ne
  have s0 : Same H5 (upd (upd H5 dxn (.own x)) x (.ins T.C_Book dxn [])) := fun b o e => by rw [upd_ne (ne_of_none e nx), upd_ne (ne_of_none e nd)]; exact e
  have h6 := upd_same (H := upd H5 dxn (.own x)) (a := x) (o := .ins T.C_Book dxn [])
  generalize upd (upd H5 dxn (.own x)) x (.ins T.C_Book dxn []) = H6 at s0 h6
  have t6 := s5.trans s0
  have prq6 := paired_imp' (fun _ _ z => SvcRef.same z s0) prq
  have hS : SqA K H6 D qs := .inl (SqL.of (s0 _ _ hD5))
  have hR : SqA K H6 r2 (roots.map V.str) := .inr (seqT_same t6 hr2)
  have rl9 := W.rl
  refine ⟨x, dxn, .ref D, .ref r2, true, true, rfl, h6, svcs_yes T.toTxBook hS prq6 W2.v0 W2.few, some_strs hR W.rn W.rd W.r0 (by omega), (fun z => nomatch z), (fun _ => ⟨D, qs, lessV (k : Int) vs, some roots, rfl, hS, prq6, W2.svc, W2.few, W2.r50, rfl, (fun l e => ?_), (fun wd d H' e => by rw [W2.wr] at e; cases e), (fun l H' e _ k2 BI _ => ⟨rfl, ?_⟩)⟩)⟩
  · cases e
    exact ⟨r2, rfl, hR, by omega⟩
  · cases e
    exact q x H' (fun c o e => k2 c o (ne_of_none (s5 _ _ e) nx) (s0 _ _ (s5 _ _ e))) (s5.free nx) BI
end
end My

/-! ## A book's text, == -/
namespace My
open PySem PySem.Spec PyProof.Rows L2
abbrev s_Book_str : Stmt := inClass (top 46) 10
abbrev N_Book_str : List Str := ["self", "service", "root"]
abbrev P_Book_str : List Str := ["self"]
theorem sc_Book_str : FnScope N_Book_str P_Book_str (defScope s_Book_str) := ⟨rfl, rfl, rfl, by decide +kernel, rfl, by decide +kernel, by decide +kernel⟩
abbrev s_Book_eq : Stmt := inClass (top 46) 9
abbrev N_Book_eq : List Str := ["self", "other"]
abbrev P_Book_eq : List Str := ["self", "other"]
theorem sc_Book_eq : FnScope N_Book_eq P_Book_eq (defScope s_Book_eq) := ⟨rfl, rfl, rfl, by decide +kernel, rfl, by decide +kernel, by decide +kernel⟩
structure TxBkStr (w : World) (K : PySem.W.Frag) (mg : Str → Option Value) extends TxBook w K mg, TxSvcStr w K mg where
  f_Book_str : Addr
  d_Book_str : FuncData
  F_Book_str : Fun K "__str__" "Book.__str__" s_Book_str f_Book_str d_Book_str
  b_Book_str : Binds K d_Book_str P_Book_str []
  si_Book : PySem.W.findIn K (.ref C_Book) "__str__" = some (some (.ref f_Book_str))
  sf_Book : PySem.W.isFn K (.ref f_Book_str) = true
  f_Book_eq : Addr
  d_Book_eq : FuncData
  F_Book_eq : Fun K "__eq__" "Book.__eq__" s_Book_eq f_Book_eq d_Book_eq
  b_Book_eq : Binds K d_Book_eq P_Book_eq []
  ei_Book : PySem.W.findIn K (.ref C_Book) "__eq__" = some (some (.ref f_Book_eq))
  ef_Book : PySem.W.isFn K (.ref f_Book_eq) = true
  en_Book : PySem.W.findIn K (.ref C_Book) "__ne__" = some (some (.builtin "object.__ne__"))
  eo_Book : PySem.W.subIn K (.ref C_Book) (.type "object") = some true
  ty_Book : ∀ (H : Hp) (a dx : Addr) (fs : List (Str × V)), H a = some (.ins C_Book dx fs) → TyX K H (.ref a) (.ref C_Book)
  kk_Book : PySem.W.kitOne K (.ref C_Book) (.ref C_Book) = some true
  nf_Book : PySem.W.notFirst K C_Book (.ref C_Book) = true
def SvW.d (v : SvW) : SvD := ⟨v.nm, v.kinds, v.waits, v.leaves, v.rows⟩
/-- a book's words are right: what its text needs -/
structure BkGood (vs : List SvW) (roots : List Str) : Prop where
  svc : ∀ v ∈ vs, v.good
  few : vs.length ≤ 10
  rts : ∀ y ∈ roots, isNm y = true
  rfew : roots.length ≤ 10
def bkLines (vs : List SvW) (roots : List Str) : List Str := vs.map (fun v => svTxt v.d) ++ roots.map fun r => ("root " : Str) ++ r
def bkTxt (vs : List SvW) (roots : List Str) : Str := Txt.join "\n" (bkLines vs roots)
def spBkStr {w : World} {K : PySem.W.Frag} {mg : Str → Option Value} (T : TxBkStr w K mg) : Unit → Sp := fun _ us H Q _ => ∃ (p : Addr) (vs : List SvW) (roots : List Str), us = [.ref p] ∧ BkIs T.toTxBook H p vs roots ∧ BkGood vs roots ∧ ∀ H', Same H H' → Q (.str (bkTxt vs roots)) H'
section
variable {P : Program} {w : World} {K : PySem.W.Frag} {mg : Str → Option Value} {base : Heap}
theorem str_svc2 (T : TxBkStr w K mg) : OwnStr P w K mg base (fun _ : Unit => T.C_Service) (fun _ => True) 4 (spSvcStr T.toTxSvcStr) := ⟨fun _ _ => ⟨_, _, _, ok_Service_str T.toTxSvcStr, T.b_Service_str, T.si_Service, T.sf_Service⟩⟩
theorem SvcRef.at_ (T : TxBkStr w K mg) {H : Hp} {x : V} {v : SvW} (h : SvcRef T.toTxSvc H x v) (g : v.good) : ∃ a, x = .ref a ∧ SvcAt T.toTxSvcStr H a v.d := by
  obtain ⟨a, e, S⟩ := h
  exact ⟨a, e, svc_at T.toTxSvcStr S g.nm g.all g.kl g.wl g.ll g.rl g.good⟩
theorem SvW.len {v : SvW} (g : v.good) : (svTxt v.d).length ≤ 5000 := by
  have n10 : ∀ y, isNm y = true → y.length ≤ 10 := fun y hy => by have := (isNm_len hy).2; omega
  have w1 : ("service" : Str).length ≤ 10 := by decide +kernel
  have w2 : ("waits" : Str).length ≤ 10 := by decide +kernel
  have w3 : ("leaves" : Str).length ≤ 10 := by decide +kernel
  have w4 : ∀ s ∈ SORTS, s.length ≤ 10 := by decide +kernel
  have cons : ∀ {x : Str} {l : List Str}, x.length ≤ 10 → (∀ y ∈ l, y.length ≤ 10) → ∀ y ∈ x :: l, y.length ≤ 10 := fun h1 h2 y hy => (List.mem_cons.mp hy).elim (fun z => z ▸ h1) (h2 y)
  have kl := g.kl
  have wl := g.wl
  have ll := g.ll
  have all : ∀ y ∈ svHead v.d ++ v.d.rows.map (fun r => rowTxt r.1 r.2), y.length ≤ 132 := by
    intro y hy
    rcases List.mem_append.mp hy with h | h
    · rcases List.mem_cons.mp h with h | h
      · rw [h]
        exact (line_len (l := "service" :: v.nm :: v.kinds) (by simp only [List.length_cons]; omega) (cons w1 (cons (n10 _ g.nm) fun y hy => n10 y (g.hk y hy)))).2
      rcases List.mem_append.mp h with h | h
      · split at h
        · cases h
        · rw [List.mem_singleton.mp h]
          exact (line_len (l := "waits" :: v.waits) (by simp only [List.length_cons]; omega) (cons w2 fun y hy => n10 y (g.hw y hy))).2
      · split at h
        · cases h
        · rw [List.mem_singleton.mp h]
          exact (line_len (l := "leaves" :: v.leaves) (by simp only [List.length_cons]; omega) (cons w3 fun y hy => n10 y (g.hl y hy))).2
    · obtain ⟨r, hr, rfl⟩ := List.mem_map.mp h
      have gd := g.good r hr
      have l4 : (fnOf r.1).length ≤ 4 := (by decide +kernel : ∀ s ∈ SORTS, (fnOf s).length ≤ 4) r.1 gd.so
      exact (line_len (l := r.1 :: r.2) (by rw [List.length_cons, gd.len2]; omega) (cons (w4 _ gd.so) fun y hy => okW_l (gd.okW y hy))).2
  have hl : (svHead v.d ++ v.d.rows.map (fun r => rowTxt r.1 r.2)).length ≤ 33 := by
    have rl : v.d.rows.length ≤ 28 := g.rl
    have hh : (svHead v.d).length ≤ 3 := by
      unfold svHead
      cases v.d.waits.isEmpty <;> cases v.d.leaves.isEmpty <;> simp
    rw [List.length_append, List.length_map]
    omega
  have a := join_len "\n" (svHead v.d ++ v.d.rows.map (fun r => rowTxt r.1 r.2))
  have b := sum_le2 (f := Str.length) (m := 132) all
  have c : (Str.ofString "\n").length = 1 := by decide +kernel
  rw [c, Nat.mul_one] at a
  show (Txt.join "\n" _).length ≤ 5000
  have b' : (List.map (fun x => x.length) (svHead v.d ++ List.map (fun r => rowTxt r.fst r.snd) v.d.rows)).sum ≤ 132 * (svHead v.d ++ List.map (fun r => rowTxt r.fst r.snd) v.d.rows).length := b
  omega
theorem ok_Book_str (T : TxBkStr w K mg) : FnOk P w K mg base CX0 7 T.f_Book_str T.d_Book_str P_Book_str (spBkStr T ()) := by
  have G_sstr := str_svc2 (P := P) (w := w) (base := base) T
  refine T.F_Book_str.ok sc_Book_str (fun vs H Q E h => ?_) (fun cdv A outer s H vs Q E hr h => ?_)
  · obtain ⟨p, vs, roots, rfl, _⟩ := h
    rfl
  obtain ⟨p, vs, roots, rfl, B, G, q⟩ := h
  obtain ⟨dx, s2, r2, n2, m2, g2, w2, xs, ws, ns, ms, gs, hp, hs2, prs, hr2, _⟩ := B.ex
  refine ⟨_, (pss_one (ps_ret (pe_m1 PySem.F.slot_str_join PySem.F.type_str_join (mt_joinK K) pe_str (pe_lst (pa_starK K (pe_lc (own := [("service", 1)]) (g := gName 1) (by rfl) sc_Book_str.nd (pi_tupK K (pe_fldK K (pv 0))) (blkOk_by (own := [("service", 1)]) (N := N_Book_str) (sc := defScope s_Book_str) (by decide +kernel)) (fun _ _ _ _ _ => (pg_name (i := 1) sc_Book_str.nd rfl (Or.inl rfl))) (fun _ _ _ _ _ => pts_nil) (fun _ _ _ _ _ => (pe_callTy (call_strO K G_sstr (hr.mono (by decide))) (by rfl) T.z_str (by decide +kernel) (pa_cons (pv 1) pa_nil)))) (pa_starK K (pe_lc (own := [("root", 2)]) (g := gName 2) (by rfl) sc_Book_str.nd (pi_tupK K (pe_fldK K (pv 0))) (blkOk_by (own := [("root", 2)]) (N := N_Book_str) (sc := defScope s_Book_str) (by decide +kernel)) (fun _ _ _ _ _ => (pg_name (i := 2) sc_Book_str.nd rfl (Or.inl rfl))) (fun _ _ _ _ _ => pts_nil) (fun _ _ _ _ _ => (pe_joined (.cons pe_str (.cons (pe_fmt (pv 2)) .nil))))) pa_nil)))))), ?_⟩
  refine ⟨⟨_, rfl⟩, _, rfl, p, T.C_Book, dx, _, _, rfl, hp, T.c_Book, T.n_Book_services, rfl, s2, rfl, ⟨_, hs2⟩, fun D hD => ?_⟩
  refine lc_tup (K := K) (a := s2) (xs := xs) (fun i H' => Same H H' ∧ H' D = some (.lst (((vs.take i).map fun v => svTxt v.d).map V.str))) ⟨same_upd hD _, upd_same⟩ (fun i H' _ h => seqT_same h.1 hs2) ?_ ?_
  · rintro i x H2 hx ⟨s2', hD2⟩
    obtain ⟨v, hv, R⟩ := paired_get prs hx
    have g := G.svc v (List.mem_of_getElem? hv)
    obtain ⟨a, rfl, S⟩ := (R.same s2').at_ T g
    obtain ⟨⟨dx2, _, _, _, _, _, _, _, ho, _⟩, _⟩ := id S
    refine ⟨rfl, ?_⟩
    refine ⟨_, rfl, a, (), dx2, _, rfl, trivial, ho, a, v.d, rfl, S, fun H4 s4 => ⟨_, rfl, _, s4 _ _ hD2, small1000 (by have := G.few; rw [List.length_map, List.length_map, List.length_take]; omega), fun b o e => ?_, ?_⟩⟩
    · rw [upd_ne (ne_of_none e hD)]
      exact s4 _ _ (s2' _ _ e)
    · rw [upd_same, List.take_add_one, hv, List.map_append, List.map_append]
      rfl
  rintro H2 ⟨s2', hD2⟩
  rw [paired_len prs, List.take_length] at hD2
  refine ⟨D, _, rfl, .inr (SqL.of hD2), _, rfl, p, T.C_Book, dx, _, _, rfl, s2' _ _ hp, T.c_Book, T.n_Book_roots, rfl, r2, rfl, ⟨_, seqT_same s2' hr2⟩, fun D2 hD3 => ?_⟩
  refine lc_tup (K := K) (a := r2) (xs := roots.map V.str) (te := fun σ H Q => tJs [tC (V.str (Str.ofString "root ")), tFmt (tVar 2)] Str.empty σ H fun out H1 => Q (V.str out) H1) (fun i H' => Same H2 H' ∧ H' D2 = some (.lst (((roots.take i).map fun r => ("root " : Str) ++ r).map V.str))) ⟨same_upd hD3 _, upd_same⟩ (fun i H' _ h => seqT_same (s2'.trans h.1) hr2) ?_ ?_
  · rintro i x H3 hx ⟨s3, hD4⟩
    rw [List.getElem?_map] at hx
    obtain ⟨y, hy, rfl⟩ : ∃ y, roots[i]? = some y ∧ V.str y = x := by
      cases e : roots[i]? with
      | none => rw [e] at hx; cases hx
      | some z => rw [e] at hx; cases hx; exact ⟨z, rfl, rfl⟩
    refine ⟨rfl, ?_⟩
    have y4 := (isNm_len (G.rts y (List.mem_of_getElem? hy))).2
    have r5 : (Str.ofString "root ").length = 5 := by decide +kernel
    have cat : Str.empty ++ Str.ofString "root " = Str.ofString "root " := by decide +kernel
    refine ⟨_, rfl, by rw [cat, r5, sizeLine_eq]; decide, _, rfl, .inl ⟨y, rfl, by rw [sizeLine_eq]; omega, y, rfl, ?_, ?_⟩⟩
    · rw [cat, Str.length_append, r5, sizeLine_eq]
      omega
    · rw [cat]
      refine ⟨_, hD4, small1000 (by have := G.rfew; rw [List.length_map, List.length_map, List.length_take]; omega), fun b o e => ?_, ?_⟩
      · rw [upd_ne (ne_of_none e hD3)]
        exact s3 _ _ e
      · rw [upd_same, List.take_add_one, hy, List.map_append, List.map_append]
        rfl
  rintro H3 ⟨s3, hD4⟩
  rw [List.length_map, List.take_length] at hD4
  have few := G.few
  have rfew := G.rfew
  refine ⟨D2, _, rfl, .inr (SqL.of hD4), by simp only [List.length_append, List.length_map, List.length_nil]; rw [sizeLine_eq]; omega, fun L hL => ?_⟩
  have eL : (vs.map fun v => svTxt v.d).map V.str ++ ((roots.map fun r => ("root " : Str) ++ r).map V.str ++ []) = (bkLines vs roots).map V.str := by
    unfold bkLines
    rw [List.append_nil, List.map_append]
  have s4 := (s2'.trans s3).trans (same_upd hL (.lst ((vs.map fun v => svTxt v.d).map V.str ++ ((roots.map fun r => ("root " : Str) ++ r).map V.str ++ []))))
  refine ⟨"\n", L, bkLines vs roots, rfl, rfl, .inl (SqL.of (by rw [← eL]; exact upd_same)), ?_, ?_⟩
  · have a1 : ∀ y ∈ bkLines vs roots, y.length ≤ 5000 := by
      intro y hy
      rcases List.mem_append.mp hy with h | h
      · obtain ⟨v, hv, rfl⟩ := List.mem_map.mp h
        exact SvW.len (G.svc v hv)
      · obtain ⟨r, hr, rfl⟩ := List.mem_map.mp h
        have y4 := (isNm_len (G.rts r hr)).2
        have r5 : ("root " : Str).length = 5 := by decide +kernel
        rw [Str.length_append, r5]
        omega
    have b : (List.map (fun x => x.length) (bkLines vs roots)).sum ≤ 5000 * (bkLines vs roots).length := sum_le2 (f := Str.length) (m := 5000) a1
    have c : (Str.ofString "\n").length = 1 := by decide +kernel
    have n : (bkLines vs roots).length ≤ 20 := by
      unfold bkLines
      rw [List.length_append, List.length_map, List.length_map]
      omega
    have b2 : 5000 * (bkLines vs roots).length ≤ 5000 * 20 := Nat.mul_le_mul_left 5000 n
    rw [c, Nat.mul_one]
    omega
  · exact q _ s4
theorem str_bk (T : TxBkStr w K mg) : OwnStr P w K mg base (fun _ : Unit => T.C_Book) (fun _ => True) 7 (spBkStr T) := ⟨fun _ _ => ⟨_, _, _, ok_Book_str T, T.b_Book_str, T.si_Book, T.sf_Book⟩⟩
def spBkEq {w : World} {K : PySem.W.Frag} {mg : Str → Option Value} (T : TxBkStr w K mg) : Unit → Sp := fun _ us H Q _ => ∃ (p : Addr) (y : V) (vs : List SvW) (roots : List Str), us = [.ref p, y] ∧ BkIs T.toTxBook H p vs roots ∧ BkGood vs roots ∧
  ((∃ (q : Addr) (vs2 : List SvW) (roots2 : List Str), y = .ref q ∧ BkIs T.toTxBook H q vs2 roots2 ∧ BkGood vs2 roots2 ∧ ∀ H', Same H H' → Q (.bl (decide (bkTxt vs roots = bkTxt vs2 roots2))) H') ∨
   ∃ t, TyX K H y t ∧ PySem.W.kitOne K t (.ref T.C_Book) = some false ∧ Q (.bl false) H)
theorem BkIs.same {T : TxBook w K mg} {H H' : Hp} {p : Addr} {vs : List SvW} {roots : List Str} (h : BkIs T H p vs roots) (e : Same H H') : BkIs T H' p vs roots := by
  obtain ⟨dx, s2, r2, n2, m2, g2, w2, xs, ws, ns, ms, gs, hp, h1, h2, h3, h4, a1, h5, a2, h6, a3, h7, h8⟩ := h.ex
  exact ⟨dx, s2, r2, n2, m2, g2, w2, xs, ws, ns, ms, gs, e _ _ hp, seqT_same e h1, paired_imp (fun _ _ z => SvcRef.same z e) h2, seqT_same e h3, seqT_same e h4, a1, seqT_same e h5, a2, seqT_same e h6, a3, seqT_same e h7, paired_imp (fun _ _ z => RowIs.keep z fun a C dx fs q => e _ _ q) h8⟩
theorem ok_Book_eq (T : TxBkStr w K mg) : FnOk P w K mg base CX0 10 T.f_Book_eq T.d_Book_eq P_Book_eq (spBkEq T ()) := by
  have G_bstr := str_bk (P := P) (w := w) (base := base) T
  refine T.F_Book_eq.ok sc_Book_eq (fun vs H Q E h => ?_) (fun cdv A outer s H vs Q E hr h => ?_)
  · obtain ⟨p, y, vs, roots, rfl, _⟩ := h
    rfl
  obtain ⟨p, y, vs, roots, rfl, B, G, h⟩ := h
  obtain ⟨dx, _, _, _, _, _, _, _, _, _, _, _, hp, _⟩ := id B.ex
  refine ⟨_, (pss_one (ps_ret (pe_and (pe_callB (call_isiV K) (by rfl) T.z_isinstance (by decide +kernel) (pa_cons (pv 1) (pa_cons (pe_glob (v := .ref T.C_Book) (by rfl) T.m_Book rfl) pa_nil))) (pe_one (pe_cmpR op_eq (pe_callTy (call_strO K G_bstr (hr.mono (by decide))) (by rfl) T.z_str (by decide +kernel) (pa_cons (pv 0) pa_nil)) (pe_callTy (call_strO K G_bstr (hr.mono (by decide))) (by rfl) T.z_str (by decide +kernel) (pa_cons (pv 1) pa_nil)) (nomark _)))))), ?_⟩
  rcases h with ⟨o, vs2, roots2, rfl, B2, G2, q⟩ | ⟨t, ty, kf, q⟩
  · obtain ⟨dx2, _, _, _, _, _, _, _, _, _, _, _, ho, _⟩ := id B2.ex
    refine ⟨_, rfl, .ref o, .ref T.C_Book, .ref T.C_Book, _, true, rfl, .own _, T.ty_Book _ _ _ _ ho, T.kk_Book, _, rfl, ?_⟩
    refine ⟨_, rfl, p, (), dx, _, rfl, trivial, hp, p, vs, roots, rfl, B, G, fun H1 s1 => ⟨_, rfl, _, rfl, o, (), dx2, _, rfl, trivial, s1 _ _ ho, o, vs2, roots2, rfl, B2.same s1, G2, fun H2 s2 => ⟨_, rfl, rfl, ?_⟩⟩⟩
    rw [dec_str2]
    exact q H2 (s1.trans s2)
  · exact ⟨_, rfl, y, .ref T.C_Book, t, _, false, rfl, .own _, ty, kf, _, rfl, q⟩
theorem eq_bk (T : TxBkStr w K mg) : OwnEqs P w K mg base (fun _ : Unit => T.C_Book) (fun _ => True) 10 (spBkEq T) := ⟨fun _ _ => ⟨_, _, _, ok_Book_eq T, T.b_Book_eq, T.ei_Book, T.ef_Book, T.en_Book, T.eo_Book⟩⟩
end
end My

/-! ## Methods called with keywords; keywords bound where there are no defaults; what the laws' loops share -/
namespace My
open PySem PySem.Spec PyProof.Rows L2
/-- o.m(k = v, ..) -/
def tMethKw (C : Addr) (m : Str) (n : Nat) (sp : Sp) (gV : List V → List V → List V) (E : XK) (ta : TE) (tk : TA) : TE := fun σ H Q => ta σ H fun x H1 => ∃ (a dx : Addr) (fs : List (Str × V)), x = .ref a ∧ H1 a = some (.ins C dx fs) ∧ fs.lookup m = none ∧
  tk σ H1 fun zs H2 => zs.length = n ∧ sp (gV [.ref a] zs) H2 Q E
section
variable {X : Cx} {CX : CXT} {k : Nat} {f C : Addr} {fd : FuncData} {ps ks : List Str} {sp : Sp} {E : XK} {m : Str} {o : Expr} {kws : List Keyword} {pos apos : Pos} {ta : TE} {tk : TA} {g : List Value → List Value → List Value} {gV : List V → List V → List V}
theorem pe_methKw {pl : Sem Bool} (ho : PE X o ta) (c : Cls X.K C) (M : Meth X.K C m f) (F : FnOk X.prog X.w X.K X.mg X.base CX k f fd ps sp) (room : Room k X.A) (kb : KBn X.K fd ps 1 ks g gV) (out : Passes CX X E) (hk : PK X kws tk)
    (named : (backToKw pos (keywordEach kws X.env)).all (·.1.isSome) = true := by rfl) (names : (backToKw pos (keywordEach kws X.env)).filterMap (·.1) = ks := by rfl)
    (plain : ((backTo pos (starEach [] X.env)).any (·.1) || (backToKw pos (keywordEach kws X.env)).any (·.1.isNone)) = false := by rfl)
    (ev : eval (.Call (.Attribute o m apos) [] kws pos) X.env = (do
      let ov ← eval o X.env
      standAt apos.atName
      let (f, first) ← holding [ov] (getMethod ov m pl)
      callWith pos f first (backTo pos (starEach [] X.env)) (backToKw pos (keywordEach kws X.env))) := by rfl) : PE X (.Call (.Attribute o m apos) [] kws pos) (tMethKw C m ks.length sp gV E ta tk) := by
  constructor
  intro pins s σ H Q I h
  refine PySem.W.methodCall_KW (pl := pl) (thn (ho.run pins s σ H _ I h) ?_) ev
  rintro u s1 ⟨x, H1, I1, rx, a, dx, fs, rfl, ha, nf, todo⟩
  obtain rfl : u = Value.ref a := rx
  refine getmeth_ok I1 ha c M nf (PySem.W.callWith_KW0 (first := [.ref a]) (h₀ := X.base) I.ok.mod.kin M.kp named (thn (hk.run pos pins s1 σ H1 _ I1 todo) ?_) plain)
  rintro ws s2 ⟨zs, H2, I2, rz, l1, l2⟩
  rw [names]
  exact ⟨I2.kIn, run_fnN (us := [.ref a]) (vs := [.ref a]) F room kb out I2 (.cons rfl .nil) rz rfl l1 l2⟩
end
section
variable {K : PySem.W.Frag} {x q : Str} {st : Stmt} {f : Addr} {fd : FuncData} {ps : List Str}
theorem kbn_fun (F : Fun K x q st f fd) (n : Nat) (ks : List Str) (g : {α : Type} → List α → List α → List α) (rel : ∀ {vs zs : List V} {us ws : List Value}, Vals vs us → Vals zs ws → Vals (g vs zs) (g us ws))
    (h : ∀ (kV dc pm : Value) (an : Option Addr) (cdv ct : Value) (us ws : List Value), us.length = n → ws.length = ks.length → bindArgs (PySem.W.fnOf x q (defArgs st) (defBody st) (defScope st) .none kV dc pm an cdv ct) ⟨us, ks.zip ws⟩ = pure (ps.zip (g us ws))) :
    KBn K fd ps n ks (fun us ws => g us ws) (fun vs zs => g vs zs) := by
  obtain ⟨oc, od, kV, dc, pm, an, cdv, ct, sl, rfl, l, c⟩ := F.ex
  exact ⟨fun s us ws _ l1 l2 => .of_eq (h kV dc pm an cdv ct us ws l1 l2), rel⟩
end
/-- keywords in another order -/
def r2 {α : Type} : List α → List α → List α
  | [s], [a, b] => [s, b, a]
  | _, _ => []
def r3 {α : Type} : List α → List α → List α
  | [s], [a, b, c] => [s, c, b, a]
  | _, _ => []
def r4 {α : Type} : List α → List α → List α
  | [s], [a, b, c, d] => [s, d, c, b, a]
  | _, _ => []
def r5 {α : Type} (us _its ws : List α) : List α := us ++ ws.reverse
def r2d {α : Type} (us its ws : List α) : List α := us ++ (ws.reverse ++ its)
theorem vals_rev : ∀ {zs : List V} {ws : List Value}, Vals zs ws → Vals zs.reverse ws.reverse
  | _, _, .nil => .nil
  | _, _, .cons r t => by
    rw [List.reverse_cons, List.reverse_cons]
    exact (vals_rev t).append (.cons r .nil)
theorem r2_rel {vs zs : List V} {us ws : List Value} (h : Vals vs us) (k : Vals zs ws) : Vals (r2 vs zs) (r2 us ws) := by
  match vs, us, zs, ws, h, k with
  | [_], [_], [_, _], [_, _], .cons s .nil, .cons a (.cons b .nil) => exact .cons s (.cons b (.cons a .nil))
  | [], [], _, _, .nil, _ => exact .nil
  | _ :: _ :: _, _ :: _ :: _, _, _, _, _ => exact .nil
  | [_], [_], [], [], _, _ => exact .nil
  | [_], [_], [_], [_], _, _ => exact .nil
  | [_], [_], _ :: _ :: _ :: _, _ :: _ :: _ :: _, _, _ => exact .nil
theorem r3_rel {vs zs : List V} {us ws : List Value} (h : Vals vs us) (k : Vals zs ws) : Vals (r3 vs zs) (r3 us ws) := by
  match vs, us, zs, ws, h, k with
  | [_], [_], [_, _, _], [_, _, _], .cons s .nil, .cons a (.cons b (.cons c .nil)) => exact .cons s (.cons c (.cons b (.cons a .nil)))
  | [], [], _, _, .nil, _ => exact .nil
  | _ :: _ :: _, _ :: _ :: _, _, _, _, _ => exact .nil
  | [_], [_], [], [], _, _ => exact .nil
  | [_], [_], [_], [_], _, _ => exact .nil
  | [_], [_], [_, _], [_, _], _, _ => exact .nil
  | [_], [_], _ :: _ :: _ :: _ :: _, _ :: _ :: _ :: _ :: _, _, _ => exact .nil
theorem r4_rel {vs zs : List V} {us ws : List Value} (h : Vals vs us) (k : Vals zs ws) : Vals (r4 vs zs) (r4 us ws) := by
  match vs, us, zs, ws, h, k with
  | [_], [_], [_, _, _, _], [_, _, _, _], .cons s .nil, .cons a (.cons b (.cons c (.cons d .nil))) => exact .cons s (.cons d (.cons c (.cons b (.cons a .nil))))
  | [], [], _, _, .nil, _ => exact .nil
  | _ :: _ :: _, _ :: _ :: _, _, _, _, _ => exact .nil
  | [_], [_], [], [], _, _ => exact .nil
  | [_], [_], [_], [_], _, _ => exact .nil
  | [_], [_], [_, _], [_, _], _, _ => exact .nil
  | [_], [_], [_, _, _], [_, _, _], _, _ => exact .nil
  | [_], [_], _ :: _ :: _ :: _ :: _ :: _, _ :: _ :: _ :: _ :: _ :: _, _, _ => exact .nil
/-- max(1, min(n, len)) turns -/
theorem turns_many {n : Int} {l : Nat} (h : 1 ≤ n) (hn : n ≤ 10) : let m : Int := if (l : Int) < n then (l : Int) else n
    let t : Int := if m > 1 then m else 1
    1 ≤ t ∧ t ≤ n := by
  intro m t
  have hm : m ≤ n := by
    show (if (l : Int) < n then (l : Int) else n) ≤ n
    split <;> omega
  constructor
  · show 1 ≤ (if m > 1 then m else 1)
    split <;> omega
  · show (if m > 1 then m else 1) ≤ n
    split <;> omega
theorem box_gr {b : Addr} {H1 : Hp} {w s c : Int} : Gr b (upd H1 b (bx w s c)) (upd H1 b (bx w s c)) := ⟨fun _ _ _ e => e, w, s, c, upd_same⟩
theorem gr_own {b : Addr} {H H' : Hp} (g : Gr b H H') : Gr b H' H' := ⟨fun _ _ _ e => e, g.box⟩
theorem same_of_gr {b : Addr} {H1 H2 : Hp} {o : HO} (n : H1 b = none) (g : Gr b (upd H1 b o) H2) : Same H1 H2 := fun a u e => by
  have na : a ≠ b := ne_of_none e n
  exact g.keep a u na (by rw [upd_ne na]; exact e)
theorem gr_then {b : Addr} {H H1 H2 : Hp} (g : Gr b H H1) (s : Same H1 H2) : Gr b H H2 := by
  obtain ⟨x, y, z, e⟩ := g.box
  exact ⟨fun a o n u => s _ _ (g.keep a o n u), x, y, z, s _ _ e⟩
theorem same_made {H H' : Hp} {p dx : Addr} {o o2 : HO} (np : H p = none) (nd : H dx = none) (k : ∀ b u, (upd (upd H dx o) p o2) b = some u → b ≠ p → H' b = some u) : Same H H' := fun b u e => by
  have n1 := ne_of_none e np
  exact k b u (by rw [upd_ne n1, upd_ne (ne_of_none e nd)]; exact e) n1
theorem made_same {H : Hp} {p dx : Addr} {o o2 : HO} (np : H p = none) (nd : H dx = none) : Same H (upd (upd H dx o) p o2) := fun b u e => by
  rw [upd_ne (ne_of_none e np), upd_ne (ne_of_none e nd)]
  exact e
end My

/-! ## A row is made (as in lawrow; no law's function) -/
namespace My
open PySem PySem.Spec PyProof.Rows L2
theorem paired_dv {K : PySem.W.Frag} {H H' : Hp} (e : Same H H') : ∀ {as : List V} {ds : List PyData}, Paired (Dv K H) as ds → Paired (Dv K H') as ds
  | _, _, .nil => .nil
  | _, _, .cons h t => .cons (h.same e) (paired_dv e t)
section
variable {P : Program} {w : World} {K : PySem.W.Frag} {mg : Str → Option Value} {base : Heap}
/-- what C(..) asks where C's __init__ is a row's -/
theorem row_made {C CX : Addr} {names : List Str} {wr : List PyData → Option Str} {H : Hp} {as : List V} {ds : List PyData} {Q : VK} {E : XK} (hl : as.length = names.length) (hd : Paired (Dv K H) as ds)
    (q : ∀ p dx H', wr ds = none → Same H H' → H p = none → H' p = some (.ins C dx (names.zip as)) → Q (.ref p) H') (qe : ∀ wd d H', wr ds = some wd → Same H H' → H d = none → H' d = some (.xd [("word", .str wd)]) → E (.ref CX) (some d) H') :
    ∀ x dx, H x = none → H dx = none → dx ≠ x → spRow K C CX names wr (.ref x :: as) (upd (upd H dx (.own x)) x (.ins C dx [])) (fun v H2 => v = .non ∧ Q (.ref x) H2) E := by
  intro x dx nx nd ne
  have s0 : Same H (upd (upd H dx (.own x)) x (.ins C dx [])) := fun b o e => by rw [upd_ne (ne_of_none e nx), upd_ne (ne_of_none e nd)]; exact e
  refine ⟨x, dx, as, ds, rfl, hl, paired_dv s0 hd, upd_same, fun H' e1 e2 k => ⟨rfl, q x dx H' e1 (Same.made nx nd k) nx e2⟩, fun wd d H' e1 s1 n1 e2 => qe wd d H' e1 (s0.trans s1) (s0.free n1) e2⟩
end
end My

/-! ## C(e, ..) within try, where the suite's words may hang on the slots -/
namespace My
open PySem PySem.Spec PyProof.Rows L2
def tMakeS (C : Addr) (sp : Sp) (dvs : List V) (E : L2.St → XK) (t : TA) : TE := fun σ H Q => t σ H fun vs H1 => ∀ x dx, H1 x = none → H1 dx = none → dx ≠ x →
  sp (.ref x :: (vs ++ dvs)) (upd (upd H1 dx (.own x)) x (.ins C dx [])) (fun v H2 => v = .non ∧ Q (.ref x) H2) (E σ)
section
variable {X : Cx} {CX : CXT} {k : Nat} {f C : Addr} {fd : FuncData} {ps : List Str} {sp : Sp} {E : L2.St → XK} {x : Str} {p pos : Pos} {e : Expr} {es : List Expr} {t : TA} {ds : List Value} {dvs : List V}
set_option maxHeartbeats 400000 in
theorem make_at {pins : List (Addr × Obj)} {σ : L2.St} {H : Hp} {s : Shared} {Q : VK} {us : List Value} {vs : List V} (M : Mk X.K C f) (F : FnOk X.prog X.w X.K X.mg X.base CX k f fd ps sp) (room : Room (k + 1) X.A) (bd : Binds X.K fd ps ds) (dv : Vals dvs ds) (out : PassesAt CX X σ (E σ)) (I : Inv X pins σ H s) (r : Vals vs us)
    (h : ∀ x dx, H x = none → H dx = none → dx ≠ x → sp (.ref x :: (vs ++ dvs)) (upd (upd H dx (.own x)) x (.ins C dx [])) (fun v H2 => v = .non ∧ Q (.ref x) H2) (E σ)) : wpAny (model X.prog X.w) X.A (call (.ref C) us) (EP X pins σ Q) X.xe s := by
  have todo := h (s.heap.objs.size + 1) s.heap.objs.size (I.hok.fresh (Nat.le_succ _)) (I.hok.fresh (Nat.le_refl _)) (Nat.ne_of_lt (Nat.lt_succ_self _))
  have J := Inv.made (C := C) I
  have rs : Vals (V.ref (s.heap.objs.size + 1) :: (vs ++ dvs)) (Value.ref (s.heap.objs.size + 1) :: (us ++ ds)) := .cons rfl (r.append dv)
  have many : (Value.ref (s.heap.objs.size + 1) :: us ++ ds).length = ps.length := rs.length ▸ F.len _ _ _ _ todo
  have body := F.run _ X.stack _ _ ⟨Value.ref (s.heap.objs.size + 1) :: us, []⟩ (Value.ref (s.heap.objs.size + 1) :: (us ++ ds)) _ _ (E σ) (room.make C us []) (J.env0.make C us []) (bd _ (Value.ref (s.heap.objs.size + 1) :: us) J.kIn many) rs todo
  refine wpAny_call (make_map (f := f) I.kIn M.makes M.init (beq_iff_eq.mp M.fn) (codeAny_mono body fun q s' hq => ?_))
  match q, hq with
  | .error e, hq => exact out pins _ _ e s' J hq
  | .ok (.ret u), hq =>
    obtain ⟨v, H2, J2, rv, ev, z⟩ := J.after hq
    rw [ev] at rv
    exact ⟨rv, V.ref (s.heap.objs.size + 1), H2, J2, rfl, z⟩
theorem pe_makeS (M : Mk X.K C f) (F : FnOk X.prog X.w X.K X.mg X.base CX k f fd ps sp) (room : Room (k + 1) X.A) (gl : Gl X x) (gm : X.mg x = some (.ref C)) (bd : Binds X.K fd ps ds) (dv : Vals dvs ds) (out : ∀ σ, PassesAt CX X σ (E σ)) (ha : PA X (e :: es) t)
    (db : (x == ("__debug__" : Str)) = false := by decide) (e1 : starEach (e :: es) X.env = (false, eval e X.env) :: starEach es X.env := by rfl) (e2 : (backTo pos (starEach es X.env)).any (·.1) = false := by rfl) : PE X (.Call (.Name x p) (e :: es) [] pos) (tMakeS C sp dvs E t) :=
  ⟨fun pins s σ H Q I h => wpAny_Call_Name_kw (ld_glob I gl gm (PySem.W.callWith_K (h₀ := X.base) I.ok.mod.kin M.kp (thn (ha.run pos pins s σ H _ I h) fun us s1 ⟨vs, H1, I1, r, q⟩ => ⟨I1.kIn, make_at M F room bd dv (out σ) I1 r q⟩) e1 e2) db)⟩
end
end My

/-! ## Rules for reading: C(*xs), cls(..), a, *b = xs -/
namespace My
open PySem PySem.Spec PyProof.Rows L2
/-- C(*xs) -/
def tMake1 (K : PySem.W.Frag) (C : Addr) (sp : Sp) (dvs : List V) (E : L2.St → XK) (te : TE) : TE := fun σ H Q => te σ H fun y H1 => ∃ a xs, y = .ref a ∧ (SqT K H1 a xs ∨ SqL K H1 a xs) ∧
  ∀ x dx, H1 x = none → H1 dx = none → dx ≠ x → sp (.ref x :: (xs ++ dvs)) (upd (upd H1 dx (.own x)) x (.ins C dx [])) (fun v H2 => v = .non ∧ Q (.ref x) H2) (E σ)
/-- the class that slot i holds, called -/
def tMakeL (i : Nat) (C : Addr) (sp : Sp) (dvs : List V) (E : L2.St → XK) (t : TA) : TE := fun σ H Q => σ[i]? = some (some (.ref C)) ∧ t σ H fun vs H1 =>
  ∀ x dx, H1 x = none → H1 dx = none → dx ≠ x → sp (.ref x :: (vs ++ dvs)) (upd (upd H1 dx (.own x)) x (.ins C dx [])) (fun v H2 => v = .non ∧ Q (.ref x) H2) (E σ)
section
variable {X : Cx} {CX : CXT} {k i : Nat} {f C : Addr} {fd : FuncData} {ps : List Str} {sp : Sp} {E : L2.St → XK} {x : Str} {p spos pos : Pos} {e : Expr} {es : List Expr} {te : TE} {t : TA} {ds : List Value} {dvs : List V}
theorem pe_make1 (K : PySem.W.Frag) (M : Mk X.K C f) (F : FnOk X.prog X.w X.K X.mg X.base CX k f fd ps sp) (room : Room (k + 1) X.A) (gl : Gl X x) (gm : X.mg x = some (.ref C)) (bd : Binds X.K fd ps ds) (dv : Vals dvs ds) (out : ∀ σ, PassesAt CX X σ (E σ)) (he : PE X e te) (hK : X.K = K := by rfl)
    (db : (x == ("__debug__" : Str)) = false := by decide) (e1 : starEach [.Starred e spos] X.env = [(true, eval e X.env)] := by rfl) : PE X (.Call (.Name x p) [.Starred e spos] [] pos) (tMake1 K C sp dvs E te) := by
  subst hK
  exact ⟨fun pins s σ H Q I h => wpAny_Call_Name_kw (ld_glob I gl gm (PySem.W.callWith_S (h₀ := X.base) I.ok.mod.kin M.kp (thn (he.run pins s σ H _ I h) fun v s1 ⟨y, H1, I1, ry, a, xs, ey, hxs, q⟩ => by
    subst ey
    cases ry
    exact StX.star_any I1 hxs fun us s2 I2 rv => ⟨I2.kIn, make_at M F room bd dv (out σ) I2 rv q⟩) e1) db)⟩
theorem pe_makeL (M : Mk X.K C f) (F : FnOk X.prog X.w X.K X.mg X.base CX k f fd ps sp) (room : Room (k + 1) X.A) (hN : X.N[i]? = some x) (hv : Vis X.env.scope x) (bd : Binds X.K fd ps ds) (dv : Vals dvs ds) (out : ∀ σ, PassesAt CX X σ (E σ)) (ha : PA X (e :: es) t)
    (db : (x == ("__debug__" : Str)) = false := by decide) (dc : (x == ("__classdict__" : Str)) = false := by decide) (e1 : starEach (e :: es) X.env = (false, eval e X.env) :: starEach es X.env := by rfl) (e2 : (backTo pos (starEach es X.env)).any (·.1) = false := by rfl) : PE X (.Call (.Name x p) (e :: es) [] pos) (tMakeL i C sp dvs E t) := by
  refine ⟨fun pins s σ H Q I h => ?_⟩
  obtain ⟨hs, ht⟩ := h
  refine wpAny_Call_Name_kw (thn ((pe_var (pos := p) hN hv db dc).run pins s σ H (fun v H1 => v = .ref C ∧ H1 = H) I ⟨_, hs, rfl, rfl⟩) fun u s1 ⟨v, H1, I1, r1, e3, e4⟩ => ?_)
  subst e3 e4
  cases r1
  exact PySem.W.callWith_K (h₀ := X.base) I.ok.mod.kin M.kp (thn (ha.run pos pins s1 σ _ _ I1 ht) fun us s2 ⟨vs, H2, I2, r, q⟩ => ⟨I2.kIn, make_at M F room bd dv (out σ) I2 r q⟩) e1 e2
end
/-- a list's first item, and the others in a new list -/
theorem star_items {prog : Program} {w : World} {A : Around} {E : Value → Shared → Prop} {s : Shared} {l : Addr} {items : Array Value} {Q : List Value → Shared → Prop} (hl : s.heap.IsList l items) (hh : A.handled = none) (h1 : 1 ≤ items.size) (hz : items.size ≤ 16384)
    (h : ∀ (h' : Heap) (tk : Nat), (∀ b o, s.heap.get? b = some o → h'.get? b = some o) → Q (items.toList.take 1 ++ [.ref h'.objs.size]) { s with heap := h'.push { cls := .type "list", data := .seq (items.toList.drop 1).toArray }, toks := tk }) :
    wpAny (model prog w) A (unpackItems (.ref l) 2 (some 1)) Q E s := by
  have ex : ∃ o, s.heap.get? l = some o := ⟨_, hl.choose_spec.1⟩
  have lt : l < s.heap.objs.size := ex.elim fun _ e => Heap.lt_size e
  have ne : l ≠ s.heap.objs.size := Nat.ne_of_lt lt
  unfold unpackItems
  refine wpAny_bind ?_
  unfold notIterableAtAll
  refine wpAny_bind (wpAny_specialOf hl.typeIs slot_list_iter.lookup (wpAny_pure ?_))
  rw [if_neg Bool.false_ne_true]
  refine wpAny_bind (wpAny_holding (wpAny_pyIter_list hl ?_))
  refine wpAny_bind (wpAny_holding (PySem.W.kun_draw ne 1 0 _ _ ⟨_, Heap.get?_push_size _ rfl, rfl, rfl⟩ (hl.push _) (by omega) fun g1 it1 same1 => ?_))
  rw [Nat.zero_add] at it1
  rw [List.drop_zero]
  have hl1 : g1.IsList l items := (hl.push _).extBut same1.extBut ne
  have szI : s.heap.objs.size < g1.objs.size := it1.elim fun _ z => Heap.lt_size z.1
  have szl : l < g1.objs.size := hl1.elim fun _ z => Heap.lt_size z.1
  have tl : (items.toList.take 1).length = 1 := by rw [List.length_take, Array.length_toList]; omega
  rw [if_neg (by rw [tl]; decide)]
  refine wpAny_bind (wpAny_holding (PySem.W.kun_collect (s := { s with heap := g1 }) (T := "list_iterator") (.inr (.inr (.inl rfl))) (Walks.list (A := A.in1) hh s.heap.objs.size l ne items) (fun j u st => st.1.typeIs) (k := 1) h1 ⟨it1, hl1⟩ szI szl (fun g2 tk keep => ?_) (by rw [sizeLine_eq]; omega)))
  have kept : ∀ b o, s.heap.get? b = some o → g2.get? b = some o := fun b o e => keep b o (Nat.ne_of_lt (Heap.lt_size e)) (same1.extBut b o (Nat.ne_of_lt (Heap.lt_size e)) (Heap.get?_push_of_some _ e))
  show wpAny _ _ (if (items.toList.drop 1).length < 2 - 1 - 1 then _ else _) _ _ _
  rw [if_neg (Nat.not_lt_zero _)]
  show wpAny _ _ (newList ((items.toList.drop 1).take ((items.toList.drop 1).length - 0)) >>= fun d => pure (items.toList.take 1 ++ [d] ++ (items.toList.drop 1).drop ((items.toList.drop 1).length - 0))) _ _ _
  rw [Nat.sub_zero, List.take_length, List.drop_length]
  refine wpAny_bind (wpAny_newList (s := { s with heap := g2, toks := tk }) (wpAny_pure ?_) (by rw [List.length_drop, Array.length_toList, sizeLine_eq]; omega))
  rw [List.append_nil]
  exact h g2 tk kept
/-- a, *b = xs -/
def gStar (K : PySem.W.Frag) (t1 t2 : TG) : TG := fun v σ H Q => ∃ (a : Addr) (x : V) (r : List V), v = .ref a ∧ SqL K H a (x :: r) ∧ r.length ≤ 16000 ∧ ∀ D, H D = none → t1 x σ (upd H D (.lst r)) fun σ1 H1 => t2 (.ref D) σ1 H1 Q
theorem pg_star {X : Cx} (K : PySem.W.Frag) {e1 e2 : Expr} {k : Nat} {pos spos : Pos} {t1 t2 : TG} (hc : X.calm = true) (h1 : PG X e1 t1) (h2 : PG X e2 t2) (hK : X.K = K := by rfl)
    (hn : (assignEach [e1, .Starred e2 spos] X.env).length = 2 := by rfl) (hst : (assignEach [e1, .Starred e2 spos] X.env).findIdx? (·.1) = some 1 := by rfl)
    (hm : (assignEach [e1, .Starred e2 spos] X.env).map (·.2) = [assign e1 X.env, assign e2 X.env] := by rfl) : PG X (.Tuple [e1, .Starred e2 spos] k pos) (gStar K t1 t2) := by
  subst hK
  refine ⟨fun pins s σ H v u Q I r hw => ?_⟩
  obtain ⟨a, x, rs, ev, hq, hl, hw⟩ := hw
  subst ev
  cases r
  obtain ⟨its, rv, pl, hz⟩ := I.list hq
  rw [PyProof.Rows.assign_Tuple]
  refine wpAny_bind (wpAny_standAt ?_)
  unfold unpack
  rw [hn, hst, hm]
  cases rv with
  | @cons _ u0 _ us r0 rr =>
  have sz : us.length ≤ 16000 := by rw [← Paired.length rr]; exact hl
  refine wpAny_bind (wpAny_holding (star_items pl.isList (I.ok.hd hc) (by simp) (by simp; omega) fun h' tk kept => ?_))
  have J := I.kept (t' := tk) kept
  have I1 : Inv X pins σ (upd H h'.objs.size (.lst rs)) { s with heap := h'.push { cls := .type "list", data := .seq us.toArray }, toks := tk } := by
    refine J.laid (s := { s with heap := h', toks := tk }) (t' := tk) (fun b u e => Heap.get?_push_of_some _ e) (Nat.le_refl _) ?_
    exact ⟨by rw [sizeLine_eq]; omega, us, 0, rr, Heap.get?_push_size _ rfl⟩
  have hD : H h'.objs.size = none := J.hok.fresh (Nat.le_refl _)
  refine assignInOrder_cons (thn (h1.run pins _ σ _ x u0 _ I1 r0 (hw _ hD)) fun _ s1 ⟨σ1, H1, I2, q1⟩ => ?_)
  refine assignInOrder_cons (thn (h2.run pins s1 σ1 H1 (.ref h'.objs.size) _ _ I2 rfl q1) fun _ s2 ⟨σ2, H2, I3, q2⟩ => ?_)
  exact assignInOrder_nil ⟨σ2, H2, I3, q2⟩
end My

/-! ## Reading: the lines of a text, by their words -/
namespace My
open PySem PySem.Spec PyProof.Rows L2
abbrev s_begins_with : Stmt := top 24
abbrev N_begins_with : List Str := ["lines", "at", "word"]
abbrev P_begins_with : List Str := ["lines", "at", "word"]
theorem sc_begins_with : FnScope N_begins_with P_begins_with (defScope s_begins_with) := ⟨rfl, rfl, rfl, by decide +kernel, rfl, by decide +kernel, by decide +kernel⟩
abbrev s_read_names : Stmt := top 26
abbrev N_read_names : List Str := ["lines", "at", "word", "names"]
abbrev P_read_names : List Str := ["lines", "at", "word"]
theorem sc_read_names : FnScope N_read_names P_read_names (defScope s_read_names) := ⟨rfl, rfl, rfl, by decide +kernel, rfl, by decide +kernel, by decide +kernel⟩
abbrev s_read_row : Stmt := top 27
abbrev N_read_row : List Str := ["lines", "at", "first", "words"]
abbrev P_read_row : List Str := ["lines", "at"]
theorem sc_read_row : FnScope N_read_row P_read_row (defScope s_read_row) := ⟨rfl, rfl, rfl, by decide +kernel, rfl, by decide +kernel, by decide +kernel⟩
structure TxRead0 (w : World) (K : PySem.W.Frag) (mg : Str → Option Value) extends TxSvc w K mg where
  f_begins_with : Addr
  d_begins_with : FuncData
  F_begins_with : Fun K "begins_with" "begins_with" s_begins_with f_begins_with d_begins_with
  m_begins_with : mg "begins_with" = some (.ref f_begins_with)
  b_begins_with : Binds K d_begins_with P_begins_with []
  f_read_names : Addr
  d_read_names : FuncData
  F_read_names : Fun K "read_names" "read_names" s_read_names f_read_names d_read_names
  m_read_names : mg "read_names" = some (.ref f_read_names)
  b_read_names : Binds K d_read_names P_read_names []
  f_read_row : Addr
  d_read_row : FuncData
  F_read_row : Fun K "read_row" "read_row" s_read_row f_read_row d_read_row
  m_read_row : mg "read_row" = some (.ref f_read_row)
  b_read_row : Binds K d_read_row P_read_row []
/-- lists of words stand in a list at a -/
structure LinesAt (H : Hp) (a : Addr) (wss : List (List Str)) : Prop where
  ex : ∃ rl : List Addr, H a = some (.lst (rl.map V.ref)) ∧ Paired (fun r (ws : List Str) => H r = some (.lst (ws.map V.str))) rl wss
  ne : ∀ ws ∈ wss, ws ≠ []
  few : wss.length ≤ 900
theorem LinesAt.same {H H' : Hp} {a : Addr} {wss : List (List Str)} (h : LinesAt H a wss) (e : Same H H') : LinesAt H' a wss := by
  obtain ⟨rl, h1, h2⟩ := h.ex
  exact ⟨⟨rl, e _ _ h1, paired_imp (fun _ _ z => e _ _ z) h2⟩, h.ne, h.few⟩
theorem LinesAt.at_ {H : Hp} {a : Addr} {wss : List (List Str)} {k : Nat} {ws : List Str} (h : LinesAt H a wss) (e : wss[k]? = some ws) : ∃ (xs : List V) (r : Addr), H a = some (.lst xs) ∧ xs.length = wss.length ∧ xs[k]? = some (.ref r) ∧ H r = some (.lst (ws.map V.str)) := by
  obtain ⟨rl, h1, h2⟩ := h.ex
  have get : ∀ {rl : List Addr} {wss : List (List Str)} {k : Nat}, Paired (fun r (ws : List Str) => H r = some (.lst (ws.map V.str))) rl wss → wss[k]? = some ws → ∃ r, rl[k]? = some r ∧ H r = some (.lst (ws.map V.str)) := by
    intro rl wss k p
    induction p generalizing k with
    | nil => exact fun e => by simp at e
    | cons r _ ih =>
      intro e
      cases k with
      | zero => simp at e; subst e; exact ⟨_, rfl, r⟩
      | succ k => simp at e; simpa using ih e
  obtain ⟨r, e1, e2⟩ := get h2 e
  exact ⟨rl.map V.ref, r, h1, by rw [List.length_map, paired_len h2], by rw [List.getElem?_map, e1]; rfl, e2⟩
theorem LinesAt.list {H : Hp} {a : Addr} {wss : List (List Str)} (h : LinesAt H a wss) : ∃ (xs : List V), H a = some (.lst xs) ∧ xs.length = wss.length := by
  obtain ⟨rl, h1, h2⟩ := h.ex
  exact ⟨_, h1, by rw [List.length_map, paired_len h2]⟩
/-- whether line k begins with the word -/
def begB (wss : List (List Str)) (k : Nat) (wd : Str) : Bool := match wss[k]? with
  | some (x :: _) => decide (x = wd)
  | _ => false
def namesAt (wss : List (List Str)) (k : Nat) (wd : Str) : List Str := match wss[k]? with
  | some (x :: r) => if x = wd then r else []
  | _ => []
def spBegins : Sp := fun vs H Q _ => ∃ (a : Addr) (wss : List (List Str)) (k : Nat) (wd : Str), vs = [.ref a, .int (k : Int), .str wd] ∧ LinesAt H a wss ∧ Q (.bl (begB wss k wd)) H
def spReadNames : Sp := fun vs H Q _ => ∃ (a : Addr) (wss : List (List Str)) (k : Nat) (wd : Str), vs = [.ref a, .int (k : Int), .str wd] ∧ LinesAt H a wss ∧
  (∀ r, wss[k]? = some (wd :: r) → r ≠ [] ∧ (∀ y ∈ r, isNm y = true) ∧ r.Nodup ∧ r.length ≤ 100) ∧ ∀ q H', Same H H' → H q = none → H' q = some (.lst ((namesAt wss k wd).map V.str)) → Q (.ref q) H'
def spReadRow {w : World} {K : PySem.W.Frag} {mg : Str → Option Value} (T : TxSvc w K mg) : Sp := fun vs H Q _ => ∃ (a : Addr) (wss : List (List Str)) (k : Nat) (so : Str) (ws : List Str), vs = [.ref a, .int (k : Int)] ∧ LinesAt H a wss ∧ wss[k]? = some (so :: ws) ∧ GoodR (so, ws) ∧
  ∀ p H', Same H H' → H p = none → RwAt T H' (.ref p) (so, ws) → Q (.ref p) H'
section
variable {P : Program} {w : World} {K : PySem.W.Frag} {mg : Str → Option Value} {base : Heap}
theorem ok_begins_with (T : TxRead0 w K mg) : FnOk P w K mg base CX0 1 T.f_begins_with T.d_begins_with P_begins_with spBegins := by
  refine T.F_begins_with.ok sc_begins_with (fun vs H Q E h => ?_) (fun cdv A outer s H vs Q E hr h => ?_)
  · obtain ⟨a, wss, k, wd, rfl, _⟩ := h
    rfl
  obtain ⟨a, wss, k, wd, rfl, L, q⟩ := h
  obtain ⟨xs, hxs, lxs⟩ := L.list
  refine ⟨_, (pss_one (ps_ret (pe_and (pe_cmpR op_lt (pv 1) (pe_callB (call_lenK K) (by rfl) T.z_len (by decide +kernel) (pa_cons (pv 0) pa_nil)) (nomark _)) (pe_one (pe_cmpR op_eq (pe_ix (ix_listK K) (pe_ix (ix_listK K) (pv 0) (pv 1) (fun _ _ => rfl)) pe_int (fun _ _ => rfl)) (pv 2) (nomark _)))))), ?_⟩
  refine ⟨_, rfl, _, rfl, a, xs, rfl, .inl (SqL.of hxs), _, _, rfl, rfl, _, rfl, ?_⟩
  refine ite2 (fun c => ?_) (fun c => ?_)
  · have c' : (k : Int) < (xs.length : Int) := of_decide_eq_true c
    have hk : k < wss.length := by omega
    obtain ⟨ws, hw⟩ : ∃ ws, wss[k]? = some ws := ⟨_, List.getElem?_eq_getElem hk⟩
    obtain ⟨xs2, r, h1, _, h3, h4⟩ := L.at_ hw
    have nw := L.ne ws (List.mem_of_getElem? hw)
    match ws, nw with
    | x :: ws, _ =>
    unfold begB at q
    rw [hw] at q
    refine ⟨_, rfl, _, rfl, a, xs2, _, _, rfl, rfl, SqL.of h1, atI_nat h3, r, _, _, _, rfl, rfl, SqL.of h4, atI_nat (j := 0) rfl, _, rfl, rfl, ?_⟩
    rw [dec_str2]
    exact q
  · have c' : ¬ (k : Int) < (xs.length : Int) := fun z => c (decide_eq_true z)
    have hw : wss[k]? = none := List.getElem?_eq_none (by omega)
    unfold begB at q
    rw [hw] at q
    exact q
theorem begB_yes {wss : List (List Str)} {k : Nat} {wd : Str} (h : begB wss k wd = true) : ∃ r, wss[k]? = some (wd :: r) ∧ namesAt wss k wd = r := by
  unfold begB at h
  unfold namesAt
  cases e : wss[k]? with
  | none => rw [e] at h; cases h
  | some ws =>
    rw [e] at h
    cases ws with
    | nil => cases h
    | cons x r =>
      have z : x = wd := of_decide_eq_true h
      subst z
      exact ⟨r, rfl, if_pos rfl⟩
theorem begB_no {wss : List (List Str)} {k : Nat} {wd : Str} (h : begB wss k wd = false) : namesAt wss k wd = [] := by
  unfold begB at h
  unfold namesAt
  cases e : wss[k]? with
  | none => rfl
  | some ws =>
    rw [e] at h
    cases ws with
    | nil => rfl
    | cons x r => exact if_neg (of_decide_eq_false h)
theorem cut_rest {x : V} {r : List V} : cutV (x :: r) (some 1) none = r := by
  unfold cutV
  rw [show (1 : Int) = ((1 : Nat) : Int) from rfl, HT.sIx_nat, HT.sIx_none, List.length_cons, Nat.min_eq_left (by omega)]
  show r.take (r.length + 1 - 1) = r
  rw [Nat.add_sub_cancel, List.take_length]
theorem ok_read_names (T : TxRead0 w K mg) : FnOk P w K mg base CX0 4 T.f_read_names T.d_read_names P_read_names spReadNames := by
  have G_begins_with := ok_begins_with (P := P) (w := w) (base := base) T
  have G_are_some_names := ok_are_some_names (P := P) (w := w) (base := base) T.toTxSeq
  refine T.F_read_names.ok sc_read_names (fun vs H Q E h => ?_) (fun cdv A outer s H vs Q E hr h => ?_)
  · obtain ⟨a, wss, k, wd, rfl, _⟩ := h
    rfl
  obtain ⟨a, wss, k, wd, rfl, L, nm, q⟩ := h
  refine ⟨_, (pss_cons (ps_if (pt_not (pt_val (pe_call G_begins_with (hr.mono (by decide)) (by rfl) T.m_begins_with T.F_begins_with.kp T.b_begins_with .nil pass0 (pa_cons (pv 0) (pa_cons (pv 1) (pa_cons (pv 2) pa_nil)))))) (pss_one (ps_ret (pe_lst pa_nil))) pss_nil)
      (pss_cons (ps_set (i := 3) sc_read_names.nd rfl (Or.inl rfl) (pe_slice (sl_listK K) (pe_ix (ix_listK K) (pv 0) (pv 1) (fun _ _ => rfl)) (po_some pe_int) po_none))
      (pss_cons (ps_if (pt_not (pt_val (pe_call G_are_some_names (hr.mono (by decide)) (by rfl) T.m_are_some_names T.F_are_some_names.kp T.b_are_some_names .nil pass0 (pa_cons (pv 3) pa_nil)))) (pss_one ps_never) pss_nil)
      (pss_one (ps_ret (pv 3)))))), ?_⟩
  refine ⟨_, rfl, _, rfl, _, rfl, a, wss, k, wd, rfl, L, _, rfl, ?_⟩
  refine ite2 (fun c => ?_) (fun c => ?_)
  · rw [begB_no (bnot_eq c)] at q
    exact ⟨Nat.zero_le _, fun p hp => q p _ (same_upd hp _) hp upd_same⟩
  · obtain ⟨r, hw, e⟩ := begB_yes (bnot_ne c)
    rw [e] at q
    obtain ⟨r0, rn, rd, rl⟩ := nm r hw
    obtain ⟨xs, ra, h1, _, h3, h4⟩ := L.at_ hw
    refine ⟨_, rfl, _, rfl, a, xs, _, _, rfl, rfl, SqL.of h1, atI_nat h3, 1, rfl, ra, _, rfl, SqL.of h4, fun p hp => ?_⟩
    rw [show (wd :: r).map V.str = V.str wd :: r.map V.str from rfl, cut_rest]
    have s1 := same_upd hp (.lst (r.map V.str))
    refine ⟨_, rfl, .ref p, true, rfl, some_strs (.inl (SqL.of upd_same)) rn rd r0 rl, fun H2 s2 => ⟨_, rfl, ?_⟩⟩
    refine iteF ?_
    exact ⟨_, rfl, q p H2 (s1.trans s2) hp (s2 _ _ upd_same)⟩
theorem ok_read_row (T : TxRead0 w K mg) : FnOk P w K mg base CX0 6 T.f_read_row T.d_read_row P_read_row (spReadRow T.toTxSvc) := by
  have G_Begin_init := ok_Begin_init (P := P) (w := w) (base := base) T.toTxRows
  have G_Send_init := ok_Send_init (P := P) (w := w) (base := base) T.toTxRows
  have G_Back_init := ok_Back_init (P := P) (w := w) (base := base) T.toTxRows
  have G_End_init := ok_End_init (P := P) (w := w) (base := base) T.toTxRows
  refine T.F_read_row.ok sc_read_row (fun vs H Q E h => ?_) (fun cdv A outer s H vs Q E hr h => ?_)
  · obtain ⟨a, wss, k, so, ws, rfl, _⟩ := h
    rfl
  obtain ⟨a, wss, k, so, ws, rfl, L, hk, gd, q⟩ := h
  refine ⟨_, (pss_cons (ps_asg (pe_ix (ix_listK K) (pv 0) (pv 1) (fun _ _ => rfl)) (pg_star K rfl (pg_name (i := 2) sc_read_row.nd rfl (Or.inl rfl)) (pg_name (i := 3) sc_read_row.nd rfl (Or.inl rfl))))
      (pss_cons (ps_try_only rfl rfl ⟨rfl, by decide, .inl T.m_InvalidRow⟩ takes0 (fun W pn xe tk _ => (pss_cons (ps_if (PW.pt (pw_and (pt_cmpR op_eq (pv 2) pe_str (nomark _)) (pw_and1 (pt_cmpR op_eq (pe_callB (call_lenK K) (by rfl) T.z_len (by decide +kernel) (pa_cons (pv 3) pa_nil)) pe_int (nomark _))))) (pss_one (ps_ret (pe_make1 K T.mk_Begin G_Begin_init (hr.mono (by decide)) (by rfl) T.m_Begin T.b_Begin_init .nil (fun σ => passAt tk σ) (pv 3)))) pss_nil)
      (pss_cons (ps_if (PW.pt (pw_and (pt_cmpR op_eq (pv 2) pe_str (nomark _)) (pw_and1 (pt_cmpR op_eq (pe_callB (call_lenK K) (by rfl) T.z_len (by decide +kernel) (pa_cons (pv 3) pa_nil)) pe_int (nomark _))))) (pss_one (ps_ret (pe_make1 K T.mk_Send G_Send_init (hr.mono (by decide)) (by rfl) T.m_Send T.b_Send_init .nil (fun σ => passAt tk σ) (pv 3)))) pss_nil)
      (pss_cons (ps_if (PW.pt (pw_and (pt_cmpR op_eq (pv 2) pe_str (nomark _)) (pw_and1 (pt_cmpR op_eq (pe_callB (call_lenK K) (by rfl) T.z_len (by decide +kernel) (pa_cons (pv 3) pa_nil)) pe_int (nomark _))))) (pss_one (ps_ret (pe_make1 K T.mk_Back G_Back_init (hr.mono (by decide)) (by rfl) T.m_Back T.b_Back_init .nil (fun σ => passAt tk σ) (pv 3)))) pss_nil)
      (pss_one (ps_if (PW.pt (pw_and (pt_cmpR op_eq (pv 2) pe_str (nomark _)) (pw_and1 (pt_cmpR op_eq (pe_callB (call_lenK K) (by rfl) T.z_len (by decide +kernel) (pa_cons (pv 3) pa_nil)) pe_int (nomark _))))) (pss_one (ps_ret (pe_make1 K T.mk_End G_End_init (hr.mono (by decide)) (by rfl) T.m_End T.b_End_init .nil (fun σ => passAt tk σ) (pv 3)))) pss_nil)))))) (fun a oe cls d pn hz hf => (pss_one ps_never)))
      (pss_one ps_never))), ?_⟩
  obtain ⟨xs, ra, h1, _, h3, h4⟩ := L.at_ hk
  have l4 : (fnOf so).length ≤ 4 := (by decide +kernel : ∀ s ∈ SORTS, (fnOf s).length ≤ 4) so gd.so
  have gl := gd.len2
  change ws.length = (fnOf so).length at gl
  refine ⟨_, rfl, _, rfl, a, xs, _, _, rfl, rfl, SqL.of h1, atI_nat h3, ra, .str so, ws.map V.str, rfl, SqL.of h4, by rw [List.length_map]; omega, fun D hD => ?_⟩
  have s1 := same_upd hD (.lst (ws.map V.str))
  have hD1 : upd H D (.lst (ws.map V.str)) D = some (.lst (ws.map V.str)) := upd_same
  have wr0 := gd.wr
  have hso := gd.so
  simp only [SORTS, List.mem_cons, List.not_mem_nil, or_false] at hso
  have ne : ∀ {x y : Str}, x ≠ y → decide (V.str x = V.str y) = false := fun n => by rw [dec_str2]; exact decide_eq_false n
  rcases hso with rfl | rfl | rfl | rfl
  · match ws, gl with
    | [x, y, z], _ =>
    refine ⟨_, rfl, rfl, _, rfl, ?_⟩
    rw [show decide (V.str (Str.ofString "begin") = V.str (Str.ofString "begin")) = true from decide_eq_true rfl]
    refine iteT ?_
    refine ⟨_, rfl, D, _, rfl, .inl (SqL.of hD1), rfl, _, rfl, ?_⟩
    refine iteT ?_
    have wr1 : wBegin ([x, y, z].map PyData.str) = none := by
      have z := wr0
      rw [show wrOf "begin" = wBegin from by unfold wrOf; rw [if_pos rfl]] at z
      exact z
    refine ⟨_, rfl, D, _, rfl, .inr (SqL.of hD1), row_made (as := [.str x, .str y, .str z]) (ds := [x, y, z].map PyData.str) rfl (dvs_strs (K := K) (ys := [x, y, z]) gd.okW) (fun p dx H' _ s n h => q p H' (s1.trans s) (s1.free n) (rw_is T.toTxSvc gd.so gd.len2 h)) (fun wd d H' e _ _ _ => by rw [wr1] at e; cases e)⟩
  · match ws, gl with
    | [x, y, z], _ =>
    refine ⟨_, rfl, rfl, _, rfl, ?_⟩
    rw [ne (x := Str.ofString "send") (y := Str.ofString "begin") (by decide)]
    refine iteF ?_
    refine ⟨_, rfl, rfl, _, rfl, ?_⟩
    rw [show decide (V.str (Str.ofString "send") = V.str (Str.ofString "send")) = true from decide_eq_true rfl]
    refine iteT ?_
    refine ⟨_, rfl, D, _, rfl, .inl (SqL.of hD1), rfl, _, rfl, ?_⟩
    refine iteT ?_
    have wr1 : wSend ([x, y, z].map PyData.str) = none := by
      have z := wr0
      rw [show wrOf "send" = wSend from by unfold wrOf; rw [if_neg (by decide), if_pos rfl]] at z
      exact z
    refine ⟨_, rfl, D, _, rfl, .inr (SqL.of hD1), row_made (as := [.str x, .str y, .str z]) (ds := [x, y, z].map PyData.str) rfl (dvs_strs (K := K) (ys := [x, y, z]) gd.okW) (fun p dx H' _ s n h => q p H' (s1.trans s) (s1.free n) (rw_is T.toTxSvc gd.so gd.len2 h)) (fun wd d H' e _ _ _ => by rw [wr1] at e; cases e)⟩
  · match ws, gl with
    | [x, y, z, t], _ =>
    refine ⟨_, rfl, rfl, _, rfl, ?_⟩
    rw [ne (x := Str.ofString "back") (y := Str.ofString "begin") (by decide)]
    refine iteF ?_
    refine ⟨_, rfl, rfl, _, rfl, ?_⟩
    rw [ne (x := Str.ofString "back") (y := Str.ofString "send") (by decide)]
    refine iteF ?_
    refine ⟨_, rfl, rfl, _, rfl, ?_⟩
    rw [show decide (V.str (Str.ofString "back") = V.str (Str.ofString "back")) = true from decide_eq_true rfl]
    refine iteT ?_
    refine ⟨_, rfl, D, _, rfl, .inl (SqL.of hD1), rfl, _, rfl, ?_⟩
    refine iteT ?_
    have wr1 : wBack ([x, y, z, t].map PyData.str) = none := by
      have z := wr0
      rw [show wrOf "back" = wBack from by unfold wrOf; rw [if_neg (by decide), if_neg (by decide), if_pos rfl]] at z
      exact z
    refine ⟨_, rfl, D, _, rfl, .inr (SqL.of hD1), row_made (as := [.str x, .str y, .str z, .str t]) (ds := [x, y, z, t].map PyData.str) rfl (dvs_strs (K := K) (ys := [x, y, z, t]) gd.okW) (fun p dx H' _ s n h => q p H' (s1.trans s) (s1.free n) (rw_is T.toTxSvc gd.so gd.len2 h)) (fun wd d H' e _ _ _ => by rw [wr1] at e; cases e)⟩
  · match ws, gl with
    | [x, y, z, t], _ =>
    refine ⟨_, rfl, rfl, _, rfl, ?_⟩
    rw [ne (x := Str.ofString "end") (y := Str.ofString "begin") (by decide)]
    refine iteF ?_
    refine ⟨_, rfl, rfl, _, rfl, ?_⟩
    rw [ne (x := Str.ofString "end") (y := Str.ofString "send") (by decide)]
    refine iteF ?_
    refine ⟨_, rfl, rfl, _, rfl, ?_⟩
    rw [ne (x := Str.ofString "end") (y := Str.ofString "back") (by decide)]
    refine iteF ?_
    refine ⟨_, rfl, rfl, _, rfl, ?_⟩
    rw [show decide (V.str (Str.ofString "end") = V.str (Str.ofString "end")) = true from decide_eq_true rfl]
    refine iteT ?_
    refine ⟨_, rfl, D, _, rfl, .inl (SqL.of hD1), rfl, _, rfl, ?_⟩
    refine iteT ?_
    have wr1 : wEnd ([x, y, z, t].map PyData.str) = none := by
      have z := wr0
      rw [show wrOf "end" = wEnd from by unfold wrOf; rw [if_neg (by decide), if_neg (by decide), if_neg (by decide)]] at z
      exact z
    refine ⟨_, rfl, D, _, rfl, .inr (SqL.of hD1), row_made (as := [.str x, .str y, .str z, .str t]) (ds := [x, y, z, t].map PyData.str) rfl (dvs_strs (K := K) (ys := [x, y, z, t]) gd.okW) (fun p dx H' _ s n h => q p H' (s1.trans s) (s1.free n) (rw_is T.toTxSvc gd.so gd.len2 h)) (fun wd d H' e _ _ _ => by rw [wr1] at e; cases e)⟩
end
end My

/-! ## Reading: a service, the roots -/
namespace My
open PySem PySem.Spec PyProof.Rows L2
abbrev s_read_service : Stmt := top 25
abbrev N_read_service : List Str := ["lines", "at", "head", "waits", "leaves", "rows"]
abbrev P_read_service : List Str := ["lines", "at"]
theorem sc_read_service : FnScope N_read_service P_read_service (defScope s_read_service) := ⟨rfl, rfl, rfl, by decide +kernel, rfl, by decide +kernel, by decide +kernel⟩
abbrev s_read_roots : Stmt := top 28
abbrev N_read_roots : List Str := ["lines", "at", "roots", "words"]
abbrev P_read_roots : List Str := ["lines", "at"]
theorem sc_read_roots : FnScope N_read_roots P_read_roots (defScope s_read_roots) := ⟨rfl, rfl, rfl, by decide +kernel, rfl, by decide +kernel, by decide +kernel⟩
structure TxRead1 (w : World) (K : PySem.W.Frag) (mg : Str → Option Value) extends TxRead0 w K mg where
  f_read_service : Addr
  d_read_service : FuncData
  F_read_service : Fun K "read_service" "read_service" s_read_service f_read_service d_read_service
  m_read_service : mg "read_service" = some (.ref f_read_service)
  b_read_service : Binds K d_read_service P_read_service []
  f_read_roots : Addr
  d_read_roots : FuncData
  F_read_roots : Fun K "read_roots" "read_roots" s_read_roots f_read_roots d_read_roots
  m_read_roots : mg "read_roots" = some (.ref f_read_roots)
  b_read_roots : Binds K d_read_roots P_read_roots []
/-- the lines of a service, by their words -/
def lineIf (wd : Str) (l : List Str) : List (List Str) := if l.isEmpty then [] else [wd :: l]
def rowsW (v : SvW) : List (List Str) := v.rows.map fun r => r.1 :: r.2
def svcW (v : SvW) : List (List Str) := ("service" :: v.nm :: v.kinds) :: (lineIf "waits" v.waits ++ (lineIf "leaves" v.leaves ++ rowsW v))
/-- no line of a service may stand here -/
def StopW (rest : List (List Str)) : Prop := ∀ x r t, rest = (x :: r) :: t → x = "service" ∨ x = "root"
/-- the first line's words behind this one -/
def hdN (l : List (List Str)) (wd : Str) : List Str := match l with
  | (x :: r) :: _ => if x = wd then r else []
  | _ => []
theorem namesAt_drop (wss : List (List Str)) (k : Nat) (wd : Str) : namesAt wss k wd = hdN (wss.drop k) wd := by
  unfold namesAt hdN
  have e : (wss.drop k)[0]? = wss[k]? := by rw [List.getElem?_drop, Nat.add_zero]
  rw [← e]
  cases wss.drop k with
  | nil => rfl
  | cons x l =>
    cases x with
    | nil => rfl
    | cons y r => rfl
theorem at_drop {wss l : List (List Str)} {k : Nat} {x : List Str} (h : wss.drop k = x :: l) : wss[k]? = some x := by
  have e : (wss.drop k)[0]? = wss[k]? := by rw [List.getElem?_drop, Nat.add_zero]
  rw [← e, h]
  rfl
theorem drop_more {wss a l : List (List Str)} {k : Nat} (h : wss.drop k = a ++ l) : wss.drop (k + a.length) = l := by
  rw [← List.drop_drop, h, List.drop_left]
/-- what begins so is no line of names -/
def NoHd (wd : Str) (l : List (List Str)) : Prop := ∀ x r t, l = (x :: r) :: t → x ≠ wd
theorem hd_none {wd : Str} {l : List (List Str)} (h : NoHd wd l) : hdN l wd = [] := by
  unfold hdN
  cases l with
  | nil => rfl
  | cons x t =>
    cases x with
    | nil => rfl
    | cons y r => exact if_neg (h y r t rfl)
theorem hd_line {wd : Str} {n : List Str} {l : List (List Str)} (h : NoHd wd l) : hdN (lineIf wd n ++ l) wd = n := by
  unfold lineIf
  cases n with
  | nil => exact hd_none h
  | cons x r => exact if_pos rfl
theorem line_len1 (wd : Str) (n : List Str) : (lineIf wd n).length = if n.isEmpty then 0 else 1 := by
  unfold lineIf
  cases n <;> rfl
theorem so_no {wd : Str} (h : wd ∉ SORTS) : ∀ {rs : List (Str × List Str)} {rest : List (List Str)}, (∀ r ∈ rs, r.1 ∈ SORTS) → StopW rest → wd ≠ "service" → wd ≠ "root" → NoHd wd (rs.map (fun r => r.1 :: r.2) ++ rest)
  | [], rest, _, st, n1, n2 => fun x r t e z => by
    have q := st x r t e
    rw [z] at q
    rcases q with q | q
    · exact n1 q
    · exact n2 q
  | r0 :: rs, rest, g, _, _, _ => fun x r t e z => by
    rw [List.map_cons, List.cons_append] at e
    injection e with e _
    injection e with e _
    exact h (by rw [← z, ← e]; exact g r0 List.mem_cons_self)
theorem cut_from {xs : List V} {i : Nat} (h : i ≤ xs.length) : cutV xs (some (i : Int)) none = xs.drop i := by
  unfold cutV
  rw [HT.sIx_nat, HT.sIx_none, Nat.min_eq_left h]
  exact List.take_of_length_le (by rw [List.length_drop]; omega)
theorem cut_btw {xs : List V} {i j : Nat} (h : i ≤ xs.length) (h2 : j ≤ xs.length) : cutV xs (some (i : Int)) (some (j : Int)) = (xs.drop i).take (j - i) := by
  unfold cutV
  rw [HT.sIx_nat, HT.sIx_nat, Nat.min_eq_left h, Nat.min_eq_left h2]
/-- what is read of a service: its words at pt -/
structure PartAt {w : World} {K : PySem.W.Frag} {mg : Str → Option Value} (T : TxSvc w K mg) (H0 H : Hp) (pt : Addr) (v : SvW) : Prop where
  ex : ∃ (kl wl ll rl : Addr) (xs : List V), H pt = some (.tup [.str v.nm, .ref kl, .ref wl, .ref ll, .ref rl]) ∧ H kl = some (.lst (v.kinds.map V.str)) ∧ H wl = some (.lst (v.waits.map V.str)) ∧ H ll = some (.lst (v.leaves.map V.str)) ∧ H rl = some (.lst xs) ∧ Paired (RwAt T H) xs v.rows ∧ H0 kl = none ∧ H0 wl = none ∧ H0 ll = none ∧ H0 rl = none
theorem PartAt.same {w : World} {K : PySem.W.Frag} {mg : Str → Option Value} {T : TxSvc w K mg} {H0 H H' : Hp} {pt : Addr} {v : SvW} (h : PartAt T H0 H pt v) (e : Same H H') : PartAt T H0 H' pt v := by
  obtain ⟨kl, wl, ll, rl, xs, h1, h2, h3, h4, h5, h6, h7⟩ := h.ex
  exact ⟨kl, wl, ll, rl, xs, e _ _ h1, e _ _ h2, e _ _ h3, e _ _ h4, e _ _ h5, paired_imp (fun _ _ z => z.same e) h6, h7⟩
theorem PartAt.base {w : World} {K : PySem.W.Frag} {mg : Str → Option Value} {T : TxSvc w K mg} {H0 H1 H : Hp} {pt : Addr} {v : SvW} (h : PartAt T H0 H pt v) (e : ∀ a, H0 a = none → H1 a = none) : PartAt T H1 H pt v := by
  obtain ⟨kl, wl, ll, rl, xs, h1, h2, h3, h4, h5, h6, f1, f2, f3, f4⟩ := h.ex
  exact ⟨kl, wl, ll, rl, xs, h1, h2, h3, h4, h5, h6, e _ f1, e _ f2, e _ f3, e _ f4⟩
theorem PartAt.put {w : World} {K : PySem.W.Frag} {mg : Str → Option Value} {T : TxSvc w K mg} {H0 H : Hp} {pt sl : Addr} {v : SvW} {xs ys l0 : List V} (h : PartAt T H0 H pt v) (h0 : H0 sl = some (.lst l0)) (h1 : H sl = some (.lst xs)) : PartAt T H0 (upd H sl (.lst ys)) pt v := by
  obtain ⟨kl, wl, ll, rl, zs, g1, g2, g3, g4, g5, g6, f1, f2, f3, f4⟩ := h.ex
  have ne : ∀ {a}, H0 a = none → a ≠ sl := fun e z => by rw [z, h0] at e; cases e
  refine ⟨kl, wl, ll, rl, zs, ?_, ?_, ?_, ?_, ?_, paired_imp (fun _ _ z => RwAt.keep z fun b C dx fs e => ?_) g6, f1, f2, f3, f4⟩
  · rw [upd_ne (fun z => by rw [z, h1] at g1; cases g1)]; exact g1
  · rw [upd_ne (ne f1)]; exact g2
  · rw [upd_ne (ne f2)]; exact g3
  · rw [upd_ne (ne f3)]; exact g4
  · rw [upd_ne (ne f4)]; exact g5
  · rw [upd_ne (fun z => by rw [z, h1] at e; cases e)]; exact e
theorem line_here {wss l : List (List Str)} {k : Nat} {wd : Str} {n r : List Str} (d : wss.drop k = lineIf wd n ++ l) (no : NoHd wd l) (h : wss[k]? = some (wd :: r)) : r = n ∧ n ≠ [] := by
  have e : (wss.drop k)[0]? = wss[k]? := by rw [List.getElem?_drop, Nat.add_zero]
  rw [← e, d] at h
  unfold lineIf at h
  cases n with
  | nil =>
    cases l with
    | nil => cases h
    | cons x t =>
      injection h with h
      exact absurd rfl (no wd r t (by rw [h]))
  | cons x m =>
    injection h with h
    injection h with _ h
    exact ⟨h.symm, fun z => by cases z⟩
def spReadSvc {w : World} {K : PySem.W.Frag} {mg : Str → Option Value} (T : TxSvc w K mg) : Sp := fun vs H Q _ => ∃ (a : Addr) (wss : List (List Str)) (k : Nat) (v : SvW) (rest : List (List Str)), vs = [.ref a, .int (k : Int)] ∧ LinesAt H a wss ∧ v.good ∧ wss.drop k = svcW v ++ rest ∧ StopW rest ∧
  ∀ t pt H', Same H H' → H t = none → H' t = some (.tup [.ref pt, .int ((k + (svcW v).length : Nat) : Int)]) → PartAt T H H' pt v → Q (.ref t) H'
def spReadRoots : Sp := fun vs H Q _ => ∃ (a : Addr) (wss : List (List Str)) (k : Nat) (roots : List Str), vs = [.ref a, .int (k : Int)] ∧ LinesAt H a wss ∧ wss.drop k = roots.map (fun r => [("root" : Str), r]) ∧ (∀ y ∈ roots, isNm y = true) ∧
  ∀ q H', Same H H' → H q = none → H' q = some (.lst (roots.map V.str)) → Q (.ref q) H'
section
variable {P : Program} {w : World} {K : PySem.W.Frag} {mg : Str → Option Value} {base : Heap}
theorem ok_read_roots (T : TxRead1 w K mg) : FnOk P w K mg base CX0 2 T.f_read_roots T.d_read_roots P_read_roots spReadRoots := by
  have G_is_name := ok_is_name (P := P) (w := w) (base := base) T.toTxCheck
  refine T.F_read_roots.ok sc_read_roots (fun vs H Q E h => ?_) (fun cdv A outer s H vs Q E hr h => ?_)
  · obtain ⟨a, wss, k, roots, rfl, _⟩ := h
    rfl
  obtain ⟨a, wss, k, roots, rfl, L, hd, nm, q⟩ := h
  refine ⟨_, (pss_cons (ps_set (i := 2) sc_read_roots.nd rfl (Or.inl rfl) (pe_lst pa_nil))
      (pss_cons (ps_while PassesOwn.never (pt_cmpR op_lt (pv 1) (pe_callB (call_lenK K) (by rfl) T.z_len (by decide +kernel) (pa_cons (pv 0) pa_nil)) (nomark _)) (pss_cons (ps_set (i := 3) sc_read_roots.nd rfl (Or.inl rfl) (pe_ix (ix_listK K) (pv 0) (pv 1) (fun _ _ => rfl)))
      (pss_cons (ps_if (PW.pt (pw_or (pt_cmpR op_ne (pe_callB (call_lenK K) (by rfl) T.z_len (by decide +kernel) (pa_cons (pv 3) pa_nil)) pe_int (nomark _)) (pw_or (pt_cmpR op_ne (pe_ix (ix_listK K) (pv 3) pe_int (fun _ _ => rfl)) pe_str (nomark _)) (pw_or1 (pt_not (pt_val (pe_call G_is_name (hr.mono (by decide)) (by rfl) T.m_is_name T.F_is_name.kp T.b_is_name .nil pass0 (pa_cons (pe_ix (ix_listK K) (pv 3) pe_int (fun _ _ => rfl)) pa_nil)))))))) (pss_one ps_never) pss_nil)
      (pss_cons (ps_expr (pe_bm PySem.F.plainAttrs_list PySem.F.slot_list_append PySem.F.type_list_append mt_append (pv 2) (pa_cons (pe_ix (ix_listK K) (pv 3) pe_int (fun _ _ => rfl)) pa_nil)))
      (pss_one (ps_aug (i := 1) sc_read_roots.nd rfl (Or.inl rfl) pe_int iop_add))))))
      (pss_one (ps_ret (pv 2))))), ?_⟩
  refine ⟨Nat.zero_le _, fun ro hro => ?_⟩
  have len : wss.length - k = roots.length := by
    have e := congrArg List.length hd
    rw [List.length_drop, List.length_map] at e
    exact e
  have few := L.few
  refine while_by (fun σ H' => ∃ (j : Nat) (u : Option V), j ≤ roots.length ∧ σ = [some (.ref a), some (.int ((k + j : Nat) : Int)), some (.ref ro), u] ∧ Same H H' ∧ H' ro = some (.lst ((roots.take j).map V.str)))
    (fun σ H' => match H' ro with | some (.lst xs) => roots.length - xs.length | _ => 0) ⟨0, none, Nat.zero_le _, rfl, same_upd hro _, upd_same⟩ ?_ ?_
  · rintro σ H1 ⟨j, u, hj, rfl, s1, hr1⟩
    have L1 := L.same s1
    obtain ⟨xs, hxs, lxs⟩ := L1.list
    refine ⟨_, rfl, _, rfl, a, xs, rfl, .inl (SqL.of hxs), _, _, rfl, rfl, _, rfl, ?_⟩
    by_cases c : j < roots.length
    · rw [show decide (((k + j : Nat) : Int) < (xs.length : Int)) = true from decide_eq_true (by omega)]
      refine iteT ?_
      obtain ⟨y, hy⟩ : ∃ y, roots[j]? = some y := ⟨_, List.getElem?_eq_getElem c⟩
      have hw : wss[k + j]? = some [("root" : Str), y] := by
        have e : (wss.drop k)[j]? = wss[k + j]? := List.getElem?_drop
        rw [← e, hd, List.getElem?_map, hy]
        rfl
      have yn := nm y (List.mem_of_getElem? hy)
      obtain ⟨xs2, r, h1, _, h3, h4⟩ := L1.at_ hw
      refine ⟨_, rfl, _, rfl, a, xs2, _, _, rfl, rfl, SqL.of h1, atI_nat h3, ?_⟩
      refine ⟨_, rfl, r, _, rfl, .inl (SqL.of h4), rfl, _, rfl, ?_⟩
      refine iteF ?_
      refine ⟨_, rfl, r, _, _, _, rfl, rfl, SqL.of h4, atI_nat (j := 0) rfl, rfl, _, rfl, ?_⟩
      refine iteF ?_
      refine ⟨_, rfl, r, _, _, _, rfl, rfl, SqL.of h4, atI_nat (j := 1) rfl, .str y, rfl, .str y (by have := (isNm_len yn).2; omega), fun H2 s2 => ⟨_, rfl, ?_⟩⟩
      rw [show nmV (.str y) = true from yn]
      refine iteF ?_
      have hr2 := s2 _ _ hr1
      refine ⟨_, rfl, .inl ⟨rfl, _, SqL.of hr2⟩, _, rfl, r, _, _, _, rfl, rfl, SqL.of (s2 _ _ h4), atI_nat (j := 1) rfl, ro, _, _, rfl, rfl, hr2, small1000 (by rw [List.length_map, List.length_take]; omega), ?_⟩
      refine ⟨_, rfl, _, _, rfl, rfl, ?_⟩
      have e1 : ((k + j : Nat) : Int) + 1 = ((k + (j + 1) : Nat) : Int) := by omega
      have hr3 : upd H2 ro (.lst ((roots.take j).map V.str ++ [.str y])) ro = some (.lst ((roots.take (j + 1)).map V.str)) := by
        rw [upd_same, List.take_add_one, hy, List.map_append]
        rfl
      refine ⟨⟨j + 1, some (.ref r), c, congrArg (fun z : Int => [some (V.ref a), some (V.int z), some (V.ref ro), some (V.ref r)]) e1, fun b o e => ?_, hr3⟩, ?_⟩
      · rw [upd_ne (ne_of_none e hro)]
        exact s2 _ _ (s1 _ _ e)
      · rw [hr3, hr1]
        simp only [List.length_map, List.length_take]
        omega
    · rw [show decide (((k + j : Nat) : Int) < (xs.length : Int)) = false from decide_eq_false (by omega)]
      refine iteF ?_
      have ej : j = roots.length := by omega
      subst ej
      rw [List.take_length] at hr1
      exact ⟨_, rfl, q ro H1 s1 hro hr1⟩
  · rintro σ H1 Q1 Q2 imp ⟨x1, e1, x0, e0, p, ys, e2, e3, i, j, e4, e5, b, e6, h⟩
    exact ⟨x1, e1, x0, e0, p, ys, e2, e3, i, j, e4, e5, b, e6, imp _ _ h⟩
theorem ok_read_service (T : TxRead1 w K mg) : FnOk P w K mg base CX0 7 T.f_read_service T.d_read_service P_read_service (spReadSvc T.toTxSvc) := by
  have G_are_names := ok_are_names (P := P) (w := w) (base := base) T.toTxSeq
  have G_are_some_names := ok_are_some_names (P := P) (w := w) (base := base) T.toTxSeq
  have G_read_names := ok_read_names (P := P) (w := w) (base := base) T.toTxRead0
  have G_read_row := ok_read_row (P := P) (w := w) (base := base) T.toTxRead0
  refine T.F_read_service.ok sc_read_service (fun vs H Q E h => ?_) (fun cdv A outer s H vs Q E hr h => ?_)
  · obtain ⟨a, wss, k, v, rest, rfl, _⟩ := h
    rfl
  obtain ⟨a, wss, k, v, rest, rfl, L, g, hd, st, q⟩ := h
  refine ⟨_, (pss_cons (ps_set (i := 2) sc_read_service.nd rfl (Or.inl rfl) (pe_ix (ix_listK K) (pv 0) (pv 1) (fun _ _ => rfl)))
      (pss_cons (ps_if (PW.pt (pw_or (pt_cmpR op_ne (pe_ix (ix_listK K) (pv 2) pe_int (fun _ _ => rfl)) pe_str (nomark _)) (pw_or (pt_not (pt_val (pe_call G_are_names (hr.mono (by decide)) (by rfl) T.m_are_names T.F_are_names.kp T.b_are_names .nil pass0 (pa_cons (pe_slice (sl_listK K) (pv 2) (po_some pe_int) (po_some pe_int)) pa_nil)))) (pw_or1 (pt_not (pt_val (pe_call G_are_some_names (hr.mono (by decide)) (by rfl) T.m_are_some_names T.F_are_some_names.kp T.b_are_some_names .nil pass0 (pa_cons (pe_slice (sl_listK K) (pv 2) (po_some pe_int) po_none) pa_nil)))))))) (pss_one ps_never) pss_nil)
      (pss_cons (ps_aug (i := 1) sc_read_service.nd rfl (Or.inl rfl) pe_int iop_add)
      (pss_cons (ps_set (i := 3) sc_read_service.nd rfl (Or.inl rfl) (pe_call G_read_names (hr.mono (by decide)) (by rfl) T.m_read_names T.F_read_names.kp T.b_read_names .nil pass0 (pa_cons (pv 0) (pa_cons (pv 1) (pa_cons pe_str pa_nil)))))
      (Evl.pss_cut (ps_if (pt_truth (pv 3) (by intro _; rfl)) (pss_one (ps_aug (i := 1) sc_read_service.nd rfl (Or.inl rfl) pe_int iop_add)) pss_nil)
      (pss_cons (ps_set (i := 4) sc_read_service.nd rfl (Or.inl rfl) (pe_call G_read_names (hr.mono (by decide)) (by rfl) T.m_read_names T.F_read_names.kp T.b_read_names .nil pass0 (pa_cons (pv 0) (pa_cons (pv 1) (pa_cons pe_str pa_nil)))))
      (Evl.pss_cut (ps_if (pt_truth (pv 4) (by intro _; rfl)) (pss_one (ps_aug (i := 1) sc_read_service.nd rfl (Or.inl rfl) pe_int iop_add)) pss_nil)
      (pss_cons (ps_set (i := 5) sc_read_service.nd rfl (Or.inl rfl) (pe_lst pa_nil))
      (pss_cons (ps_while PassesOwn.never (PW.pt (pw_and (pt_cmpR op_lt (pv 1) (pe_callB (call_lenK K) (by rfl) T.z_len (by decide +kernel) (pa_cons (pv 0) pa_nil)) (nomark _)) (pw_and1 (pt_cmpR (op_notInK K) (pe_ix (ix_listK K) (pe_ix (ix_listK K) (pv 0) (pv 1) (fun _ _ => rfl)) pe_int (fun _ _ => rfl)) (pe_tup (pa_cons pe_str (pa_cons pe_str pa_nil))) (by rfl))))) (pss_cons (ps_expr (pe_bm PySem.F.plainAttrs_list PySem.F.slot_list_append PySem.F.type_list_append mt_append (pv 5) (pa_cons (pe_call G_read_row (hr.mono (by decide)) (by rfl) T.m_read_row T.F_read_row.kp T.b_read_row .nil pass0 (pa_cons (pv 0) (pa_cons (pv 1) pa_nil))) pa_nil)))
      (pss_one (ps_aug (i := 1) sc_read_service.nd rfl (Or.inl rfl) pe_int iop_add))))
      (pss_one (ps_ret (pe_tup (pa_cons (pe_tup (pa_cons (pe_ix (ix_listK K) (pv 2) pe_int (fun _ _ => rfl)) (pa_cons (pe_slice (sl_listK K) (pv 2) (po_some pe_int) po_none) (pa_cons (pv 3) (pa_cons (pv 4) (pa_cons (pv 5) pa_nil)))))) (pa_cons (pv 1) pa_nil)))))))))))))), ?_⟩
  have wN : ("waits" : Str) ∉ SORTS := by decide +kernel
  have lN : ("leaves" : Str) ∉ SORTS := by decide +kernel
  have soR : ∀ r ∈ v.rows, r.1 ∈ SORTS := fun r hr => (g.good r hr).so
  have noL : NoHd "leaves" (rowsW v ++ rest) := so_no lN soR st (by decide) (by decide)
  have noW : NoHd "waits" (lineIf "leaves" v.leaves ++ (rowsW v ++ rest)) := by
    unfold lineIf
    cases v.leaves with
    | nil => exact so_no wN soR st (by decide) (by decide)
    | cons x m =>
      intro x' r t e z
      injection e with e _
      injection e with e _
      rw [z] at e
      exact absurd e (by decide)
  have d0 : wss.drop k = (("service" : Str) :: v.nm :: v.kinds) :: (lineIf "waits" v.waits ++ (lineIf "leaves" v.leaves ++ (rowsW v ++ rest))) := by
    rw [hd]
    unfold svcW
    simp only [List.cons_append, List.append_assoc]
  have d1 : wss.drop (k + 1) = lineIf "waits" v.waits ++ (lineIf "leaves" v.leaves ++ (rowsW v ++ rest)) := drop_more (a := [("service" : Str) :: v.nm :: v.kinds]) d0
  have d2 := drop_more d1
  have d3 := drop_more d2
  have n1 := line_len1 "waits" v.waits
  have n2 := line_len1 "leaves" v.leaves
  have nW : namesAt wss (k + 1) "waits" = v.waits := by rw [namesAt_drop, d1]; exact hd_line noW
  have nL : namesAt wss (k + 1 + (lineIf "waits" v.waits).length) "leaves" = v.leaves := by rw [namesAt_drop, d2]; exact hd_line noL
  have hh := at_drop d0
  obtain ⟨xs, ra, h1, _, h3, h4⟩ := L.at_ hh
  refine ⟨_, rfl, _, rfl, a, xs, _, _, rfl, rfl, SqL.of h1, atI_nat h3, ?_⟩
  refine ⟨_, rfl, ra, _, _, _, rfl, rfl, SqL.of h4, atI_nat (j := 0) rfl, rfl, _, rfl, ?_⟩
  refine iteF ?_
  refine ⟨_, rfl, 1, rfl, 2, rfl, ra, _, rfl, SqL.of h4, fun p1 hp1 => ?_⟩
  have s1 := same_upd hp1 (.lst (cutV ((("service" : Str) :: v.nm :: v.kinds).map V.str) (some 1) (some 2)))
  have c1 : cutV ((("service" : Str) :: v.nm :: v.kinds).map V.str) (some 1) (some 2) = [v.nm].map V.str := cut_btw (i := 1) (j := 2) (by simp) (by simp)
  have c2 : cutV ((("service" : Str) :: v.nm :: v.kinds).map V.str) (some 2) none = v.kinds.map V.str := cut_from (i := 2) (by simp)
  have nm1 := NamesV.seq (K := K) (H := upd H p1 (.lst (cutV ((("service" : Str) :: v.nm :: v.kinds).map V.str) (some 1) (some 2)))) (a := p1) (xs := [v.nm].map V.str) (.inl (SqL.of (by rw [upd_same, c1]))) (fun x hx => by
    have e : x = .str v.nm := List.mem_singleton.mp hx
    rw [e]
    exact .str v.nm (by have := (isNm_len g.nm).2; omega)) (by simp)
  rw [namesB_strs (l := [v.nm]) (fun y hy => by rw [List.mem_singleton.mp hy]; exact g.nm) (by simp)] at nm1
  refine ⟨.ref p1, _, rfl, nm1, fun H2 s2 => ⟨_, rfl, ?_⟩⟩
  have t2 := s1.trans s2
  refine iteF ?_
  refine ⟨_, rfl, 2, rfl, ra, _, rfl, SqL.of (t2 _ _ h4), fun p2 hp2 => ?_⟩
  rw [c2]
  have t3 := t2.trans (same_upd hp2 (.lst (v.kinds.map V.str)))
  refine ⟨.ref p2, true, rfl, some_strs (.inl (SqL.of upd_same)) g.hk g.kn g.k0 (by have := g.kl; omega), fun H3 s3 => ⟨_, rfl, ?_⟩⟩
  have t4 := t3.trans s3
  refine iteF ?_
  refine ⟨_, rfl, _, _, rfl, rfl, ?_⟩
  have k1 : (k : Int) + 1 = ((k + 1 : Nat) : Int) := rfl
  have L4 := L.same t4
  refine ⟨_, rfl, _, rfl, a, wss, k + 1, "waits", congrArg (fun z : Int => [V.ref a, V.int z, V.str "waits"]) k1, L4, fun r e => ?_, fun wl H4 s4 fwl hwl => ?_⟩
  · obtain ⟨er, ne⟩ := line_here d1 noW e
    subst er
    exact ⟨ne, g.hw, g.wn, by have := g.wl; omega⟩
  rw [nW] at hwl
  have t5 := t4.trans s4
  have L5 := L4.same s4
  refine ⟨fun σ H' => σ = [some (.ref a), some (.int ((k + 1 + (lineIf "waits" v.waits).length : Nat) : Int)), some (.ref ra), some (.ref wl), none, none] ∧ H' = H4, ?_, ?_⟩
  · refine ⟨_, rfl, _, .inl ⟨_, SqL.of hwl, rfl⟩, ?_⟩
    refine ite2 (fun c => ?_) (fun c => ?_)
    · have em : v.waits.isEmpty = false := by
        have c' : (!(v.waits.map V.str).isEmpty) = true := c
        rw [List.isEmpty_map] at c'
        simpa using c'
      rw [em] at n1
      refine ⟨_, rfl, _, _, rfl, rfl, ?_, rfl⟩
      exact congrArg (fun z : Int => [some (V.ref a), some (V.int z), some (V.ref ra), some (V.ref wl), none, none]) (by rw [n1]; rfl)
    · have em : v.waits.isEmpty = true := by
        have c' : ¬ (!(v.waits.map V.str).isEmpty) = true := c
        rw [List.isEmpty_map] at c'
        simpa using c'
      rw [em] at n1
      refine ⟨?_, rfl⟩
      exact congrArg (fun z : Int => [some (V.ref a), some (V.int z), some (V.ref ra), some (V.ref wl), none, none]) (by rw [n1]; rfl)
  rintro σ H6 ⟨rfl, e6⟩
  rw [e6]
  clear e6 H6
  refine ⟨_, rfl, _, rfl, a, wss, k + 1 + (lineIf "waits" v.waits).length, "leaves", rfl, L5, fun r e => ?_, fun ll H5 s5 fll hll => ?_⟩
  · obtain ⟨er, ne⟩ := line_here d2 noL e
    subst er
    exact ⟨ne, g.hl, g.ln, by have := g.ll; omega⟩
  rw [nL] at hll
  have t6 := t5.trans s5
  have L6 := L5.same s5
  have hwl5 := s5 _ _ hwl
  refine ⟨fun σ H' => σ = [some (.ref a), some (.int ((k + 1 + (lineIf "waits" v.waits).length + (lineIf "leaves" v.leaves).length : Nat) : Int)), some (.ref ra), some (.ref wl), some (.ref ll), none] ∧ H' = H5, ?_, ?_⟩
  · refine ⟨_, rfl, _, .inl ⟨_, SqL.of hll, rfl⟩, ?_⟩
    refine ite2 (fun c => ?_) (fun c => ?_)
    · have em : v.leaves.isEmpty = false := by
        have c' : (!(v.leaves.map V.str).isEmpty) = true := c
        rw [List.isEmpty_map] at c'
        simpa using c'
      rw [em] at n2
      refine ⟨_, rfl, _, _, rfl, rfl, ?_, rfl⟩
      exact congrArg (fun z : Int => [some (V.ref a), some (V.int z), some (V.ref ra), some (V.ref wl), some (V.ref ll), none]) (by rw [n2]; rfl)
    · have em : v.leaves.isEmpty = true := by
        have c' : ¬ (!(v.leaves.map V.str).isEmpty) = true := c
        rw [List.isEmpty_map] at c'
        simpa using c'
      rw [em] at n2
      refine ⟨?_, rfl⟩
      exact congrArg (fun z : Int => [some (V.ref a), some (V.int z), some (V.ref ra), some (V.ref wl), some (V.ref ll), none]) (by rw [n2]; rfl)
  rintro σ H6 ⟨rfl, e6⟩
  rw [e6]
  clear e6 H6
  generalize hm : k + 1 + (lineIf "waits" v.waits).length + (lineIf "leaves" v.leaves).length = m at d3
  refine ⟨Nat.zero_le _, fun ro hro => ?_⟩
  have few := L.few
  have rl := g.rl
  refine while_by (fun σ H' => ∃ j : Nat, j ≤ v.rows.length ∧ σ = [some (.ref a), some (.int ((m + j : Nat) : Int)), some (.ref ra), some (.ref wl), some (.ref ll), some (.ref ro)] ∧ Same H5 H' ∧ ∃ xs : List V, H' ro = some (.lst xs) ∧ xs.length = j ∧ Paired (RwAt T.toTxSvc H') xs (v.rows.take j))
    (fun σ H' => match H' ro with | some (.lst xs) => v.rows.length - xs.length | _ => 0) ⟨0, Nat.zero_le _, rfl, same_upd hro _, [], upd_same, rfl, .nil⟩ ?_ ?_
  · rintro σ H1 ⟨j, hj, rfl, s1, xs, hr1, lx, prx⟩
    have L1 := L6.same s1
    obtain ⟨ys, hys, lys⟩ := L1.list
    refine ⟨_, rfl, _, rfl, a, ys, rfl, .inl (SqL.of hys), _, _, rfl, rfl, _, rfl, ?_⟩
    have len : wss.length - m = v.rows.length + rest.length := by
      have e := congrArg List.length d3
      rw [List.length_drop, List.length_append, rowsW, List.length_map] at e
      exact e
    have out : ∀ H', j = v.rows.length → Same H1 H' → tTup (tCons (tTup (tCons (tOp (rIxL K) (tVar 2) (tC (V.int 1))) (tCons (tSl (rSlL K) (tVar 2) (tPart (tC (V.int 2))) tNoPart) (tCons (tVar 3) (tCons (tVar 4) (tCons (tVar 5) tNil)))))) (tCons (tVar 1) tNil)) [some (.ref a), some (.int ((m + j : Nat) : Int)), some (.ref ra), some (.ref wl), some (.ref ll), some (.ref ro)] H' Q := by
      intro H' ej s'
      have t8 := (t6.trans s1).trans s'
      have t9 := s1.trans s'
      refine ⟨_, rfl, ra, _, _, _, rfl, rfl, SqL.of (t8 _ _ h4), atI_nat (j := 1) rfl, ?_⟩
      refine ⟨_, rfl, 2, rfl, ra, _, rfl, SqL.of (t8 _ _ h4), fun p3 hp3 => ?_⟩
      rw [c2]
      refine ⟨_, rfl, _, rfl, _, rfl, by show 5 ≤ sizeLine; decide, fun pt hpt => ?_⟩
      refine ⟨_, rfl, by show 2 ≤ sizeLine; decide, fun t ht => ?_⟩
      have u1 := same_upd hp3 (.lst (v.kinds.map V.str))
      have u2 := same_upd hpt (.tup [.str v.nm, .ref p3, .ref wl, .ref ll, .ref ro])
      have u3 := same_upd ht (.tup [.ref pt, .int ((m + j : Nat) : Int)])
      have u12 := u1.trans u2
      have u13 := u12.trans u3
      have ln : m + j = k + (svcW v).length := by
        unfold svcW rowsW
        simp only [List.length_cons, List.length_append, List.length_map]
        omega
      refine q t pt _ (t8.trans u13) ((t8.trans u12).free ht) (by rw [upd_same, ln]) ⟨p3, wl, ll, ro, xs, u3 _ _ upd_same, u3 _ _ (u2 _ _ upd_same), u13 _ _ (t9 _ _ hwl5), u13 _ _ (t9 _ _ hll), u13 _ _ (s' _ _ hr1), ?_⟩
      have e : v.rows.take j = v.rows := by rw [ej, List.take_length]
      rw [e] at prx
      exact ⟨paired_imp (fun _ _ z => z.same (s'.trans u13)) prx, t8.free hp3, t4.free fwl, t5.free fll, t6.free hro⟩
    refine ite2 (fun c => ?_) (fun c => ?_)
    · have c' : ((m + j : Nat) : Int) < (ys.length : Int) := of_decide_eq_true c
      have hlt : m + j < wss.length := by omega
      obtain ⟨ws, hw⟩ : ∃ ws, wss[m + j]? = some ws := ⟨_, List.getElem?_eq_getElem hlt⟩
      obtain ⟨xs2, r, h5, _, h6, h7⟩ := L1.at_ hw
      have nw := L.ne ws (List.mem_of_getElem? hw)
      have hw2 : (rowsW v ++ rest)[j]? = some ws := by
        rw [← d3, List.getElem?_drop]
        exact hw
      match ws, nw with
      | x :: ws, _ =>
      refine ⟨_, rfl, _, rfl, a, xs2, _, _, rfl, rfl, SqL.of h5, atI_nat h6, r, _, _, _, rfl, rfl, SqL.of h7, atI_nat (j := 0) rfl, ?_⟩
      refine ⟨by show 2 ≤ sizeLine; decide, fun t4 ht4 => ⟨t4, _, rfl, .inr (SqT.of upd_same), rfl, by decide +kernel, _, rfl, ?_⟩⟩
      have s9 := same_upd ht4 (.tup [.str "service", .str "root"])
      have inw : inV (.str x) [.str "service", .str "root"] = (["service", "root"] : List Str).contains x := inV_strs x ["service", "root"]
      by_cases cj : j < v.rows.length
      · obtain ⟨rw_, hrw⟩ : ∃ r, v.rows[j]? = some r := ⟨_, List.getElem?_eq_getElem cj⟩
        have e : (rowsW v)[j]? = some (rw_.1 :: rw_.2) := by
          unfold rowsW
          rw [List.getElem?_map, hrw]
          rfl
        rw [List.getElem?_append_left (by unfold rowsW; rw [List.length_map]; exact cj), e] at hw2
        injection hw2 with hw2
        injection hw2 with ex ew
        subst ex
        subst ew
        have mem := List.mem_of_getElem? hrw
        have so := soR rw_ mem
        have nin : (["service", "root"] : List Str).contains rw_.1 = false := (by decide +kernel : ∀ s ∈ SORTS, (["service", "root"] : List Str).contains s = false) rw_.1 so
        rw [inw, nin]
        refine iteT ?_
        have hr2 := s9 _ _ hr1
        refine ⟨_, rfl, .inl ⟨rfl, _, SqL.of hr2⟩, _, rfl, _, rfl, a, wss, m + j, rw_.1, rw_.2, rfl, L1.same s9, hw, g.good rw_ mem, fun pr H3 s3 _ hpr => ?_⟩
        have hr3 := s3 _ _ hr2
        have s10 := s9.trans s3
        refine ⟨ro, _, _, rfl, rfl, hr3, small1000 (by omega), ?_⟩
        refine ⟨_, rfl, _, _, rfl, rfl, ?_⟩
        have e1 : ((m + j : Nat) : Int) + 1 = ((m + (j + 1) : Nat) : Int) := by omega
        have kj : ∀ (b : Addr) (C dx : Addr) (fs : List (Str × V)), H3 b = some (.ins C dx fs) → upd H3 ro (.lst (xs ++ [.ref pr])) b = some (.ins C dx fs) := fun b C dx fs e => by
          rw [upd_ne (fun z => by rw [z, hr3] at e; cases e)]
          exact e
        refine ⟨⟨j + 1, cj, congrArg (fun z : Int => [some (V.ref a), some (V.int z), some (V.ref ra), some (V.ref wl), some (V.ref ll), some (V.ref ro)]) e1, fun b o e => ?_, xs ++ [.ref pr], upd_same, ?_, ?_⟩, ?_⟩
        · rw [upd_ne (ne_of_none e hro)]
          exact s10 _ _ (s1 _ _ e)
        · rw [List.length_append, lx]
          rfl
        · rw [List.take_add_one, hrw]
          exact paired_snoc (paired_imp (fun _ _ z => RwAt.keep z fun b C dx fs e => kj _ _ _ _ (s10 _ _ e)) prx) (hpr.keep kj)
        · rw [upd_same, hr1]
          simp only [List.length_append, List.length_cons, List.length_nil]
          omega
      · have ej : j = v.rows.length := by omega
        have hx : x = "service" ∨ x = "root" := by
          rw [List.getElem?_append_right (by unfold rowsW; rw [List.length_map]; omega)] at hw2
          unfold rowsW at hw2
          rw [List.length_map, ej, Nat.sub_self] at hw2
          cases rest with
          | nil => cases hw2
          | cons y t =>
            injection hw2 with hw2
            exact st x ws t (by rw [hw2])
        have nin : (["service", "root"] : List Str).contains x = true := by
          rcases hx with rfl | rfl <;> decide +kernel
        rw [inw, nin]
        refine iteF ?_
        exact out _ ej s9
    · have c' : ¬ ((m + j : Nat) : Int) < (ys.length : Int) := fun z => c (decide_eq_true z)
      have ej : j = v.rows.length := by omega
      exact out _ ej (Same.refl _)
  · rintro σ H1 Q1 Q2 imp ⟨x1, e1, x0, e0, p, ys, e2, e3, i, j, e4, e5, b, e6, h⟩
    refine ⟨x1, e1, x0, e0, p, ys, e2, e3, i, j, e4, e5, b, e6, ?_⟩
    cases b with
    | false => exact imp _ _ h
    | true =>
      obtain ⟨x1, e1, x0, e0, p, ys, i, v, e2, e3, e4, e5, p2, ys2, i2, v2, e6, e7, e8, e9, le, f⟩ := h
      refine ⟨x1, e1, x0, e0, p, ys, i, v, e2, e3, e4, e5, p2, ys2, i2, v2, e6, e7, e8, e9, le, fun t ht => ?_⟩
      obtain ⟨p3, ys3, g1, g2, g3, g4, b, g5, g6⟩ := f t ht
      exact ⟨p3, ys3, g1, g2, g3, g4, b, g5, imp _ _ g6⟩
end
end My

/-! ## A book's text is its lines joined (as in bookof; no law's function) -/
namespace My
open PySem PySem.Spec PyProof.Rows L2
def bkL (vs : List SvW) (roots : List Str) : List Str := vs.flatMap (fun v => svLines v.d) ++ roots.map fun r => ("root " : Str) ++ r
theorem svl_len {v : SvW} (g : v.good) : (svLines v.d).length ≤ 33 := by
  have rl : v.d.rows.length ≤ 28 := g.rl
  have hh : (svHead v.d).length ≤ 3 := by
    unfold svHead
    cases v.d.waits.isEmpty <;> cases v.d.leaves.isEmpty <;> simp
  unfold svLines
  rw [List.length_append, List.length_map]
  omega
theorem flat_len {α : Type} {f : α → List Str} {m : Nat} : ∀ {l : List α}, (∀ v ∈ l, (f v).length ≤ m) → (l.flatMap f).length ≤ m * l.length
  | [], _ => Nat.zero_le _
  | x :: l, h => by
    have a := h x List.mem_cons_self
    have b := flat_len (f := f) (m := m) (l := l) fun y hy => h y (List.mem_cons_of_mem _ hy)
    rw [List.flatMap_cons, List.length_append, List.length_cons, Nat.mul_succ]
    omega
theorem join_cons' (sep x : Str) {l : List Str} (h : l ≠ []) : (Str.join sep (x :: l)).cps.toList = x.cps.toList ++ (sep.cps.toList ++ (Str.join sep l).cps.toList) := by
  match l, h with
  | y :: l, _ => exact join_cons2 sep x y l
theorem join_app (sep : Str) : ∀ {a b : List Str}, a ≠ [] → b ≠ [] → (Str.join sep (a ++ b)).cps.toList = (Str.join sep a).cps.toList ++ (sep.cps.toList ++ (Str.join sep b).cps.toList)
  | [], _, h, _ => absurd rfl h
  | [x], b, _, hb => join_cons' sep x hb
  | x :: y :: a, b, _, hb => by
    have ih := join_app sep (a := y :: a) (b := b) (by simp) hb
    rw [List.cons_append, join_cons' sep x (by simp), ih, join_cons' sep x (l := y :: a) (by simp)]
    simp only [List.append_assoc]
theorem join_flat (sep : Str) {β : Type} {f : β → List Str} : ∀ {l : List β} {b : List Str}, (∀ x ∈ l, f x ≠ []) → (Str.join sep (l.map (fun x => Str.join sep (f x)) ++ b)).cps.toList = (Str.join sep (l.flatMap f ++ b)).cps.toList
  | [], _, _ => rfl
  | x :: l, b, h => by
    have ih := join_flat sep (l := l) (b := b) fun y hy => h y (List.mem_cons_of_mem _ hy)
    have hx := h x List.mem_cons_self
    rw [List.map_cons, List.flatMap_cons, List.cons_append, List.append_assoc]
    have em : l.map (fun x => Str.join sep (f x)) ++ b = [] ↔ l.flatMap f ++ b = [] := by
      rw [List.append_eq_nil_iff, List.append_eq_nil_iff, List.map_eq_nil_iff]
      constructor
      · rintro ⟨rfl, e⟩
        exact ⟨rfl, e⟩
      · rintro ⟨e1, e2⟩
        refine ⟨?_, e2⟩
        cases l with
        | nil => rfl
        | cons y l =>
          rw [List.flatMap_cons] at e1
          exact absurd (List.append_eq_nil_iff.mp e1).1 (h y (List.mem_cons_of_mem _ List.mem_cons_self))
    by_cases e : l.map (fun x => Str.join sep (f x)) ++ b = []
    · rw [e, em.mp e, List.append_nil]
      rfl
    · rw [join_cons' sep _ e, join_app sep hx (fun z => e (em.mpr z)), ih]
theorem svl_ne (v : SvD) : svLines v ≠ [] := by
  unfold svLines svHead
  simp
theorem bk_txt (vs : List SvW) (roots : List Str) : bkTxt vs roots = Txt.join "\n" (bkL vs roots) := by
  unfold bkTxt bkL bkLines
  have e : ∀ v : SvW, svTxt v.d = Str.join "\n" (svLines v.d) := fun v => TL.join_eq _ _
  rw [TL.join_eq, TL.join_eq, show (fun v : SvW => svTxt v.d) = fun v => Str.join "\n" (svLines v.d) from funext e]
  exact str_toList (join_flat "\n" fun v _ => svl_ne v.d)
end My

/-! ## Reading: a book -/
namespace My
open PySem PySem.Spec PyProof.Rows L2
abbrev s_read_parts : Stmt := top 23
abbrev N_read_parts : List Str := ["text", "lines", "line", "services", "at", "service"]
abbrev P_read_parts : List Str := ["text"]
theorem sc_read_parts : FnScope N_read_parts P_read_parts (defScope s_read_parts) := ⟨rfl, rfl, rfl, by decide +kernel, rfl, by decide +kernel, by decide +kernel⟩
abbrev s_Book_read : Stmt := inClass (top 46) 1
abbrev N_Book_read : List Str := ["cls", "text", "parts", "roots", "services", "name", "kinds", "waits", "leaves", "rows"]
abbrev P_Book_read : List Str := ["cls", "text"]
theorem sc_Book_read : FnScope N_Book_read P_Book_read (defScope s_Book_read) := ⟨rfl, rfl, rfl, by decide +kernel, rfl, by decide +kernel, by decide +kernel⟩
structure TxRead (w : World) (K : PySem.W.Frag) (mg : Str → Option Value) extends TxRead1 w K mg, TxBook w K mg where
  f_read_parts : Addr
  d_read_parts : FuncData
  F_read_parts : Fun K "read_parts" "read_parts" s_read_parts f_read_parts d_read_parts
  m_read_parts : mg "read_parts" = some (.ref f_read_parts)
  b_read_parts : Binds K d_read_parts P_read_parts []
  f_Book_read : Addr
  d_Book_read : FuncData
  F_Book_read : Fun K "read" "Book.read" s_Book_read f_Book_read d_Book_read
  b_Book_read : Binds K d_Book_read P_Book_read []
def cleanB (y : Str) : Bool := y.cps.toList.all fun c => decide (c ≠ 32) && decide (c ≠ 10)
theorem clean_at {y : Str} (h : cleanB y = true) : 32 ∉ TL.tl y ∧ 10 ∉ TL.tl y := by
  have z := List.all_eq_true.mp h
  exact ⟨fun e => by have := z 32 e; revert this; decide, fun e => by have := z 10 e; revert this; decide⟩
theorem clean_nm {y : Str} (h : isNm y = true) : cleanB y = true := by
  unfold isNm at h
  have h5 := List.all_eq_true.mp (Bool.and_eq_true_iff.mp h).2
  exact List.all_eq_true.mpr fun c hc => (by decide +kernel : ∀ c ∈ ABC.cps.toList, (decide (c ≠ 32) && decide (c ≠ 10)) = true) c (of_decide_eq_true (h5 c hc))
theorem clean_row {r : Str × List Str} (g : GoodR r) : ∀ y ∈ r.1 :: r.2, cleanB y = true := fun y hy => by
  rcases List.mem_cons.mp hy with z | z
  · rw [z]
    exact (by decide +kernel : ∀ s ∈ SORTS, cleanB s = true) _ g.so
  · obtain ⟨x, hx, f⟩ := paired_mem g.fit z
    rcases f with f | f
    · exact List.all_eq_true.mp ((by decide +kernel : ∀ s ∈ SORTS, ∀ w ∈ wsOf s, w.2.all cleanB = true) _ g.so x hx) y f
    · exact clean_nm f.2.2
theorem mem_joinL {S : List Nat} {c : Nat} : ∀ {ps : List (List Nat)}, c ∈ TL.joinL S ps → c ∈ S ∨ ∃ p ∈ ps, c ∈ p
  | [], h => by cases h
  | [p], h => .inr ⟨p, List.mem_cons_self, h⟩
  | p :: q :: r, h => by
    rcases List.mem_append.mp h with h | h
    · exact .inr ⟨p, List.mem_cons_self, h⟩
    · rcases List.mem_append.mp h with h | h
      · exact .inl h
      · rcases mem_joinL h with h | ⟨x, hx, h⟩
        · exact .inl h
        · exact .inr ⟨x, List.mem_cons_of_mem _ hx, h⟩
/-- the lines of a book, by their words -/
def bkW (vs : List SvW) (roots : List Str) : List (List Str) := vs.flatMap svcW ++ roots.map fun r => [("root" : Str), r]
theorem svl_eq (v : SvW) : svLines v.d = (svcW v).map (Txt.join " ") := by
  unfold svLines svHead svcW rowsW lineIf rowTxt headTxt
  show (Txt.join " " ("service" :: v.nm :: v.kinds) :: ((if v.waits.isEmpty then [] else [Txt.join " " ("waits" :: v.waits)]) ++ (if v.leaves.isEmpty then [] else [Txt.join " " ("leaves" :: v.leaves)]))) ++ v.rows.map (fun r => Txt.join " " (r.1 :: r.2)) = _
  cases v.waits.isEmpty <;> cases v.leaves.isEmpty <;> simp [List.map_append, List.map_map, Function.comp_def]
theorem root_eq (r : Str) : ("root " : Str) ++ r = Txt.join " " [("root" : Str), r] := by
  have e : Txt.join " " [("root" : Str), r] = ("root" : Str) ++ " " ++ r := StrLaws.glued_cons " " [r] "root"
  rw [e]
  exact congrArg (· ++ r) (by decide +kernel)
theorem bkL_eq (vs : List SvW) (roots : List Str) : bkL vs roots = (bkW vs roots).map (Txt.join " ") := by
  unfold bkL bkW
  rw [List.map_append, List.map_map, List.map_flatMap]
  have e1 : vs.flatMap (fun v => svLines v.d) = vs.flatMap fun v => (svcW v).map (Txt.join " ") := congrArg (fun f => vs.flatMap f) (funext svl_eq)
  have e2 : (roots.map fun r => ("root " : Str) ++ r) = roots.map (Txt.join " " ∘ fun r => [("root" : Str), r]) := List.map_congr_left fun r _ => root_eq r
  rw [e1, e2]
theorem svcW_clean {v : SvW} (g : v.good) : ∀ ws ∈ svcW v, ws ≠ [] ∧ ∀ y ∈ ws, cleanB y = true := by
  have names : ∀ {wd : Str} {l : List Str}, cleanB wd = true → (∀ y ∈ l, isNm y = true) → ∀ ws ∈ lineIf wd l, ws ≠ [] ∧ ∀ y ∈ ws, cleanB y = true := fun hw hl ws h => by
    unfold lineIf at h
    split at h
    · cases h
    · rw [List.mem_singleton.mp h]
      exact ⟨List.cons_ne_nil _ _, fun y hy => by
        rcases List.mem_cons.mp hy with z | z
        · rw [z]; exact hw
        · exact clean_nm (hl y z)⟩
  intro ws h
  unfold svcW at h
  rcases List.mem_cons.mp h with h | h
  · rw [h]
    refine ⟨List.cons_ne_nil _ _, fun y hy => ?_⟩
    rcases List.mem_cons.mp hy with z | z
    · rw [z]; decide +kernel
    · rcases List.mem_cons.mp z with z | z
      · rw [z]; exact clean_nm g.nm
      · exact clean_nm (g.hk y z)
  · rcases List.mem_append.mp h with h | h
    · exact names (by decide +kernel) g.hw ws h
    · rcases List.mem_append.mp h with h | h
      · exact names (by decide +kernel) g.hl ws h
      · obtain ⟨r, hr, rfl⟩ := List.mem_map.mp h
        exact ⟨List.cons_ne_nil _ _, clean_row (g.good r hr)⟩
theorem bkW_clean {vs : List SvW} {roots : List Str} (W : BkWell vs roots) : ∀ ws ∈ bkW vs roots, ws ≠ [] ∧ ∀ y ∈ ws, cleanB y = true := fun ws h => by
  rcases List.mem_append.mp h with h | h
  · obtain ⟨v, hv, h⟩ := List.mem_flatMap.mp h
    exact svcW_clean (W.svc v hv) ws h
  · obtain ⟨r, hr, rfl⟩ := List.mem_map.mp h
    refine ⟨List.cons_ne_nil _ _, fun y hy => ?_⟩
    rcases List.mem_cons.mp hy with z | z
    · rw [z]; decide +kernel
    · rw [List.mem_singleton.mp z]; exact clean_nm (W.rn r hr)
theorem split_line {ws : List Str} (h : ws ≠ [] ∧ ∀ y ∈ ws, cleanB y = true) : Txt.split (Txt.join " " ws) " " = ws := TL.split_join (y := " ") (s := 32) (S := []) (by decide +kernel) (by decide +kernel) h.1 fun p hp => (clean_at (h.2 p hp)).1
theorem split_text {vs : List SvW} {roots : List Str} (W : BkWell vs roots) : Txt.split (bkTxt vs roots) "\n" = bkL vs roots := by
  rw [bk_txt]
  refine TL.split_join (y := "\n") (s := 10) (S := []) (by decide +kernel) (by decide +kernel) ?_ fun p hp => ?_
  · rw [bkL_eq]
    unfold bkW
    intro z
    have e := List.map_eq_nil_iff.mp z
    exact W.r0 (List.map_eq_nil_iff.mp (List.append_eq_nil_iff.mp e).2)
  · rw [bkL_eq] at hp
    obtain ⟨ws, hw, rfl⟩ := List.mem_map.mp hp
    obtain ⟨_, c⟩ := bkW_clean W ws hw
    rw [TL.join_eq, TL.tl_join]
    intro z
    rcases mem_joinL z with z | ⟨q, hq, z⟩
    · revert z; decide +kernel
    · obtain ⟨y, hy, rfl⟩ := List.mem_map.mp hq
      exact (clean_at (c y hy)).2 z
theorem bkW_few {vs : List SvW} {roots : List Str} (W : BkWell vs roots) : (bkW vs roots).length ≤ 900 := by
  have e := congrArg List.length (bkL_eq vs roots)
  rw [List.length_map] at e
  rw [← e]
  unfold bkL
  have l2 := flat_len (m := 33) (f := fun v => svLines v.d) (l := vs) fun v hv => svl_len (W.svc v hv)
  have few := W.few
  have rl := W.rl
  have l4 : 33 * vs.length ≤ 33 * 10 := Nat.mul_le_mul_left 33 few
  rw [List.length_append, List.length_map]
  omega
theorem txt_len {vs : List SvW} {roots : List Str} (W : BkWell vs roots) : (bkTxt vs roots).length ≤ 101000 := by
  have a := join_len "\n" (bkLines vs roots)
  have c : (Str.ofString "\n").length = 1 := by decide +kernel
  rw [c, Nat.mul_one] at a
  have r5 : (Str.ofString "root ").length = 5 := by decide +kernel
  have b := sum_le2 (f := Str.length) (m := 5000) (l := bkLines vs roots) fun x hx => by
    unfold bkLines at hx
    rcases List.mem_append.mp hx with h | h
    · obtain ⟨v, hv, rfl⟩ := List.mem_map.mp h
      exact SvW.len (W.svc v hv)
    · obtain ⟨r, hr, rfl⟩ := List.mem_map.mp h
      have := (isNm_len (W.rn r hr)).2
      rw [Str.length_append, r5]
      omega
  have few := W.few
  have rl := W.rl
  have n : (bkLines vs roots).length ≤ 20 := by
    unfold bkLines
    rw [List.length_append, List.length_map, List.length_map]
    omega
  have b' : (List.map (fun x => x.length) (bkLines vs roots)).sum ≤ 5000 * (bkLines vs roots).length := b
  have m : 5000 * (bkLines vs roots).length ≤ 5000 * 20 := Nat.mul_le_mul_left 5000 n
  unfold bkTxt
  omega
theorem le_joinL {S : List Nat} {p : List Nat} : ∀ {ps : List (List Nat)}, p ∈ ps → p.length ≤ (TL.joinL S ps).length
  | [_], h => by rw [List.mem_singleton.mp h]; exact Nat.le_refl _
  | x :: q :: r, h => by
    show p.length ≤ (x ++ (S ++ TL.joinL S (q :: r))).length
    rw [List.length_append, List.length_append]
    rcases List.mem_cons.mp h with h | h
    · rw [h]; omega
    · have := le_joinL (S := S) h
      omega
theorem line_len2 {vs : List SvW} {roots : List Str} (W : BkWell vs roots) {ws : List Str} (h : ws ∈ bkW vs roots) : (Txt.join " " ws).length + 2 ≤ sizeLine := by
  have a := txt_len W
  have m : Txt.join " " ws ∈ bkL vs roots := by rw [bkL_eq]; exact List.mem_map_of_mem h
  have b := le_joinL (S := TL.tl "\n") (List.mem_map_of_mem (f := TL.tl) m)
  rw [← TL.tl_join, ← TL.join_eq, ← bk_txt] at b
  have e : ∀ x : Str, (TL.tl x).length = x.length := fun x => Array.length_toList
  rw [e, e] at b
  rw [sizeLine_eq]
  omega
def offW (vs : List SvW) (j : Nat) : Nat := ((vs.take j).flatMap svcW).length
theorem off_drop (vs : List SvW) (roots : List Str) (j : Nat) : (bkW vs roots).drop (offW vs j) = (vs.drop j).flatMap svcW ++ roots.map fun r => [("root" : Str), r] := by
  unfold bkW offW
  have e : vs.flatMap svcW = (vs.take j).flatMap svcW ++ (vs.drop j).flatMap svcW := by rw [← List.flatMap_append, List.take_append_drop]
  rw [e, List.append_assoc, List.drop_left]
theorem off_next {vs : List SvW} {j : Nat} {v : SvW} (h : vs[j]? = some v) : offW vs (j + 1) = offW vs j + (svcW v).length := by
  unfold offW
  rw [List.take_add_one, h, List.flatMap_append, List.length_append]
  simp
theorem stop_rest (l : List SvW) (roots : List Str) : StopW (l.flatMap svcW ++ roots.map fun r => [("root" : Str), r]) := fun x r t e => by
  cases l with
  | nil =>
    cases roots with
    | nil => cases e
    | cons y ys =>
      injection e with e _
      injection e with e _
      exact .inr e.symm
  | cons v l =>
    injection e with e _
    injection e with e _
    exact .inl e.symm
def spReadParts {w : World} {K : PySem.W.Frag} {mg : Str → Option Value} (T : TxBook w K mg) : Sp := fun us H Q _ => ∃ (vs : List SvW) (roots : List Str), us = [.str (bkTxt vs roots)] ∧ BkWell vs roots ∧
  ∀ t sl rl H' (xs : List V), Same H H' → H' t = some (.tup [.ref sl, .ref rl]) → H' sl = some (.lst xs) → Paired (fun x v => ∃ a, x = .ref a ∧ PartAt T.toTxSvc H H' a v) xs vs → H' rl = some (.lst (roots.map V.str)) → Q (.ref t) H'
def spBookRead {w : World} {K : PySem.W.Frag} {mg : Str → Option Value} (T : TxBook w K mg) : Sp := fun us H Q _ => ∃ (vs : List SvW) (roots : List Str), us = [.ref T.C_Book, .str (bkTxt vs roots)] ∧ BkWell vs roots ∧
  ∀ q H', Same H H' → H q = none → BkIs T H' q vs roots → Q (.ref q) H'
section
variable {P : Program} {w : World} {K : PySem.W.Frag} {mg : Str → Option Value} {base : Heap}
theorem ok_read_parts (T : TxRead w K mg) : FnOk P w K mg base CX0 8 T.f_read_parts T.d_read_parts P_read_parts (spReadParts T.toTxBook) := by
  have G_begins_with := ok_begins_with (P := P) (w := w) (base := base) T.toTxRead0
  have G_read_service := ok_read_service (P := P) (w := w) (base := base) T.toTxRead1
  have G_read_roots := ok_read_roots (P := P) (w := w) (base := base) T.toTxRead1
  refine T.F_read_parts.ok sc_read_parts (fun vs H Q E h => ?_) (fun cdv A outer s H vs Q E hr h => ?_)
  · obtain ⟨vs, roots, rfl, _⟩ := h
    rfl
  obtain ⟨vs, roots, rfl, W, q⟩ := h
  refine ⟨_, (pss_cons (ps_setLc (i := 1) (own := [("line", 2)]) (g := gName 2) (by rfl) sc_read_parts.nd rfl rfl (sw_true rfl rfl rfl (by decide +kernel)) (pi_listK K (pe_split (pv 0) pe_str)) (blkOk_by (own := [("line", 2)]) (N := N_read_parts) (sc := defScope s_read_parts) (by decide +kernel)) (fun _ _ _ _ _ => (pg_name (i := 2) sc_read_parts.nd rfl (Or.inl rfl))) (fun _ _ _ _ _ => pts_nil) (fun _ _ _ _ _ => (pe_split (pv 2) pe_str)))
      (pss_cons (ps_set (i := 3) sc_read_parts.nd rfl (Or.inl rfl) (pe_lst pa_nil))
      (pss_cons (ps_set (i := 4) sc_read_parts.nd rfl (Or.inl rfl) pe_int)
      (pss_cons (ps_while PassesOwn.never (PW.pt (pw_or (pt_cmpR op_eq (pv 4) pe_int (nomark _)) (pw_or1 (pt_val (pe_call G_begins_with (hr.mono (by decide)) (by rfl) T.m_begins_with T.F_begins_with.kp T.b_begins_with .nil pass0 (pa_cons (pv 1) (pa_cons (pv 4) (pa_cons pe_str pa_nil)))))))) (pss_cons (ps_asg (pe_call G_read_service (hr.mono (by decide)) (by rfl) T.m_read_service T.F_read_service.kp T.b_read_service .nil pass0 (pa_cons (pv 1) (pa_cons (pv 4) pa_nil))) (pg_tup rfl (pgs_cons (pg_name (i := 5) sc_read_parts.nd rfl (Or.inl rfl)) (pgs_cons (pg_name (i := 4) sc_read_parts.nd rfl (Or.inl rfl)) pgs_nil))))
      (pss_one (ps_expr (pe_bm PySem.F.plainAttrs_list PySem.F.slot_list_append PySem.F.type_list_append mt_append (pv 3) (pa_cons (pv 5) pa_nil))))))
      (pss_one (ps_ret (pe_tup (pa_cons (pv 3) (pa_cons (pe_call G_read_roots (hr.mono (by decide)) (by rfl) T.m_read_roots T.F_read_roots.kp T.b_read_roots .nil pass0 (pa_cons (pv 1) (pa_cons (pv 4) pa_nil))) pa_nil))))))))), ?_⟩
  have tl_ := txt_len W
  refine ⟨_, rfl, ⟨_, rfl⟩, _, "\n", rfl, rfl, by decide +kernel, by rw [sizeLine_eq]; omega, fun p0 hp0 => ?_⟩
  rw [split_text W, bkL_eq]
  have s1 := same_upd hp0 (.lst (((bkW vs roots).map (Txt.join " ")).map V.str))
  have h0 := upd_same (H := H) (a := p0) (o := .lst (((bkW vs roots).map (Txt.join " ")).map V.str))
  generalize upd H p0 (.lst (((bkW vs roots).map (Txt.join " ")).map V.str)) = H1 at s1 h0
  refine ⟨p0, rfl, ⟨_, SqL.of h0⟩, fun D hD => ?_⟩
  have fw := bkW_few W
  refine lc_list (K := K) (a := p0) (xs := ((bkW vs roots).map (Txt.join " ")).map V.str) (fun i H' => Same H1 H' ∧ ∃ rl : List Addr, H' D = some (.lst (rl.map V.ref)) ∧ Paired (fun r (ws : List Str) => H' r = some (.lst (ws.map V.str)) ∧ r ≠ D) rl ((bkW vs roots).take i)) ⟨same_upd hD _, [], upd_same, .nil⟩ (fun i H' _ h => SqL.of (h.1 _ _ h0)) ?_ ?_
  · rintro i x H5 hx ⟨s5, rl, h5, prq⟩
    rw [List.getElem?_map, List.getElem?_map] at hx
    obtain ⟨ws, hw, rfl⟩ : ∃ ws, (bkW vs roots)[i]? = some ws ∧ V.str (Txt.join " " ws) = x := by
      cases e : (bkW vs roots)[i]? with
      | none => rw [e] at hx; cases hx
      | some z => rw [e] at hx; cases hx; exact ⟨z, rfl, rfl⟩
    have mem := List.mem_of_getElem? hw
    have il := (List.getElem?_eq_some_iff.mp hw).1
    have ll : rl.length ≤ 900 := by rw [paired_len' prq, List.length_take]; omega
    refine ⟨rfl, ?_⟩
    refine ⟨_, rfl, ⟨_, rfl⟩, _, " ", rfl, rfl, by decide +kernel, line_len2 W mem, fun r hr => ?_⟩
    rw [split_line (bkW_clean W ws mem)]
    have rD : r ≠ D := fun z => by rw [z, h5] at hr; cases hr
    have s6 := same_upd hr (.lst (ws.map V.str))
    refine ⟨rl.map V.ref, s6 _ _ h5, small1000 (by rw [List.length_map]; omega), fun c o e => ?_, rl ++ [r], ?_, ?_⟩
    · rw [upd_ne (ne_of_none e hD)]
      exact s6 _ _ (s5 _ _ e)
    · rw [upd_same, List.map_append]
      rfl
    · rw [List.take_add_one, hw]
      exact paired_snoc (paired_imp' (fun _ _ z => ⟨by rw [upd_ne z.2]; exact s6 _ _ z.1, z.2⟩) prq) ⟨by rw [upd_ne rD]; exact upd_same, rD⟩
  rintro H2 ⟨s2, rl, hD2, prl⟩
  rw [List.length_map, List.length_map, List.take_length] at prl
  have t2 := s1.trans s2
  have L : LinesAt H2 D (bkW vs roots) := ⟨⟨rl, hD2, paired_imp' (fun _ _ z => z.1) prl⟩, fun ws h => (bkW_clean W ws h).1, fw⟩
  refine ⟨Nat.zero_le _, fun sl hsl => ?_⟩
  have few := W.few
  have bn : ∀ {H' : Hp} {xs : List V}, Same H2 H' → H' sl = some (.lst xs) → ∀ a, H' a = none → upd H2 sl (.lst []) a = none := fun {H' xs} s h a e => by
    rw [upd_ne (fun z => by rw [z, h] at e; cases e)]
    exact s.free e
  refine while_by (fun σ H' => ∃ (j : Nat) (u : Option V), j ≤ vs.length ∧ σ = [some (.str (bkTxt vs roots)), some (.ref D), none, some (.ref sl), some (.int ((offW vs j : Nat) : Int)), u] ∧ Same H2 H' ∧ ∃ xs : List V, H' sl = some (.lst xs) ∧ xs.length = j ∧ Paired (fun x v => ∃ a, x = .ref a ∧ PartAt T.toTxSvc (upd H2 sl (.lst [])) H' a v) xs (vs.take j))
    (fun σ H' => match H' sl with | some (.lst xs) => vs.length - xs.length | _ => 0) ⟨0, none, Nat.zero_le _, rfl, same_upd hsl _, [], upd_same, rfl, .nil⟩ ?_ ?_
  · rintro σ H3 ⟨j, u, hj, rfl, s3, xs, hx, lx, prx⟩
    have L3 := L.same s3
    have dj := off_drop vs roots j
    have cond : ∀ Q : Bool → Hp → Prop, Q (decide (j < vs.length)) H3 → tOr (tTest (tOp rEq (tVar 4) (tC (V.int 0)))) (tB (tCall spBegins [] E0 (tCons (tVar 1) (tCons (tVar 4) (tCons (tC (V.str (Str.ofString "service"))) tNil))))) [some (.str (bkTxt vs roots)), some (.ref D), none, some (.ref sl), some (.int ((offW vs j : Nat) : Int)), u] H3 Q := by
      intro Q hQ
      refine ⟨_, rfl, rfl, _, rfl, ?_⟩
      by_cases c0 : j = 0
      · have vl : 0 < vs.length := List.length_pos_iff.mpr W.v0
        subst c0
        rw [decide_eq_true vl] at hQ
        rw [show decide (V.int ((offW vs 0 : Nat) : Int) = V.int 0) = true from decide_eq_true rfl]
        exact iteT hQ
      · have o1 : 1 ≤ offW vs j := by
          obtain ⟨i, rfl⟩ : ∃ i, j = i + 1 := ⟨j - 1, by omega⟩
          obtain ⟨v, hv⟩ : ∃ v, vs[i]? = some v := ⟨_, List.getElem?_eq_getElem (by omega)⟩
          rw [off_next hv]
          unfold svcW
          rw [List.length_cons]
          omega
        rw [show decide (V.int ((offW vs j : Nat) : Int) = V.int 0) = false from decide_eq_false fun z => by injection z with z; omega]
        refine iteF ?_
        have eb : begB (bkW vs roots) (offW vs j) "service" = decide (j < vs.length) := by
          have e : ((bkW vs roots).drop (offW vs j))[0]? = (bkW vs roots)[offW vs j]? := by rw [List.getElem?_drop, Nat.add_zero]
          unfold begB
          rw [← e, dj]
          by_cases c : j < vs.length
          · rw [decide_eq_true c, List.drop_eq_getElem_cons c]
            rfl
          · rw [decide_eq_false c, List.drop_eq_nil_of_le (by omega)]
            cases h : roots with
            | nil => exact absurd h W.r0
            | cons y ys => show decide (("root" : Str) = "service") = false; decide
        exact ⟨_, rfl, _, rfl, D, bkW vs roots, offW vs j, "service", rfl, L3, _, rfl, by rw [eb]; exact hQ⟩
    refine cond _ ?_
    by_cases c : j < vs.length
    · rw [decide_eq_true c]
      refine iteT ?_
      obtain ⟨v, hv⟩ : ∃ v, vs[j]? = some v := ⟨_, List.getElem?_eq_getElem c⟩
      have ev : vs.drop j = v :: vs.drop (j + 1) := by
        rw [List.drop_eq_getElem_cons c]
        rw [List.getElem?_eq_getElem c] at hv
        injection hv with hv
        rw [hv]
      rw [ev, List.flatMap_cons, List.append_assoc] at dj
      refine ⟨_, rfl, _, rfl, D, bkW vs roots, offW vs j, v, _, rfl, L3, W.svc v (List.mem_of_getElem? hv), dj, stop_rest _ _, fun t pt H5 s5 _ h5 hpt => ?_⟩
      refine ⟨t, _, rfl, SqT.of h5, rfl, _, _, rfl, _, _, rfl, rfl, ?_⟩
      have hx5 := s5 _ _ hx
      refine ⟨_, rfl, .inl ⟨rfl, _, SqL.of hx5⟩, _, rfl, sl, _, _, rfl, rfl, hx5, small1000 (by omega), ?_⟩
      have hb : upd H2 sl (.lst []) sl = some (.lst []) := upd_same
      refine ⟨⟨j + 1, some (.ref pt), c, ?_, fun b o e => ?_, xs ++ [.ref pt], upd_same, ?_, ?_⟩, ?_⟩
      · rw [off_next hv]
        rfl
      · rw [upd_ne (ne_of_none e hsl)]
        exact s5 _ _ (s3 _ _ e)
      · rw [List.length_append, lx]
        rfl
      · rw [List.take_add_one, hv]
        exact paired_snoc (paired_imp' (fun _ _ ⟨a, e, z⟩ => ⟨a, e, (z.same s5).put hb hx5⟩) prx) ⟨pt, rfl, (hpt.base (bn s3 hx)).put hb hx5⟩
      · rw [upd_same, hx]
        simp only [List.length_append, List.length_cons, List.length_nil]
        omega
    · rw [decide_eq_false c]
      refine iteF ?_
      have ej : j = vs.length := by omega
      subst ej
      rw [List.take_length] at prx
      rw [List.drop_length] at dj
      refine ⟨_, rfl, _, rfl, _, rfl, D, bkW vs roots, offW vs vs.length, roots, rfl, L3, dj, W.rn, fun q5 H5 s5 _ hq => ⟨by show 2 ≤ sizeLine; decide, fun t ht => ?_⟩⟩
      have s6 := s5.trans (same_upd ht (.tup [.ref sl, .ref q5]))
      refine q t sl q5 _ xs (t2.trans (s3.trans s6)) upd_same (s6 _ _ hx) (paired_imp' (fun _ _ ⟨a, e, z⟩ => ⟨a, e, (z.same s6).base fun b eb => ?_⟩) prx) (same_upd ht _ _ _ hq)
      refine t2.free ?_
      have ne : b ≠ sl := fun z => by rw [z, upd_same] at eb; cases eb
      rw [upd_ne ne] at eb
      exact eb
  · rintro σ H3 Q1 Q2 imp ⟨x1, e1, f1, b, e2, h⟩
    refine ⟨x1, e1, f1, b, e2, ?_⟩
    cases b with
    | true => exact imp _ _ h
    | false =>
      obtain ⟨x1, e1, x2, e2, a, wss, k, wd, e3, L, b, e4, q⟩ := h
      exact ⟨x1, e1, x2, e2, a, wss, k, wd, e3, L, b, e4, imp _ _ q⟩
theorem ok_Book_read (T : TxRead w K mg) : FnOk P w K mg base CX0 9 T.f_Book_read T.d_Book_read P_Book_read (spBookRead T.toTxBook) := by
  have G_read_parts := ok_read_parts (P := P) (w := w) (base := base) T
  have G_Service_init := ok_Service_init (P := P) (w := w) (base := base) T.toTxSvc
  have G_Book_init := ok_Book_init (P := P) (w := w) (base := base) T.toTxBook
  obtain ⟨dsS, hv6, hb6⟩ := T.F_Service_init.binds1 (ps := P_Service_init) 6 3 (by simp) rfl (fun TT kV doc pm an cdv ct us its h1 h2 => by
    match us, h1, its, h2 with
    | [_, _, _, _, _, _], _, [_, _, _], _ => exact ⟨_, rfl, rfl⟩)
  refine T.F_Book_read.ok sc_Book_read (fun vs H Q E h => ?_) (fun cdv A outer s H vs Q E hr h => ?_)
  · obtain ⟨vs, roots, rfl, _⟩ := h
    rfl
  obtain ⟨vs, roots, rfl, W, q⟩ := h
  refine ⟨_, (pss_cons (ps_asg (pe_call G_read_parts (hr.mono (by decide)) (by rfl) T.m_read_parts T.F_read_parts.kp T.b_read_parts .nil pass0 (pa_cons (pv 1) pa_nil)) (pg_tup rfl (pgs_cons (pg_name (i := 2) sc_Book_read.nd rfl (Or.inl rfl)) (pgs_cons (pg_name (i := 3) sc_Book_read.nd rfl (Or.inl rfl)) pgs_nil))))
      (pss_cons (ps_set (i := 4) sc_Book_read.nd rfl (Or.inl rfl) (pe_lst pa_nil))
      (pss_cons (ps_for PassesOwn.never rfl (pi_listK K (pv 2)) (pg_tup rfl (pgs_cons (pg_name (i := 5) sc_Book_read.nd rfl (Or.inl rfl)) (pgs_cons (pg_name (i := 6) sc_Book_read.nd rfl (Or.inl rfl)) (pgs_cons (pg_name (i := 7) sc_Book_read.nd rfl (Or.inl rfl)) (pgs_cons (pg_name (i := 8) sc_Book_read.nd rfl (Or.inl rfl)) (pgs_cons (pg_name (i := 9) sc_Book_read.nd rfl (Or.inl rfl)) pgs_nil)))))) (pss_one (ps_expr (pe_bm PySem.F.plainAttrs_list PySem.F.slot_list_append PySem.F.type_list_append mt_append (pv 4) (pa_cons (pe_make T.mk_Service G_Service_init (hr.mono (by decide)) (by rfl) T.m_Service hb6 hv6 passL (pa_cons (pv 5) (pa_cons (pv 6) (pa_cons (pv 7) (pa_cons (pv 8) (pa_cons (pv 9) pa_nil)))))) pa_nil)))))
      (pss_one (ps_ret (pe_makeL (i := 0) (E := fun _ => E0) T.mk_Book G_Book_init (hr.mono (by decide)) (by rfl) (by first | exact Or.inl rfl | exact Or.inr (Or.inl rfl) | exact Or.inr (Or.inr rfl)) T.b_Book_init .nil (fun _ _ _ _ _ _ I c => passL _ _ _ _ _ _ I c) (pa_cons (pv 4) (pa_cons (pv 3) pa_nil)))))))), ?_⟩
  refine ⟨_, rfl, vs, roots, rfl, W, fun t sl rl H1 xs s1 ht hsl prs hrl => ?_⟩
  refine ⟨t, _, rfl, SqT.of ht, rfl, _, _, rfl, _, _, rfl, rfl, ?_⟩
  refine ⟨Nat.zero_le _, fun D hD => ?_⟩
  have few := W.few
  have lxs : xs.length = vs.length := paired_len' prs
  have y1 := same_upd hD (.lst [])
  refine ⟨_, rfl, sl, rfl, ⟨_, SqL.of (y1 _ _ hsl)⟩, for_list (K := K) (a := sl) (xs := xs) (fun i σ H' => (∃ v5 v6 v7 v8 v9 : Option V, σ = [some (.ref T.toTxBook.C_Book), some (.str (bkTxt vs roots)), some (.ref sl), some (.ref rl), some (.ref D), v5, v6, v7, v8, v9]) ∧ Same H1 H' ∧ ∃ qs : List V, H' D = some (.lst qs) ∧ Paired (SvcRef T.toTxSvc H') qs (vs.take i)) ⟨⟨none, none, none, none, none, rfl⟩, y1, [], upd_same, .nil⟩ (fun i σ H' _ h => SqL.of (h.2.1 _ _ hsl)) ?_ ?_⟩
  · rintro i x σ H2 hx ⟨⟨v5, v6, v7, v8, v9, rfl⟩, s2, qs, hD2, prq⟩
    obtain ⟨v, hv, a, rfl, Pa⟩ := paired_get prs hx
    have g := W.svc v (List.mem_of_getElem? hv)
    obtain ⟨kl, wl, ll, rl2, zs, g1, g2, g3, g4, g5, g6, _⟩ := (Pa.same s2).ex
    have ql : qs.length ≤ 10 := by rw [paired_len' prq, List.length_take]; omega
    refine ⟨a, _, rfl, SqT.of g1, rfl, _, _, rfl, _, _, rfl, _, _, rfl, _, _, rfl, _, _, rfl, rfl, ?_⟩
    refine ⟨_, rfl, .inl ⟨rfl, _, SqL.of hD2⟩, _, rfl, _, rfl, _, rfl, _, rfl, _, rfl, ?_⟩
    intro y dx ny nd ne
    have s0 : Same H2 (upd (upd H2 dx (.own y)) y (.ins T.C_Service dx [])) := fun b o e => by rw [upd_ne (ne_of_none e ny), upd_ne (ne_of_none e nd)]; exact e
    have h6 := upd_same (H := upd H2 dx (.own y)) (a := y) (o := .ins T.C_Service dx [])
    generalize upd (upd H2 dx (.own y)) y (.ins T.C_Service dx []) = H6 at s0 h6
    refine svcInit_is T.toTxSvc (x := y) (dx := dx) (ka := kl) (wa := wl) (la := ll) (ra := rl2) (nm := v.nm) (ks := v.kinds) (ws := v.waits) (ls := v.leaves) (rs := v.rows) (xs := zs) h6 g.nm g.hk g.hw g.hl g.k0 g.kn g.wn g.ln (by have := g.kl; omega) (by have := g.wl; omega) (by have := g.ll; omega) g.rl g.good
      (.inl (SqL.of (s0 _ _ g2))) (.inl (SqL.of (s0 _ _ g3))) (.inl (SqL.of (s0 _ _ g4))) (.inl (SqL.of (s0 _ _ g5))) (paired_imp (fun _ _ z => (z.same s0).is) g6) (fun H3 kp SI => ⟨rfl, ?_⟩)
    have s3 : Same H2 H3 := fun b o e => kp b o (ne_of_none e ny) (s0 _ _ e)
    have hD3 := s3 _ _ hD2
    refine ⟨D, _, _, rfl, rfl, hD3, small1000 (by omega), ⟨_, _, _, _, _, rfl⟩, fun b o e => ?_, qs ++ [.ref y], upd_same, ?_⟩
    · rw [upd_ne (ne_of_none e hD)]
      exact s3 _ _ (s2 _ _ e)
    · rw [List.take_add_one, hv]
      exact paired_snoc (paired_imp' (fun _ _ z => (z.same s3).put hD3 _) prq) (SvcRef.put ⟨y, rfl, SI⟩ hD3 _)
  rintro σ H5 ⟨⟨v5, v6, v7, v8, v9, rfl⟩, s5, qs, hD5, prq⟩
  rw [lxs, List.take_length] at prq
  refine ⟨rfl, _, rfl, _, rfl, ?_⟩
  intro x dx nx nd ne
  have s0 : Same H5 (upd (upd H5 dx (.own x)) x (.ins T.toTxBook.C_Book dx [])) := fun b o e => by rw [upd_ne (ne_of_none e nx), upd_ne (ne_of_none e nd)]; exact e
  have h6 := upd_same (H := upd H5 dx (.own x)) (a := x) (o := .ins T.toTxBook.C_Book dx [])
  generalize upd (upd H5 dx (.own x)) x (.ins T.toTxBook.C_Book dx []) = H6 at s0 h6
  have prq6 := paired_imp' (fun _ _ z => SvcRef.same z s0) prq
  have hS : SqA K H6 D qs := .inl (SqL.of (s0 _ _ hD5))
  have hR : SqA K H6 rl (roots.map V.str) := .inl (SqL.of (s0 _ _ (s5 _ _ hrl)))
  have rl9 := W.rl
  have t5 := s1.trans s5
  refine ⟨x, dx, .ref D, .ref rl, true, true, rfl, h6, svcs_yes T.toTxBook hS prq6 W.v0 few, some_strs hR W.rn W.rd W.r0 (by omega), (fun z => nomatch z), (fun _ => ⟨D, qs, vs, some roots, rfl, hS, prq6, W.svc, few, W.r50, rfl, (fun l e => ?_), (fun wd d H' e => by rw [W.wr] at e; cases e), (fun l H' e _ k BI _ => ⟨rfl, ?_⟩)⟩)⟩
  · cases e
    exact ⟨rl, rfl, hR, by omega⟩
  · cases e
    exact q x H' (fun c o e => k c o (ne_of_none (t5 _ _ e) nx) (s0 _ _ (t5 _ _ e))) (t5.free nx) BI
end
end My

/-! ## Services: == with services and with texts -/
namespace My
open PySem PySem.Spec PyProof.Rows L2
structure TxSvcEq (w : World) (K : PySem.W.Frag) (mg : Str → Option Value) extends TxSvcStr w K mg where
  ks_Service : PySem.W.kitOne K (.type "str") (.ref C_Service) = some false
  ns_Service : PySem.W.notFirst K C_Service (.type "str") = true
def spSvcEqG {w : World} {K : PySem.W.Frag} {mg : Str → Option Value} (T : TxSvcStr w K mg) : Unit → Sp := fun _ vs H Q _ => ∃ (p : Addr) (y : V) (v : SvD), vs = [.ref p, y] ∧ SvcAt T H p v ∧
  ((∃ (q : Addr) (v2 : SvD), y = .ref q ∧ SvcAt T H q v2 ∧ ∀ H', Same H H' → Q (.bl (decide (svTxt v = svTxt v2))) H') ∨
   ∃ t, TyX K H y t ∧ PySem.W.kitOne K t (.ref T.C_Service) = some false ∧ Q (.bl false) H)
section
variable {P : Program} {w : World} {K : PySem.W.Frag} {mg : Str → Option Value} {base : Heap}
theorem str_svc (T : TxSvcStr w K mg) : OwnStr P w K mg base (fun _ : Unit => T.C_Service) (fun _ => True) 4 (spSvcStr T) := ⟨fun _ _ => ⟨_, _, _, ok_Service_str T, T.b_Service_str, T.si_Service, T.sf_Service⟩⟩
theorem ok_Service_eq (T : TxSvcStr w K mg) : FnOk P w K mg base CX0 7 T.f_Service_eq T.d_Service_eq P_Service_eq (spSvcEqG T ()) := by
  have G_sstr := str_svc (P := P) (w := w) (base := base) T
  refine T.F_Service_eq.ok sc_Service_eq (fun vs H Q E h => ?_) (fun cdv A outer s H vs Q E hr h => ?_)
  · obtain ⟨p, y, v, rfl, _⟩ := h
    rfl
  obtain ⟨p, y, v, rfl, sv, h⟩ := h
  obtain ⟨⟨dx, _, _, _, _, _, _, _, hp, _⟩, _⟩ := id sv
  refine ⟨_, (pss_one (ps_ret (pe_and (pe_callB (call_isiV K) (by rfl) T.z_isinstance (by decide +kernel) (pa_cons (pv 1) (pa_cons (pe_glob (v := .ref T.C_Service) (by rfl) T.m_Service rfl) pa_nil))) (pe_one (pe_cmpR op_eq (pe_callTy (call_strO K G_sstr (hr.mono (by decide))) (by rfl) T.z_str (by decide +kernel) (pa_cons (pv 0) pa_nil)) (pe_callTy (call_strO K G_sstr (hr.mono (by decide))) (by rfl) T.z_str (by decide +kernel) (pa_cons (pv 1) pa_nil)) (nomark _)))))), ?_⟩
  rcases h with ⟨o, v2, rfl, sv2, q⟩ | ⟨t, ty, kf, q⟩
  · obtain ⟨⟨dx2, _, _, _, _, _, _, _, ho, _⟩, _⟩ := id sv2
    refine ⟨_, rfl, .ref o, .ref T.C_Service, .ref T.C_Service, _, true, rfl, .own _, T.ty_Service _ _ _ _ ho, T.kk_Service, _, rfl, ?_⟩
    refine ⟨_, rfl, p, (), dx, _, rfl, trivial, hp, p, v, rfl, sv, fun H1 s1 => ⟨_, rfl, _, rfl, o, (), dx2, _, rfl, trivial, s1 _ _ ho, o, v2, rfl, sv2.same s1, fun H2 s2 => ⟨_, rfl, rfl, ?_⟩⟩⟩
    rw [dec_str2]
    exact q H2 (s1.trans s2)
  · exact ⟨_, rfl, y, .ref T.C_Service, t, _, false, rfl, .own _, ty, kf, _, rfl, q⟩
theorem eq_svc (T : TxSvcStr w K mg) : OwnEqs P w K mg base (fun _ : Unit => T.C_Service) (fun _ => True) 7 (spSvcEqG T) := ⟨fun _ _ => ⟨_, _, _, ok_Service_eq T, T.b_Service_eq, T.ei_Service, T.ef_Service, T.en_Service, T.eo_Service⟩⟩
end
end My

/-! ## C.m(k = v, ..), m a classmethod -/
namespace My
open PySem PySem.Spec PyProof.Rows L2
def tCMethKw (C : Addr) (n : Nat) (sp : Sp) (gV : List V → List V → List V) (E : XK) (ta : TE) (tk : TA) : TE := fun σ H Q => ta σ H fun x H1 => x = .ref C ∧ tk σ H1 fun zs H2 => zs.length = n ∧ sp (gV [.ref C] zs) H2 Q E
section
variable {X : Cx} {CX : CXT} {k : Nat} {C p f : Addr} {fd : FuncData} {ps ks : List Str} {mc : Value} {sp : Sp} {E : XK} {o : Expr} {kws : List Keyword} {m : Str} {pos apos : Pos} {ta : TE} {tk : TA} {g : List Value → List Value → List Value} {gV : List V → List V → List V}
theorem pe_cmethKw {pl : Sem Bool} (he : PE X o ta) (r : ClX.CRead X.K C mc) (c : ClX.CMet X.K C mc m p f) (F : FnOk X.prog X.w X.K X.mg X.base CX k f fd ps sp) (room : Room k X.A) (kb : KBn X.K fd ps 1 ks g gV) (out : Passes CX X E) (hk : PK X kws tk)
    (named : (backToKw pos (keywordEach kws X.env)).all (·.1.isSome) = true := by rfl) (names : (backToKw pos (keywordEach kws X.env)).filterMap (·.1) = ks := by rfl)
    (plain : ((backTo pos (starEach [] X.env)).any (·.1) || (backToKw pos (keywordEach kws X.env)).any (·.1.isNone)) = false := by rfl)
    (ev : eval (.Call (.Attribute o m apos) [] kws pos) X.env = (do
      let ov ← eval o X.env
      standAt apos.atName
      let (f, first) ← holding [ov] (getMethod ov m pl)
      callWith pos f first (backTo pos (starEach [] X.env)) (backToKw pos (keywordEach kws X.env))) := by rfl) : PE X (.Call (.Attribute o m apos) [] kws pos) (tCMethKw C ks.length sp gV E ta tk) := by
  constructor
  intro pins s σ H Q I h
  refine PySem.W.methodCall_KW (pl := pl) (thn (he.run pins s σ H _ I h) ?_) ev
  rintro u s1 ⟨x, H1, I1, rx, ex, todo⟩
  subst ex
  obtain rfl : u = Value.ref C := rx
  refine ClX.getmethcm_ok I1 r c fun s2 I2 => ?_
  refine PySem.W.callWith_of plain (PySem.W.keeps_M (self := .ref C) c.fi) (evalArgs_kw2_nil named (thn (hk.run pos _ s2 σ H1 _ I2 todo) ?_))
  rintro ws s3 ⟨zs, H2, I3, rz, l1, l2⟩
  refine ⟨⟨ClX.pin_at I3, I3.kIn⟩, ?_⟩
  show wpAny (model X.prog X.w) X.A (call (.ref s1.heap.objs.size) [] (((backToKw pos (keywordEach kws X.env)).filterMap (·.1)).zip ws)) (EP X pins σ Q) X.xe s3
  rw [names]
  have z1 : Vals [V.ref C] [Value.ref C] := .cons rfl .nil
  have z : wpAny (model X.prog X.w) X.A (call (.ref s1.heap.objs.size) [] (ks.zip ws)) (EP X ((s1.heap.objs.size, PySem.W.methodObj (.ref f) (.ref C)) :: pins) σ Q) X.xe s3 := by
    refine wpAny_call (PySem.W.method_call (ClX.pin_at I3) ?_)
    refine codeAny_mono (F.run X.A X.stack s3 H2 ⟨[.ref C], ks.zip ws⟩ (g [.ref C] ws) (gV [.ref C] zs) Q E room I3.env0 (kb.to s3 [.ref C] ws I3.kIn rfl (rz.length.symm.trans l1)) (kb.rel z1 rz) l2) fun r s' hq => ?_
    cases r with
    | error e => exact out _ σ H2 s3 e s' I3 hq
    | ok fl =>
      cases fl with
      | ret u => exact I3.after hq
      | next => exact False.elim hq
      | brk => exact False.elim hq
      | cont => exact False.elim hq
  exact thn z fun _ _ y => ClX.unpinE y
end
end My
namespace My
open PySem PySem.Spec PyProof.Rows L2
/-- one keyword -/
def r1 {α : Type} (us ws : List α) : List α := us ++ ws
theorem r1_rel {vs zs : List V} {us ws : List Value} (h : Vals vs us) (k : Vals zs ws) : Vals (r1 vs zs) (r1 us ws) := h.append k
end My

/-! ## Rows, services and books made of right words (no law's function) -/
namespace My
open PySem PySem.Spec PyProof.Rows L2
section
variable {w : World} {K : PySem.W.Frag} {mg : Str → Option Value}
/-- a row of right words is made -/
theorem row_new (T : TxSvc w K mg) {H : Hp} {Q : Addr → Hp → Prop} {E : XK} {C : Addr} {so : Str} {names : List Str} {wr : List PyData → Option Str} {as : List V} {ds : List PyData} {ws : List Str} (hC : clsOf T.toTxRows so = C) (hn : fnOf so = names) (ha : as = ws.map V.str) (hl : as.length = names.length)
    (hd : Paired (Dv K H) as ds) (none_ : wr ds = none) (q : ∀ p H', Same H H' → H p = none → RowIs T H' (.ref p) (so, ws) → Q p H') :
    ∀ x dx, H x = none → H dx = none → dx ≠ x → spRow K C T.C_InvalidRow names wr (.ref x :: (as ++ [])) (upd (upd H dx (.own x)) x (.ins C dx [])) (fun u H2 => u = .non ∧ Q x H2) E := by
  intro x dx nx nd ne
  have s0 := made_same (o := .own x) (o2 := .ins C dx []) nx nd
  refine ⟨x, dx, as, ds, by rw [List.append_nil], hl, paired_imp (fun _ _ z => z.same s0) hd, upd_same, fun H' _ e k => ⟨rfl, ?_⟩, fun wd d H' e => by rw [none_] at e; cases e⟩
  refine q x H' (same_made nx nd k) nx ⟨x, dx, rfl, ?_⟩
  show H' x = some (.ins (clsOf T.toTxRows so) dx ((fnOf so).zip (ws.map V.str)))
  rw [hC, hn, ← ha]
  exact e
/-- a service of right words is made -/
theorem svc_new (T : TxSvc w K mg) {H : Hp} {Q : Addr → Hp → Prop} {E : XK} {v : SvW} (g : v.good) {ka wa la ra : Addr} {xs : List V} (hk : SqA K H ka (v.kinds.map V.str)) (hw : SqA K H wa (v.waits.map V.str)) (hl : SqA K H la (v.leaves.map V.str)) (hr : SqA K H ra xs) (pr : Paired (RowIs T H) xs v.rows)
    (q : ∀ x H', Same H H' → H x = none → SvcRef T H' (.ref x) v → Q x H') :
    ∀ x dx, H x = none → H dx = none → dx ≠ x → spSvcInit T [.ref x, .str v.nm, .ref ka, .ref wa, .ref la, .ref ra] (upd (upd H dx (.own x)) x (.ins T.C_Service dx [])) (fun u H2 => u = .non ∧ Q x H2) E := by
  intro x dx nx nd ne
  have s0 := made_same (o := .own x) (o2 := .ins T.C_Service dx []) nx nd
  have h6 := upd_same (H := upd H dx (.own x)) (a := x) (o := .ins T.C_Service dx [])
  generalize upd (upd H dx (.own x)) x (.ins T.C_Service dx []) = H6 at s0 h6
  have sq : ∀ {a : Addr} {l : List V}, SqA K H a l → SqA K H6 a l := fun h => h.imp (fun z => s0.seq z) (fun z => seqT_same s0 z)
  refine svcInit_is T (x := x) (dx := dx) (nm := v.nm) (ks := v.kinds) (ws := v.waits) (ls := v.leaves) (rs := v.rows) (xs := xs) h6 g.nm g.hk g.hw g.hl g.k0 g.kn g.wn g.ln (by have := g.kl; omega) (by have := g.wl; omega) (by have := g.ll; omega) g.rl g.good
    (sq hk) (sq hw) (sq hl) (sq hr) (paired_imp (fun _ _ z => RowIs.keep z fun a C dx fs e => s0 _ _ e) pr) (fun H3 kp SI => ⟨rfl, ?_⟩)
  exact q x H3 (fun b o e => kp b o (ne_of_none e nx) (s0 _ _ e)) nx ⟨x, rfl, SI⟩
/-- a book of right services is made -/
theorem bk_new (T : TxBook w K mg) {H : Hp} {Q : Addr → Hp → Prop} {E : XK} {vs : List SvW} {roots : List Str} (W : BkWell vs roots) {sa ra : Addr} {xs : List V} (hS : SqA K H sa xs) (hR : SqA K H ra (roots.map V.str)) (pr : Paired (SvcRef T.toTxSvc H) xs vs)
    (q : ∀ x H', Same H H' → H x = none → BkIs T H' x vs roots → BkSv T H' x xs → Q x H') :
    ∀ x dx, H x = none → H dx = none → dx ≠ x → spBookInit T [.ref x, .ref sa, .ref ra] (upd (upd H dx (.own x)) x (.ins T.C_Book dx [])) (fun u H2 => u = .non ∧ Q x H2) E := by
  intro x dx nx nd ne
  have s0 := made_same (o := .own x) (o2 := .ins T.C_Book dx []) nx nd
  have h6 := upd_same (H := upd H dx (.own x)) (a := x) (o := .ins T.C_Book dx [])
  generalize upd (upd H dx (.own x)) x (.ins T.C_Book dx []) = H6 at s0 h6
  have sq : ∀ {a : Addr} {l : List V}, SqA K H a l → SqA K H6 a l := fun h => h.imp (fun z => s0.seq z) (fun z => seqT_same s0 z)
  have pr6 := paired_imp' (fun _ _ z => SvcRef.same z s0) pr
  have rl9 := W.rl
  refine ⟨x, dx, .ref sa, .ref ra, true, true, rfl, h6, svcs_yes T (sq hS) pr6 W.v0 W.few, some_strs (sq hR) W.rn W.rd W.r0 (by omega), (fun z => nomatch z), (fun _ => ⟨sa, xs, vs, some roots, rfl, sq hS, pr6, W.svc, W.few, W.r50, rfl, (fun l e => ?_), (fun wd d H' e => by rw [W.wr] at e; cases e), (fun l H' e _ k2 BI BS => ⟨rfl, ?_⟩)⟩)⟩
  · cases e
    exact ⟨ra, rfl, sq hR, by omega⟩
  · cases e
    exact q x H' (fun c o e => k2 c o (ne_of_none e nx) (s0 _ _ e)) nx BI BS
end
end My

/-! ## k20: the pairs of names, the words of its services and books -/
namespace My
open PySem PySem.Spec PyProof.Rows L2
def PAIRS : List (Str × Str) := [("a", "b"), ("web", "pay"), ("end", "root"), ("zz", "zzz")]
structure Pr20 (a b : Str) : Prop where
  na : isNm a = true
  nb : isNm b = true
  oa : okS a = true
  ob : okS b = true
  ne : a ≠ b
  ta : "top" ≠ a
  sb : PyData.strOk b = true
  bn : b ≠ "none"
theorem pairs_ok : ∀ p ∈ PAIRS, Pr20 p.1 p.2 := by
  have h : ∀ p ∈ PAIRS, isNm p.1 = true ∧ isNm p.2 = true ∧ okS p.1 = true ∧ okS p.2 = true ∧ p.1 ≠ p.2 ∧ "top" ≠ p.1 ∧ PyData.strOk p.2 = true ∧ p.2 ≠ "none" := by decide +kernel
  exact fun p hp => let ⟨h1, h2, h3, h4, h5, h6, h7, h8⟩ := h p hp; ⟨h1, h2, h3, h4, h5, h6, h7, h8⟩
def vA (a b : Str) : SvW := ⟨a, ["top", a], [b, a], [b], [("end", ["any", "bad", b, "keep"]), ("begin", ["none", "top", "loud"])]⟩
def vB (b : Str) : SvW := ⟨b, [b], [], [], []⟩
theorem two_nd {x y : Str} (h : x ≠ y) : [x, y].Nodup := by
  rw [List.nodup_cons]
  exact ⟨fun z => h (List.mem_singleton.mp z), by simp⟩
theorem one_nd (x : Str) : [x].Nodup := by simp
theorem good_row {so : Str} {ws : List Str} (h : so ∈ SORTS) (f : Paired fitW ws (wsOf so)) : GoodR (so, ws) := ⟨h, f⟩
theorem good_end {b : Str} (h : isNm b = true) : GoodR ("end", ["any", "bad", b, "keep"]) := by
  refine good_row (by decide +kernel) ?_
  show Paired fitW _ ws_end
  exact .cons (.inl (by decide +kernel)) (.cons (.inl (by decide +kernel)) (.cons (.inr ⟨by decide +kernel, by decide +kernel, h⟩) (.cons (.inl (by decide +kernel)) .nil)))
theorem good_beg : GoodR ("begin", ["none", "top", "loud"]) := by
  refine good_row (by decide +kernel) ?_
  show Paired fitW _ ws_begin
  exact .cons (.inl (by decide +kernel)) (.cons (.inr ⟨by decide +kernel, by decide +kernel, by decide +kernel⟩) (.cons (.inr ⟨by decide +kernel, by decide +kernel, by decide +kernel⟩) .nil))
theorem nm_top : isNm "top" = true := by decide +kernel
theorem vA_good {a b : Str} (p : Pr20 a b) : (vA a b).good where
  nm := p.na
  all := fun y hy => by
    have h : y ∈ [("top" : Str), a] ++ [b, a] ++ [b] := hy
    simp only [List.mem_append, List.mem_cons, List.not_mem_nil, or_false] at h
    rcases h with ((h | h) | (h | h)) | h <;> rw [h]
    · exact nm_top
    · exact p.na
    · exact p.nb
    · exact p.na
    · exact p.nb
  k0 := by show [("top" : Str), a] ≠ []; simp
  kn := two_nd p.ta
  wn := two_nd fun e => p.ne e.symm
  ln := one_nd b
  kl := by show 2 ≤ 10; decide
  wl := by show 2 ≤ 10; decide
  ll := by show 1 ≤ 10; decide
  rl := by show 2 ≤ 28; decide
  good := fun r hr => by
    have h : r ∈ [(("end" : Str), [("any" : Str), "bad", b, "keep"]), ("begin", ["none", "top", "loud"])] := hr
    simp only [List.mem_cons, List.not_mem_nil, or_false] at h
    rcases h with h | h <;> rw [h]
    · exact good_end p.nb
    · exact good_beg
theorem vB_good {b : Str} (h : isNm b = true) : (vB b).good where
  nm := h
  all := fun y hy => by
    have e : y ∈ [b] ++ [] ++ [] := hy
    simp only [List.append_nil, List.mem_singleton] at e
    rw [e]
    exact h
  k0 := by show [b] ≠ []; simp
  kn := one_nd b
  wn := List.nodup_nil
  ln := List.nodup_nil
  kl := by show 1 ≤ 10; decide
  wl := Nat.zero_le _
  ll := Nat.zero_le _
  rl := Nat.zero_le _
  good := fun r hr => nomatch hr
/-- the law's book -/
theorem bkA_well {a b : Str} (p : Pr20 a b) : BkWell [vA a b, vB b] [b, a] where
  svc := fun v hv => by
    simp only [List.mem_cons, List.not_mem_nil, or_false] at hv
    rcases hv with h | h <;> rw [h]
    · exact vA_good p
    · exact vB_good p.nb
  v0 := by simp
  few := by show 2 ≤ 10; decide
  r50 := by show 2 ≤ 50; decide
  rn := fun y hy => by
    simp only [List.mem_cons, List.not_mem_nil, or_false] at hy
    rcases hy with h | h <;> rw [h]
    · exact p.nb
    · exact p.na
  rd := two_nd fun e => p.ne e.symm
  r0 := by simp
  rl := by show 2 ≤ 10; decide
  nd := two_nd p.ne
  ws := fun v hv y hy => by
    show y ∈ [a, b]
    simp only [List.mem_cons, List.not_mem_nil, or_false] at hv
    rcases hv with h | h
    · rw [h] at hy
      have e : y ∈ [b, a] := hy
      simp only [List.mem_cons, List.not_mem_nil, or_false] at e ⊢
      exact e.symm
    · rw [h] at hy
      exact nomatch hy
  ls := fun v hv y hy => by
    show y ∈ [a, b]
    simp only [List.mem_cons, List.not_mem_nil, or_false] at hv
    rcases hv with h | h
    · rw [h] at hy
      have e : y ∈ [b] := hy
      simp only [List.mem_cons, List.not_mem_nil, or_false] at e ⊢
      exact .inr e
    · rw [h] at hy
      exact nomatch hy
  rs := fun y hy => by
    show y ∈ [a, b]
    simp only [List.mem_cons, List.not_mem_nil, or_false] at hy ⊢
    exact hy.symm
theorem bkB_well {a b : Str} (p : Pr20 a b) : BkWell [vB a, vB b] [b, a] where
  svc := fun v hv => by
    simp only [List.mem_cons, List.not_mem_nil, or_false] at hv
    rcases hv with h | h <;> rw [h]
    · exact vB_good p.na
    · exact vB_good p.nb
  v0 := by simp
  few := by show 2 ≤ 10; decide
  r50 := by show 0 ≤ 50; decide
  rn := (bkA_well p).rn
  rd := (bkA_well p).rd
  r0 := by simp
  rl := by show 2 ≤ 10; decide
  nd := two_nd p.ne
  ws := fun v hv y hy => by
    simp only [List.mem_cons, List.not_mem_nil, or_false] at hv
    rcases hv with h | h <;> rw [h] at hy <;> exact nomatch hy
  ls := fun v hv y hy => by
    simp only [List.mem_cons, List.not_mem_nil, or_false] at hv
    rcases hv with h | h <;> rw [h] at hy <;> exact nomatch hy
  rs := (bkA_well p).rs
theorem BkWell.gd {vs : List SvW} {roots : List Str} (W : BkWell vs roots) : BkGood vs roots := ⟨W.svc, W.few, W.rn, W.rl⟩
theorem signs20 (a b : Str) : (rowsOf [vA a b, vB b]).filterMap signOf = [b] := by
  have e1 : signOf (("end" : Str), [("any" : Str), "bad", b, "keep"]) = some b := by
    unfold signOf
    show (if ("end" : Str) = "back" then _ else if ("end" : Str) = "end" then some b else none) = some b
    rw [if_neg (by decide +kernel), if_pos rfl]
  have e2 : signOf (("begin" : Str), [("none" : Str), "top", "loud"]) = none := by decide +kernel
  show [(("end" : Str), [("any" : Str), "bad", b, "keep"]), ("begin", ["none", "top", "loud"])].filterMap signOf = [b]
  rw [List.filterMap_cons, e1, List.filterMap_cons, e2]
  rfl
theorem marks20 (a b : Str) : (rowsOf [vA a b, vB b]).filterMap markOf = [("none" : Str)] := by
  have e1 : markOf (("end" : Str), [("any" : Str), "bad", b, "keep"]) = none := by
    unfold markOf
    show (if ("end" : Str) = "begin" then _ else if ("end" : Str) = "send" then _ else none) = none
    rw [if_neg (by decide +kernel), if_neg (by decide +kernel)]
  have e2 : markOf (("begin" : Str), [("none" : Str), "top", "loud"]) = some "none" := by decide +kernel
  show [(("end" : Str), [("any" : Str), "bad", b, "keep"]), ("begin", ["none", "top", "loud"])].filterMap markOf = [("none" : Str)]
  rw [List.filterMap_cons, e1, List.filterMap_cons, e2]
  rfl
theorem moods20 (a b : Str) : ∀ z, (z ∈ moodsL (vA a b).rows ∧ ODDW2.contains z = false) ↔ z ∈ [("calm" : Str), "loud"] := by
  have e : ∀ b : Str, moodsR (("end" : Str), [("any" : Str), "bad", b, "keep"]) = moodsR (("end" : Str), [("any" : Str), "bad", Str.empty, "keep"]) := fun b => rfl
  have h : moodsL (vA a b).rows = ("calm" : Str) :: (moodsR (("end" : Str), [("any" : Str), "bad", Str.empty, "keep"]) ++ (moodsR (("begin" : Str), [("none" : Str), "top", "loud"]) ++ [])) := rfl
  rw [h]
  intro z
  have f : ∀ z ∈ ("calm" : Str) :: (moodsR (("end" : Str), [("any" : Str), "bad", Str.empty, "keep"]) ++ (moodsR (("begin" : Str), [("none" : Str), "top", "loud"]) ++ [])), ODDW2.contains z = false → z ∈ [("calm" : Str), "loud"] := by decide +kernel
  have g : ∀ z ∈ [("calm" : Str), "loud"], z ∈ ("calm" : Str) :: (moodsR (("end" : Str), [("any" : Str), "bad", Str.empty, "keep"]) ++ (moodsR (("begin" : Str), [("none" : Str), "top", "loud"]) ++ [])) ∧ ODDW2.contains z = false := by decide +kernel
  exact ⟨fun q => f z q.1 q.2, fun q => g z q⟩
theorem ne_tup {l : List Str} (h : (l.all PyData.strOk) = true) : (!PyData.eqv (.tuple (l.map PyData.str)) (.tuple (l.map PyData.str))) = false := by
  have s := shaped_strs h
  unfold SeqAt.shaped at s
  rw [SeqAt.eqv_refl _ (Bool.and_eq_true_iff.mp s).1]
  rfl
theorem swap_b {a b : Str} (p : Pr20 a b) : swapV (vB b) [vA a b, vB b] = [vA a b, vB b] := by
  show [if a = b then vB b else vA a b, if b = b then vB b else vB b] = _
  rw [if_neg p.ne, if_pos rfl]
theorem swap_a {a b : Str} (p : Pr20 a b) : swapV (vB a) [vA a b, vB b] = [vB a, vB b] := by
  show [if a = a then vB a else vA a b, if b = a then vB a else vB b] = _
  rw [if_pos rfl, if_neg fun e => p.ne e.symm]
end My

/-! ## k20: the law's structure -/
namespace My
open PySem PySem.Spec PyProof.Rows L2
abbrev s_law : Stmt := top 51
abbrev N_law : List Str := ["_law_script", "_law_k", "_law_box_here", "_law_a", "_law_b", "_law_one", "_law_two", "_law_made"]
abbrev P_law : List Str := ["_law_script"]
theorem sc_law : FnScope N_law P_law (defScope s_law) := ⟨rfl, rfl, rfl, by decide +kernel, rfl, by decide +kernel, by decide +kernel⟩
set_option maxHeartbeats 0 in
structure TxK20 (w : World) (K : PySem.W.Frag) (mg : Str → Option Value) extends TxBkOps w K mg, TxLess w K mg, TxBkStr w K mg, TxRead w K mg, TxDraw w K mg where
  z_max : mg "max" = none
  z_min : mg "min" = none
  z_range : mg "range" = none
  p_read : Addr
  r_read : List Value
  rd_Book : PySem.W.readsIn K C_Book (.type "type") = true
  sg_Book : PySem.W.specialIn K (.ref C_Book) "__getattribute__" = some (some (.builtin "type.__getattribute__"))
  fc_read : PySem.W.findCls K (.ref C_Book) (.type "type") "read" = some (.get (.builtin "classmethod.__get__") (.ref p_read) .none (.ref C_Book))
  rc_read : PySem.W.recIn K p_read "classmethod" = some (.ref f_Book_read :: r_read)
  fn_read : PySem.W.fnIn K f_Book_read = true
  f_law : Addr
  d_law : FuncData
  F_law : Fun K "law" "law" s_law f_law d_law
end My

/-! ## k20: the reading of one turn, cut in parts -/
namespace My
open PySem PySem.Spec PyProof.Rows L2
def tF20 {w : World} {K : PySem.W.Frag} {mg : Str → Option Value} (T : TxK20 w K mg) : TS := (tSeq (tIfS (tOr (tTest (tOp (rNeD K) (tFld K (tVar 7) (Str.ofString "signs")) (tCB (rTupO K) (tCons (tCB (rSortedS K) (tCons (tLst (tCons (tCB (fun xs H Q => ∃ a, xs = [V.str a] ∧ Q (V.str a) H) (tCons (tVar 4) tNil)) (tCons (tC (V.str (Str.ofString "none"))) tNil))) tNil)) tNil)))) (tTest (tOp (rNeD K) (tFld K (tVar 7) (Str.ofString "marks")) (tTup (tCons (tC (V.str (Str.ofString "none"))) tNil))))) (tRet (tC (V.bl false))) tNext) (tIfS (tTest (tOp (rNeD K) (tFld K (tVar 5) (Str.ofString "moods")) (tTup (tCons (tC (V.str (Str.ofString "calm"))) (tCons (tC (V.str (Str.ofString "loud"))) tNil))))) (tRet (tC (V.bl false))) tNext))
def tE20 {w : World} {K : PySem.W.Frag} {mg : Str → Option Value} (T : TxK20 w K mg) : TS := (tSeq (tIfS (tTest (tOp rNe (tCB (rStrO (fun x => T.toTxBkStr.C_Book) (fun x => True) (spBkStr T.toTxBkStr)) (tCons (tVar 7) tNil)) (tM1 (rJoin K) (tC (V.str (Str.ofString "\n"))) (tLst (tCons (tCB (rStrO (fun x => T.toTxBkStr.C_Service) (fun x => True) (spSvcStr T.toTxBkStr.toTxSvcStr)) (tCons (tVar 5) tNil)) (tCons (tCB (rStrO (fun x => T.toTxBkStr.C_Service) (fun x => True) (spSvcStr T.toTxBkStr.toTxSvcStr)) (tCons (tVar 6) tNil)) (tCons (tOp (fun x y H Q => ∃ i j, x = V.str i ∧ y = V.str j ∧ i.length + j.length ≤ sizeLine ∧ Q (V.str (i ++ j)) H) (tC (V.str (Str.ofString "root "))) (tVar 4)) (tCons (tOp (fun x y H Q => ∃ i j, x = V.str i ∧ y = V.str j ∧ i.length + j.length ≤ sizeLine ∧ Q (V.str (i ++ j)) H) (tC (V.str (Str.ofString "root "))) (tVar 3)) tNil)))))))) (tRet (tC (V.bl false))) tNext) (tF20 T))
def tD20 {w : World} {K : PySem.W.Frag} {mg : Str → Option Value} (T : TxK20 w K mg) : TS := (tSeq (tIfS (tTest (tOp (rEqO K (fun x => T.toTxBkStr.C_Book) (fun x => True) (spBkEq T.toTxBkStr) true) (tMethKw T.C_Book (Str.ofString "changed") [Str.ofString "service"].length (spChanged T.toTxBook) (fun vs zs => r1 vs zs) E0 (tVar 7) (tCons (tMake T.C_Service (spSvcInit T.toTxSvc) (List.drop 0 [V.ref T.e_waits, V.ref T.e_leaves, V.ref T.e_rows]) E0 (tCons (tVar 3) (tCons (tLst (tCons (tVar 3) tNil)) tNil))) tNil)) (tMake T.C_Book (spBookInit T.toTxBook) [] E0 (tCons (tLst (tCons (tMake T.C_Service (spSvcInit T.toTxSvc) (List.drop 0 [V.ref T.e_waits, V.ref T.e_leaves, V.ref T.e_rows]) E0 (tCons (tVar 3) (tCons (tTup (tCons (tVar 3) tNil)) tNil))) (tCons (tVar 6) tNil))) (tCons (tLst (tCons (tVar 4) (tCons (tVar 3) tNil))) tNil))))) (tRet (tC (V.bl false))) tNext) (tE20 T))
def tC20 {w : World} {K : PySem.W.Frag} {mg : Str → Option Value} (T : TxK20 w K mg) : TS := (tSeq (tIfS (tTest (tOp (rEqO K (fun x => T.toTxBkStr.toTxSvcStr.C_Service) (fun x => True) (spSvcEqG T.toTxBkStr.toTxSvcStr) true) (tMethKw T.C_Book (Str.ofString "named") [Str.ofString "name"].length (spNamed T.toTxBook) (fun vs zs => r1 vs zs) E0 (tVar 7) (tCons (tVar 3) tNil)) (tVar 5))) (tRet (tC (V.bl false))) tNext) (tSeq (tIfS (tOr (tTest (tOp (rEqO K (fun x => T.toTxBkStr.C_Book) (fun x => True) (spBkEq T.toTxBkStr) true) (tMethKw T.C_Book (Str.ofString "without") [Str.ofString "at"].length (spWithout T.toTxLess.toTxBook) (fun vs zs => r1 vs zs) E0 (tVar 7) (tCons (tC (V.int 1)) tNil)) (tMeth T.C_Book (Str.ofString "without") (spWithout T.toTxLess.toTxBook) [] E0 (tVar 7) (tCons (tC (V.int 1)) tNil)))) (tTest (tOp (rEqO K (fun x => T.toTxBkStr.C_Book) (fun x => True) (spBkEq T.toTxBkStr) true) (tMethKw T.C_Book (Str.ofString "changed") [Str.ofString "service"].length (spChanged T.toTxBook) (fun vs zs => r1 vs zs) E0 (tVar 7) (tCons (tVar 6) tNil)) (tVar 7)))) (tRet (tC (V.bl false))) tNext) (tD20 T)))
def tB20 {w : World} {K : PySem.W.Frag} {mg : Str → Option Value} (T : TxK20 w K mg) : TS := (tSeq (tIfS (tOr (tTest (tOp (rEqO K (fun x => T.toTxBkStr.C_Book) (fun x => True) (spBkEq T.toTxBkStr) true) (tVar 7) (tMake T.C_Book (spBookInit T.toTxBook) [] E0 (tCons (tLst (tCons (tVar 5) (tCons (tVar 6) tNil))) (tCons (tTup (tCons (tVar 4) (tCons (tVar 3) tNil))) tNil))))) (tTest (tOp (rEqO K (fun x => T.toTxBkStr.C_Book) (fun x => True) (spBkEq T.toTxBkStr) true) (tCMethKw T.C_Book [Str.ofString "text"].length (spBookRead T.toTxRead.toTxBook) (fun vs zs => r1 vs zs) E0 (tC (V.ref T.C_Book)) (tCons (tCB (rStrO (fun x => T.toTxBkStr.C_Book) (fun x => True) (spBkStr T.toTxBkStr)) (tCons (tVar 7) tNil)) tNil)) (tVar 7)))) (tRet (tC (V.bl false))) tNext) (tC20 T))
def tA20 {w : World} {K : PySem.W.Frag} {mg : Str → Option Value} (T : TxK20 w K mg) : TS := (tSeq (tAsg (tMake T.C_Service (spSvcInit T.toTxSvc) (List.drop 3 [V.ref T.e_waits, V.ref T.e_leaves, V.ref T.e_rows]) E0 (tCons (tVar 3) (tCons (tLst (tCons (tC (V.str (Str.ofString "top"))) (tCons (tVar 3) tNil))) (tCons (tLst (tCons (tVar 4) (tCons (tVar 3) tNil))) (tCons (tLst (tCons (tVar 4) tNil)) (tCons (tLst (tCons (tMake T.C_End (spRow K T.toTxRows.C_End T.toTxRows.C_InvalidRow [Str.ofString "mood", Str.ofString "outcome", Str.ofString "sign", Str.ofString "part"] wEnd) [] E0 (tCons (tC (V.str (Str.ofString "any"))) (tCons (tC (V.str (Str.ofString "bad"))) (tCons (tVar 4) (tCons (tC (V.str (Str.ofString "keep"))) tNil))))) (tCons (tMake T.C_Begin (spRow K T.toTxRows.C_Begin T.toTxRows.C_InvalidRow [Str.ofString "mark", Str.ofString "kind", Str.ofString "mood"] wBegin) [] E0 (tCons (tC (V.str (Str.ofString "none"))) (tCons (tC (V.str (Str.ofString "top"))) (tCons (tC (V.str (Str.ofString "loud"))) tNil)))) tNil))) tNil)))))) (gName 5)) (tSeq (tAsg (tMake T.C_Service (spSvcInit T.toTxSvc) (List.drop 0 [V.ref T.e_waits, V.ref T.e_leaves, V.ref T.e_rows]) E0 (tCons (tVar 4) (tCons (tLst (tCons (tVar 4) tNil)) tNil))) (gName 6)) (tSeq (tAsg (tMakeK T.C_Book 0 [Str.ofString "roots", Str.ofString "services"].length (spBookInit T.toTxBook) (fun vs zs => r2 vs zs) E0 tNil (tCons (tLst (tCons (tVar 4) (tCons (tVar 3) tNil))) (tCons (tTup (tCons (tVar 5) (tCons (tVar 6) tNil))) tNil))) (gName 7)) (tB20 T))))
end My

/-! ## k20: what a turn has made, and its last comparisons -/
namespace My
open PySem PySem.Spec PyProof.Rows L2
/-- the law's two services and its book stand -/
structure Fc20 {w : World} {K : PySem.W.Frag} {mg : Str → Option Value} (T : TxBook w K mg) (H : Hp) (a b : Str) (o1 o2 m : Addr) : Prop where
  pr : Pr20 a b
  s1 : SvcRef T.toTxSvc H (.ref o1) (vA a b)
  s2 : SvcRef T.toTxSvc H (.ref o2) (vB b)
  bk : BkIs T H m [vA a b, vB b] [b, a]
  bs : BkSv T H m [.ref o1, .ref o2]
theorem bksv_same {w : World} {K : PySem.W.Frag} {mg : Str → Option Value} {T : TxBook w K mg} {H H' : Hp} {p : Addr} {xs : List V} (h : BkSv T H p xs) (e : Same H H') : BkSv T H' p xs := by
  obtain ⟨dx, s2, fs, h1, h2⟩ := h.ex
  exact ⟨dx, s2, fs, e _ _ h1, seqT_same e h2⟩
theorem Fc20.same {w : World} {K : PySem.W.Frag} {mg : Str → Option Value} {T : TxBook w K mg} {H H' : Hp} {a b : Str} {o1 o2 m : Addr} (F : Fc20 T H a b o1 o2 m) (e : Same H H') : Fc20 T H' a b o1 o2 m := ⟨F.pr, F.s1.same e, F.s2.same e, F.bk.same e, bksv_same F.bs e⟩
section
variable {w : World} {K : PySem.W.Frag} {mg : Str → Option Value}
theorem ok_tF20 (T : TxK20 w K mg) {D : Ends} {v0 v1 v2 : Option V} {a b : Str} {o1 o2 m : Addr} {H : Hp} (F : Fc20 T.toTxBkOps.toTxBkHas.toTxBook H a b o1 o2 m)
    (hn : ∀ H', Same H H' → D.nx [v0, v1, v2, some (.str a), some (.str b), some (.ref o1), some (.ref o2), some (.ref m)] H') :
    tF20 T D [v0, v1, v2, some (.str a), some (.str b), some (.ref o1), some (.ref o2), some (.ref m)] H := by
  obtain ⟨dx, s2, r2, n2, m2, g2, w2, xs, ws, ns, ms, gs, hm, _, _, _, _, _, hms, ams, hgs, ags, _, _⟩ := id F.bk.ex
  rw [signs20] at ags
  rw [marks20] at ams
  refine ⟨_, rfl, m, T.C_Book, dx, _, _, rfl, hm, T.c_Book, T.n_Book_signs, rfl, _, rfl, b, rfl, by show 2 ≤ sizeLine; decide, fun l hl => ⟨l, [b, "none"], rfl, SqL.of upd_same, by show 2 < 64; decide, fun ys p perm so hp => ?_⟩⟩
  have y1 := same_upd hl (.lst [.str b, .str (Str.ofString "none")])
  have y2 := y1.trans (same_upd hp (.lst (ys.map V.str)))
  have mem : ∀ z, z ∈ gs ↔ z ∈ ys := fun z => by
    rw [ags.2.2, perm.mem_iff]
    constructor
    · intro h
      have := h.1
      simp only [List.mem_cons, List.not_mem_nil, or_false] at this ⊢
      exact this.symm
    · intro h
      simp only [List.mem_cons, List.not_mem_nil, or_false] at h ⊢
      refine ⟨h.symm, ?_⟩
      rcases h with h | h <;> rw [h]
      · exact nm_even F.pr.nb
      · decide +kernel
  have eg : gs = ys := sorted_uniq ags.2.1 so ags.1 (perm.nodup_iff.mpr (two_nd F.pr.bn)) mem
  have ok : (ys.all PyData.strOk) = true := List.all_eq_true.mpr fun z hz => by
    have h := perm.mem_iff.mp hz
    simp only [List.mem_cons, List.not_mem_nil, or_false] at h
    rcases h with h | h <;> rw [h]
    · exact F.pr.sb
    · decide +kernel
  subst eg
  refine ⟨p, gs.map V.str, rfl, .inl ⟨SqL.of upd_same, fun t ht => ?_⟩⟩
  have y3 := y2.trans (same_upd ht (.tup (gs.map V.str)))
  refine ⟨_, _, .tup (seqT_same y3 hgs) (Dp.all_strs gs), .tup (SqT.of upd_same) (Dp.all_strs gs), shaped_strs ok, shaped_strs ok, _, rfl, ?_⟩
  refine ite2 (fun c => absurd c (by rw [ne_tup ok]; decide)) (fun _ => ?_)
  have em : ms = [("none" : Str)] := sorted_uniq ams.2.1 (by decide +kernel) ams.1 (one_nd _) fun z => by
    rw [ams.2.2]
    constructor
    · intro h
      have := h.1
      simp only [List.mem_cons, List.not_mem_nil, or_false, or_self] at this ⊢
      exact this
    · intro h
      have e := List.mem_singleton.mp h
      rw [e]
      decide +kernel
  have okm : (([("none" : Str)]).all PyData.strOk) = true := by decide +kernel
  subst em
  refine ⟨_, rfl, m, T.C_Book, dx, _, _, rfl, y3 _ _ hm, T.c_Book, T.n_Book_marks, rfl, by show 1 ≤ sizeLine; decide, fun t2 ht2 => ?_⟩
  have y4 := y3.trans (same_upd ht2 (.tup [.str (Str.ofString "none")]))
  refine ⟨_, _, .tup (seqT_same y4 hms) (Dp.all_strs _), .tup (SqT.of upd_same) (Dp.all_strs [("none" : Str)]), shaped_strs okm, shaped_strs okm, _, rfl, ?_⟩
  refine ite2 (fun c => absurd c (by rw [ne_tup okm]; decide)) (fun _ => ?_)
  obtain ⟨_, e1, S1⟩ := F.s1
  cases e1
  obtain ⟨dx1, k1, w1, l1, r1, m1, o, xs1, ys1, h1, _, _, _, _, _, t5, nd, so1, mem1⟩ := S1.ex
  have eo : ys1 = [("calm" : Str), "loud"] := sorted_uniq so1 (by decide +kernel) nd (by decide +kernel) fun z => (mem1 z).trans (moods20 a b z)
  have oko : (([("calm" : Str), "loud"]).all PyData.strOk) = true := by decide +kernel
  subst eo
  refine ⟨_, rfl, o1, T.C_Service, dx1, _, _, rfl, y4 _ _ h1, T.c_Service, T.n_Service_moods, rfl, by show 2 ≤ sizeLine; decide, fun t3 ht3 => ?_⟩
  have y5 := y4.trans (same_upd ht3 (.tup [.str (Str.ofString "calm"), .str (Str.ofString "loud")]))
  refine ⟨_, _, .tup (seqT_same y5 t5) (Dp.all_strs _), .tup (SqT.of upd_same) (Dp.all_strs [("calm" : Str), "loud"]), shaped_strs oko, shaped_strs oko, _, rfl, ?_⟩
  refine ite2 (fun c => absurd c (by rw [ne_tup oko]; decide)) (fun _ => ?_)
  exact hn _ y5
theorem ok_tE20 (T : TxK20 w K mg) {D : Ends} {v0 v1 v2 : Option V} {a b : Str} {o1 o2 m : Addr} {H : Hp} (F : Fc20 T.toTxBkOps.toTxBkHas.toTxBook H a b o1 o2 m)
    (hn : ∀ H', Same H H' → D.nx [v0, v1, v2, some (.str a), some (.str b), some (.ref o1), some (.ref o2), some (.ref m)] H') :
    tE20 T D [v0, v1, v2, some (.str a), some (.str b), some (.ref o1), some (.ref o2), some (.ref m)] H := by
  have W := bkA_well F.pr
  obtain ⟨dx, s2, r2, n2, m2, g2, w2, xs, ws, ns, ms, gs, hm, _⟩ := id F.bk.ex
  have r5 : (Str.ofString "root ").length = 5 := by decide +kernel
  have na := (isNm_len F.pr.na).2
  have nb := (isNm_len F.pr.nb).2
  refine ⟨_, rfl, m, (), dx, _, rfl, trivial, hm, m, [vA a b, vB b], [b, a], rfl, F.bk, W.gd, fun H1 s1 => ?_⟩
  have F1 := F.same s1
  obtain ⟨_, z1, A1⟩ := F1.s1.at_ T.toTxBkStr (vA_good F.pr)
  cases z1
  obtain ⟨⟨dx1, _, _, _, _, _, _, _, h1, _⟩, _⟩ := id A1
  refine ⟨_, rfl, ⟨_, rfl⟩, _, rfl, o1, (), dx1, _, rfl, trivial, h1, o1, (vA a b).d, rfl, A1, fun H2 s2 => ?_⟩
  obtain ⟨_, z2, A2⟩ := (F1.same s2).s2.at_ T.toTxBkStr (vB_good F.pr.nb)
  cases z2
  obtain ⟨⟨dx2, _, _, _, _, _, _, _, h2, _⟩, _⟩ := id A2
  refine ⟨_, rfl, _, rfl, o2, (), dx2, _, rfl, trivial, h2, o2, (vB b).d, rfl, A2, fun H3 s3 => ?_⟩
  refine ⟨_, rfl, _, rfl, _, _, rfl, rfl, by rw [r5, sizeLine_eq]; omega, ?_⟩
  refine ⟨_, rfl, _, _, rfl, rfl, by rw [r5, sizeLine_eq]; omega, ?_⟩
  refine ⟨by show 4 ≤ sizeLine; decide, fun L hL => ?_⟩
  refine ⟨"\n", L, bkLines [vA a b, vB b] [b, a], rfl, rfl, .inl (SqL.of upd_same), ?_, ?_⟩
  · have l1 := SvW.len (vA_good F.pr)
    have l2 := SvW.len (vB_good F.pr.nb)
    have c : (Str.ofString "\n").length = 1 := by decide +kernel
    have q1 : (("root " : Str) ++ b).length ≤ 5000 := by rw [Str.length_append, r5]; omega
    have q2 : (("root " : Str) ++ a).length ≤ 5000 := by rw [Str.length_append, r5]; omega
    rw [c]
    show ((svTxt (vA a b).d).length + ((svTxt (vB b).d).length + ((("root " : Str) ++ b).length + ((("root " : Str) ++ a).length + 0)))) + 4 * 1 ≤ 16777216
    omega
  refine ⟨rfl, _, rfl, ?_⟩
  refine ite2 (fun c => absurd c (by simp [bkTxt])) (fun _ => ?_)
  have y := ((s1.trans s2).trans s3).trans (same_upd hL (.lst ((bkLines [vA a b, vB b] [b, a]).map V.str)))
  exact ok_tF20 T (F.same y) fun H' e => hn H' (y.trans e)
end
end My

/-! ## k20: services looked up, rows left out, services changed -/
namespace My
open PySem PySem.Spec PyProof.Rows L2
section
variable {w : World} {K : PySem.W.Frag} {mg : Str → Option Value}
/-- == of two books of the same words is True -/
theorem bk_eq (T : TxK20 w K mg) {H : Hp} {p q : Addr} {vs : List SvW} {roots : List Str} {Q : VK} (W : BkGood vs roots) (B : BkIs T.toTxBkOps.toTxBkHas.toTxBook H p vs roots) (C : BkIs T.toTxBkOps.toTxBkHas.toTxBook H q vs roots) (h : ∀ H', Same H H' → Q (.bl false) H') :
    rEqO K (fun _ : Unit => T.toTxBkStr.C_Book) (fun _ => True) (spBkEq T.toTxBkStr) true (.ref p) (.ref q) H Q := by
  obtain ⟨dx1, _, _, _, _, _, _, _, _, _, _, _, hq1, _⟩ := id B.ex
  obtain ⟨dx2, _, _, _, _, _, _, _, _, _, _, _, hq2, _⟩ := id C.ex
  refine ⟨p, (), dx1, _, _, rfl, trivial, hq1, T.ty_Book _ _ _ _ hq2, T.nf_Book, p, .ref q, vs, roots, rfl, B, W, .inl ⟨q, vs, roots, rfl, C, W, fun H5 s5 => ⟨_, rfl, ?_⟩⟩⟩
  rw [if_pos rfl, decide_eq_true (rfl : bkTxt vs roots = _)]
  exact h _ s5
/-- == of a service and itself is True -/
theorem svc_eq (T : TxK20 w K mg) {H : Hp} {p : Addr} {v : SvW} {Q : VK} (g : v.good) (B : SvcRef T.toTxBkOps.toTxBkHas.toTxBook.toTxSvc H (.ref p) v) (h : ∀ H', Same H H' → Q (.bl false) H') :
    rEqO K (fun _ : Unit => T.toTxBkStr.toTxSvcStr.C_Service) (fun _ => True) (spSvcEqG T.toTxBkStr.toTxSvcStr) true (.ref p) (.ref p) H Q := by
  obtain ⟨_, z1, A1⟩ := B.at_ T.toTxBkStr g
  cases z1
  obtain ⟨⟨dx1, _, _, _, _, _, _, _, h1, _⟩, _⟩ := id A1
  refine ⟨p, (), dx1, _, _, rfl, trivial, h1, T.ty_Service _ _ _ _ h1, T.nf_Service, p, .ref p, v.d, rfl, A1, .inl ⟨p, v.d, rfl, A1, fun H5 s5 => ⟨_, rfl, ?_⟩⟩⟩
  rw [if_pos rfl, decide_eq_true (rfl : svTxt v.d = _)]
  exact h _ s5
theorem bk_at {T : TxBook w K mg} {H : Hp} {p : Addr} {vs : List SvW} {roots : List Str} (B : BkIs T H p vs roots) : ∃ dx fs, H p = some (.ins T.C_Book dx fs) ∧ fs.lookup ("named" : Str) = none ∧ fs.lookup ("without" : Str) = none ∧ fs.lookup ("changed" : Str) = none := by
  obtain ⟨dx, s2, r2, n2, m2, g2, w2, xs, ws, ns, ms, gs, hm, _⟩ := B.ex
  exact ⟨dx, _, hm, rfl, rfl, rfl⟩
theorem refs12 {T : TxBook w K mg} {H : Hp} {a b : Str} {o1 o2 m : Addr} (F : Fc20 T H a b o1 o2 m) : Paired (SvcRef T.toTxSvc H) [.ref o1, .ref o2] [vA a b, vB b] := .cons F.s1 (.cons F.s2 .nil)
theorem ok_tD20 (T : TxK20 w K mg) {D : Ends} {v0 v1 v2 : Option V} {a b : Str} {o1 o2 m : Addr} {H : Hp} (F : Fc20 T.toTxBkOps.toTxBkHas.toTxBook H a b o1 o2 m)
    (hn : ∀ H', Same H H' → D.nx [v0, v1, v2, some (.str a), some (.str b), some (.ref o1), some (.ref o2), some (.ref m)] H') :
    tD20 T D [v0, v1, v2, some (.str a), some (.str b), some (.ref o1), some (.ref o2), some (.ref m)] H := by
  have W := bkA_well F.pr
  have W2 := bkB_well F.pr
  obtain ⟨dx, fs, hm, nn, nw, nc⟩ := bk_at F.bk
  refine ⟨_, rfl, m, dx, fs, rfl, hm, nc, _, rfl, _, rfl, by show 1 ≤ sizeLine; decide, fun l hl => ?_⟩
  have y1 := same_upd hl (.lst [.str a])
  refine svc_new T.toTxBkOps.toTxBkHas.toTxBook.toTxSvc (H := upd H l (.lst [.str a])) (v := vB a) (ka := l) (wa := T.e_waits) (la := T.e_leaves) (ra := T.e_rows) (xs := []) (vB_good F.pr.na) (.inl (SqL.of (xs := [.str a]) upd_same)) (.inr (T.t_waits _)) (.inr (T.t_leaves _)) (.inr (T.t_rows _)) .nil fun o3 H2 s2 n2 R3 => ?_
  have y2 := y1.trans s2
  have F2 := F.same y2
  refine ⟨rfl, m, o3, vB a, [.ref o1, .ref o2], [vA a b, vB b], [b, a], rfl, F2.bk, F2.bs, refs12 F2, R3, vB_good F.pr.na, List.mem_cons_self, by rw [swap_a F.pr]; exact W2, fun q H3 s3 n3 B3 _ => ?_⟩
  rw [swap_a F.pr] at B3
  have y3 := y2.trans s3
  refine ⟨_, rfl, _, rfl, by show 1 ≤ sizeLine; decide, fun t ht => ?_⟩
  have y4 := y3.trans (same_upd ht (.tup [.str a]))
  refine svc_new T.toTxBkOps.toTxBkHas.toTxBook.toTxSvc (H := upd H3 t (.tup [.str a])) (v := vB a) (ka := t) (wa := T.e_waits) (la := T.e_leaves) (ra := T.e_rows) (xs := []) (vB_good F.pr.na) (.inr (SqT.of (xs := [.str a]) upd_same)) (.inr (T.t_waits _)) (.inr (T.t_leaves _)) (.inr (T.t_rows _)) .nil fun o4 H5 s5 n5 R4 => ?_
  have y5 := y4.trans s5
  refine ⟨_, rfl, by show 2 ≤ sizeLine; decide, fun l2 hl2 => ?_⟩
  have u6 := same_upd hl2 (.lst [.ref o4, .ref o2])
  refine ⟨_, rfl, _, rfl, by show 2 ≤ sizeLine; decide, fun l3 hl3 => ?_⟩
  have u7 := same_upd hl3 (.lst [.str b, .str a])
  have y7 := (y5.trans u6).trans u7
  refine bk_new T.toTxBkOps.toTxBkHas.toTxBook W2 (xs := [.ref o4, .ref o2]) (.inl (SqL.of (u7 _ _ upd_same))) (.inl (SqL.of upd_same)) (.cons (R4.same (u6.trans u7)) (.cons (F.s2.same y7) .nil)) fun q2 H8 s8 n8 B8 _ => ?_
  have t8 : Same H3 H8 := ((((same_upd ht (.tup [.str a])).trans s5).trans u6).trans u7).trans s8
  refine bk_eq T W2.gd (B3.same t8) B8 fun H9 s9 => ⟨_, rfl, ?_⟩
  refine ite2 (fun c => absurd c (by simp)) (fun _ => ?_)
  have y9 := (y7.trans s8).trans s9
  exact ok_tE20 T (F.same y9) fun H' e => hn H' (y9.trans e)
theorem ok_tC20 (T : TxK20 w K mg) {D : Ends} {v0 v1 v2 : Option V} {a b : Str} {o1 o2 m : Addr} {H : Hp} (F : Fc20 T.toTxBkOps.toTxBkHas.toTxBook H a b o1 o2 m)
    (hn : ∀ H', Same H H' → D.nx [v0, v1, v2, some (.str a), some (.str b), some (.ref o1), some (.ref o2), some (.ref m)] H') :
    tC20 T D [v0, v1, v2, some (.str a), some (.str b), some (.ref o1), some (.ref o2), some (.ref m)] H := by
  have W := bkA_well F.pr
  obtain ⟨dx, fs, hm, nn, nw, nc⟩ := bk_at F.bk
  refine ⟨_, rfl, m, dx, fs, rfl, hm, nn, _, rfl, rfl, m, a, [.ref o1, .ref o2], [vA a b, vB b], 0, .ref o1, vA a b, rfl, F.bs, refs12 F, rfl, rfl, rfl, (fun j hj => absurd hj (Nat.not_lt_zero j)), ?_⟩
  refine ⟨_, rfl, svc_eq T (vA_good F.pr) F.s1 fun H1 s1 => ⟨_, rfl, ?_⟩⟩
  refine ite2 (fun c => absurd c (by simp)) (fun _ => ?_)
  have F1 := F.same s1
  have m1 : 1 < (rowsOf [vA a b, vB b]).length := by show 1 < 2; decide
  refine ⟨_, rfl, m, dx, fs, rfl, s1 _ _ hm, nw, rfl, m, 1, [vA a b, vB b], [b, a], rfl, F1.bk, W, m1, fun q H2 s2 n2 B2 => ?_⟩
  have y2 := s1.trans s2
  have F2 := F.same y2
  refine ⟨_, rfl, m, dx, fs, rfl, y2 _ _ hm, nw, m, 1, [vA a b, vB b], [b, a], rfl, F2.bk, W, m1, fun q3 H3 s3 n3 B3 => ?_⟩
  refine bk_eq T (W.less 1).gd (B2.same s3) B3 fun H4 s4 => ⟨_, rfl, ?_⟩
  refine ite2 (fun c => absurd c (by simp)) (fun _ => ?_)
  have y4 := (y2.trans s3).trans s4
  have F4 := F.same y4
  refine ⟨_, rfl, m, dx, fs, rfl, y4 _ _ hm, nc, _, rfl, rfl, m, o2, vB b, [.ref o1, .ref o2], [vA a b, vB b], [b, a], rfl, F4.bk, F4.bs, refs12 F4, F4.s2, vB_good F.pr.nb, List.mem_cons_of_mem _ List.mem_cons_self, by rw [swap_b F.pr]; exact W, fun q5 H5 s5 n5 B5 _ => ?_⟩
  rw [swap_b F.pr] at B5
  refine ⟨_, rfl, bk_eq T W.gd B5 (F4.bk.same s5) fun H6 s6 => ⟨_, rfl, ?_⟩⟩
  refine ite2 (fun c => absurd c (by simp)) (fun _ => ?_)
  have y6 := (y4.trans s5).trans s6
  exact ok_tD20 T (F.same y6) fun H' e => hn H' (y6.trans e)
end
end My

/-! ## k20: its services and its book -/
namespace My
open PySem PySem.Spec PyProof.Rows L2
theorem wEnd20 {b : Str} (h : isNm b = true) : wEnd [.str "any", .str "bad", .str b, .str "keep"] = none := by
  show (if (nmD (.str "any") || txD ["any"] (.str "any")) = false then (some "mood" : Option Str) else if txD ["good", "bad", "any"] (.str "bad") = false then some "outcome" else if (nmD (.str b) || txD ["none"] (.str b)) = false then some "sign" else if txD ["keep", "drop"] (.str "keep") = false then some "part" else none) = none
  rw [if_neg (by decide +kernel), if_neg (by decide +kernel), if_neg (by show ¬ (isNm b || txD ["none"] (.str b)) = false; rw [h, Bool.true_or]; decide), if_neg (by decide +kernel)]
theorem wBeg20 : wBegin [.str "none", .str "top", .str "loud"] = none := by decide +kernel
section
variable {w : World} {K : PySem.W.Frag} {mg : Str → Option Value}
theorem ok_tB20 (T : TxK20 w K mg) {D : Ends} {v0 v1 v2 : Option V} {a b : Str} {o1 o2 m : Addr} {H : Hp} (F : Fc20 T.toTxBkOps.toTxBkHas.toTxBook H a b o1 o2 m)
    (hn : ∀ H', Same H H' → D.nx [v0, v1, v2, some (.str a), some (.str b), some (.ref o1), some (.ref o2), some (.ref m)] H') :
    tB20 T D [v0, v1, v2, some (.str a), some (.str b), some (.ref o1), some (.ref o2), some (.ref m)] H := by
  have W := bkA_well F.pr
  obtain ⟨dx, fs, hm, _⟩ := bk_at F.bk
  refine ⟨_, rfl, _, rfl, _, rfl, by show 2 ≤ sizeLine; decide, fun l hl => ⟨_, rfl, _, rfl, by show 2 ≤ sizeLine; decide, fun t ht => ?_⟩⟩
  have y1 := same_upd hl (.lst [.ref o1, .ref o2])
  have u2 := same_upd ht (.tup [.str b, .str a])
  have y2 := y1.trans u2
  refine bk_new T.toTxBkOps.toTxBkHas.toTxBook (H := upd (upd H l (.lst [.ref o1, .ref o2])) t (.tup [.str b, .str a])) W (sa := l) (ra := t) (xs := [.ref o1, .ref o2]) (.inl (SqL.of (u2 _ _ upd_same))) (.inr (SqT.of (xs := [.str b, .str a]) upd_same)) (refs12 (F.same y2)) fun q H3 s3 n3 B3 _ => ?_
  have y3 := y2.trans s3
  refine bk_eq T W.gd (F.bk.same y3) B3 fun H4 s4 => ⟨_, rfl, ?_⟩
  refine ite2 (fun c => absurd c (by simp)) (fun _ => ?_)
  have y4 := y3.trans s4
  refine ⟨rfl, _, rfl, m, (), dx, _, rfl, trivial, y4 _ _ hm, m, [vA a b, vB b], [b, a], rfl, F.bk.same y4, W.gd, fun H5 s5 => ⟨_, rfl, rfl, [vA a b, vB b], [b, a], rfl, W, fun q6 H6 s6 n6 B6 => ?_⟩⟩
  have y6 := (y4.trans s5).trans s6
  refine ⟨_, rfl, bk_eq T W.gd B6 (F.bk.same y6) fun H7 s7 => ⟨_, rfl, ?_⟩⟩
  refine ite2 (fun c => absurd c (by simp)) (fun _ => ?_)
  have y7 := y6.trans s7
  exact ok_tC20 T (F.same y7) fun H' e => hn H' (y7.trans e)
theorem ok_tA20 (T : TxK20 w K mg) {D : Ends} {v0 v1 v2 v5 v6 v7 : Option V} {a b : Str} {H : Hp} (p : Pr20 a b)
    (hn : ∀ v5 v6 v7 H', Same H H' → D.nx [v0, v1, v2, some (.str a), some (.str b), v5, v6, v7] H') :
    tA20 T D [v0, v1, v2, some (.str a), some (.str b), v5, v6, v7] H := by
  have W := bkA_well p
  refine ⟨_, rfl, _, rfl, by show 2 ≤ sizeLine; decide, fun k1 hk1 => ⟨_, rfl, _, rfl, by show 2 ≤ sizeLine; decide, fun w1 hw1 => ⟨_, rfl, by show 1 ≤ sizeLine; decide, fun l1 hl1 => ⟨_, rfl, ?_⟩⟩⟩⟩
  have hk := upd_same (H := H) (a := k1) (o := .lst [.str (Str.ofString "top"), .str a])
  have u1 := same_upd hk1 (.lst [.str (Str.ofString "top"), .str a])
  generalize upd H k1 (.lst [.str (Str.ofString "top"), .str a]) = H1 at *
  have hw := upd_same (H := H1) (a := w1) (o := .lst [.str b, .str a])
  have u2 := same_upd hw1 (.lst [.str b, .str a])
  generalize upd H1 w1 (.lst [.str b, .str a]) = H2 at *
  have hl := upd_same (H := H2) (a := l1) (o := .lst [.str b])
  have u3 := same_upd hl1 (.lst [.str b])
  generalize upd H2 l1 (.lst [.str b]) = H3 at *
  refine row_new T.toTxBkOps.toTxBkHas.toTxBook.toTxSvc (H := H3) (so := "end") (as := [.str "any", .str "bad", .str b, .str "keep"]) (ws := ["any", "bad", b, "keep"]) rfl rfl rfl rfl (.cons (Dv.str (by decide +kernel)) (.cons (Dv.str (by decide +kernel)) (.cons (Dv.str p.ob) (.cons (Dv.str (by decide +kernel)) .nil)))) (wEnd20 p.nb) fun e H4 s4 n4 R4 => ?_
  refine row_new T.toTxBkOps.toTxBkHas.toTxBook.toTxSvc (H := H4) (so := "begin") (as := [.str "none", .str "top", .str "loud"]) (ws := ["none", "top", "loud"]) rfl rfl rfl rfl (.cons (Dv.str (by decide +kernel)) (.cons (Dv.str (by decide +kernel)) (.cons (Dv.str (by decide +kernel)) .nil))) wBeg20 fun g H5 s5 n5 R5 => ?_
  refine ⟨by show 2 ≤ sizeLine; decide, fun r1 hr1 => ?_⟩
  have u6 := same_upd hr1 (.lst [.ref e, .ref g])
  have t45 := s4.trans s5
  have t36 := t45.trans u6
  have RR : Paired (RowIs T.toTxBkOps.toTxBkHas.toTxBook.toTxSvc (upd H5 r1 (.lst [.ref e, .ref g]))) [.ref e, .ref g] (vA a b).rows := .cons (RowIs.keep R4 fun _ _ _ _ z => u6 _ _ (s5 _ _ z)) (.cons (RowIs.keep R5 fun _ _ _ _ z => u6 _ _ z) .nil)
  refine svc_new T.toTxBkOps.toTxBkHas.toTxBook.toTxSvc (H := upd H5 r1 (.lst [.ref e, .ref g])) (v := vA a b) (ka := k1) (wa := w1) (la := l1) (ra := r1) (xs := [.ref e, .ref g]) (vA_good p) (.inl (SqL.of (xs := [.str "top", .str a]) (t36 _ _ (u3 _ _ (u2 _ _ hk))))) (.inl (SqL.of (xs := [.str b, .str a]) (t36 _ _ (u3 _ _ hw)))) (.inl (SqL.of (xs := [.str b]) (t36 _ _ hl))) (.inl (SqL.of upd_same)) RR fun o1 H6 s6 n6 R6 => ?_
  refine ⟨_, rfl, _, rfl, by show 1 ≤ sizeLine; decide, fun l hl2 => ?_⟩
  have u7 := same_upd hl2 (.lst [.str b])
  refine svc_new T.toTxBkOps.toTxBkHas.toTxBook.toTxSvc (H := upd H6 l (.lst [.str b])) (v := vB b) (ka := l) (wa := T.e_waits) (la := T.e_leaves) (ra := T.e_rows) (xs := []) (vB_good p.nb) (.inl (SqL.of (xs := [.str b]) upd_same)) (.inr (T.t_waits _)) (.inr (T.t_leaves _)) (.inr (T.t_rows _)) .nil fun o2 H7 s7 n7 R7 => ?_
  have t67 := u7.trans s7
  refine ⟨_, rfl, _, rfl, by show 2 ≤ sizeLine; decide, fun l3 hl3 => ⟨_, rfl, _, rfl, by show 2 ≤ sizeLine; decide, fun t3 ht3 => ⟨rfl, rfl, ?_⟩⟩⟩
  have u8 := same_upd hl3 (.lst [.str b, .str a])
  have u9 := same_upd ht3 (.tup [.ref o1, .ref o2])
  have t89 := u8.trans u9
  have RS : Paired (SvcRef T.toTxBkOps.toTxBkHas.toTxBook.toTxSvc (upd (upd H7 l3 (.lst [.str b, .str a])) t3 (.tup [.ref o1, .ref o2]))) [.ref o1, .ref o2] [vA a b, vB b] := .cons (R6.same (t67.trans t89)) (.cons (R7.same t89) .nil)
  refine bk_new T.toTxBkOps.toTxBkHas.toTxBook (H := upd (upd H7 l3 (.lst [.str b, .str a])) t3 (.tup [.ref o1, .ref o2])) W (sa := t3) (ra := l3) (xs := [.ref o1, .ref o2]) (.inr (SqT.of upd_same)) (.inl (SqL.of (xs := [.str b, .str a]) (u9 _ _ upd_same))) RS fun m H8 s8 n8 B8 S8 => ?_
  have z : Same H H8 := ((((u1.trans u2).trans u3).trans (t36.trans s6)).trans (t67.trans t89)).trans s8
  exact ok_tB20 T ⟨p, (R6.same (t67.trans t89)).same s8, (R7.same t89).same s8, B8, S8⟩ fun H' e' => hn _ _ _ H' (z.trans e')
end
end My

/-! ## k20: the law -/
namespace My
open PySem PySem.Spec PyProof.Rows L2
def spLaw (K : PySem.W.Frag) : Sp := fun vs H Q _ => ∃ (a : Addr) (ns : List Int), vs = [.ref a] ∧ SqL K H a (ns.map V.int) ∧ ns.length ≤ 63 ∧ ∀ H', Q (.bl true) H'
section
variable {P : Program} {w : World} {K : PySem.W.Frag} {mg : Str → Option Value} {base : Heap}
theorem ok_law20 (T : TxK20 w K mg) : FnOk P w K mg base CX0 13 T.f_law T.d_law P_law (spLaw K) := by
  have G_box : FnOk P w K mg base CX0 1 T.f_box T.d_box P_box (spBox K) := ok_box T.toTxDraw
  have G_take : FnOk P w K mg base CX0 1 T.f_take T.d_take P_take spTake := ok_take T.toTxDraw
  have G_Begin_init := ok_Begin_init (P := P) (w := w) (base := base) T.toTxRows
  have G_End_init := ok_End_init (P := P) (w := w) (base := base) T.toTxRows
  have G_Service_init := ok_Service_init (P := P) (w := w) (base := base) T.toTxSvc
  have G_Book_init := ok_Book_init (P := P) (w := w) (base := base) T.toTxBook
  have G_Book_read := ok_Book_read (P := P) (w := w) (base := base) T.toTxRead
  have G_Book_named := ok_Book_named (P := P) (w := w) (base := base) T.toTxBkOps
  have G_Book_changed := ok_Book_changed (P := P) (w := w) (base := base) T.toTxBkOps
  have G_Book_without := ok_Book_without (P := P) (w := w) (base := base) T.toTxLess
  have G_bstr := str_bk (P := P) (w := w) (base := base) T.toTxBkStr
  have G_sstr := str_svc2 (P := P) (w := w) (base := base) T.toTxBkStr
  have G_beq := eq_bk (P := P) (w := w) (base := base) T.toTxBkStr
  have G_seq := eq_svc (P := P) (w := w) (base := base) T.toTxSvcStr
  have kbM := kbn_fun (ps := P_Book_init) T.F_Book_init 1 ["roots", "services"] r2 r2_rel (fun _ _ _ _ _ _ us ws h1 h2 => match us, h1, ws, h2 with | [_], _, [_, _], _ => rfl)
  have kbR := kbn_fun (ps := P_Book_read) T.F_Book_read 1 ["text"] r1 r1_rel (fun _ _ _ _ _ _ us ws h1 h2 => match us, h1, ws, h2 with | [_], _, [_], _ => rfl)
  have kbN := kbn_fun (ps := P_Book_named) T.F_Book_named 1 ["name"] r1 r1_rel (fun _ _ _ _ _ _ us ws h1 h2 => match us, h1, ws, h2 with | [_], _, [_], _ => rfl)
  have kbW := kbn_fun (ps := P_Book_without) T.F_Book_without 1 ["at"] r1 r1_rel (fun _ _ _ _ _ _ us ws h1 h2 => match us, h1, ws, h2 with | [_], _, [_], _ => rfl)
  have kbC := kbn_fun (ps := P_Book_changed) T.F_Book_changed 1 ["service"] r1 r1_rel (fun _ _ _ _ _ _ us ws h1 h2 => match us, h1, ws, h2 with | [_], _, [_], _ => rfl)
  obtain ⟨ds6, hv6, hb6⟩ := T.F_Service_init.binds1 (ps := P_Service_init) 6 3 (by simp) rfl (fun TT kV doc pm an cdv ct us its h1 h2 => by
    match us, h1, its, h2 with
    | [_, _, _, _, _, _], _, [_, _, _], _ => exact ⟨_, rfl, rfl⟩)
  obtain ⟨ds3, hv3, hb3⟩ := T.F_Service_init.binds1 (ps := P_Service_init) 3 0 (by simp) rfl (fun TT kV doc pm an cdv ct us its h1 h2 => by
    match us, h1, its, h2 with
    | [_, _, _], _, [_, _, _], _ => exact ⟨_, rfl, rfl⟩)
  refine T.F_law.ok sc_law (fun vs H Q E h => ?_) (fun cdv A outer s H vs Q E hr h => ?_)
  · obtain ⟨a, ns, rfl, _⟩ := h
    rfl
  obtain ⟨a, ns, rfl, hS, h63, q⟩ := h
  refine ⟨_, (pss_cons (ps_for PassesOwn.never rfl (pi_range1 (by rfl) T.z_range (pa_cons (pe_callB (call_max2 rfl) (by rfl) T.z_max (by decide +kernel) (pa_cons pe_int (pa_cons (pe_callB (call_min2 rfl) (by rfl) T.z_min (by decide +kernel) (pa_cons pe_int (pa_cons (pe_callB (call_lenK K) (by rfl) T.z_len (by decide +kernel) (pa_cons (pv 0) pa_nil)) pa_nil))) pa_nil))) pa_nil)) (pg_name (i := 1) sc_law.nd rfl (Or.inl rfl)) (pss_cons (ps_set (i := 2) sc_law.nd rfl (Or.inl rfl) (pe_call G_box (hr.mono (by decide)) (by rfl) T.m_box T.F_box.kp T.b_box .nil pass0 (pa_cons (pv 0) (pa_cons (pv 1) pa_nil))))
      (pss_cons (ps_asg (pe_ix (ix_listK K) (pe_lst (pa_cons (pe_tup (pa_cons pe_str (pa_cons pe_str pa_nil))) (pa_cons (pe_tup (pa_cons pe_str (pa_cons pe_str pa_nil))) (pa_cons (pe_tup (pa_cons pe_str (pa_cons pe_str pa_nil))) (pa_cons (pe_tup (pa_cons pe_str (pa_cons pe_str pa_nil))) pa_nil))))) (pe_call G_take (hr.mono (by decide)) (by rfl) T.m_take T.F_take.kp T.b_take .nil pass0 (pa_cons (pv 2) (pa_cons pe_int pa_nil))) (fun _ _ => rfl)) (pg_tup rfl (pgs_cons (pg_name (i := 3) sc_law.nd rfl (Or.inl rfl)) (pgs_cons (pg_name (i := 4) sc_law.nd rfl (Or.inl rfl)) pgs_nil))))
      (pss_cons (ps_set (i := 5) sc_law.nd rfl (Or.inl rfl) (pe_make T.mk_Service G_Service_init (hr.mono (by decide)) (by rfl) T.m_Service hb6 hv6 passL (pa_cons (pv 3) (pa_cons (pe_lst (pa_cons pe_str (pa_cons (pv 3) pa_nil))) (pa_cons (pe_lst (pa_cons (pv 4) (pa_cons (pv 3) pa_nil))) (pa_cons (pe_lst (pa_cons (pv 4) pa_nil)) (pa_cons (pe_lst (pa_cons (pe_make T.mk_End G_End_init (hr.mono (by decide)) (by rfl) T.m_End T.b_End_init .nil passL (pa_cons pe_str (pa_cons pe_str (pa_cons (pv 4) (pa_cons pe_str pa_nil))))) (pa_cons (pe_make T.mk_Begin G_Begin_init (hr.mono (by decide)) (by rfl) T.m_Begin T.b_Begin_init .nil passL (pa_cons pe_str (pa_cons pe_str (pa_cons pe_str pa_nil)))) pa_nil))) pa_nil)))))))
      (pss_cons (ps_set (i := 6) sc_law.nd rfl (Or.inl rfl) (pe_make T.mk_Service G_Service_init (hr.mono (by decide)) (by rfl) T.m_Service hb3 hv3 passL (pa_cons (pv 4) (pa_cons (pe_lst (pa_cons (pv 4) pa_nil)) pa_nil))))
      (pss_cons (ps_set (i := 7) sc_law.nd rfl (Or.inl rfl) (pe_makeK0 T.mk_Book G_Book_init (hr.mono (by decide)) (by rfl) T.m_Book kbM passL (pk_cons (pe_lst (pa_cons (pv 4) (pa_cons (pv 3) pa_nil))) (pk_cons (pe_tup (pa_cons (pv 5) (pa_cons (pv 6) pa_nil))) pk_nil))))
      (pss_cons (ps_if (PW.pt (pw_or (pt_cmpR (op_neO K G_beq (hr.mono (by decide))) (pv 7) (pe_make T.mk_Book G_Book_init (hr.mono (by decide)) (by rfl) T.m_Book T.b_Book_init .nil passL (pa_cons (pe_lst (pa_cons (pv 5) (pa_cons (pv 6) pa_nil))) (pa_cons (pe_tup (pa_cons (pv 4) (pa_cons (pv 3) pa_nil))) pa_nil))) (nomark _)) (pw_or1 (pt_cmpR (op_neO K G_beq (hr.mono (by decide))) (pe_cmethKw (pe_glob (v := .ref T.C_Book) (by rfl) T.m_Book rfl) (ClX.CRead.mk T.rd_Book T.sg_Book) (ClX.CMet.mk T.fc_read ⟨_, T.rc_read⟩ T.fn_read) G_Book_read (hr.mono (by decide)) kbR pass0 (pk_cons (pe_callTy (call_strO K G_bstr (hr.mono (by decide))) (by rfl) T.z_str (by decide +kernel) (pa_cons (pv 7) pa_nil)) pk_nil)) (pv 7) (nomark _))))) (pss_one (ps_ret pe_bl)) pss_nil)
      (pss_cons (ps_if (pt_cmpR (op_neO K G_seq (hr.mono (by decide))) (pe_methKw (pv 7) T.c_Book T.mt_Book_named G_Book_named (hr.mono (by decide)) kbN pass0 (pk_cons (pv 3) pk_nil)) (pv 5) (nomark _)) (pss_one (ps_ret pe_bl)) pss_nil)
      (pss_cons (ps_if (PW.pt (pw_or (pt_cmpR (op_neO K G_beq (hr.mono (by decide))) (pe_methKw (pv 7) T.c_Book T.mt_Book_without G_Book_without (hr.mono (by decide)) kbW pass0 (pk_cons pe_int (pk_nil))) (pe_meth (pv 7) T.c_Book T.mt_Book_without G_Book_without (hr.mono (by decide)) T.b_Book_without .nil pass0 (pa_cons pe_int pa_nil)) (nomark _)) (pw_or1 (pt_cmpR (op_neO K G_beq (hr.mono (by decide))) (pe_methKw (pv 7) T.c_Book T.mt_Book_changed G_Book_changed (hr.mono (by decide)) kbC pass0 (pk_cons (pv 6) pk_nil)) (pv 7) (nomark _))))) (pss_one (ps_ret pe_bl)) pss_nil)
      (pss_cons (ps_if (pt_cmpR (op_neO K G_beq (hr.mono (by decide))) (pe_methKw (pv 7) T.c_Book T.mt_Book_changed G_Book_changed (hr.mono (by decide)) kbC pass0 (pk_cons (pe_make T.mk_Service G_Service_init (hr.mono (by decide)) (by rfl) T.m_Service hb3 hv3 passL (pa_cons (pv 3) (pa_cons (pe_lst (pa_cons (pv 3) pa_nil)) pa_nil))) pk_nil)) (pe_make T.mk_Book G_Book_init (hr.mono (by decide)) (by rfl) T.m_Book T.b_Book_init .nil passL (pa_cons (pe_lst (pa_cons (pe_make T.mk_Service G_Service_init (hr.mono (by decide)) (by rfl) T.m_Service hb3 hv3 passL (pa_cons (pv 3) (pa_cons (pe_tup (pa_cons (pv 3) pa_nil)) pa_nil))) (pa_cons (pv 6) pa_nil))) (pa_cons (pe_lst (pa_cons (pv 4) (pa_cons (pv 3) pa_nil))) pa_nil))) (nomark _)) (pss_one (ps_ret pe_bl)) pss_nil)
      (pss_cons (ps_if (pt_cmpR op_ne (pe_callTy (call_strO K G_bstr (hr.mono (by decide))) (by rfl) T.z_str (by decide +kernel) (pa_cons (pv 7) pa_nil)) (pe_m1 PySem.F.slot_str_join PySem.F.type_str_join (mt_joinK K) pe_str (pe_lst (pa_cons (pe_callTy (call_strO K G_sstr (hr.mono (by decide))) (by rfl) T.z_str (by decide +kernel) (pa_cons (pv 5) pa_nil)) (pa_cons (pe_callTy (call_strO K G_sstr (hr.mono (by decide))) (by rfl) T.z_str (by decide +kernel) (pa_cons (pv 6) pa_nil)) (pa_cons (pe_op op_add_str pe_str (pv 4)) (pa_cons (pe_op op_add_str pe_str (pv 3)) pa_nil)))))) (nomark _)) (pss_one (ps_ret pe_bl)) pss_nil)
      (pss_cons (ps_if (PW.pt (pw_or (pt_cmpR (op_neDK K hr.units) (pe_fldK K (pv 7)) (pe_callTy (call_tupleK K) (by rfl) T.z_tuple (by decide +kernel) (pa_cons (pe_callB cr_sortedS (by rfl) T.z_sorted (by decide +kernel) (pa_cons (pe_lst (pa_cons (pe_callTy SkE.call_str_str (by rfl) T.z_str (by decide +kernel) (pa_cons (pv 4) pa_nil)) (pa_cons pe_str pa_nil))) pa_nil)) pa_nil)) (nomark _)) (pw_or1 (pt_cmpR (op_neDK K hr.units) (pe_fldK K (pv 7)) (pe_tup (pa_cons pe_str pa_nil)) (nomark _))))) (pss_one (ps_ret pe_bl)) pss_nil)
      (pss_one (ps_if (pt_cmpR (op_neDK K hr.units) (pe_fldK K (pv 5)) (pe_tup (pa_cons pe_str (pa_cons pe_str pa_nil))) (nomark _)) (pss_one (ps_ret pe_bl)) pss_nil))))))))))))))
      (pss_one (ps_ret pe_bl))), ?_⟩
  obtain ⟨mt1, mt2⟩ := turns_many (n := 4) (l := (ns.map V.int).length) (by decide) (by decide)
  refine ⟨_, rfl, _, _, rfl, .inl hS, _, _, rfl, _, _, rfl, _, rfl, by omega, by omega, for_range (lo := 0) (fun i σ H' => (∃ v1 v2 v3 v4 v5 v6 v7 : Option V, σ = [some (.ref a), v1, v2, v3, v4, v5, v6, v7]) ∧ Same H H') ⟨⟨_, _, _, _, _, _, _, rfl⟩, Same.refl _⟩ ?_ ?_⟩
  rotate_left
  · rintro σ H1 ⟨⟨v1, v2, v3, v4, v5, v6, v7, rfl⟩, s1⟩
    exact q _
  rintro i0 σ H1 hi ⟨⟨v1, v2, v3, v4, v5, v6, v7, rfl⟩, s1⟩
  refine ⟨_, rfl, _, rfl, a, ns, _, rfl, s1.seq hS, h63, by omega, fun b bw bs hb => ?_⟩
  have e0 := upd_same (H := H1) (a := b) (o := bx bw bs 0)
  have k0 := same_upd hb (bx bw bs 0)
  generalize upd H1 b (bx bw bs 0) = HB at e0 k0
  refine ⟨by show 2 ≤ sizeLine; decide, fun t1 h1 => ⟨by show 2 ≤ sizeLine; decide, fun t2 h2 => ⟨by show 2 ≤ sizeLine; decide, fun t3 h3 => ⟨by show 2 ≤ sizeLine; decide, fun t4 h4 => ⟨by show 4 ≤ sizeLine; decide, fun L hL => ?_⟩⟩⟩⟩⟩
  have a1 := upd_same (H := HB) (a := t1) (o := .tup [.str (Str.ofString "a"), .str (Str.ofString "b")])
  have z1 := same_upd h1 (.tup [.str (Str.ofString "a"), .str (Str.ofString "b")])
  generalize upd HB t1 (.tup [.str (Str.ofString "a"), .str (Str.ofString "b")]) = G1 at *
  have a2 := upd_same (H := G1) (a := t2) (o := .tup [.str (Str.ofString "web"), .str (Str.ofString "pay")])
  have z2 := same_upd h2 (.tup [.str (Str.ofString "web"), .str (Str.ofString "pay")])
  generalize upd G1 t2 (.tup [.str (Str.ofString "web"), .str (Str.ofString "pay")]) = G2 at *
  have a3 := upd_same (H := G2) (a := t3) (o := .tup [.str (Str.ofString "end"), .str (Str.ofString "root")])
  have z3 := same_upd h3 (.tup [.str (Str.ofString "end"), .str (Str.ofString "root")])
  generalize upd G2 t3 (.tup [.str (Str.ofString "end"), .str (Str.ofString "root")]) = G3 at *
  have a4 := upd_same (H := G3) (a := t4) (o := .tup [.str (Str.ofString "zz"), .str (Str.ofString "zzz")])
  have z4 := same_upd h4 (.tup [.str (Str.ofString "zz"), .str (Str.ofString "zzz")])
  generalize upd G3 t4 (.tup [.str (Str.ofString "zz"), .str (Str.ofString "zzz")]) = G4 at *
  have a5 := upd_same (H := G4) (a := L) (o := .lst [.ref t1, .ref t2, .ref t3, .ref t4])
  have z5 := same_upd hL (.lst [.ref t1, .ref t2, .ref t3, .ref t4])
  generalize upd G4 L (.lst [.ref t1, .ref t2, .ref t3, .ref t4]) = G5 at *
  have b1 : t1 ≠ b := (ne_of_none e0 h1).symm
  have b2 : t2 ≠ b := (ne_of_none (z1 _ _ e0) h2).symm
  have b3 : t3 ≠ b := (ne_of_none (z2 _ _ (z1 _ _ e0)) h3).symm
  have b4 : t4 ≠ b := (ne_of_none (z3 _ _ (z2 _ _ (z1 _ _ e0))) h4).symm
  have b5 : L ≠ b := (ne_of_none (z4 _ _ (z3 _ _ (z2 _ _ (z1 _ _ e0)))) hL).symm
  have e5 := z5 _ _ (z4 _ _ (z3 _ _ (z2 _ _ (z1 _ _ e0))))
  refine ⟨_, rfl, b, bw, bs, 0, 4, rfl, e5, by decide, by decide, fun d w' s' c' d0 d4 => ?_⟩
  obtain ⟨j, rfl⟩ : ∃ j : Nat, d = (j : Int) := ⟨d.toNat, by omega⟩
  have hj : j < 4 := by omega
  have zz : Same H (upd G5 b (bx w' s' c')) := fun c o e => by
    have e1 := s1 _ _ e
    rw [upd_ne (ne_of_none e1 hb)]
    exact z5 _ _ (z4 _ _ (z3 _ _ (z2 _ _ (z1 _ _ (k0 _ _ e1)))))
  have lt : upd G5 b (bx w' s' c') L = some (.lst [.ref t1, .ref t2, .ref t3, .ref t4]) := by rw [upd_ne b5]; exact a5
  obtain ⟨t, x, y, ht, hx, hm⟩ : ∃ (t : Addr) (x y : Str), [V.ref t1, V.ref t2, V.ref t3, V.ref t4][j]? = some (V.ref t) ∧ upd G5 b (bx w' s' c') t = some (.tup [.str x, .str y]) ∧ (x, y) ∈ PAIRS := by
    match j, hj with
    | 0, _ => exact ⟨t1, "a", "b", rfl, by rw [upd_ne b1]; exact z5 _ _ (z4 _ _ (z3 _ _ (z2 _ _ a1))), by unfold PAIRS; simp⟩
    | 1, _ => exact ⟨t2, "web", "pay", rfl, by rw [upd_ne b2]; exact z5 _ _ (z4 _ _ (z3 _ _ a2)), by unfold PAIRS; simp⟩
    | 2, _ => exact ⟨t3, "end", "root", rfl, by rw [upd_ne b3]; exact z5 _ _ (z4 _ _ a3), by unfold PAIRS; simp⟩
    | 3, _ => exact ⟨t4, "zz", "zzz", rfl, by rw [upd_ne b4]; exact z5 _ _ a4, by unfold PAIRS; simp⟩
  refine ⟨L, [.ref t1, .ref t2, .ref t3, .ref t4], _, .ref t, rfl, rfl, SqL.of lt, atI_nat ht, t, [.str x, .str y], rfl, SqT.of hx, rfl, _, _, rfl, _, _, rfl, rfl, ?_⟩
  exact ok_tA20 T (pairs_ok _ hm) fun v5 v6 v7 H' s' => ⟨⟨_, _, _, _, _, _, _, rfl⟩, zz.trans s'⟩
end
end My

/-! ## The end: what the top has written, the theorem -/
namespace My
open PySem L2
theorem kit_yes {K : PySem.W.Frag} {t : Value} {C : Addr} (h1 : PySem.W.isClsIn K C = true) (h2 : PySem.W.typeIn K (.ref C) = some (.type "type")) (h3 : PySem.W.subIn K t (.ref C) = some true) : PySem.W.kitOne K t (.ref C) = some true := by
  have e : ((PySem.W.clsIn K C).isSome && PySem.W.typeIn K (.ref C) == some (.type "type")) = true := by
    have h1' : (PySem.W.clsIn K C).isSome = true := h1
    rw [h1', h2] <;> rfl
  unfold PySem.W.kitOne
  split
  · rfl
  · show (if ((PySem.W.clsIn K C).isSome && PySem.W.typeIn K (.ref C) == some (.type "type")) = true then PySem.W.subIn K t (.ref C) else none) = some true
    rw [if_pos e]
    exact h3
theorem kit_no {K : PySem.W.Frag} {A C : Addr} {b : Bool} (h1 : PySem.W.isClsIn K C = true) (h2 : PySem.W.typeIn K (.ref C) = some (.type "type")) (h3 : PySem.W.subIn K (.ref A) (.ref C) = some b) (n : A ≠ C) : PySem.W.kitOne K (.ref A) (.ref C) = some b := by
  have e : ((PySem.W.clsIn K C).isSome && PySem.W.typeIn K (.ref C) == some (.type "type")) = true := by
    have h1' : (PySem.W.clsIn K C).isSome = true := h1
    rw [h1', h2] <;> rfl
  unfold PySem.W.kitOne
  rw [if_neg (fun z => n (by have z2 := beq_iff_eq.mp z; cases z2; rfl))]
  show (if ((PySem.W.clsIn K C).isSome && PySem.W.typeIn K (.ref C) == some (.type "type")) = true then PySem.W.subIn K (.ref A) (.ref C) else none) = some b
  rw [if_pos e]
  exact h3
theorem kit_tyno {K : PySem.W.Frag} {A : String} {C : Addr} {b : Bool} (h1 : PySem.W.isClsIn K C = true) (h2 : PySem.W.typeIn K (.ref C) = some (.type "type")) (h3 : PySem.W.subIn K (.type A) (.ref C) = some b) : PySem.W.kitOne K (.type A) (.ref C) = some b := by
  have e : ((PySem.W.clsIn K C).isSome && PySem.W.typeIn K (.ref C) == some (.type "type")) = true := by
    have h1' : (PySem.W.clsIn K C).isSome = true := h1
    rw [h1', h2] <;> rfl
  unfold PySem.W.kitOne
  rw [if_neg (fun z => by have z2 := beq_iff_eq.mp z; cases z2)]
  show (if ((PySem.W.clsIn K C).isSome && PySem.W.typeIn K (.ref C) == some (.type "type")) = true then PySem.W.subIn K (.type A) (.ref C) else none) = some b
  rw [if_pos e]
  exact h3
theorem kit_reflist {K : PySem.W.Frag} {A : Addr} {b : Bool} (h3 : PySem.W.subIn K (.ref A) (.type "list") = some b) : PySem.W.kitOne K (.ref A) (.type "list") = some b := by
  unfold PySem.W.kitOne
  rw [if_neg (fun z => by have z2 := beq_iff_eq.mp z; cases z2)]
  unfold PySem.W.kitCls
  first | exact h3 | (simp; exact h3)
theorem kit_reftuple {K : PySem.W.Frag} {A : Addr} {b : Bool} (h3 : PySem.W.subIn K (.ref A) (.type "tuple") = some b) : PySem.W.kitOne K (.ref A) (.type "tuple") = some b := by
  unfold PySem.W.kitOne
  rw [if_neg (fun z => by have z2 := beq_iff_eq.mp z; cases z2)]
  unfold PySem.W.kitCls
  first | exact h3 | (simp; exact h3)
theorem kit_refIndexError {K : PySem.W.Frag} {A : Addr} {b : Bool} (h3 : PySem.W.subIn K (.ref A) (.type "IndexError") = some b) : PySem.W.kitOne K (.ref A) (.type "IndexError") = some b := by
  unfold PySem.W.kitOne
  rw [if_neg (fun z => by have z2 := beq_iff_eq.mp z; cases z2)]
  unfold PySem.W.kitCls
  first | exact h3 | (simp; exact h3)
theorem kit_refKeyError {K : PySem.W.Frag} {A : Addr} {b : Bool} (h3 : PySem.W.subIn K (.ref A) (.type "KeyError") = some b) : PySem.W.kitOne K (.ref A) (.type "KeyError") = some b := by
  unfold PySem.W.kitOne
  rw [if_neg (fun z => by have z2 := beq_iff_eq.mp z; cases z2)]
  unfold PySem.W.kitCls
  first | exact h3 | (simp; exact h3)
theorem kit_refValueError {K : PySem.W.Frag} {A : Addr} {b : Bool} (h3 : PySem.W.subIn K (.ref A) (.type "ValueError") = some b) : PySem.W.kitOne K (.ref A) (.type "ValueError") = some b := by
  unfold PySem.W.kitOne
  rw [if_neg (fun z => by have z2 := beq_iff_eq.mp z; cases z2)]
  unfold PySem.W.kitCls
  first | exact h3 | (simp; exact h3)
theorem exm_mk {K : PySem.W.Frag} {t : Value} {C : Addr} {b : Bool} (h0 : PySem.W.subIn K (.ref C) (.type "BaseException") = some true) (h1 : PySem.W.isClsIn K C = true) (h2 : PySem.W.typeIn K (.ref C) = some (.type "type")) (h3 : PySem.W.subIn K t (.ref C) = some b) : PySem.W.exmOne K t (.ref C) = some b := by
  have e : ((PySem.W.clsIn K C).isSome && PySem.W.typeIn K (.ref C) == some (.type "type")) = true := by
    have h1' : (PySem.W.clsIn K C).isSome = true := h1
    rw [h1', h2] <;> rfl
  have e0 : (PySem.W.subIn K (.ref C) (.type "BaseException") == some true) = true := by rw [h0] <;> rfl
  unfold PySem.W.exmOne
  rw [if_pos e0]
  show (if ((PySem.W.clsIn K C).isSome && PySem.W.typeIn K (.ref C) == some (.type "type")) = true then PySem.W.subIn K t (.ref C) else none) = some b
  rw [if_pos e]
  exact h3
theorem ve_one {C : Addr} : PySem.HandSPX.refsVE [.ref C, .type "ValueError", .type "Exception", .type "BaseException", .type "object"] = true := by
  show PySem.HandSPX.refsVE [.type "ValueError", .type "Exception", .type "BaseException", .type "object"] = true
  decide +kernel
theorem all_mk {P : Program} {w : World} {K : PySem.W.Frag} {h : Heap} {mg : Str → Option Value} {fa : Addr} (X : K.In h) (G : h.Ns mainGlobals mg) (hfa : mg "law" = some (.ref fa))
    {oc_is_name kV_is_name dc_is_name pm_is_name cd_is_name ct_is_name oc_is_sequence kV_is_sequence dc_is_sequence pm_is_sequence cd_is_sequence ct_is_sequence oc_are_names kV_are_names dc_are_names pm_are_names cd_are_names ct_are_names oc_are_some_names kV_are_some_names dc_are_some_names pm_are_some_names cd_are_some_names ct_are_some_names oc_is_name_or kV_is_name_or dc_is_name_or pm_is_name_or cd_is_name_or ct_is_name_or oc_InvalidRow_init kV_InvalidRow_init dc_InvalidRow_init pm_InvalidRow_init cd_InvalidRow_init ct_InvalidRow_init oc_Begin_init kV_Begin_init dc_Begin_init pm_Begin_init cd_Begin_init ct_Begin_init oc_Send_init kV_Send_init dc_Send_init pm_Send_init cd_Send_init ct_Send_init oc_Back_init kV_Back_init dc_Back_init pm_Back_init cd_Back_init ct_Back_init oc_End_init kV_End_init dc_End_init pm_End_init cd_End_init ct_End_init oc_ascending kV_ascending dc_ascending pm_ascending cd_ascending ct_ascending oc_are_rows kV_are_rows dc_are_rows pm_are_rows cd_are_rows ct_are_rows oc_InvalidService_init kV_InvalidService_init dc_InvalidService_init pm_InvalidService_init cd_InvalidService_init ct_InvalidService_init oc_own_bits kV_own_bits dc_own_bits pm_own_bits cd_own_bits ct_own_bits oc_end_in kV_end_in dc_end_in pm_end_in cd_end_in ct_end_in oc_endings_in kV_endings_in dc_endings_in pm_endings_in cd_endings_in ct_endings_in oc_are_some_services kV_are_some_services dc_are_some_services pm_are_some_services cd_are_some_services ct_are_some_services oc_all_among kV_all_among dc_all_among pm_all_among cd_all_among ct_all_among oc_InvalidBook_init kV_InvalidBook_init dc_InvalidBook_init pm_InvalidBook_init cd_InvalidBook_init ct_InvalidBook_init oc_Book_init kV_Book_init dc_Book_init pm_Book_init cd_Book_init ct_Book_init oc_is_integer kV_is_integer dc_is_integer pm_is_integer cd_is_integer ct_is_integer oc_Book__has_row kV_Book__has_row dc_Book__has_row pm_Book__has_row cd_Book__has_row ct_Book__has_row oc_Book_named kV_Book_named dc_Book_named pm_Book_named cd_Book_named ct_Book_named oc_Book_changed kV_Book_changed dc_Book_changed pm_Book_changed cd_Book_changed ct_Book_changed oc_without_own_row kV_without_own_row dc_without_own_row pm_without_own_row cd_without_own_row ct_without_own_row oc_Book_without kV_Book_without dc_Book_without pm_Book_without cd_Book_without ct_Book_without oc_Begin_str kV_Begin_str dc_Begin_str pm_Begin_str cd_Begin_str ct_Begin_str oc_Begin_eq kV_Begin_eq dc_Begin_eq pm_Begin_eq cd_Begin_eq ct_Begin_eq oc_Send_str kV_Send_str dc_Send_str pm_Send_str cd_Send_str ct_Send_str oc_Send_eq kV_Send_eq dc_Send_eq pm_Send_eq cd_Send_eq ct_Send_eq oc_Back_str kV_Back_str dc_Back_str pm_Back_str cd_Back_str ct_Back_str oc_Back_eq kV_Back_eq dc_Back_eq pm_Back_eq cd_Back_eq ct_Back_eq oc_End_str kV_End_str dc_End_str pm_End_str cd_End_str ct_End_str oc_End_eq kV_End_eq dc_End_eq pm_End_eq cd_End_eq ct_End_eq oc_Service_str kV_Service_str dc_Service_str pm_Service_str cd_Service_str ct_Service_str oc_Service_eq kV_Service_eq dc_Service_eq pm_Service_eq cd_Service_eq ct_Service_eq oc_Book_str kV_Book_str dc_Book_str pm_Book_str cd_Book_str ct_Book_str oc_Book_eq kV_Book_eq dc_Book_eq pm_Book_eq cd_Book_eq ct_Book_eq oc_begins_with kV_begins_with dc_begins_with pm_begins_with cd_begins_with ct_begins_with oc_read_names kV_read_names dc_read_names pm_read_names cd_read_names ct_read_names oc_read_row kV_read_row dc_read_row pm_read_row cd_read_row ct_read_row oc_read_service kV_read_service dc_read_service pm_read_service cd_read_service ct_read_service oc_read_roots kV_read_roots dc_read_roots pm_read_roots cd_read_roots ct_read_roots oc_read_parts kV_read_parts dc_read_parts pm_read_parts cd_read_parts ct_read_parts oc_Book_read kV_Book_read dc_Book_read pm_Book_read cd_Book_read ct_Book_read oc_take kV_take dc_take pm_take cd_take ct_take oc_box kV_box dc_box pm_box cd_box ct_box oc_law kV_law dc_law pm_law cd_law ct_law v0_aNO v1_aNO v2_aNO v3_aNO v4_aNO v5_aNO v6_aNO v7_aNO v8_aNO v9_aNO oc_Service_init kV_Service_init dc_Service_init pm_Service_init cd_Service_init ct_Service_init : Value}
    {od_is_name an_is_name od_is_sequence an_is_sequence od_are_names an_are_names od_are_some_names an_are_some_names od_is_name_or an_is_name_or od_InvalidRow_init an_InvalidRow_init od_Begin_init an_Begin_init od_Send_init an_Send_init od_Back_init an_Back_init od_End_init an_End_init od_ascending an_ascending od_are_rows an_are_rows od_InvalidService_init an_InvalidService_init od_own_bits an_own_bits od_end_in an_end_in od_endings_in an_endings_in od_are_some_services an_are_some_services od_all_among an_all_among od_InvalidBook_init an_InvalidBook_init od_Book_init an_Book_init od_is_integer an_is_integer od_Book__has_row an_Book__has_row od_Book_named an_Book_named od_Book_changed an_Book_changed od_without_own_row an_without_own_row od_Book_without an_Book_without od_Begin_str an_Begin_str od_Begin_eq an_Begin_eq od_Send_str an_Send_str od_Send_eq an_Send_eq od_Back_str an_Back_str od_Back_eq an_Back_eq od_End_str an_End_str od_End_eq an_End_eq od_Service_str an_Service_str od_Service_eq an_Service_eq od_Book_str an_Book_str od_Book_eq an_Book_eq od_begins_with an_begins_with od_read_names an_read_names od_read_row an_read_row od_read_service an_read_service od_read_roots an_read_roots od_read_parts an_read_parts od_Book_read an_Book_read od_take an_take od_box an_box od_law an_law dd_C_InvalidRow dd_C_InvalidService dt_e_waits dt_e_leaves dt_e_rows od_Service_init an_Service_init dtD_Service_init dd_C_InvalidBook : Option Addr}
    {sl_is_name sl_is_sequence sl_are_names sl_are_some_names sl_is_name_or sl_InvalidRow_init sl_Begin_init sl_Send_init sl_Back_init sl_End_init sl_ascending sl_are_rows sl_InvalidService_init sl_own_bits sl_end_in sl_endings_in sl_are_some_services sl_all_among sl_InvalidBook_init sl_Book_init sl_is_integer sl_Book__has_row sl_Book_named sl_Book_changed sl_without_own_row sl_Book_without sl_Begin_str sl_Begin_eq sl_Send_str sl_Send_eq sl_Back_str sl_Back_eq sl_End_str sl_End_eq sl_Service_str sl_Service_eq sl_Book_str sl_Book_eq sl_begins_with sl_read_names sl_read_row sl_read_service sl_read_roots sl_read_parts sl_Book_read sl_take sl_box sl_law so_e_waits so_e_leaves so_e_rows sl_Service_init soD_Service_init : Array (Option Value)}
    {aNO f_is_name f_is_sequence f_are_names f_are_some_names f_is_name_or C_InvalidRow N_C_InvalidRow bC_C_InvalidRow f_InvalidRow_init C_Begin f_Begin_init C_Send f_Send_init C_Back f_Back_init C_End f_End_init f_ascending f_are_rows C_Row C_InvalidService N_C_InvalidService bC_C_InvalidService f_InvalidService_init C_Service f_Service_init e_waits e_leaves e_rows dT_Service_init f_own_bits f_end_in f_endings_in f_are_some_services f_all_among C_InvalidBook N_C_InvalidBook bC_C_InvalidBook f_InvalidBook_init C_Book f_Book_init f_is_integer f_Book__has_row f_Book_named f_Book_changed f_without_own_row f_Book_without f_Begin_str f_Begin_eq f_Send_str f_Send_eq f_Back_str f_Back_eq f_End_str f_End_eq f_Service_str f_Service_eq f_Book_str f_Book_eq f_begins_with f_read_names f_read_row f_read_service f_read_roots f_read_parts f_Book_read f_take f_box p_read f_law : Addr}
    {sz_aNO sz_e_waits sz_e_leaves sz_e_rows szD_Service_init : Nat}
    {h0_aNO h1_aNO h2_aNO h3_aNO h4_aNO h5_aNO h6_aNO h7_aNO h8_aNO h9_aNO : Int}
    {w0_aNO w1_aNO w2_aNO w3_aNO w4_aNO w5_aNO w6_aNO w7_aNO w8_aNO w9_aNO tk_BAD tk_DROPPED tk_KEPT tk_LOST tk_NEAR tk_HIDDEN : Tok}
    {nm_C_InvalidRow qn_C_InvalidRow nm_C_InvalidService qn_C_InvalidService nm_C_InvalidBook qn_C_InvalidBook : Str}
    {bs_C_InvalidRow sb_C_InvalidRow bs_C_InvalidService sb_C_InvalidService bs_C_InvalidBook sb_C_InvalidBook r_read : List Value}
    {sn_C_InvalidRow sn_C_InvalidService sn_C_InvalidBook : List Str}
    {ab_C_InvalidRow ab_C_InvalidService ab_C_InvalidBook : Bool}
    {co_C_InvalidRow co_C_InvalidService co_C_InvalidBook : Option Bool}
    {m0_C_InvalidRow m1_C_InvalidRow m2_C_InvalidRow m3_C_InvalidRow m5_C_InvalidRow m0_C_InvalidService m1_C_InvalidService m2_C_InvalidService m3_C_InvalidService m5_C_InvalidService m0_C_InvalidBook m1_C_InvalidBook m2_C_InvalidBook m3_C_InvalidBook m5_C_InvalidBook : Option Value}
    (a_law : PySem.W.nsIn K mainGlobals "law" = some (some (.ref f_law)))
    (a_NO_NAMES : PySem.W.nsIn K mainGlobals "NO_NAMES" = some (some (.ref aNO)))
    (a_is_name : PySem.W.nsIn K mainGlobals "is_name" = some (some (.ref f_is_name)))
    (a_is_sequence : PySem.W.nsIn K mainGlobals "is_sequence" = some (some (.ref f_is_sequence)))
    (a_are_names : PySem.W.nsIn K mainGlobals "are_names" = some (some (.ref f_are_names)))
    (a_are_some_names : PySem.W.nsIn K mainGlobals "are_some_names" = some (some (.ref f_are_some_names)))
    (a_is_name_or : PySem.W.nsIn K mainGlobals "is_name_or" = some (some (.ref f_is_name_or)))
    (a_InvalidRow : PySem.W.nsIn K mainGlobals "InvalidRow" = some (some (.ref C_InvalidRow)))
    (a_Begin : PySem.W.nsIn K mainGlobals "Begin" = some (some (.ref C_Begin)))
    (a_Send : PySem.W.nsIn K mainGlobals "Send" = some (some (.ref C_Send)))
    (a_Back : PySem.W.nsIn K mainGlobals "Back" = some (some (.ref C_Back)))
    (a_End : PySem.W.nsIn K mainGlobals "End" = some (some (.ref C_End)))
    (a_ascending : PySem.W.nsIn K mainGlobals "ascending" = some (some (.ref f_ascending)))
    (a_are_rows : PySem.W.nsIn K mainGlobals "are_rows" = some (some (.ref f_are_rows)))
    (a_Row : PySem.W.nsIn K mainGlobals "Row" = some (some (.ref C_Row)))
    (a_InvalidService : PySem.W.nsIn K mainGlobals "InvalidService" = some (some (.ref C_InvalidService)))
    (a_Service : PySem.W.nsIn K mainGlobals "Service" = some (some (.ref C_Service)))
    (a_BAD : PySem.W.nsIn K mainGlobals "BAD" = some (some (.int 1 tk_BAD)))
    (a_DROPPED : PySem.W.nsIn K mainGlobals "DROPPED" = some (some (.int 2 tk_DROPPED)))
    (a_KEPT : PySem.W.nsIn K mainGlobals "KEPT" = some (some (.int 4 tk_KEPT)))
    (a_LOST : PySem.W.nsIn K mainGlobals "LOST" = some (some (.int 16 tk_LOST)))
    (a_NEAR : PySem.W.nsIn K mainGlobals "NEAR" = some (some (.int 32 tk_NEAR)))
    (a_HIDDEN : PySem.W.nsIn K mainGlobals "HIDDEN" = some (some (.int 64 tk_HIDDEN)))
    (a_own_bits : PySem.W.nsIn K mainGlobals "own_bits" = some (some (.ref f_own_bits)))
    (a_end_in : PySem.W.nsIn K mainGlobals "end_in" = some (some (.ref f_end_in)))
    (a_endings_in : PySem.W.nsIn K mainGlobals "endings_in" = some (some (.ref f_endings_in)))
    (a_are_some_services : PySem.W.nsIn K mainGlobals "are_some_services" = some (some (.ref f_are_some_services)))
    (a_all_among : PySem.W.nsIn K mainGlobals "all_among" = some (some (.ref f_all_among)))
    (a_InvalidBook : PySem.W.nsIn K mainGlobals "InvalidBook" = some (some (.ref C_InvalidBook)))
    (a_Book : PySem.W.nsIn K mainGlobals "Book" = some (some (.ref C_Book)))
    (a_is_integer : PySem.W.nsIn K mainGlobals "is_integer" = some (some (.ref f_is_integer)))
    (a_without_own_row : PySem.W.nsIn K mainGlobals "without_own_row" = some (some (.ref f_without_own_row)))
    (a_begins_with : PySem.W.nsIn K mainGlobals "begins_with" = some (some (.ref f_begins_with)))
    (a_read_names : PySem.W.nsIn K mainGlobals "read_names" = some (some (.ref f_read_names)))
    (a_read_row : PySem.W.nsIn K mainGlobals "read_row" = some (some (.ref f_read_row)))
    (a_read_service : PySem.W.nsIn K mainGlobals "read_service" = some (some (.ref f_read_service)))
    (a_read_roots : PySem.W.nsIn K mainGlobals "read_roots" = some (some (.ref f_read_roots)))
    (a_read_parts : PySem.W.nsIn K mainGlobals "read_parts" = some (some (.ref f_read_parts)))
    (a__law_take : PySem.W.nsIn K mainGlobals "_law_take" = some (some (.ref f_take)))
    (a__law_box : PySem.W.nsIn K mainGlobals "_law_box" = some (some (.ref f_box)))
    (in_f_InvalidRow_init : PySem.W.findIn K (.ref C_InvalidRow) "__init__" = some (some (.ref f_InvalidRow_init)))
    (in_f_Begin_init : PySem.W.findIn K (.ref C_Begin) "__init__" = some (some (.ref f_Begin_init)))
    (in_f_Send_init : PySem.W.findIn K (.ref C_Send) "__init__" = some (some (.ref f_Send_init)))
    (in_f_Back_init : PySem.W.findIn K (.ref C_Back) "__init__" = some (some (.ref f_Back_init)))
    (in_f_End_init : PySem.W.findIn K (.ref C_End) "__init__" = some (some (.ref f_End_init)))
    (in_f_InvalidService_init : PySem.W.findIn K (.ref C_InvalidService) "__init__" = some (some (.ref f_InvalidService_init)))
    (in_f_Service_init : PySem.W.findIn K (.ref C_Service) "__init__" = some (some (.ref f_Service_init)))
    (in_f_InvalidBook_init : PySem.W.findIn K (.ref C_InvalidBook) "__init__" = some (some (.ref f_InvalidBook_init)))
    (in_f_Book_init : PySem.W.findIn K (.ref C_Book) "__init__" = some (some (.ref f_Book_init)))
    (i_f_Book__has_row : PySem.W.findIn K (.ref C_Book) "_has_row" = some (some (.ref f_Book__has_row)))
    (i_f_Book_named : PySem.W.findIn K (.ref C_Book) "named" = some (some (.ref f_Book_named)))
    (i_f_Book_changed : PySem.W.findIn K (.ref C_Book) "changed" = some (some (.ref f_Book_changed)))
    (i_f_Book_without : PySem.W.findIn K (.ref C_Book) "without" = some (some (.ref f_Book_without)))
    (q_si_Begin : PySem.W.findIn K (.ref C_Begin) "__str__" = some (some (.ref f_Begin_str)))
    (q_ei_Begin : PySem.W.findIn K (.ref C_Begin) "__eq__" = some (some (.ref f_Begin_eq)))
    (q_si_Send : PySem.W.findIn K (.ref C_Send) "__str__" = some (some (.ref f_Send_str)))
    (q_ei_Send : PySem.W.findIn K (.ref C_Send) "__eq__" = some (some (.ref f_Send_eq)))
    (q_si_Back : PySem.W.findIn K (.ref C_Back) "__str__" = some (some (.ref f_Back_str)))
    (q_ei_Back : PySem.W.findIn K (.ref C_Back) "__eq__" = some (some (.ref f_Back_eq)))
    (q_si_End : PySem.W.findIn K (.ref C_End) "__str__" = some (some (.ref f_End_str)))
    (q_ei_End : PySem.W.findIn K (.ref C_End) "__eq__" = some (some (.ref f_End_eq)))
    (q_si_Service : PySem.W.findIn K (.ref C_Service) "__str__" = some (some (.ref f_Service_str)))
    (q_ei_Service : PySem.W.findIn K (.ref C_Service) "__eq__" = some (some (.ref f_Service_eq)))
    (q_si_Book : PySem.W.findIn K (.ref C_Book) "__str__" = some (some (.ref f_Book_str)))
    (q_ei_Book : PySem.W.findIn K (.ref C_Book) "__eq__" = some (some (.ref f_Book_eq)))
    (q_fc_read : PySem.W.findCls K (.ref C_Book) (.type "type") "read" = some (.get (.builtin "classmethod.__get__") (.ref p_read) .none (.ref C_Book)))
    (q_rc_read : PySem.W.recIn K p_read "classmethod" = some (.ref f_Book_read :: r_read))
    (l_is_name : K.lookup f_is_name = some ⟨oc_is_name, od_is_name, .func (PySem.W.fnOf "is_name" "is_name" (defArgs s_is_name) (defBody s_is_name) (defScope s_is_name) .none kV_is_name dc_is_name pm_is_name an_is_name cd_is_name ct_is_name), sl_is_name⟩)
    (l_is_sequence : K.lookup f_is_sequence = some ⟨oc_is_sequence, od_is_sequence, .func (PySem.W.fnOf "is_sequence" "is_sequence" (defArgs s_is_sequence) (defBody s_is_sequence) (defScope s_is_sequence) .none kV_is_sequence dc_is_sequence pm_is_sequence an_is_sequence cd_is_sequence ct_is_sequence), sl_is_sequence⟩)
    (l_are_names : K.lookup f_are_names = some ⟨oc_are_names, od_are_names, .func (PySem.W.fnOf "are_names" "are_names" (defArgs s_are_names) (defBody s_are_names) (defScope s_are_names) .none kV_are_names dc_are_names pm_are_names an_are_names cd_are_names ct_are_names), sl_are_names⟩)
    (l_are_some_names : K.lookup f_are_some_names = some ⟨oc_are_some_names, od_are_some_names, .func (PySem.W.fnOf "are_some_names" "are_some_names" (defArgs s_are_some_names) (defBody s_are_some_names) (defScope s_are_some_names) .none kV_are_some_names dc_are_some_names pm_are_some_names an_are_some_names cd_are_some_names ct_are_some_names), sl_are_some_names⟩)
    (l_is_name_or : K.lookup f_is_name_or = some ⟨oc_is_name_or, od_is_name_or, .func (PySem.W.fnOf "is_name_or" "is_name_or" (defArgs s_is_name_or) (defBody s_is_name_or) (defScope s_is_name_or) .none kV_is_name_or dc_is_name_or pm_is_name_or an_is_name_or cd_is_name_or ct_is_name_or), sl_is_name_or⟩)
    (l_InvalidRow_init : K.lookup f_InvalidRow_init = some ⟨oc_InvalidRow_init, od_InvalidRow_init, .func (PySem.W.fnOf "__init__" "InvalidRow.__init__" (defArgs s_InvalidRow_init) (defBody s_InvalidRow_init) (defScope s_InvalidRow_init) .none kV_InvalidRow_init dc_InvalidRow_init pm_InvalidRow_init an_InvalidRow_init cd_InvalidRow_init ct_InvalidRow_init), sl_InvalidRow_init⟩)
    (l_Begin_init : K.lookup f_Begin_init = some ⟨oc_Begin_init, od_Begin_init, .func (PySem.W.fnOf "__init__" "Begin.__init__" (defArgs s_Begin_init) (defBody s_Begin_init) (defScope s_Begin_init) .none kV_Begin_init dc_Begin_init pm_Begin_init an_Begin_init cd_Begin_init ct_Begin_init), sl_Begin_init⟩)
    (l_Send_init : K.lookup f_Send_init = some ⟨oc_Send_init, od_Send_init, .func (PySem.W.fnOf "__init__" "Send.__init__" (defArgs s_Send_init) (defBody s_Send_init) (defScope s_Send_init) .none kV_Send_init dc_Send_init pm_Send_init an_Send_init cd_Send_init ct_Send_init), sl_Send_init⟩)
    (l_Back_init : K.lookup f_Back_init = some ⟨oc_Back_init, od_Back_init, .func (PySem.W.fnOf "__init__" "Back.__init__" (defArgs s_Back_init) (defBody s_Back_init) (defScope s_Back_init) .none kV_Back_init dc_Back_init pm_Back_init an_Back_init cd_Back_init ct_Back_init), sl_Back_init⟩)
    (l_End_init : K.lookup f_End_init = some ⟨oc_End_init, od_End_init, .func (PySem.W.fnOf "__init__" "End.__init__" (defArgs s_End_init) (defBody s_End_init) (defScope s_End_init) .none kV_End_init dc_End_init pm_End_init an_End_init cd_End_init ct_End_init), sl_End_init⟩)
    (l_ascending : K.lookup f_ascending = some ⟨oc_ascending, od_ascending, .func (PySem.W.fnOf "ascending" "ascending" (defArgs s_ascending) (defBody s_ascending) (defScope s_ascending) .none kV_ascending dc_ascending pm_ascending an_ascending cd_ascending ct_ascending), sl_ascending⟩)
    (l_are_rows : K.lookup f_are_rows = some ⟨oc_are_rows, od_are_rows, .func (PySem.W.fnOf "are_rows" "are_rows" (defArgs s_are_rows) (defBody s_are_rows) (defScope s_are_rows) .none kV_are_rows dc_are_rows pm_are_rows an_are_rows cd_are_rows ct_are_rows), sl_are_rows⟩)
    (l_InvalidService_init : K.lookup f_InvalidService_init = some ⟨oc_InvalidService_init, od_InvalidService_init, .func (PySem.W.fnOf "__init__" "InvalidService.__init__" (defArgs s_InvalidService_init) (defBody s_InvalidService_init) (defScope s_InvalidService_init) .none kV_InvalidService_init dc_InvalidService_init pm_InvalidService_init an_InvalidService_init cd_InvalidService_init ct_InvalidService_init), sl_InvalidService_init⟩)
    (l_own_bits : K.lookup f_own_bits = some ⟨oc_own_bits, od_own_bits, .func (PySem.W.fnOf "own_bits" "own_bits" (defArgs s_own_bits) (defBody s_own_bits) (defScope s_own_bits) .none kV_own_bits dc_own_bits pm_own_bits an_own_bits cd_own_bits ct_own_bits), sl_own_bits⟩)
    (l_end_in : K.lookup f_end_in = some ⟨oc_end_in, od_end_in, .func (PySem.W.fnOf "end_in" "end_in" (defArgs s_end_in) (defBody s_end_in) (defScope s_end_in) .none kV_end_in dc_end_in pm_end_in an_end_in cd_end_in ct_end_in), sl_end_in⟩)
    (l_endings_in : K.lookup f_endings_in = some ⟨oc_endings_in, od_endings_in, .func (PySem.W.fnOf "endings_in" "endings_in" (defArgs s_endings_in) (defBody s_endings_in) (defScope s_endings_in) .none kV_endings_in dc_endings_in pm_endings_in an_endings_in cd_endings_in ct_endings_in), sl_endings_in⟩)
    (l_are_some_services : K.lookup f_are_some_services = some ⟨oc_are_some_services, od_are_some_services, .func (PySem.W.fnOf "are_some_services" "are_some_services" (defArgs s_are_some_services) (defBody s_are_some_services) (defScope s_are_some_services) .none kV_are_some_services dc_are_some_services pm_are_some_services an_are_some_services cd_are_some_services ct_are_some_services), sl_are_some_services⟩)
    (l_all_among : K.lookup f_all_among = some ⟨oc_all_among, od_all_among, .func (PySem.W.fnOf "all_among" "all_among" (defArgs s_all_among) (defBody s_all_among) (defScope s_all_among) .none kV_all_among dc_all_among pm_all_among an_all_among cd_all_among ct_all_among), sl_all_among⟩)
    (l_InvalidBook_init : K.lookup f_InvalidBook_init = some ⟨oc_InvalidBook_init, od_InvalidBook_init, .func (PySem.W.fnOf "__init__" "InvalidBook.__init__" (defArgs s_InvalidBook_init) (defBody s_InvalidBook_init) (defScope s_InvalidBook_init) .none kV_InvalidBook_init dc_InvalidBook_init pm_InvalidBook_init an_InvalidBook_init cd_InvalidBook_init ct_InvalidBook_init), sl_InvalidBook_init⟩)
    (l_Book_init : K.lookup f_Book_init = some ⟨oc_Book_init, od_Book_init, .func (PySem.W.fnOf "__init__" "Book.__init__" (defArgs s_Book_init) (defBody s_Book_init) (defScope s_Book_init) .none kV_Book_init dc_Book_init pm_Book_init an_Book_init cd_Book_init ct_Book_init), sl_Book_init⟩)
    (l_is_integer : K.lookup f_is_integer = some ⟨oc_is_integer, od_is_integer, .func (PySem.W.fnOf "is_integer" "is_integer" (defArgs s_is_integer) (defBody s_is_integer) (defScope s_is_integer) .none kV_is_integer dc_is_integer pm_is_integer an_is_integer cd_is_integer ct_is_integer), sl_is_integer⟩)
    (l_Book__has_row : K.lookup f_Book__has_row = some ⟨oc_Book__has_row, od_Book__has_row, .func (PySem.W.fnOf "_has_row" "Book._has_row" (defArgs s_Book__has_row) (defBody s_Book__has_row) (defScope s_Book__has_row) .none kV_Book__has_row dc_Book__has_row pm_Book__has_row an_Book__has_row cd_Book__has_row ct_Book__has_row), sl_Book__has_row⟩)
    (l_Book_named : K.lookup f_Book_named = some ⟨oc_Book_named, od_Book_named, .func (PySem.W.fnOf "named" "Book.named" (defArgs s_Book_named) (defBody s_Book_named) (defScope s_Book_named) .none kV_Book_named dc_Book_named pm_Book_named an_Book_named cd_Book_named ct_Book_named), sl_Book_named⟩)
    (l_Book_changed : K.lookup f_Book_changed = some ⟨oc_Book_changed, od_Book_changed, .func (PySem.W.fnOf "changed" "Book.changed" (defArgs s_Book_changed) (defBody s_Book_changed) (defScope s_Book_changed) .none kV_Book_changed dc_Book_changed pm_Book_changed an_Book_changed cd_Book_changed ct_Book_changed), sl_Book_changed⟩)
    (l_without_own_row : K.lookup f_without_own_row = some ⟨oc_without_own_row, od_without_own_row, .func (PySem.W.fnOf "without_own_row" "without_own_row" (defArgs s_without_own_row) (defBody s_without_own_row) (defScope s_without_own_row) .none kV_without_own_row dc_without_own_row pm_without_own_row an_without_own_row cd_without_own_row ct_without_own_row), sl_without_own_row⟩)
    (l_Book_without : K.lookup f_Book_without = some ⟨oc_Book_without, od_Book_without, .func (PySem.W.fnOf "without" "Book.without" (defArgs s_Book_without) (defBody s_Book_without) (defScope s_Book_without) .none kV_Book_without dc_Book_without pm_Book_without an_Book_without cd_Book_without ct_Book_without), sl_Book_without⟩)
    (l_Begin_str : K.lookup f_Begin_str = some ⟨oc_Begin_str, od_Begin_str, .func (PySem.W.fnOf "__str__" "Begin.__str__" (defArgs s_Begin_str) (defBody s_Begin_str) (defScope s_Begin_str) .none kV_Begin_str dc_Begin_str pm_Begin_str an_Begin_str cd_Begin_str ct_Begin_str), sl_Begin_str⟩)
    (l_Begin_eq : K.lookup f_Begin_eq = some ⟨oc_Begin_eq, od_Begin_eq, .func (PySem.W.fnOf "__eq__" "Begin.__eq__" (defArgs s_Begin_eq) (defBody s_Begin_eq) (defScope s_Begin_eq) .none kV_Begin_eq dc_Begin_eq pm_Begin_eq an_Begin_eq cd_Begin_eq ct_Begin_eq), sl_Begin_eq⟩)
    (l_Send_str : K.lookup f_Send_str = some ⟨oc_Send_str, od_Send_str, .func (PySem.W.fnOf "__str__" "Send.__str__" (defArgs s_Send_str) (defBody s_Send_str) (defScope s_Send_str) .none kV_Send_str dc_Send_str pm_Send_str an_Send_str cd_Send_str ct_Send_str), sl_Send_str⟩)
    (l_Send_eq : K.lookup f_Send_eq = some ⟨oc_Send_eq, od_Send_eq, .func (PySem.W.fnOf "__eq__" "Send.__eq__" (defArgs s_Send_eq) (defBody s_Send_eq) (defScope s_Send_eq) .none kV_Send_eq dc_Send_eq pm_Send_eq an_Send_eq cd_Send_eq ct_Send_eq), sl_Send_eq⟩)
    (l_Back_str : K.lookup f_Back_str = some ⟨oc_Back_str, od_Back_str, .func (PySem.W.fnOf "__str__" "Back.__str__" (defArgs s_Back_str) (defBody s_Back_str) (defScope s_Back_str) .none kV_Back_str dc_Back_str pm_Back_str an_Back_str cd_Back_str ct_Back_str), sl_Back_str⟩)
    (l_Back_eq : K.lookup f_Back_eq = some ⟨oc_Back_eq, od_Back_eq, .func (PySem.W.fnOf "__eq__" "Back.__eq__" (defArgs s_Back_eq) (defBody s_Back_eq) (defScope s_Back_eq) .none kV_Back_eq dc_Back_eq pm_Back_eq an_Back_eq cd_Back_eq ct_Back_eq), sl_Back_eq⟩)
    (l_End_str : K.lookup f_End_str = some ⟨oc_End_str, od_End_str, .func (PySem.W.fnOf "__str__" "End.__str__" (defArgs s_End_str) (defBody s_End_str) (defScope s_End_str) .none kV_End_str dc_End_str pm_End_str an_End_str cd_End_str ct_End_str), sl_End_str⟩)
    (l_End_eq : K.lookup f_End_eq = some ⟨oc_End_eq, od_End_eq, .func (PySem.W.fnOf "__eq__" "End.__eq__" (defArgs s_End_eq) (defBody s_End_eq) (defScope s_End_eq) .none kV_End_eq dc_End_eq pm_End_eq an_End_eq cd_End_eq ct_End_eq), sl_End_eq⟩)
    (l_Service_str : K.lookup f_Service_str = some ⟨oc_Service_str, od_Service_str, .func (PySem.W.fnOf "__str__" "Service.__str__" (defArgs s_Service_str) (defBody s_Service_str) (defScope s_Service_str) .none kV_Service_str dc_Service_str pm_Service_str an_Service_str cd_Service_str ct_Service_str), sl_Service_str⟩)
    (l_Service_eq : K.lookup f_Service_eq = some ⟨oc_Service_eq, od_Service_eq, .func (PySem.W.fnOf "__eq__" "Service.__eq__" (defArgs s_Service_eq) (defBody s_Service_eq) (defScope s_Service_eq) .none kV_Service_eq dc_Service_eq pm_Service_eq an_Service_eq cd_Service_eq ct_Service_eq), sl_Service_eq⟩)
    (l_Book_str : K.lookup f_Book_str = some ⟨oc_Book_str, od_Book_str, .func (PySem.W.fnOf "__str__" "Book.__str__" (defArgs s_Book_str) (defBody s_Book_str) (defScope s_Book_str) .none kV_Book_str dc_Book_str pm_Book_str an_Book_str cd_Book_str ct_Book_str), sl_Book_str⟩)
    (l_Book_eq : K.lookup f_Book_eq = some ⟨oc_Book_eq, od_Book_eq, .func (PySem.W.fnOf "__eq__" "Book.__eq__" (defArgs s_Book_eq) (defBody s_Book_eq) (defScope s_Book_eq) .none kV_Book_eq dc_Book_eq pm_Book_eq an_Book_eq cd_Book_eq ct_Book_eq), sl_Book_eq⟩)
    (l_begins_with : K.lookup f_begins_with = some ⟨oc_begins_with, od_begins_with, .func (PySem.W.fnOf "begins_with" "begins_with" (defArgs s_begins_with) (defBody s_begins_with) (defScope s_begins_with) .none kV_begins_with dc_begins_with pm_begins_with an_begins_with cd_begins_with ct_begins_with), sl_begins_with⟩)
    (l_read_names : K.lookup f_read_names = some ⟨oc_read_names, od_read_names, .func (PySem.W.fnOf "read_names" "read_names" (defArgs s_read_names) (defBody s_read_names) (defScope s_read_names) .none kV_read_names dc_read_names pm_read_names an_read_names cd_read_names ct_read_names), sl_read_names⟩)
    (l_read_row : K.lookup f_read_row = some ⟨oc_read_row, od_read_row, .func (PySem.W.fnOf "read_row" "read_row" (defArgs s_read_row) (defBody s_read_row) (defScope s_read_row) .none kV_read_row dc_read_row pm_read_row an_read_row cd_read_row ct_read_row), sl_read_row⟩)
    (l_read_service : K.lookup f_read_service = some ⟨oc_read_service, od_read_service, .func (PySem.W.fnOf "read_service" "read_service" (defArgs s_read_service) (defBody s_read_service) (defScope s_read_service) .none kV_read_service dc_read_service pm_read_service an_read_service cd_read_service ct_read_service), sl_read_service⟩)
    (l_read_roots : K.lookup f_read_roots = some ⟨oc_read_roots, od_read_roots, .func (PySem.W.fnOf "read_roots" "read_roots" (defArgs s_read_roots) (defBody s_read_roots) (defScope s_read_roots) .none kV_read_roots dc_read_roots pm_read_roots an_read_roots cd_read_roots ct_read_roots), sl_read_roots⟩)
    (l_read_parts : K.lookup f_read_parts = some ⟨oc_read_parts, od_read_parts, .func (PySem.W.fnOf "read_parts" "read_parts" (defArgs s_read_parts) (defBody s_read_parts) (defScope s_read_parts) .none kV_read_parts dc_read_parts pm_read_parts an_read_parts cd_read_parts ct_read_parts), sl_read_parts⟩)
    (l_Book_read : K.lookup f_Book_read = some ⟨oc_Book_read, od_Book_read, .func (PySem.W.fnOf "read" "Book.read" (defArgs s_Book_read) (defBody s_Book_read) (defScope s_Book_read) .none kV_Book_read dc_Book_read pm_Book_read an_Book_read cd_Book_read ct_Book_read), sl_Book_read⟩)
    (l_take : K.lookup f_take = some ⟨oc_take, od_take, .func (PySem.W.fnOf "_law_take" "_law_take" (defArgs s_take) (defBody s_take) (defScope s_take) .none kV_take dc_take pm_take an_take cd_take ct_take), sl_take⟩)
    (l_box : K.lookup f_box = some ⟨oc_box, od_box, .func (PySem.W.fnOf "_law_box" "_law_box" (defArgs s_box) (defBody s_box) (defScope s_box) .none kV_box dc_box pm_box an_box cd_box ct_box), sl_box⟩)
    (l_law : K.lookup f_law = some ⟨oc_law, od_law, .func (PySem.W.fnOf "law" "law" (defArgs s_law) (defBody s_law) (defScope s_law) .none kV_law dc_law pm_law an_law cd_law ct_law), sl_law⟩)
    (l_aNO : K.lookup aNO = some ⟨.type "dict", none, .dict #[⟨h0_aNO, .str "none" w0_aNO, v0_aNO⟩, ⟨h1_aNO, .str "any" w1_aNO, v1_aNO⟩, ⟨h2_aNO, .str "same" w2_aNO, v2_aNO⟩, ⟨h3_aNO, .str "keep" w3_aNO, v3_aNO⟩, ⟨h4_aNO, .str "drop" w4_aNO, v4_aNO⟩, ⟨h5_aNO, .str "good" w5_aNO, v5_aNO⟩, ⟨h6_aNO, .str "bad" w6_aNO, v6_aNO⟩, ⟨h7_aNO, .str "old" w7_aNO, v7_aNO⟩, ⟨h8_aNO, .str "new" w8_aNO, v8_aNO⟩, ⟨h9_aNO, .str "both" w9_aNO, v9_aNO⟩] sz_aNO, #[]⟩)
    (xL_C_InvalidRow : K.lookup C_InvalidRow = some (excClassObj nm_C_InvalidRow qn_C_InvalidRow C_InvalidRow N_C_InvalidRow bs_C_InvalidRow [.ref bC_C_InvalidRow, .type "ValueError", .type "Exception", .type "BaseException", .type "object"] true sn_C_InvalidRow sb_C_InvalidRow ab_C_InvalidRow co_C_InvalidRow dd_C_InvalidRow m0_C_InvalidRow m1_C_InvalidRow m2_C_InvalidRow m3_C_InvalidRow m5_C_InvalidRow "ValueError.__new__"))
    (xL_C_InvalidService : K.lookup C_InvalidService = some (excClassObj nm_C_InvalidService qn_C_InvalidService C_InvalidService N_C_InvalidService bs_C_InvalidService [.ref bC_C_InvalidService, .type "ValueError", .type "Exception", .type "BaseException", .type "object"] true sn_C_InvalidService sb_C_InvalidService ab_C_InvalidService co_C_InvalidService dd_C_InvalidService m0_C_InvalidService m1_C_InvalidService m2_C_InvalidService m3_C_InvalidService m5_C_InvalidService "ValueError.__new__"))
    (l_Service_init : K.lookup f_Service_init = some ⟨oc_Service_init, od_Service_init, .func (PySem.W.fnOf "__init__" "Service.__init__" (defArgs s_Service_init) (defBody s_Service_init) (defScope s_Service_init) (.ref dT_Service_init) kV_Service_init dc_Service_init pm_Service_init an_Service_init cd_Service_init ct_Service_init), sl_Service_init⟩)
    (xL_C_InvalidBook : K.lookup C_InvalidBook = some (excClassObj nm_C_InvalidBook qn_C_InvalidBook C_InvalidBook N_C_InvalidBook bs_C_InvalidBook [.ref bC_C_InvalidBook, .type "ValueError", .type "Exception", .type "BaseException", .type "object"] true sn_C_InvalidBook sb_C_InvalidBook ab_C_InvalidBook co_C_InvalidBook dd_C_InvalidBook m0_C_InvalidBook m1_C_InvalidBook m2_C_InvalidBook m3_C_InvalidBook m5_C_InvalidBook "ValueError.__new__"))
    (dl_Service_init : K.lookup dT_Service_init = some ⟨.type "tuple", dtD_Service_init, .seq #[.ref e_waits, .ref e_leaves, .ref e_rows] szD_Service_init, soD_Service_init⟩)
    (l_e_waits : K.lookup e_waits = some ⟨.type "tuple", dt_e_waits, .seq #[] sz_e_waits, so_e_waits⟩)
    (l_e_leaves : K.lookup e_leaves = some ⟨.type "tuple", dt_e_leaves, .seq #[] sz_e_leaves, so_e_leaves⟩)
    (l_e_rows : K.lookup e_rows = some ⟨.type "tuple", dt_e_rows, .seq #[] sz_e_rows, so_e_rows⟩)
    (cc_is_name : PySem.W.codeIn K cd_is_name "is_name" = true)
    (k_is_name : PySem.W.keepIn K (.ref f_is_name) = true)
    (cc_is_sequence : PySem.W.codeIn K cd_is_sequence "is_sequence" = true)
    (k_is_sequence : PySem.W.keepIn K (.ref f_is_sequence) = true)
    (cc_are_names : PySem.W.codeIn K cd_are_names "are_names" = true)
    (k_are_names : PySem.W.keepIn K (.ref f_are_names) = true)
    (cc_are_some_names : PySem.W.codeIn K cd_are_some_names "are_some_names" = true)
    (k_are_some_names : PySem.W.keepIn K (.ref f_are_some_names) = true)
    (cc_is_name_or : PySem.W.codeIn K cd_is_name_or "is_name_or" = true)
    (k_is_name_or : PySem.W.keepIn K (.ref f_is_name_or) = true)
    (cc_InvalidRow_init : PySem.W.codeIn K cd_InvalidRow_init "InvalidRow.__init__" = true)
    (k_InvalidRow_init : PySem.W.keepIn K (.ref f_InvalidRow_init) = true)
    (cc_Begin_init : PySem.W.codeIn K cd_Begin_init "Begin.__init__" = true)
    (k_Begin_init : PySem.W.keepIn K (.ref f_Begin_init) = true)
    (cc_Send_init : PySem.W.codeIn K cd_Send_init "Send.__init__" = true)
    (k_Send_init : PySem.W.keepIn K (.ref f_Send_init) = true)
    (cc_Back_init : PySem.W.codeIn K cd_Back_init "Back.__init__" = true)
    (k_Back_init : PySem.W.keepIn K (.ref f_Back_init) = true)
    (cc_End_init : PySem.W.codeIn K cd_End_init "End.__init__" = true)
    (k_End_init : PySem.W.keepIn K (.ref f_End_init) = true)
    (cc_ascending : PySem.W.codeIn K cd_ascending "ascending" = true)
    (k_ascending : PySem.W.keepIn K (.ref f_ascending) = true)
    (cc_are_rows : PySem.W.codeIn K cd_are_rows "are_rows" = true)
    (k_are_rows : PySem.W.keepIn K (.ref f_are_rows) = true)
    (cc_InvalidService_init : PySem.W.codeIn K cd_InvalidService_init "InvalidService.__init__" = true)
    (k_InvalidService_init : PySem.W.keepIn K (.ref f_InvalidService_init) = true)
    (cc_own_bits : PySem.W.codeIn K cd_own_bits "own_bits" = true)
    (k_own_bits : PySem.W.keepIn K (.ref f_own_bits) = true)
    (cc_end_in : PySem.W.codeIn K cd_end_in "end_in" = true)
    (k_end_in : PySem.W.keepIn K (.ref f_end_in) = true)
    (cc_endings_in : PySem.W.codeIn K cd_endings_in "endings_in" = true)
    (k_endings_in : PySem.W.keepIn K (.ref f_endings_in) = true)
    (cc_are_some_services : PySem.W.codeIn K cd_are_some_services "are_some_services" = true)
    (k_are_some_services : PySem.W.keepIn K (.ref f_are_some_services) = true)
    (cc_all_among : PySem.W.codeIn K cd_all_among "all_among" = true)
    (k_all_among : PySem.W.keepIn K (.ref f_all_among) = true)
    (cc_InvalidBook_init : PySem.W.codeIn K cd_InvalidBook_init "InvalidBook.__init__" = true)
    (k_InvalidBook_init : PySem.W.keepIn K (.ref f_InvalidBook_init) = true)
    (cc_Book_init : PySem.W.codeIn K cd_Book_init "Book.__init__" = true)
    (k_Book_init : PySem.W.keepIn K (.ref f_Book_init) = true)
    (cc_is_integer : PySem.W.codeIn K cd_is_integer "is_integer" = true)
    (k_is_integer : PySem.W.keepIn K (.ref f_is_integer) = true)
    (cc_Book__has_row : PySem.W.codeIn K cd_Book__has_row "Book._has_row" = true)
    (k_Book__has_row : PySem.W.keepIn K (.ref f_Book__has_row) = true)
    (cc_Book_named : PySem.W.codeIn K cd_Book_named "Book.named" = true)
    (k_Book_named : PySem.W.keepIn K (.ref f_Book_named) = true)
    (cc_Book_changed : PySem.W.codeIn K cd_Book_changed "Book.changed" = true)
    (k_Book_changed : PySem.W.keepIn K (.ref f_Book_changed) = true)
    (cc_without_own_row : PySem.W.codeIn K cd_without_own_row "without_own_row" = true)
    (k_without_own_row : PySem.W.keepIn K (.ref f_without_own_row) = true)
    (cc_Book_without : PySem.W.codeIn K cd_Book_without "Book.without" = true)
    (k_Book_without : PySem.W.keepIn K (.ref f_Book_without) = true)
    (cc_Begin_str : PySem.W.codeIn K cd_Begin_str "Begin.__str__" = true)
    (k_Begin_str : PySem.W.keepIn K (.ref f_Begin_str) = true)
    (cc_Begin_eq : PySem.W.codeIn K cd_Begin_eq "Begin.__eq__" = true)
    (k_Begin_eq : PySem.W.keepIn K (.ref f_Begin_eq) = true)
    (cc_Send_str : PySem.W.codeIn K cd_Send_str "Send.__str__" = true)
    (k_Send_str : PySem.W.keepIn K (.ref f_Send_str) = true)
    (cc_Send_eq : PySem.W.codeIn K cd_Send_eq "Send.__eq__" = true)
    (k_Send_eq : PySem.W.keepIn K (.ref f_Send_eq) = true)
    (cc_Back_str : PySem.W.codeIn K cd_Back_str "Back.__str__" = true)
    (k_Back_str : PySem.W.keepIn K (.ref f_Back_str) = true)
    (cc_Back_eq : PySem.W.codeIn K cd_Back_eq "Back.__eq__" = true)
    (k_Back_eq : PySem.W.keepIn K (.ref f_Back_eq) = true)
    (cc_End_str : PySem.W.codeIn K cd_End_str "End.__str__" = true)
    (k_End_str : PySem.W.keepIn K (.ref f_End_str) = true)
    (cc_End_eq : PySem.W.codeIn K cd_End_eq "End.__eq__" = true)
    (k_End_eq : PySem.W.keepIn K (.ref f_End_eq) = true)
    (cc_Service_str : PySem.W.codeIn K cd_Service_str "Service.__str__" = true)
    (k_Service_str : PySem.W.keepIn K (.ref f_Service_str) = true)
    (cc_Service_eq : PySem.W.codeIn K cd_Service_eq "Service.__eq__" = true)
    (k_Service_eq : PySem.W.keepIn K (.ref f_Service_eq) = true)
    (cc_Book_str : PySem.W.codeIn K cd_Book_str "Book.__str__" = true)
    (k_Book_str : PySem.W.keepIn K (.ref f_Book_str) = true)
    (cc_Book_eq : PySem.W.codeIn K cd_Book_eq "Book.__eq__" = true)
    (k_Book_eq : PySem.W.keepIn K (.ref f_Book_eq) = true)
    (cc_begins_with : PySem.W.codeIn K cd_begins_with "begins_with" = true)
    (k_begins_with : PySem.W.keepIn K (.ref f_begins_with) = true)
    (cc_read_names : PySem.W.codeIn K cd_read_names "read_names" = true)
    (k_read_names : PySem.W.keepIn K (.ref f_read_names) = true)
    (cc_read_row : PySem.W.codeIn K cd_read_row "read_row" = true)
    (k_read_row : PySem.W.keepIn K (.ref f_read_row) = true)
    (cc_read_service : PySem.W.codeIn K cd_read_service "read_service" = true)
    (k_read_service : PySem.W.keepIn K (.ref f_read_service) = true)
    (cc_read_roots : PySem.W.codeIn K cd_read_roots "read_roots" = true)
    (k_read_roots : PySem.W.keepIn K (.ref f_read_roots) = true)
    (cc_read_parts : PySem.W.codeIn K cd_read_parts "read_parts" = true)
    (k_read_parts : PySem.W.keepIn K (.ref f_read_parts) = true)
    (cc_Book_read : PySem.W.codeIn K cd_Book_read "Book.read" = true)
    (k_Book_read : PySem.W.keepIn K (.ref f_Book_read) = true)
    (cc_take : PySem.W.codeIn K cd_take "_law_take" = true)
    (k_take : PySem.W.keepIn K (.ref f_take) = true)
    (cc_box : PySem.W.codeIn K cd_box "_law_box" = true)
    (k_box : PySem.W.keepIn K (.ref f_box) = true)
    (cc_law : PySem.W.codeIn K cd_law "law" = true)
    (k_law : PySem.W.keepIn K (.ref f_law) = true)
    (z_len : PySem.W.nsIn K mainGlobals "len" = some none)
    (z_isinstance : PySem.W.nsIn K mainGlobals "isinstance" = some none)
    (z_str : PySem.W.nsIn K mainGlobals "str" = some none)
    (z_all : PySem.W.nsIn K mainGlobals "all" = some none)
    (kl_aNO : PySem.W.KeysLit w.params [⟨h0_aNO, .str "none" w0_aNO, v0_aNO⟩, ⟨h1_aNO, .str "any" w1_aNO, v1_aNO⟩, ⟨h2_aNO, .str "same" w2_aNO, v2_aNO⟩, ⟨h3_aNO, .str "keep" w3_aNO, v3_aNO⟩, ⟨h4_aNO, .str "drop" w4_aNO, v4_aNO⟩, ⟨h5_aNO, .str "good" w5_aNO, v5_aNO⟩, ⟨h6_aNO, .str "bad" w6_aNO, v6_aNO⟩, ⟨h7_aNO, .str "old" w7_aNO, v7_aNO⟩, ⟨h8_aNO, .str "new" w8_aNO, v8_aNO⟩, ⟨h9_aNO, .str "both" w9_aNO, v9_aNO⟩])
    (sm_aNO : (aNO == sysModules) = false)
    (z_list : PySem.W.nsIn K mainGlobals "list" = some none)
    (z_tuple : PySem.W.nsIn K mainGlobals "tuple" = some none)
    (z_set : PySem.W.nsIn K mainGlobals "set" = some none)
    (sa_C_InvalidRow : PySem.W.findIn K (.ref C_InvalidRow) "__setattr__" = some (some (.builtin "object.__setattr__")))
    (eb_C_InvalidRow : PySem.W.subIn K (.ref C_InvalidRow) (.type "BaseException") = some true)
    (tyC_C_InvalidRow : PySem.W.typeIn K (.ref C_InvalidRow) = some (.type "type"))
    (kc_C_InvalidRow : PySem.W.keepIn K (.ref C_InvalidRow) = true)
    (q_nwRow : PySem.W.findIn K (.ref C_InvalidRow) "word" = some none)
    (q_tRow : PySem.W.typeIn K (.ref f_InvalidRow_init) = some (.type "function"))
    (pg_C_Begin : PySem.W.plainGet K C_Begin Str.empty = true)
    (hd_C_Begin : PySem.W.hasDictIn K C_Begin = true)
    (po_C_Begin : PySem.W.plainOver K C_Begin = true)
    (sa_C_Begin : PySem.W.findIn K (.ref C_Begin) "__setattr__" = some (some (.builtin "object.__setattr__")))
    (mk_C_Begin : PySem.W.makesIn K C_Begin = true)
    (fi_f_Begin_init : PySem.W.isFn K (.ref f_Begin_init) = true)
    (kc_C_Begin : PySem.W.keepIn K (.ref C_Begin) = true)
    (n_C_Begin_mark : PySem.W.findIn K (.ref C_Begin) "mark" = some none)
    (n_C_Begin_kind : PySem.W.findIn K (.ref C_Begin) "kind" = some none)
    (n_C_Begin_mood : PySem.W.findIn K (.ref C_Begin) "mood" = some none)
    (pg_C_Send : PySem.W.plainGet K C_Send Str.empty = true)
    (hd_C_Send : PySem.W.hasDictIn K C_Send = true)
    (po_C_Send : PySem.W.plainOver K C_Send = true)
    (sa_C_Send : PySem.W.findIn K (.ref C_Send) "__setattr__" = some (some (.builtin "object.__setattr__")))
    (mk_C_Send : PySem.W.makesIn K C_Send = true)
    (fi_f_Send_init : PySem.W.isFn K (.ref f_Send_init) = true)
    (kc_C_Send : PySem.W.keepIn K (.ref C_Send) = true)
    (n_C_Send_mood : PySem.W.findIn K (.ref C_Send) "mood" = some none)
    (n_C_Send_service : PySem.W.findIn K (.ref C_Send) "service" = some none)
    (n_C_Send_mark : PySem.W.findIn K (.ref C_Send) "mark" = some none)
    (pg_C_Back : PySem.W.plainGet K C_Back Str.empty = true)
    (hd_C_Back : PySem.W.hasDictIn K C_Back = true)
    (po_C_Back : PySem.W.plainOver K C_Back = true)
    (sa_C_Back : PySem.W.findIn K (.ref C_Back) "__setattr__" = some (some (.builtin "object.__setattr__")))
    (mk_C_Back : PySem.W.makesIn K C_Back = true)
    (fi_f_Back_init : PySem.W.isFn K (.ref f_Back_init) = true)
    (kc_C_Back : PySem.W.keepIn K (.ref C_Back) = true)
    (n_C_Back_mood : PySem.W.findIn K (.ref C_Back) "mood" = some none)
    (n_C_Back_service : PySem.W.findIn K (.ref C_Back) "service" = some none)
    (n_C_Back_sign : PySem.W.findIn K (.ref C_Back) "sign" = some none)
    (n_C_Back_then : PySem.W.findIn K (.ref C_Back) "then" = some none)
    (pg_C_End : PySem.W.plainGet K C_End Str.empty = true)
    (hd_C_End : PySem.W.hasDictIn K C_End = true)
    (po_C_End : PySem.W.plainOver K C_End = true)
    (sa_C_End : PySem.W.findIn K (.ref C_End) "__setattr__" = some (some (.builtin "object.__setattr__")))
    (mk_C_End : PySem.W.makesIn K C_End = true)
    (fi_f_End_init : PySem.W.isFn K (.ref f_End_init) = true)
    (kc_C_End : PySem.W.keepIn K (.ref C_End) = true)
    (n_C_End_mood : PySem.W.findIn K (.ref C_End) "mood" = some none)
    (n_C_End_outcome : PySem.W.findIn K (.ref C_End) "outcome" = some none)
    (n_C_End_sign : PySem.W.findIn K (.ref C_End) "sign" = some none)
    (n_C_End_part : PySem.W.findIn K (.ref C_End) "part" = some none)
    (z_sorted : PySem.W.nsIn K mainGlobals "sorted" = some none)
    (ca_C_Begin : PySem.W.findIn K (.ref C_Begin) "__class__" = some (some (.builtin "object.__class__")))
    (cg_ : PySem.W.specialIn K (.builtin "object.__class__") "__get__" = some (some (.builtin "getset_descriptor.__get__")))
    (ck_ : PySem.W.takesIn K (.builtin "object.__class__") = some true)
    (cm_C_Begin : PySem.W.mroIn K C_Begin (.type "object") = some true)
    (ca_C_Send : PySem.W.findIn K (.ref C_Send) "__class__" = some (some (.builtin "object.__class__")))
    (cm_C_Send : PySem.W.mroIn K C_Send (.type "object") = some true)
    (ca_C_Back : PySem.W.findIn K (.ref C_Back) "__class__" = some (some (.builtin "object.__class__")))
    (cm_C_Back : PySem.W.mroIn K C_Back (.type "object") = some true)
    (ca_C_End : PySem.W.findIn K (.ref C_End) "__class__" = some (some (.builtin "object.__class__")))
    (cm_C_End : PySem.W.mroIn K C_End (.type "object") = some true)
    (isC_C_Row : PySem.W.isClsIn K C_Row = true)
    (tyC_C_Row : PySem.W.typeIn K (.ref C_Row) = some (.type "type"))
    (sub_C_Begin_C_Row : PySem.W.subIn K (.ref C_Begin) (.ref C_Row) = some true)
    (sub_C_Send_C_Row : PySem.W.subIn K (.ref C_Send) (.ref C_Row) = some true)
    (sub_C_Back_C_Row : PySem.W.subIn K (.ref C_Back) (.ref C_Row) = some true)
    (sub_C_End_C_Row : PySem.W.subIn K (.ref C_End) (.ref C_Row) = some true)
    (isC_C_Begin : PySem.W.isClsIn K C_Begin = true)
    (tyC_C_Begin : PySem.W.typeIn K (.ref C_Begin) = some (.type "type"))
    (sub_C_Begin_C_Begin : PySem.W.subIn K (.ref C_Begin) (.ref C_Begin) = some true)
    (isC_C_Send : PySem.W.isClsIn K C_Send = true)
    (tyC_C_Send : PySem.W.typeIn K (.ref C_Send) = some (.type "type"))
    (sub_C_Begin_C_Send : PySem.W.subIn K (.ref C_Begin) (.ref C_Send) = some false)
    (ne_C_Begin_C_Send : C_Begin ≠ C_Send)
    (isC_C_Back : PySem.W.isClsIn K C_Back = true)
    (tyC_C_Back : PySem.W.typeIn K (.ref C_Back) = some (.type "type"))
    (sub_C_Begin_C_Back : PySem.W.subIn K (.ref C_Begin) (.ref C_Back) = some false)
    (ne_C_Begin_C_Back : C_Begin ≠ C_Back)
    (isC_C_End : PySem.W.isClsIn K C_End = true)
    (tyC_C_End : PySem.W.typeIn K (.ref C_End) = some (.type "type"))
    (sub_C_Begin_C_End : PySem.W.subIn K (.ref C_Begin) (.ref C_End) = some false)
    (ne_C_Begin_C_End : C_Begin ≠ C_End)
    (sub_C_Send_C_Begin : PySem.W.subIn K (.ref C_Send) (.ref C_Begin) = some false)
    (ne_C_Send_C_Begin : C_Send ≠ C_Begin)
    (sub_C_Send_C_Send : PySem.W.subIn K (.ref C_Send) (.ref C_Send) = some true)
    (sub_C_Send_C_Back : PySem.W.subIn K (.ref C_Send) (.ref C_Back) = some false)
    (ne_C_Send_C_Back : C_Send ≠ C_Back)
    (sub_C_Send_C_End : PySem.W.subIn K (.ref C_Send) (.ref C_End) = some false)
    (ne_C_Send_C_End : C_Send ≠ C_End)
    (sub_C_Back_C_Begin : PySem.W.subIn K (.ref C_Back) (.ref C_Begin) = some false)
    (ne_C_Back_C_Begin : C_Back ≠ C_Begin)
    (sub_C_Back_C_Send : PySem.W.subIn K (.ref C_Back) (.ref C_Send) = some false)
    (ne_C_Back_C_Send : C_Back ≠ C_Send)
    (sub_C_Back_C_Back : PySem.W.subIn K (.ref C_Back) (.ref C_Back) = some true)
    (sub_C_Back_C_End : PySem.W.subIn K (.ref C_Back) (.ref C_End) = some false)
    (ne_C_Back_C_End : C_Back ≠ C_End)
    (sub_C_End_C_Begin : PySem.W.subIn K (.ref C_End) (.ref C_Begin) = some false)
    (ne_C_End_C_Begin : C_End ≠ C_Begin)
    (sub_C_End_C_Send : PySem.W.subIn K (.ref C_End) (.ref C_Send) = some false)
    (ne_C_End_C_Send : C_End ≠ C_Send)
    (sub_C_End_C_Back : PySem.W.subIn K (.ref C_End) (.ref C_Back) = some false)
    (ne_C_End_C_Back : C_End ≠ C_Back)
    (sub_C_End_C_End : PySem.W.subIn K (.ref C_End) (.ref C_End) = some true)
    (sa_C_InvalidService : PySem.W.findIn K (.ref C_InvalidService) "__setattr__" = some (some (.builtin "object.__setattr__")))
    (eb_C_InvalidService : PySem.W.subIn K (.ref C_InvalidService) (.type "BaseException") = some true)
    (tyC_C_InvalidService : PySem.W.typeIn K (.ref C_InvalidService) = some (.type "type"))
    (kc_C_InvalidService : PySem.W.keepIn K (.ref C_InvalidService) = true)
    (q_nwSvc : PySem.W.findIn K (.ref C_InvalidService) "word" = some none)
    (q_tSvc : PySem.W.typeIn K (.ref f_InvalidService_init) = some (.type "function"))
    (pg_C_Service : PySem.W.plainGet K C_Service Str.empty = true)
    (hd_C_Service : PySem.W.hasDictIn K C_Service = true)
    (po_C_Service : PySem.W.plainOver K C_Service = true)
    (sa_C_Service : PySem.W.findIn K (.ref C_Service) "__setattr__" = some (some (.builtin "object.__setattr__")))
    (mk_C_Service : PySem.W.makesIn K C_Service = true)
    (fi_f_Service_init : PySem.W.isFn K (.ref f_Service_init) = true)
    (kc_C_Service : PySem.W.keepIn K (.ref C_Service) = true)
    (cc_Service_init : PySem.W.codeIn K cd_Service_init "Service.__init__" = true)
    (k_Service_init : PySem.W.keepIn K (.ref f_Service_init) = true)
    (n_C_Service_name : PySem.W.findIn K (.ref C_Service) "name" = some none)
    (n_C_Service_kinds : PySem.W.findIn K (.ref C_Service) "kinds" = some none)
    (n_C_Service_waits : PySem.W.findIn K (.ref C_Service) "waits" = some none)
    (n_C_Service_leaves : PySem.W.findIn K (.ref C_Service) "leaves" = some none)
    (n_C_Service_rows : PySem.W.findIn K (.ref C_Service) "rows" = some none)
    (n_C_Service_moods : PySem.W.findIn K (.ref C_Service) "moods" = some none)
    (n_C_Service__begins : PySem.W.findIn K (.ref C_Service) "_begins" = some none)
    (n_C_Service__sends : PySem.W.findIn K (.ref C_Service) "_sends" = some none)
    (n_C_Service__backs : PySem.W.findIn K (.ref C_Service) "_backs" = some none)
    (n_C_Service__ends : PySem.W.findIn K (.ref C_Service) "_ends" = some none)
    (n_C_Service_endings : PySem.W.findIn K (.ref C_Service) "endings" = some none)
    (sa_C_InvalidBook : PySem.W.findIn K (.ref C_InvalidBook) "__setattr__" = some (some (.builtin "object.__setattr__")))
    (eb_C_InvalidBook : PySem.W.subIn K (.ref C_InvalidBook) (.type "BaseException") = some true)
    (tyC_C_InvalidBook : PySem.W.typeIn K (.ref C_InvalidBook) = some (.type "type"))
    (kc_C_InvalidBook : PySem.W.keepIn K (.ref C_InvalidBook) = true)
    (q_nwBk : PySem.W.findIn K (.ref C_InvalidBook) "word" = some none)
    (q_tBk : PySem.W.typeIn K (.ref f_InvalidBook_init) = some (.type "function"))
    (ca_C_Service : PySem.W.findIn K (.ref C_Service) "__class__" = some (some (.builtin "object.__class__")))
    (cm_C_Service : PySem.W.mroIn K C_Service (.type "object") = some true)
    (isC_C_Service : PySem.W.isClsIn K C_Service = true)
    (tyC_C_Service : PySem.W.typeIn K (.ref C_Service) = some (.type "type"))
    (sub_C_Service_C_Service : PySem.W.subIn K (.ref C_Service) (.ref C_Service) = some true)
    (pg_C_Book : PySem.W.plainGet K C_Book Str.empty = true)
    (hd_C_Book : PySem.W.hasDictIn K C_Book = true)
    (po_C_Book : PySem.W.plainOver K C_Book = true)
    (sa_C_Book : PySem.W.findIn K (.ref C_Book) "__setattr__" = some (some (.builtin "object.__setattr__")))
    (mk_C_Book : PySem.W.makesIn K C_Book = true)
    (fi_f_Book_init : PySem.W.isFn K (.ref f_Book_init) = true)
    (kc_C_Book : PySem.W.keepIn K (.ref C_Book) = true)
    (n_C_Book_services : PySem.W.findIn K (.ref C_Book) "services" = some none)
    (n_C_Book_roots : PySem.W.findIn K (.ref C_Book) "roots" = some none)
    (n_C_Book_names : PySem.W.findIn K (.ref C_Book) "names" = some none)
    (n_C_Book_marks : PySem.W.findIn K (.ref C_Book) "marks" = some none)
    (n_C_Book_signs : PySem.W.findIn K (.ref C_Book) "signs" = some none)
    (n_C_Book__rows : PySem.W.findIn K (.ref C_Book) "_rows" = some none)
    (z_int : PySem.W.nsIn K mainGlobals "int" = some none)
    (z_bool : PySem.W.nsIn K mainGlobals "bool" = some none)
    (fi_f_Book__has_row : PySem.W.isFn K (.ref f_Book__has_row) = true)
    (kf_f_Book__has_row : PySem.W.keepIn K (.ref f_Book__has_row) = true)
    (fi_f_Book_named : PySem.W.isFn K (.ref f_Book_named) = true)
    (kf_f_Book_named : PySem.W.keepIn K (.ref f_Book_named) = true)
    (fi_f_Book_changed : PySem.W.isFn K (.ref f_Book_changed) = true)
    (kf_f_Book_changed : PySem.W.keepIn K (.ref f_Book_changed) = true)
    (z_enumerate : PySem.W.nsIn K mainGlobals "enumerate" = some none)
    (fi_f_Book_without : PySem.W.isFn K (.ref f_Book_without) = true)
    (kf_f_Book_without : PySem.W.keepIn K (.ref f_Book_without) = true)
    (q_sf_Begin : PySem.W.isFn K (.ref f_Begin_str) = true)
    (q_ef_Begin : PySem.W.isFn K (.ref f_Begin_eq) = true)
    (q_en_Begin : PySem.W.findIn K (.ref C_Begin) "__ne__" = some (some (.builtin "object.__ne__")))
    (q_eo_Begin : PySem.W.subIn K (.ref C_Begin) (.type "object") = some true)
    (sub_Tstr_C_Begin : PySem.W.subIn K (.type "str") (.ref C_Begin) = some false)
    (sub_Ttuple_C_Begin : PySem.W.subIn K (.type "tuple") (.ref C_Begin) = some false)
    (q_ns_Begin : PySem.W.notFirst K C_Begin (.type "str") = true)
    (q_nt_Begin : PySem.W.notFirst K C_Begin (.type "tuple") = true)
    (q_sf_Send : PySem.W.isFn K (.ref f_Send_str) = true)
    (q_ef_Send : PySem.W.isFn K (.ref f_Send_eq) = true)
    (q_en_Send : PySem.W.findIn K (.ref C_Send) "__ne__" = some (some (.builtin "object.__ne__")))
    (q_eo_Send : PySem.W.subIn K (.ref C_Send) (.type "object") = some true)
    (sub_Tstr_C_Send : PySem.W.subIn K (.type "str") (.ref C_Send) = some false)
    (sub_Ttuple_C_Send : PySem.W.subIn K (.type "tuple") (.ref C_Send) = some false)
    (q_ns_Send : PySem.W.notFirst K C_Send (.type "str") = true)
    (q_nt_Send : PySem.W.notFirst K C_Send (.type "tuple") = true)
    (q_sf_Back : PySem.W.isFn K (.ref f_Back_str) = true)
    (q_ef_Back : PySem.W.isFn K (.ref f_Back_eq) = true)
    (q_en_Back : PySem.W.findIn K (.ref C_Back) "__ne__" = some (some (.builtin "object.__ne__")))
    (q_eo_Back : PySem.W.subIn K (.ref C_Back) (.type "object") = some true)
    (sub_Tstr_C_Back : PySem.W.subIn K (.type "str") (.ref C_Back) = some false)
    (sub_Ttuple_C_Back : PySem.W.subIn K (.type "tuple") (.ref C_Back) = some false)
    (q_ns_Back : PySem.W.notFirst K C_Back (.type "str") = true)
    (q_nt_Back : PySem.W.notFirst K C_Back (.type "tuple") = true)
    (q_sf_End : PySem.W.isFn K (.ref f_End_str) = true)
    (q_ef_End : PySem.W.isFn K (.ref f_End_eq) = true)
    (q_en_End : PySem.W.findIn K (.ref C_End) "__ne__" = some (some (.builtin "object.__ne__")))
    (q_eo_End : PySem.W.subIn K (.ref C_End) (.type "object") = some true)
    (sub_Tstr_C_End : PySem.W.subIn K (.type "str") (.ref C_End) = some false)
    (sub_Ttuple_C_End : PySem.W.subIn K (.type "tuple") (.ref C_End) = some false)
    (q_ns_End : PySem.W.notFirst K C_End (.type "str") = true)
    (q_nt_End : PySem.W.notFirst K C_End (.type "tuple") = true)
    (q_nf_Begin_Begin : PySem.W.notFirst K C_Begin (.ref C_Begin) = true)
    (q_nf_Begin_Send : PySem.W.notFirst K C_Begin (.ref C_Send) = true)
    (q_nf_Begin_Back : PySem.W.notFirst K C_Begin (.ref C_Back) = true)
    (q_nf_Begin_End : PySem.W.notFirst K C_Begin (.ref C_End) = true)
    (q_nf_Send_Begin : PySem.W.notFirst K C_Send (.ref C_Begin) = true)
    (q_nf_Send_Send : PySem.W.notFirst K C_Send (.ref C_Send) = true)
    (q_nf_Send_Back : PySem.W.notFirst K C_Send (.ref C_Back) = true)
    (q_nf_Send_End : PySem.W.notFirst K C_Send (.ref C_End) = true)
    (q_nf_Back_Begin : PySem.W.notFirst K C_Back (.ref C_Begin) = true)
    (q_nf_Back_Send : PySem.W.notFirst K C_Back (.ref C_Send) = true)
    (q_nf_Back_Back : PySem.W.notFirst K C_Back (.ref C_Back) = true)
    (q_nf_Back_End : PySem.W.notFirst K C_Back (.ref C_End) = true)
    (q_nf_End_Begin : PySem.W.notFirst K C_End (.ref C_Begin) = true)
    (q_nf_End_Send : PySem.W.notFirst K C_End (.ref C_Send) = true)
    (q_nf_End_Back : PySem.W.notFirst K C_End (.ref C_Back) = true)
    (q_nf_End_End : PySem.W.notFirst K C_End (.ref C_End) = true)
    (q_sf_Service : PySem.W.isFn K (.ref f_Service_str) = true)
    (q_ef_Service : PySem.W.isFn K (.ref f_Service_eq) = true)
    (q_en_Service : PySem.W.findIn K (.ref C_Service) "__ne__" = some (some (.builtin "object.__ne__")))
    (q_eo_Service : PySem.W.subIn K (.ref C_Service) (.type "object") = some true)
    (q_nf_Service : PySem.W.notFirst K C_Service (.ref C_Service) = true)
    (q_sf_Book : PySem.W.isFn K (.ref f_Book_str) = true)
    (q_ef_Book : PySem.W.isFn K (.ref f_Book_eq) = true)
    (q_en_Book : PySem.W.findIn K (.ref C_Book) "__ne__" = some (some (.builtin "object.__ne__")))
    (q_eo_Book : PySem.W.subIn K (.ref C_Book) (.type "object") = some true)
    (ca_C_Book : PySem.W.findIn K (.ref C_Book) "__class__" = some (some (.builtin "object.__class__")))
    (cm_C_Book : PySem.W.mroIn K C_Book (.type "object") = some true)
    (isC_C_Book : PySem.W.isClsIn K C_Book = true)
    (tyC_C_Book : PySem.W.typeIn K (.ref C_Book) = some (.type "type"))
    (sub_C_Book_C_Book : PySem.W.subIn K (.ref C_Book) (.ref C_Book) = some true)
    (q_nf_Book : PySem.W.notFirst K C_Book (.ref C_Book) = true)
    (z_abs : PySem.W.nsIn K mainGlobals "abs" = some none)
    (z_max : PySem.W.nsIn K mainGlobals "max" = some none)
    (z_min : PySem.W.nsIn K mainGlobals "min" = some none)
    (z_range : PySem.W.nsIn K mainGlobals "range" = some none)
    (q_rd_Book : PySem.W.readsIn K C_Book (.type "type") = true)
    (q_sg_Book : PySem.W.specialIn K (.ref C_Book) "__getattribute__" = some (some (.builtin "type.__getattribute__")))
    (q_fn_read : PySem.W.fnIn K f_Book_read = true)
    : ∃ fd : FuncData, (∀ (s : Shared) (v : Value), BindsTo s fd ⟨[v], []⟩ [("_law_script", v)]) ∧ ∀ base : Heap, K.In base → base.Ns mainGlobals mg → FnOk P w K mg base CX0 13 fa fd ["_law_script"] (spLaw K) := by
  have e := hfa.symm.trans (PySem.W.mg_of X G a_law)
  have e2 : f_law = fa := by
    cases e
    rfl
  subst e2
  have F_is_name := (fun_mk (st := s_is_name) l_is_name cc_is_name k_is_name)
  have F_is_sequence := (fun_mk (st := s_is_sequence) l_is_sequence cc_is_sequence k_is_sequence)
  have F_are_names := (fun_mk (st := s_are_names) l_are_names cc_are_names k_are_names)
  have F_are_some_names := (fun_mk (st := s_are_some_names) l_are_some_names cc_are_some_names k_are_some_names)
  have F_is_name_or := (fun_mk (st := s_is_name_or) l_is_name_or cc_is_name_or k_is_name_or)
  have F_InvalidRow_init := (fun_mk (st := s_InvalidRow_init) l_InvalidRow_init cc_InvalidRow_init k_InvalidRow_init)
  have F_Begin_init := (fun_mk (st := s_Begin_init) l_Begin_init cc_Begin_init k_Begin_init)
  have F_Send_init := (fun_mk (st := s_Send_init) l_Send_init cc_Send_init k_Send_init)
  have F_Back_init := (fun_mk (st := s_Back_init) l_Back_init cc_Back_init k_Back_init)
  have F_End_init := (fun_mk (st := s_End_init) l_End_init cc_End_init k_End_init)
  have F_ascending := (fun_mk (st := s_ascending) l_ascending cc_ascending k_ascending)
  have F_are_rows := (fun_mk (st := s_are_rows) l_are_rows cc_are_rows k_are_rows)
  have F_InvalidService_init := (fun_mk (st := s_InvalidService_init) l_InvalidService_init cc_InvalidService_init k_InvalidService_init)
  have F_own_bits := (fun_mk (st := s_own_bits) l_own_bits cc_own_bits k_own_bits)
  have F_end_in := (fun_mk (st := s_end_in) l_end_in cc_end_in k_end_in)
  have F_endings_in := (fun_mk (st := s_endings_in) l_endings_in cc_endings_in k_endings_in)
  have F_are_some_services := (fun_mk (st := s_are_some_services) l_are_some_services cc_are_some_services k_are_some_services)
  have F_all_among := (fun_mk (st := s_all_among) l_all_among cc_all_among k_all_among)
  have F_InvalidBook_init := (fun_mk (st := s_InvalidBook_init) l_InvalidBook_init cc_InvalidBook_init k_InvalidBook_init)
  have F_Book_init := (fun_mk (st := s_Book_init) l_Book_init cc_Book_init k_Book_init)
  have F_is_integer := (fun_mk (st := s_is_integer) l_is_integer cc_is_integer k_is_integer)
  have F_Book__has_row := (fun_mk (st := s_Book__has_row) l_Book__has_row cc_Book__has_row k_Book__has_row)
  have F_Book_named := (fun_mk (st := s_Book_named) l_Book_named cc_Book_named k_Book_named)
  have F_Book_changed := (fun_mk (st := s_Book_changed) l_Book_changed cc_Book_changed k_Book_changed)
  have F_without_own_row := (fun_mk (st := s_without_own_row) l_without_own_row cc_without_own_row k_without_own_row)
  have F_Book_without := (fun_mk (st := s_Book_without) l_Book_without cc_Book_without k_Book_without)
  have F_Begin_str := (fun_mk (st := s_Begin_str) l_Begin_str cc_Begin_str k_Begin_str)
  have F_Begin_eq := (fun_mk (st := s_Begin_eq) l_Begin_eq cc_Begin_eq k_Begin_eq)
  have F_Send_str := (fun_mk (st := s_Send_str) l_Send_str cc_Send_str k_Send_str)
  have F_Send_eq := (fun_mk (st := s_Send_eq) l_Send_eq cc_Send_eq k_Send_eq)
  have F_Back_str := (fun_mk (st := s_Back_str) l_Back_str cc_Back_str k_Back_str)
  have F_Back_eq := (fun_mk (st := s_Back_eq) l_Back_eq cc_Back_eq k_Back_eq)
  have F_End_str := (fun_mk (st := s_End_str) l_End_str cc_End_str k_End_str)
  have F_End_eq := (fun_mk (st := s_End_eq) l_End_eq cc_End_eq k_End_eq)
  have F_Service_str := (fun_mk (st := s_Service_str) l_Service_str cc_Service_str k_Service_str)
  have F_Service_eq := (fun_mk (st := s_Service_eq) l_Service_eq cc_Service_eq k_Service_eq)
  have F_Book_str := (fun_mk (st := s_Book_str) l_Book_str cc_Book_str k_Book_str)
  have F_Book_eq := (fun_mk (st := s_Book_eq) l_Book_eq cc_Book_eq k_Book_eq)
  have F_begins_with := (fun_mk (st := s_begins_with) l_begins_with cc_begins_with k_begins_with)
  have F_read_names := (fun_mk (st := s_read_names) l_read_names cc_read_names k_read_names)
  have F_read_row := (fun_mk (st := s_read_row) l_read_row cc_read_row k_read_row)
  have F_read_service := (fun_mk (st := s_read_service) l_read_service cc_read_service k_read_service)
  have F_read_roots := (fun_mk (st := s_read_roots) l_read_roots cc_read_roots k_read_roots)
  have F_read_parts := (fun_mk (st := s_read_parts) l_read_parts cc_read_parts k_read_parts)
  have F_Book_read := (fun_mk (st := s_Book_read) l_Book_read cc_Book_read k_Book_read)
  have F_take := (fun_mk (st := s_take) l_take cc_take k_take)
  have F_box := (fun_mk (st := s_box) l_box cc_box k_box)
  have F_law := (fun_mk (st := s_law) l_law cc_law k_law)
  have b_is_name := F_is_name.binds (ps := P_is_name) fun _ _ _ _ _ _ us hl => match us, hl with | [_], _ => rfl
  have b_is_sequence := F_is_sequence.binds (ps := P_is_sequence) fun _ _ _ _ _ _ us hl => match us, hl with | [_], _ => rfl
  have b_are_names := F_are_names.binds (ps := P_are_names) fun _ _ _ _ _ _ us hl => match us, hl with | [_], _ => rfl
  have b_are_some_names := F_are_some_names.binds (ps := P_are_some_names) fun _ _ _ _ _ _ us hl => match us, hl with | [_], _ => rfl
  have b_is_name_or := F_is_name_or.binds (ps := P_is_name_or) fun _ _ _ _ _ _ us hl => match us, hl with | [_, _], _ => rfl
  have b_InvalidRow_init := F_InvalidRow_init.binds (ps := P_InvalidRow_init) fun _ _ _ _ _ _ us hl => match us, hl with | [_, _], _ => rfl
  have b_Begin_init := F_Begin_init.binds (ps := P_Begin_init) fun _ _ _ _ _ _ us hl => match us, hl with | [_, _, _, _], _ => rfl
  have b_Send_init := F_Send_init.binds (ps := P_Send_init) fun _ _ _ _ _ _ us hl => match us, hl with | [_, _, _, _], _ => rfl
  have b_Back_init := F_Back_init.binds (ps := P_Back_init) fun _ _ _ _ _ _ us hl => match us, hl with | [_, _, _, _, _], _ => rfl
  have b_End_init := F_End_init.binds (ps := P_End_init) fun _ _ _ _ _ _ us hl => match us, hl with | [_, _, _, _, _], _ => rfl
  have b_ascending := F_ascending.binds (ps := P_ascending) fun _ _ _ _ _ _ us hl => match us, hl with | [_], _ => rfl
  have b_are_rows := F_are_rows.binds (ps := P_are_rows) fun _ _ _ _ _ _ us hl => match us, hl with | [_], _ => rfl
  have b_InvalidService_init := F_InvalidService_init.binds (ps := P_InvalidService_init) fun _ _ _ _ _ _ us hl => match us, hl with | [_, _], _ => rfl
  have b_own_bits := F_own_bits.binds (ps := P_own_bits) fun _ _ _ _ _ _ us hl => match us, hl with | [_, _], _ => rfl
  have b_end_in := F_end_in.binds (ps := P_end_in) fun _ _ _ _ _ _ us hl => match us, hl with | [_, _, _], _ => rfl
  have b_endings_in := F_endings_in.binds (ps := P_endings_in) fun _ _ _ _ _ _ us hl => match us, hl with | [_, _], _ => rfl
  have b_are_some_services := F_are_some_services.binds (ps := P_are_some_services) fun _ _ _ _ _ _ us hl => match us, hl with | [_], _ => rfl
  have b_all_among := F_all_among.binds (ps := P_all_among) fun _ _ _ _ _ _ us hl => match us, hl with | [_, _], _ => rfl
  have b_InvalidBook_init := F_InvalidBook_init.binds (ps := P_InvalidBook_init) fun _ _ _ _ _ _ us hl => match us, hl with | [_, _], _ => rfl
  have b_Book_init := F_Book_init.binds (ps := P_Book_init) fun _ _ _ _ _ _ us hl => match us, hl with | [_, _, _], _ => rfl
  have b_is_integer := F_is_integer.binds (ps := P_is_integer) fun _ _ _ _ _ _ us hl => match us, hl with | [_], _ => rfl
  have b_Book__has_row := F_Book__has_row.binds (ps := P_Book__has_row) fun _ _ _ _ _ _ us hl => match us, hl with | [_, _], _ => rfl
  have b_Book_named := F_Book_named.binds (ps := P_Book_named) fun _ _ _ _ _ _ us hl => match us, hl with | [_, _], _ => rfl
  have b_Book_changed := F_Book_changed.binds (ps := P_Book_changed) fun _ _ _ _ _ _ us hl => match us, hl with | [_, _], _ => rfl
  have b_without_own_row := F_without_own_row.binds (ps := P_without_own_row) fun _ _ _ _ _ _ us hl => match us, hl with | [_, _], _ => rfl
  have b_Book_without := F_Book_without.binds (ps := P_Book_without) fun _ _ _ _ _ _ us hl => match us, hl with | [_, _], _ => rfl
  have b_Begin_str := F_Begin_str.binds (ps := P_Begin_str) fun _ _ _ _ _ _ us hl => match us, hl with | [_], _ => rfl
  have b_Begin_eq := F_Begin_eq.binds (ps := P_Begin_eq) fun _ _ _ _ _ _ us hl => match us, hl with | [_, _], _ => rfl
  have b_Send_str := F_Send_str.binds (ps := P_Send_str) fun _ _ _ _ _ _ us hl => match us, hl with | [_], _ => rfl
  have b_Send_eq := F_Send_eq.binds (ps := P_Send_eq) fun _ _ _ _ _ _ us hl => match us, hl with | [_, _], _ => rfl
  have b_Back_str := F_Back_str.binds (ps := P_Back_str) fun _ _ _ _ _ _ us hl => match us, hl with | [_], _ => rfl
  have b_Back_eq := F_Back_eq.binds (ps := P_Back_eq) fun _ _ _ _ _ _ us hl => match us, hl with | [_, _], _ => rfl
  have b_End_str := F_End_str.binds (ps := P_End_str) fun _ _ _ _ _ _ us hl => match us, hl with | [_], _ => rfl
  have b_End_eq := F_End_eq.binds (ps := P_End_eq) fun _ _ _ _ _ _ us hl => match us, hl with | [_, _], _ => rfl
  have b_Service_str := F_Service_str.binds (ps := P_Service_str) fun _ _ _ _ _ _ us hl => match us, hl with | [_], _ => rfl
  have b_Service_eq := F_Service_eq.binds (ps := P_Service_eq) fun _ _ _ _ _ _ us hl => match us, hl with | [_, _], _ => rfl
  have b_Book_str := F_Book_str.binds (ps := P_Book_str) fun _ _ _ _ _ _ us hl => match us, hl with | [_], _ => rfl
  have b_Book_eq := F_Book_eq.binds (ps := P_Book_eq) fun _ _ _ _ _ _ us hl => match us, hl with | [_, _], _ => rfl
  have b_begins_with := F_begins_with.binds (ps := P_begins_with) fun _ _ _ _ _ _ us hl => match us, hl with | [_, _, _], _ => rfl
  have b_read_names := F_read_names.binds (ps := P_read_names) fun _ _ _ _ _ _ us hl => match us, hl with | [_, _, _], _ => rfl
  have b_read_row := F_read_row.binds (ps := P_read_row) fun _ _ _ _ _ _ us hl => match us, hl with | [_, _], _ => rfl
  have b_read_service := F_read_service.binds (ps := P_read_service) fun _ _ _ _ _ _ us hl => match us, hl with | [_, _], _ => rfl
  have b_read_roots := F_read_roots.binds (ps := P_read_roots) fun _ _ _ _ _ _ us hl => match us, hl with | [_, _], _ => rfl
  have b_read_parts := F_read_parts.binds (ps := P_read_parts) fun _ _ _ _ _ _ us hl => match us, hl with | [_], _ => rfl
  have b_Book_read := F_Book_read.binds (ps := P_Book_read) fun _ _ _ _ _ _ us hl => match us, hl with | [_, _], _ => rfl
  have b_take := F_take.binds (ps := P_take) fun _ _ _ _ _ _ us hl => match us, hl with | [_, _], _ => rfl
  have b_box := F_box.binds (ps := P_box) fun _ _ _ _ _ _ us hl => match us, hl with | [_, _], _ => rfl
  let T : TxK20 w K mg := {
    z_len := PySem.W.mg_none_of X G z_len
    z_isinstance := PySem.W.mg_none_of X G z_isinstance
    z_str := PySem.W.mg_none_of X G z_str
    z_all := PySem.W.mg_none_of X G z_all
    aNO := aNO
    m_NO := PySem.W.mg_of X G a_NO_NAMES
    t_NO := noD_mk l_aNO kl_aNO sm_aNO
    f_is_name := f_is_name
    d_is_name := _
    F_is_name := F_is_name
    m_is_name := PySem.W.mg_of X G a_is_name
    b_is_name := b_is_name
    z_list := PySem.W.mg_none_of X G z_list
    z_tuple := PySem.W.mg_none_of X G z_tuple
    z_set := PySem.W.mg_none_of X G z_set
    f_is_sequence := f_is_sequence
    d_is_sequence := _
    F_is_sequence := F_is_sequence
    m_is_sequence := PySem.W.mg_of X G a_is_sequence
    b_is_sequence := b_is_sequence
    f_are_names := f_are_names
    d_are_names := _
    F_are_names := F_are_names
    m_are_names := PySem.W.mg_of X G a_are_names
    b_are_names := b_are_names
    f_are_some_names := f_are_some_names
    d_are_some_names := _
    F_are_some_names := F_are_some_names
    m_are_some_names := PySem.W.mg_of X G a_are_some_names
    b_are_some_names := b_are_some_names
    f_is_name_or := f_is_name_or
    d_is_name_or := _
    F_is_name_or := F_is_name_or
    m_is_name_or := PySem.W.mg_of X G a_is_name_or
    b_is_name_or := b_is_name_or
    C_InvalidRow := C_InvalidRow
    m_InvalidRow := PySem.W.mg_of X G a_InvalidRow
    oxRow := ⟨⟨_, _, _, _, _, _, _, _, _, _, _, _, _, _, _, xL_C_InvalidRow, ve_one⟩, sa_C_InvalidRow, eb_C_InvalidRow, tyC_C_InvalidRow, kc_C_InvalidRow⟩
    nwRow := q_nwRow
    f_InvalidRow_init := f_InvalidRow_init
    d_InvalidRow_init := _
    iRow := in_f_InvalidRow_init
    tRow := q_tRow
    F_InvalidRow_init := F_InvalidRow_init
    b_InvalidRow_init := b_InvalidRow_init
    C_Begin := C_Begin
    m_Begin := PySem.W.mg_of X G a_Begin
    c_Begin := ⟨pg_C_Begin, hd_C_Begin, po_C_Begin, sa_C_Begin⟩
    f_Begin_init := f_Begin_init
    d_Begin_init := _
    mk_Begin := ⟨mk_C_Begin, in_f_Begin_init, fi_f_Begin_init, kc_C_Begin⟩
    F_Begin_init := F_Begin_init
    b_Begin_init := b_Begin_init
    n_Begin_mark := n_C_Begin_mark
    n_Begin_kind := n_C_Begin_kind
    n_Begin_mood := n_C_Begin_mood
    C_Send := C_Send
    m_Send := PySem.W.mg_of X G a_Send
    c_Send := ⟨pg_C_Send, hd_C_Send, po_C_Send, sa_C_Send⟩
    f_Send_init := f_Send_init
    d_Send_init := _
    mk_Send := ⟨mk_C_Send, in_f_Send_init, fi_f_Send_init, kc_C_Send⟩
    F_Send_init := F_Send_init
    b_Send_init := b_Send_init
    n_Send_mood := n_C_Send_mood
    n_Send_service := n_C_Send_service
    n_Send_mark := n_C_Send_mark
    C_Back := C_Back
    m_Back := PySem.W.mg_of X G a_Back
    c_Back := ⟨pg_C_Back, hd_C_Back, po_C_Back, sa_C_Back⟩
    f_Back_init := f_Back_init
    d_Back_init := _
    mk_Back := ⟨mk_C_Back, in_f_Back_init, fi_f_Back_init, kc_C_Back⟩
    F_Back_init := F_Back_init
    b_Back_init := b_Back_init
    n_Back_mood := n_C_Back_mood
    n_Back_service := n_C_Back_service
    n_Back_sign := n_C_Back_sign
    n_Back_then := n_C_Back_then
    C_End := C_End
    m_End := PySem.W.mg_of X G a_End
    c_End := ⟨pg_C_End, hd_C_End, po_C_End, sa_C_End⟩
    f_End_init := f_End_init
    d_End_init := _
    mk_End := ⟨mk_C_End, in_f_End_init, fi_f_End_init, kc_C_End⟩
    F_End_init := F_End_init
    b_End_init := b_End_init
    n_End_mood := n_C_End_mood
    n_End_outcome := n_C_End_outcome
    n_End_sign := n_C_End_sign
    n_End_part := n_C_End_part
    z_sorted := PySem.W.mg_none_of X G z_sorted
    f_ascending := f_ascending
    d_ascending := _
    F_ascending := F_ascending
    m_ascending := PySem.W.mg_of X G a_ascending
    b_ascending := b_ascending
    f_are_rows := f_are_rows
    d_are_rows := _
    F_are_rows := F_are_rows
    m_are_rows := PySem.W.mg_of X G a_are_rows
    b_are_rows := b_are_rows
    C_Row := C_Row
    m_Row := PySem.W.mg_of X G a_Row
    ty_Begin := fun H a dx fs e => .base (.ins e ⟨pg_C_Begin, hd_C_Begin, po_C_Begin, sa_C_Begin⟩ ca_C_Begin cg_ ck_ cm_C_Begin)
    ty_Send := fun H a dx fs e => .base (.ins e ⟨pg_C_Send, hd_C_Send, po_C_Send, sa_C_Send⟩ ca_C_Send cg_ ck_ cm_C_Send)
    ty_Back := fun H a dx fs e => .base (.ins e ⟨pg_C_Back, hd_C_Back, po_C_Back, sa_C_Back⟩ ca_C_Back cg_ ck_ cm_C_Back)
    ty_End := fun H a dx fs e => .base (.ins e ⟨pg_C_End, hd_C_End, po_C_End, sa_C_End⟩ ca_C_End cg_ ck_ cm_C_End)
    kr_Begin := kit_yes isC_C_Row tyC_C_Row sub_C_Begin_C_Row
    kr_Send := kit_yes isC_C_Row tyC_C_Row sub_C_Send_C_Row
    kr_Back := kit_yes isC_C_Row tyC_C_Row sub_C_Back_C_Row
    kr_End := kit_yes isC_C_Row tyC_C_Row sub_C_End_C_Row
    kk_Begin_Begin := kit_yes isC_C_Begin tyC_C_Begin sub_C_Begin_C_Begin
    kk_Begin_Send := kit_no isC_C_Send tyC_C_Send sub_C_Begin_C_Send ne_C_Begin_C_Send
    kk_Begin_Back := kit_no isC_C_Back tyC_C_Back sub_C_Begin_C_Back ne_C_Begin_C_Back
    kk_Begin_End := kit_no isC_C_End tyC_C_End sub_C_Begin_C_End ne_C_Begin_C_End
    kk_Send_Begin := kit_no isC_C_Begin tyC_C_Begin sub_C_Send_C_Begin ne_C_Send_C_Begin
    kk_Send_Send := kit_yes isC_C_Send tyC_C_Send sub_C_Send_C_Send
    kk_Send_Back := kit_no isC_C_Back tyC_C_Back sub_C_Send_C_Back ne_C_Send_C_Back
    kk_Send_End := kit_no isC_C_End tyC_C_End sub_C_Send_C_End ne_C_Send_C_End
    kk_Back_Begin := kit_no isC_C_Begin tyC_C_Begin sub_C_Back_C_Begin ne_C_Back_C_Begin
    kk_Back_Send := kit_no isC_C_Send tyC_C_Send sub_C_Back_C_Send ne_C_Back_C_Send
    kk_Back_Back := kit_yes isC_C_Back tyC_C_Back sub_C_Back_C_Back
    kk_Back_End := kit_no isC_C_End tyC_C_End sub_C_Back_C_End ne_C_Back_C_End
    kk_End_Begin := kit_no isC_C_Begin tyC_C_Begin sub_C_End_C_Begin ne_C_End_C_Begin
    kk_End_Send := kit_no isC_C_Send tyC_C_Send sub_C_End_C_Send ne_C_End_C_Send
    kk_End_Back := kit_no isC_C_Back tyC_C_Back sub_C_End_C_Back ne_C_End_C_Back
    kk_End_End := kit_yes isC_C_End tyC_C_End sub_C_End_C_End
    C_InvalidService := C_InvalidService
    m_InvalidService := PySem.W.mg_of X G a_InvalidService
    oxSvc := ⟨⟨_, _, _, _, _, _, _, _, _, _, _, _, _, _, _, xL_C_InvalidService, ve_one⟩, sa_C_InvalidService, eb_C_InvalidService, tyC_C_InvalidService, kc_C_InvalidService⟩
    nwSvc := q_nwSvc
    f_InvalidService_init := f_InvalidService_init
    d_InvalidService_init := _
    iSvc := in_f_InvalidService_init
    tSvc := q_tSvc
    F_InvalidService_init := F_InvalidService_init
    b_InvalidService_init := b_InvalidService_init
    C_Service := C_Service
    m_Service := PySem.W.mg_of X G a_Service
    c_Service := ⟨pg_C_Service, hd_C_Service, po_C_Service, sa_C_Service⟩
    f_Service_init := f_Service_init
    d_Service_init := _
    mk_Service := ⟨mk_C_Service, in_f_Service_init, fi_f_Service_init, kc_C_Service⟩
    e_waits := e_waits
    e_leaves := e_leaves
    e_rows := e_rows
    t_waits := fun H => .inr ⟨_, _, _, l_e_waits, rfl, rfl, by show 0 ≤ sizeLine; decide, .nil⟩
    t_leaves := fun H => .inr ⟨_, _, _, l_e_leaves, rfl, rfl, by show 0 ≤ sizeLine; decide, .nil⟩
    t_rows := fun H => .inr ⟨_, _, _, l_e_rows, rfl, rfl, by show 0 ≤ sizeLine; decide, .nil⟩
    F_Service_init := ⟨⟨_, _, _, _, _, _, _, _, _, _, rfl, l_Service_init, cc_Service_init, .inr ⟨by simp, _, _, [.ref e_waits, .ref e_leaves, .ref e_rows], _, rfl, dl_Service_init, rfl, .cons rfl (.cons rfl (.cons rfl (.nil)))⟩, .inl rfl⟩, k_Service_init⟩
    n_Service_name := n_C_Service_name
    n_Service_kinds := n_C_Service_kinds
    n_Service_waits := n_C_Service_waits
    n_Service_leaves := n_C_Service_leaves
    n_Service_rows := n_C_Service_rows
    n_Service_moods := n_C_Service_moods
    n_Service__begins := n_C_Service__begins
    n_Service__sends := n_C_Service__sends
    n_Service__backs := n_C_Service__backs
    n_Service__ends := n_C_Service__ends
    n_Service_endings := n_C_Service_endings
    tk_BAD := tk_BAD
    m_BAD := PySem.W.mg_of X G a_BAD
    tk_DROPPED := tk_DROPPED
    m_DROPPED := PySem.W.mg_of X G a_DROPPED
    tk_KEPT := tk_KEPT
    m_KEPT := PySem.W.mg_of X G a_KEPT
    tk_LOST := tk_LOST
    m_LOST := PySem.W.mg_of X G a_LOST
    tk_NEAR := tk_NEAR
    m_NEAR := PySem.W.mg_of X G a_NEAR
    tk_HIDDEN := tk_HIDDEN
    m_HIDDEN := PySem.W.mg_of X G a_HIDDEN
    f_own_bits := f_own_bits
    d_own_bits := _
    F_own_bits := F_own_bits
    m_own_bits := PySem.W.mg_of X G a_own_bits
    b_own_bits := b_own_bits
    f_end_in := f_end_in
    d_end_in := _
    F_end_in := F_end_in
    m_end_in := PySem.W.mg_of X G a_end_in
    b_end_in := b_end_in
    f_endings_in := f_endings_in
    d_endings_in := _
    F_endings_in := F_endings_in
    m_endings_in := PySem.W.mg_of X G a_endings_in
    b_endings_in := b_endings_in
    f_are_some_services := f_are_some_services
    d_are_some_services := _
    F_are_some_services := F_are_some_services
    m_are_some_services := PySem.W.mg_of X G a_are_some_services
    b_are_some_services := b_are_some_services
    f_all_among := f_all_among
    d_all_among := _
    F_all_among := F_all_among
    m_all_among := PySem.W.mg_of X G a_all_among
    b_all_among := b_all_among
    C_InvalidBook := C_InvalidBook
    m_InvalidBook := PySem.W.mg_of X G a_InvalidBook
    oxBk := ⟨⟨_, _, _, _, _, _, _, _, _, _, _, _, _, _, _, xL_C_InvalidBook, ve_one⟩, sa_C_InvalidBook, eb_C_InvalidBook, tyC_C_InvalidBook, kc_C_InvalidBook⟩
    nwBk := q_nwBk
    f_InvalidBook_init := f_InvalidBook_init
    d_InvalidBook_init := _
    iBk := in_f_InvalidBook_init
    tBk := q_tBk
    F_InvalidBook_init := F_InvalidBook_init
    b_InvalidBook_init := b_InvalidBook_init
    ty_Service := fun H a dx fs e => .base (.ins e ⟨pg_C_Service, hd_C_Service, po_C_Service, sa_C_Service⟩ ca_C_Service cg_ ck_ cm_C_Service)
    kk_Service := kit_yes isC_C_Service tyC_C_Service sub_C_Service_C_Service
    C_Book := C_Book
    m_Book := PySem.W.mg_of X G a_Book
    c_Book := ⟨pg_C_Book, hd_C_Book, po_C_Book, sa_C_Book⟩
    f_Book_init := f_Book_init
    d_Book_init := _
    mk_Book := ⟨mk_C_Book, in_f_Book_init, fi_f_Book_init, kc_C_Book⟩
    F_Book_init := F_Book_init
    b_Book_init := b_Book_init
    n_Book_services := n_C_Book_services
    n_Book_roots := n_C_Book_roots
    n_Book_names := n_C_Book_names
    n_Book_marks := n_C_Book_marks
    n_Book_signs := n_C_Book_signs
    n_Book__rows := n_C_Book__rows
    z_int := PySem.W.mg_none_of X G z_int
    z_bool := PySem.W.mg_none_of X G z_bool
    f_is_integer := f_is_integer
    d_is_integer := _
    F_is_integer := F_is_integer
    m_is_integer := PySem.W.mg_of X G a_is_integer
    b_is_integer := b_is_integer
    f_Book__has_row := f_Book__has_row
    d_Book__has_row := _
    F_Book__has_row := F_Book__has_row
    mt_Book__has_row := ⟨i_f_Book__has_row, fi_f_Book__has_row, kf_f_Book__has_row⟩
    b_Book__has_row := b_Book__has_row
    f_Book_named := f_Book_named
    d_Book_named := _
    F_Book_named := F_Book_named
    mt_Book_named := ⟨i_f_Book_named, fi_f_Book_named, kf_f_Book_named⟩
    b_Book_named := b_Book_named
    f_Book_changed := f_Book_changed
    d_Book_changed := _
    F_Book_changed := F_Book_changed
    mt_Book_changed := ⟨i_f_Book_changed, fi_f_Book_changed, kf_f_Book_changed⟩
    b_Book_changed := b_Book_changed
    z_enumerate := PySem.W.mg_none_of X G z_enumerate
    f_without_own_row := f_without_own_row
    d_without_own_row := _
    F_without_own_row := F_without_own_row
    m_without_own_row := PySem.W.mg_of X G a_without_own_row
    b_without_own_row := b_without_own_row
    f_Book_without := f_Book_without
    d_Book_without := _
    F_Book_without := F_Book_without
    mt_Book_without := ⟨i_f_Book_without, fi_f_Book_without, kf_f_Book_without⟩
    b_Book_without := b_Book_without
    f_Begin_str := f_Begin_str
    d_Begin_str := _
    F_Begin_str := F_Begin_str
    b_Begin_str := b_Begin_str
    si_Begin := q_si_Begin
    sf_Begin := q_sf_Begin
    f_Begin_eq := f_Begin_eq
    d_Begin_eq := _
    F_Begin_eq := F_Begin_eq
    b_Begin_eq := b_Begin_eq
    ei_Begin := q_ei_Begin
    ef_Begin := q_ef_Begin
    en_Begin := q_en_Begin
    eo_Begin := q_eo_Begin
    ks_Begin := kit_tyno isC_C_Begin tyC_C_Begin sub_Tstr_C_Begin
    kt_Begin := kit_tyno isC_C_Begin tyC_C_Begin sub_Ttuple_C_Begin
    ns_Begin := q_ns_Begin
    nt_Begin := q_nt_Begin
    f_Send_str := f_Send_str
    d_Send_str := _
    F_Send_str := F_Send_str
    b_Send_str := b_Send_str
    si_Send := q_si_Send
    sf_Send := q_sf_Send
    f_Send_eq := f_Send_eq
    d_Send_eq := _
    F_Send_eq := F_Send_eq
    b_Send_eq := b_Send_eq
    ei_Send := q_ei_Send
    ef_Send := q_ef_Send
    en_Send := q_en_Send
    eo_Send := q_eo_Send
    ks_Send := kit_tyno isC_C_Send tyC_C_Send sub_Tstr_C_Send
    kt_Send := kit_tyno isC_C_Send tyC_C_Send sub_Ttuple_C_Send
    ns_Send := q_ns_Send
    nt_Send := q_nt_Send
    f_Back_str := f_Back_str
    d_Back_str := _
    F_Back_str := F_Back_str
    b_Back_str := b_Back_str
    si_Back := q_si_Back
    sf_Back := q_sf_Back
    f_Back_eq := f_Back_eq
    d_Back_eq := _
    F_Back_eq := F_Back_eq
    b_Back_eq := b_Back_eq
    ei_Back := q_ei_Back
    ef_Back := q_ef_Back
    en_Back := q_en_Back
    eo_Back := q_eo_Back
    ks_Back := kit_tyno isC_C_Back tyC_C_Back sub_Tstr_C_Back
    kt_Back := kit_tyno isC_C_Back tyC_C_Back sub_Ttuple_C_Back
    ns_Back := q_ns_Back
    nt_Back := q_nt_Back
    f_End_str := f_End_str
    d_End_str := _
    F_End_str := F_End_str
    b_End_str := b_End_str
    si_End := q_si_End
    sf_End := q_sf_End
    f_End_eq := f_End_eq
    d_End_eq := _
    F_End_eq := F_End_eq
    b_End_eq := b_End_eq
    ei_End := q_ei_End
    ef_End := q_ef_End
    en_End := q_en_End
    eo_End := q_eo_End
    ks_End := kit_tyno isC_C_End tyC_C_End sub_Tstr_C_End
    kt_End := kit_tyno isC_C_End tyC_C_End sub_Ttuple_C_End
    ns_End := q_ns_End
    nt_End := q_nt_End
    nf_Begin_Begin := q_nf_Begin_Begin
    nf_Begin_Send := q_nf_Begin_Send
    nf_Begin_Back := q_nf_Begin_Back
    nf_Begin_End := q_nf_Begin_End
    nf_Send_Begin := q_nf_Send_Begin
    nf_Send_Send := q_nf_Send_Send
    nf_Send_Back := q_nf_Send_Back
    nf_Send_End := q_nf_Send_End
    nf_Back_Begin := q_nf_Back_Begin
    nf_Back_Send := q_nf_Back_Send
    nf_Back_Back := q_nf_Back_Back
    nf_Back_End := q_nf_Back_End
    nf_End_Begin := q_nf_End_Begin
    nf_End_Send := q_nf_End_Send
    nf_End_Back := q_nf_End_Back
    nf_End_End := q_nf_End_End
    f_Service_str := f_Service_str
    d_Service_str := _
    F_Service_str := F_Service_str
    b_Service_str := b_Service_str
    si_Service := q_si_Service
    sf_Service := q_sf_Service
    f_Service_eq := f_Service_eq
    d_Service_eq := _
    F_Service_eq := F_Service_eq
    b_Service_eq := b_Service_eq
    ei_Service := q_ei_Service
    ef_Service := q_ef_Service
    en_Service := q_en_Service
    eo_Service := q_eo_Service
    nf_Service := q_nf_Service
    f_Book_str := f_Book_str
    d_Book_str := _
    F_Book_str := F_Book_str
    b_Book_str := b_Book_str
    si_Book := q_si_Book
    sf_Book := q_sf_Book
    f_Book_eq := f_Book_eq
    d_Book_eq := _
    F_Book_eq := F_Book_eq
    b_Book_eq := b_Book_eq
    ei_Book := q_ei_Book
    ef_Book := q_ef_Book
    en_Book := q_en_Book
    eo_Book := q_eo_Book
    ty_Book := fun H a dx fs e => .base (.ins e ⟨pg_C_Book, hd_C_Book, po_C_Book, sa_C_Book⟩ ca_C_Book cg_ ck_ cm_C_Book)
    kk_Book := kit_yes isC_C_Book tyC_C_Book sub_C_Book_C_Book
    nf_Book := q_nf_Book
    f_begins_with := f_begins_with
    d_begins_with := _
    F_begins_with := F_begins_with
    m_begins_with := PySem.W.mg_of X G a_begins_with
    b_begins_with := b_begins_with
    f_read_names := f_read_names
    d_read_names := _
    F_read_names := F_read_names
    m_read_names := PySem.W.mg_of X G a_read_names
    b_read_names := b_read_names
    f_read_row := f_read_row
    d_read_row := _
    F_read_row := F_read_row
    m_read_row := PySem.W.mg_of X G a_read_row
    b_read_row := b_read_row
    f_read_service := f_read_service
    d_read_service := _
    F_read_service := F_read_service
    m_read_service := PySem.W.mg_of X G a_read_service
    b_read_service := b_read_service
    f_read_roots := f_read_roots
    d_read_roots := _
    F_read_roots := F_read_roots
    m_read_roots := PySem.W.mg_of X G a_read_roots
    b_read_roots := b_read_roots
    f_read_parts := f_read_parts
    d_read_parts := _
    F_read_parts := F_read_parts
    m_read_parts := PySem.W.mg_of X G a_read_parts
    b_read_parts := b_read_parts
    f_Book_read := f_Book_read
    d_Book_read := _
    F_Book_read := F_Book_read
    b_Book_read := b_Book_read
    z_abs := PySem.W.mg_none_of X G z_abs
    f_take := f_take
    d_take := _
    F_take := F_take
    m_take := PySem.W.mg_of X G a__law_take
    b_take := b_take
    f_box := f_box
    d_box := _
    F_box := F_box
    m_box := PySem.W.mg_of X G a__law_box
    b_box := b_box
    z_max := PySem.W.mg_none_of X G z_max
    z_min := PySem.W.mg_none_of X G z_min
    z_range := PySem.W.mg_none_of X G z_range
    p_read := p_read
    r_read := r_read
    rd_Book := q_rd_Book
    sg_Book := q_sg_Book
    fc_read := q_fc_read
    rc_read := q_rc_read
    fn_read := q_fn_read
    f_law := f_law
    d_law := _
    F_law := F_law
  }
  exact ⟨PySem.W.fnOf "law" "law" (defArgs s_law) (defBody s_law) (defScope s_law) .none kV_law dc_law pm_law an_law cd_law ct_law, fun s v => .of_eq rfl, fun base _ _ => ok_law20 T⟩
theorem walk {l : PySem.W.OpenLaw} {q : Program} {loose : List Str} {XP : (Str → Option Value) → Heap → Prop} {YP : World → Heap → Prop} {d : DefRec} {K : Params → PySem.W.Frag} (hn : l.most = some 63) (hdf : d.params.defaults = [])
    (hY : ∀ (w : World) (h : Heap), YP w h → (K w.params).In h)
    (F : ∀ (w : World) (mg : Str → Option Value) (fa : Addr) (h : Heap), (K w.params).In h → h.Ns mainGlobals mg → mg d.name = some (.ref fa) →
      ∃ fd : FuncData, (∀ (s : Shared) (u : Value), BindsTo s fd ⟨[u], []⟩ [("_law_script", u)]) ∧ ∀ base : Heap, (K w.params).In base → base.Ns mainGlobals mg → FnOk l.prog w (K w.params) mg base CX0 13 fa fd ["_law_script"] (spLaw (K w.params))) :
    PySem.W.WalkO q loose XP YP l.row.toRowW d [] (fun f vs => PySem.call f vs) :=
  L2.walk_of (n := 63) (k := 13) (x := "_law_script") (CX := fun _ => CX0) (sp := fun w => spLaw (K w.params)) hn (by decide) hdf ⟨rfl, by decide, by decide⟩ hY F (fun _ _ a ns hl _ hS => ⟨a, ns, rfl, hS, hl, fun _ => rfl⟩) fun _ _ _ _ _ z => z
end My
open PySem PySem.W PyProof.Rows
set_option maxRecDepth 100000 in
set_option maxHeartbeats 0 in
theorem PySem.Challenge.cw_wholetraces_k20_books_by_names_holds : PySem.Challenge.rw_wholetraces_k20_books_by_names.Holds := by
  w_on; o_law; k_head; (case hw => w_witness2)
  k_fill
  refine My.walk (l := PySem.Challenge.rw_wholetraces_k20_books_by_names) rfl rfl (fun w h Y => PySem.W.kIn_of Y) ?F
  case F =>
    intro w mg fa h KX G hmg
    refine' My.all_mk KX G hmg ?a_law ?a_NO_NAMES ?a_is_name ?a_is_sequence ?a_are_names ?a_are_some_names ?a_is_name_or ?a_InvalidRow ?a_Begin ?a_Send ?a_Back ?a_End ?a_ascending ?a_are_rows ?a_Row ?a_InvalidService ?a_Service ?a_BAD ?a_DROPPED ?a_KEPT ?a_LOST ?a_NEAR ?a_HIDDEN ?a_own_bits ?a_end_in ?a_endings_in ?a_are_some_services ?a_all_among ?a_InvalidBook ?a_Book ?a_is_integer ?a_without_own_row ?a_begins_with ?a_read_names ?a_read_row ?a_read_service ?a_read_roots ?a_read_parts ?a__law_take ?a__law_box ?in_f_InvalidRow_init ?in_f_Begin_init ?in_f_Send_init ?in_f_Back_init ?in_f_End_init ?in_f_InvalidService_init ?in_f_Service_init ?in_f_InvalidBook_init ?in_f_Book_init ?i_f_Book__has_row ?i_f_Book_named ?i_f_Book_changed ?i_f_Book_without ?q_si_Begin ?q_ei_Begin ?q_si_Send ?q_ei_Send ?q_si_Back ?q_ei_Back ?q_si_End ?q_ei_End ?q_si_Service ?q_ei_Service ?q_si_Book ?q_ei_Book ?q_fc_read ?q_rc_read ?l_is_name ?l_is_sequence ?l_are_names ?l_are_some_names ?l_is_name_or ?l_InvalidRow_init ?l_Begin_init ?l_Send_init ?l_Back_init ?l_End_init ?l_ascending ?l_are_rows ?l_InvalidService_init ?l_own_bits ?l_end_in ?l_endings_in ?l_are_some_services ?l_all_among ?l_InvalidBook_init ?l_Book_init ?l_is_integer ?l_Book__has_row ?l_Book_named ?l_Book_changed ?l_without_own_row ?l_Book_without ?l_Begin_str ?l_Begin_eq ?l_Send_str ?l_Send_eq ?l_Back_str ?l_Back_eq ?l_End_str ?l_End_eq ?l_Service_str ?l_Service_eq ?l_Book_str ?l_Book_eq ?l_begins_with ?l_read_names ?l_read_row ?l_read_service ?l_read_roots ?l_read_parts ?l_Book_read ?l_take ?l_box ?l_law ?l_aNO ?xL_C_InvalidRow ?xL_C_InvalidService ?l_Service_init ?xL_C_InvalidBook ?dl_Service_init ?l_e_waits ?l_e_leaves ?l_e_rows ?cc_is_name ?k_is_name ?cc_is_sequence ?k_is_sequence ?cc_are_names ?k_are_names ?cc_are_some_names ?k_are_some_names ?cc_is_name_or ?k_is_name_or ?cc_InvalidRow_init ?k_InvalidRow_init ?cc_Begin_init ?k_Begin_init ?cc_Send_init ?k_Send_init ?cc_Back_init ?k_Back_init ?cc_End_init ?k_End_init ?cc_ascending ?k_ascending ?cc_are_rows ?k_are_rows ?cc_InvalidService_init ?k_InvalidService_init ?cc_own_bits ?k_own_bits ?cc_end_in ?k_end_in ?cc_endings_in ?k_endings_in ?cc_are_some_services ?k_are_some_services ?cc_all_among ?k_all_among ?cc_InvalidBook_init ?k_InvalidBook_init ?cc_Book_init ?k_Book_init ?cc_is_integer ?k_is_integer ?cc_Book__has_row ?k_Book__has_row ?cc_Book_named ?k_Book_named ?cc_Book_changed ?k_Book_changed ?cc_without_own_row ?k_without_own_row ?cc_Book_without ?k_Book_without ?cc_Begin_str ?k_Begin_str ?cc_Begin_eq ?k_Begin_eq ?cc_Send_str ?k_Send_str ?cc_Send_eq ?k_Send_eq ?cc_Back_str ?k_Back_str ?cc_Back_eq ?k_Back_eq ?cc_End_str ?k_End_str ?cc_End_eq ?k_End_eq ?cc_Service_str ?k_Service_str ?cc_Service_eq ?k_Service_eq ?cc_Book_str ?k_Book_str ?cc_Book_eq ?k_Book_eq ?cc_begins_with ?k_begins_with ?cc_read_names ?k_read_names ?cc_read_row ?k_read_row ?cc_read_service ?k_read_service ?cc_read_roots ?k_read_roots ?cc_read_parts ?k_read_parts ?cc_Book_read ?k_Book_read ?cc_take ?k_take ?cc_box ?k_box ?cc_law ?k_law ?z_len ?z_isinstance ?z_str ?z_all ?kl_aNO ?sm_aNO ?z_list ?z_tuple ?z_set ?sa_C_InvalidRow ?eb_C_InvalidRow ?tyC_C_InvalidRow ?kc_C_InvalidRow ?q_nwRow ?q_tRow ?pg_C_Begin ?hd_C_Begin ?po_C_Begin ?sa_C_Begin ?mk_C_Begin ?fi_f_Begin_init ?kc_C_Begin ?n_C_Begin_mark ?n_C_Begin_kind ?n_C_Begin_mood ?pg_C_Send ?hd_C_Send ?po_C_Send ?sa_C_Send ?mk_C_Send ?fi_f_Send_init ?kc_C_Send ?n_C_Send_mood ?n_C_Send_service ?n_C_Send_mark ?pg_C_Back ?hd_C_Back ?po_C_Back ?sa_C_Back ?mk_C_Back ?fi_f_Back_init ?kc_C_Back ?n_C_Back_mood ?n_C_Back_service ?n_C_Back_sign ?n_C_Back_then ?pg_C_End ?hd_C_End ?po_C_End ?sa_C_End ?mk_C_End ?fi_f_End_init ?kc_C_End ?n_C_End_mood ?n_C_End_outcome ?n_C_End_sign ?n_C_End_part ?z_sorted ?ca_C_Begin ?cg_ ?ck_ ?cm_C_Begin ?ca_C_Send ?cm_C_Send ?ca_C_Back ?cm_C_Back ?ca_C_End ?cm_C_End ?isC_C_Row ?tyC_C_Row ?sub_C_Begin_C_Row ?sub_C_Send_C_Row ?sub_C_Back_C_Row ?sub_C_End_C_Row ?isC_C_Begin ?tyC_C_Begin ?sub_C_Begin_C_Begin ?isC_C_Send ?tyC_C_Send ?sub_C_Begin_C_Send ?ne_C_Begin_C_Send ?isC_C_Back ?tyC_C_Back ?sub_C_Begin_C_Back ?ne_C_Begin_C_Back ?isC_C_End ?tyC_C_End ?sub_C_Begin_C_End ?ne_C_Begin_C_End ?sub_C_Send_C_Begin ?ne_C_Send_C_Begin ?sub_C_Send_C_Send ?sub_C_Send_C_Back ?ne_C_Send_C_Back ?sub_C_Send_C_End ?ne_C_Send_C_End ?sub_C_Back_C_Begin ?ne_C_Back_C_Begin ?sub_C_Back_C_Send ?ne_C_Back_C_Send ?sub_C_Back_C_Back ?sub_C_Back_C_End ?ne_C_Back_C_End ?sub_C_End_C_Begin ?ne_C_End_C_Begin ?sub_C_End_C_Send ?ne_C_End_C_Send ?sub_C_End_C_Back ?ne_C_End_C_Back ?sub_C_End_C_End ?sa_C_InvalidService ?eb_C_InvalidService ?tyC_C_InvalidService ?kc_C_InvalidService ?q_nwSvc ?q_tSvc ?pg_C_Service ?hd_C_Service ?po_C_Service ?sa_C_Service ?mk_C_Service ?fi_f_Service_init ?kc_C_Service ?cc_Service_init ?k_Service_init ?n_C_Service_name ?n_C_Service_kinds ?n_C_Service_waits ?n_C_Service_leaves ?n_C_Service_rows ?n_C_Service_moods ?n_C_Service__begins ?n_C_Service__sends ?n_C_Service__backs ?n_C_Service__ends ?n_C_Service_endings ?sa_C_InvalidBook ?eb_C_InvalidBook ?tyC_C_InvalidBook ?kc_C_InvalidBook ?q_nwBk ?q_tBk ?ca_C_Service ?cm_C_Service ?isC_C_Service ?tyC_C_Service ?sub_C_Service_C_Service ?pg_C_Book ?hd_C_Book ?po_C_Book ?sa_C_Book ?mk_C_Book ?fi_f_Book_init ?kc_C_Book ?n_C_Book_services ?n_C_Book_roots ?n_C_Book_names ?n_C_Book_marks ?n_C_Book_signs ?n_C_Book__rows ?z_int ?z_bool ?fi_f_Book__has_row ?kf_f_Book__has_row ?fi_f_Book_named ?kf_f_Book_named ?fi_f_Book_changed ?kf_f_Book_changed ?z_enumerate ?fi_f_Book_without ?kf_f_Book_without ?q_sf_Begin ?q_ef_Begin ?q_en_Begin ?q_eo_Begin ?sub_Tstr_C_Begin ?sub_Ttuple_C_Begin ?q_ns_Begin ?q_nt_Begin ?q_sf_Send ?q_ef_Send ?q_en_Send ?q_eo_Send ?sub_Tstr_C_Send ?sub_Ttuple_C_Send ?q_ns_Send ?q_nt_Send ?q_sf_Back ?q_ef_Back ?q_en_Back ?q_eo_Back ?sub_Tstr_C_Back ?sub_Ttuple_C_Back ?q_ns_Back ?q_nt_Back ?q_sf_End ?q_ef_End ?q_en_End ?q_eo_End ?sub_Tstr_C_End ?sub_Ttuple_C_End ?q_ns_End ?q_nt_End ?q_nf_Begin_Begin ?q_nf_Begin_Send ?q_nf_Begin_Back ?q_nf_Begin_End ?q_nf_Send_Begin ?q_nf_Send_Send ?q_nf_Send_Back ?q_nf_Send_End ?q_nf_Back_Begin ?q_nf_Back_Send ?q_nf_Back_Back ?q_nf_Back_End ?q_nf_End_Begin ?q_nf_End_Send ?q_nf_End_Back ?q_nf_End_End ?q_sf_Service ?q_ef_Service ?q_en_Service ?q_eo_Service ?q_nf_Service ?q_sf_Book ?q_ef_Book ?q_en_Book ?q_eo_Book ?ca_C_Book ?cm_C_Book ?isC_C_Book ?tyC_C_Book ?sub_C_Book_C_Book ?q_nf_Book ?z_abs ?z_max ?z_min ?z_range ?q_rd_Book ?q_sg_Book ?q_fn_read
    (case a_law => k_is)
    (case a_NO_NAMES => k_is)
    (case a_is_name => k_is)
    (case a_is_sequence => k_is)
    (case a_are_names => k_is)
    (case a_are_some_names => k_is)
    (case a_is_name_or => k_is)
    (case a_InvalidRow => k_is)
    (case a_Begin => k_is)
    (case a_Send => k_is)
    (case a_Back => k_is)
    (case a_End => k_is)
    (case a_ascending => k_is)
    (case a_are_rows => k_is)
    (case a_Row => k_is)
    (case a_InvalidService => k_is)
    (case a_Service => k_is)
    (case a_BAD => k_is)
    (case a_DROPPED => k_is)
    (case a_KEPT => k_is)
    (case a_LOST => k_is)
    (case a_NEAR => k_is)
    (case a_HIDDEN => k_is)
    (case a_own_bits => k_is)
    (case a_end_in => k_is)
    (case a_endings_in => k_is)
    (case a_are_some_services => k_is)
    (case a_all_among => k_is)
    (case a_InvalidBook => k_is)
    (case a_Book => k_is)
    (case a_is_integer => k_is)
    (case a_without_own_row => k_is)
    (case a_begins_with => k_is)
    (case a_read_names => k_is)
    (case a_read_row => k_is)
    (case a_read_service => k_is)
    (case a_read_roots => k_is)
    (case a_read_parts => k_is)
    (case a__law_take => k_is)
    (case a__law_box => k_is)
    (case in_f_InvalidRow_init => k_is)
    (case in_f_Begin_init => k_is)
    (case in_f_Send_init => k_is)
    (case in_f_Back_init => k_is)
    (case in_f_End_init => k_is)
    (case in_f_InvalidService_init => k_is)
    (case in_f_Service_init => k_is)
    (case in_f_InvalidBook_init => k_is)
    (case in_f_Book_init => k_is)
    (case i_f_Book__has_row => k_is)
    (case i_f_Book_named => k_is)
    (case i_f_Book_changed => k_is)
    (case i_f_Book_without => k_is)
    (case q_si_Begin => k_is)
    (case q_ei_Begin => k_is)
    (case q_si_Send => k_is)
    (case q_ei_Send => k_is)
    (case q_si_Back => k_is)
    (case q_ei_Back => k_is)
    (case q_si_End => k_is)
    (case q_ei_End => k_is)
    (case q_si_Service => k_is)
    (case q_ei_Service => k_is)
    (case q_si_Book => k_is)
    (case q_ei_Book => k_is)
    (case q_fc_read => k_is)
    (case q_rc_read => k_is)
    (case l_is_name => k_is)
    (case l_is_sequence => k_is)
    (case l_are_names => k_is)
    (case l_are_some_names => k_is)
    (case l_is_name_or => k_is)
    (case l_InvalidRow_init => k_is)
    (case l_Begin_init => k_is)
    (case l_Send_init => k_is)
    (case l_Back_init => k_is)
    (case l_End_init => k_is)
    (case l_ascending => k_is)
    (case l_are_rows => k_is)
    (case l_InvalidService_init => k_is)
    (case l_own_bits => k_is)
    (case l_end_in => k_is)
    (case l_endings_in => k_is)
    (case l_are_some_services => k_is)
    (case l_all_among => k_is)
    (case l_InvalidBook_init => k_is)
    (case l_Book_init => k_is)
    (case l_is_integer => k_is)
    (case l_Book__has_row => k_is)
    (case l_Book_named => k_is)
    (case l_Book_changed => k_is)
    (case l_without_own_row => k_is)
    (case l_Book_without => k_is)
    (case l_Begin_str => k_is)
    (case l_Begin_eq => k_is)
    (case l_Send_str => k_is)
    (case l_Send_eq => k_is)
    (case l_Back_str => k_is)
    (case l_Back_eq => k_is)
    (case l_End_str => k_is)
    (case l_End_eq => k_is)
    (case l_Service_str => k_is)
    (case l_Service_eq => k_is)
    (case l_Book_str => k_is)
    (case l_Book_eq => k_is)
    (case l_begins_with => k_is)
    (case l_read_names => k_is)
    (case l_read_row => k_is)
    (case l_read_service => k_is)
    (case l_read_roots => k_is)
    (case l_read_parts => k_is)
    (case l_Book_read => k_is)
    (case l_take => k_is)
    (case l_box => k_is)
    (case l_law => k_is)
    (case l_aNO => k_is)
    (case xL_C_InvalidRow => k_is)
    (case xL_C_InvalidService => k_is)
    (case l_Service_init => k_is)
    (case xL_C_InvalidBook => k_is)
    (case dl_Service_init => k_is)
    (case l_e_waits => k_is)
    (case l_e_leaves => k_is)
    (case l_e_rows => k_is)
    (case cc_is_name => k_is)
    (case k_is_name => k_is)
    (case cc_is_sequence => k_is)
    (case k_is_sequence => k_is)
    (case cc_are_names => k_is)
    (case k_are_names => k_is)
    (case cc_are_some_names => k_is)
    (case k_are_some_names => k_is)
    (case cc_is_name_or => k_is)
    (case k_is_name_or => k_is)
    (case cc_InvalidRow_init => k_is)
    (case k_InvalidRow_init => k_is)
    (case cc_Begin_init => k_is)
    (case k_Begin_init => k_is)
    (case cc_Send_init => k_is)
    (case k_Send_init => k_is)
    (case cc_Back_init => k_is)
    (case k_Back_init => k_is)
    (case cc_End_init => k_is)
    (case k_End_init => k_is)
    (case cc_ascending => k_is)
    (case k_ascending => k_is)
    (case cc_are_rows => k_is)
    (case k_are_rows => k_is)
    (case cc_InvalidService_init => k_is)
    (case k_InvalidService_init => k_is)
    (case cc_own_bits => k_is)
    (case k_own_bits => k_is)
    (case cc_end_in => k_is)
    (case k_end_in => k_is)
    (case cc_endings_in => k_is)
    (case k_endings_in => k_is)
    (case cc_are_some_services => k_is)
    (case k_are_some_services => k_is)
    (case cc_all_among => k_is)
    (case k_all_among => k_is)
    (case cc_InvalidBook_init => k_is)
    (case k_InvalidBook_init => k_is)
    (case cc_Book_init => k_is)
    (case k_Book_init => k_is)
    (case cc_is_integer => k_is)
    (case k_is_integer => k_is)
    (case cc_Book__has_row => k_is)
    (case k_Book__has_row => k_is)
    (case cc_Book_named => k_is)
    (case k_Book_named => k_is)
    (case cc_Book_changed => k_is)
    (case k_Book_changed => k_is)
    (case cc_without_own_row => k_is)
    (case k_without_own_row => k_is)
    (case cc_Book_without => k_is)
    (case k_Book_without => k_is)
    (case cc_Begin_str => k_is)
    (case k_Begin_str => k_is)
    (case cc_Begin_eq => k_is)
    (case k_Begin_eq => k_is)
    (case cc_Send_str => k_is)
    (case k_Send_str => k_is)
    (case cc_Send_eq => k_is)
    (case k_Send_eq => k_is)
    (case cc_Back_str => k_is)
    (case k_Back_str => k_is)
    (case cc_Back_eq => k_is)
    (case k_Back_eq => k_is)
    (case cc_End_str => k_is)
    (case k_End_str => k_is)
    (case cc_End_eq => k_is)
    (case k_End_eq => k_is)
    (case cc_Service_str => k_is)
    (case k_Service_str => k_is)
    (case cc_Service_eq => k_is)
    (case k_Service_eq => k_is)
    (case cc_Book_str => k_is)
    (case k_Book_str => k_is)
    (case cc_Book_eq => k_is)
    (case k_Book_eq => k_is)
    (case cc_begins_with => k_is)
    (case k_begins_with => k_is)
    (case cc_read_names => k_is)
    (case k_read_names => k_is)
    (case cc_read_row => k_is)
    (case k_read_row => k_is)
    (case cc_read_service => k_is)
    (case k_read_service => k_is)
    (case cc_read_roots => k_is)
    (case k_read_roots => k_is)
    (case cc_read_parts => k_is)
    (case k_read_parts => k_is)
    (case cc_Book_read => k_is)
    (case k_Book_read => k_is)
    (case cc_take => k_is)
    (case k_take => k_is)
    (case cc_box => k_is)
    (case k_box => k_is)
    (case cc_law => k_is)
    (case k_law => k_is)
    (case z_len => k_is)
    (case z_isinstance => k_is)
    (case z_str => k_is)
    (case z_all => k_is)
    (case kl_aNO => exact ⟨⟨_, _, rfl, rfl⟩, ⟨_, _, rfl, rfl⟩, ⟨_, _, rfl, rfl⟩, ⟨_, _, rfl, rfl⟩, ⟨_, _, rfl, rfl⟩, ⟨_, _, rfl, rfl⟩, ⟨_, _, rfl, rfl⟩, ⟨_, _, rfl, rfl⟩, ⟨_, _, rfl, rfl⟩, ⟨_, _, rfl, rfl⟩, trivial⟩)
    (case sm_aNO => first | rfl | decide)
    (case z_list => k_is)
    (case z_tuple => k_is)
    (case z_set => k_is)
    (case sa_C_InvalidRow => k_is)
    (case eb_C_InvalidRow => k_is)
    (case tyC_C_InvalidRow => k_is)
    (case kc_C_InvalidRow => k_is)
    (case q_nwRow => k_is)
    (case q_tRow => k_is)
    (case pg_C_Begin => k_is)
    (case hd_C_Begin => k_is)
    (case po_C_Begin => k_is)
    (case sa_C_Begin => k_is)
    (case mk_C_Begin => k_is)
    (case fi_f_Begin_init => k_is)
    (case kc_C_Begin => k_is)
    (case n_C_Begin_mark => k_is)
    (case n_C_Begin_kind => k_is)
    (case n_C_Begin_mood => k_is)
    (case pg_C_Send => k_is)
    (case hd_C_Send => k_is)
    (case po_C_Send => k_is)
    (case sa_C_Send => k_is)
    (case mk_C_Send => k_is)
    (case fi_f_Send_init => k_is)
    (case kc_C_Send => k_is)
    (case n_C_Send_mood => k_is)
    (case n_C_Send_service => k_is)
    (case n_C_Send_mark => k_is)
    (case pg_C_Back => k_is)
    (case hd_C_Back => k_is)
    (case po_C_Back => k_is)
    (case sa_C_Back => k_is)
    (case mk_C_Back => k_is)
    (case fi_f_Back_init => k_is)
    (case kc_C_Back => k_is)
    (case n_C_Back_mood => k_is)
    (case n_C_Back_service => k_is)
    (case n_C_Back_sign => k_is)
    (case n_C_Back_then => k_is)
    (case pg_C_End => k_is)
    (case hd_C_End => k_is)
    (case po_C_End => k_is)
    (case sa_C_End => k_is)
    (case mk_C_End => k_is)
    (case fi_f_End_init => k_is)
    (case kc_C_End => k_is)
    (case n_C_End_mood => k_is)
    (case n_C_End_outcome => k_is)
    (case n_C_End_sign => k_is)
    (case n_C_End_part => k_is)
    (case z_sorted => k_is)
    (case ca_C_Begin => k_is)
    (case cg_ => k_is)
    (case ck_ => k_is)
    (case cm_C_Begin => k_is)
    (case ca_C_Send => k_is)
    (case cm_C_Send => k_is)
    (case ca_C_Back => k_is)
    (case cm_C_Back => k_is)
    (case ca_C_End => k_is)
    (case cm_C_End => k_is)
    (case isC_C_Row => k_is)
    (case tyC_C_Row => k_is)
    (case sub_C_Begin_C_Row => first | k_is | rfl)
    (case sub_C_Send_C_Row => first | k_is | rfl)
    (case sub_C_Back_C_Row => first | k_is | rfl)
    (case sub_C_End_C_Row => first | k_is | rfl)
    (case isC_C_Begin => k_is)
    (case tyC_C_Begin => k_is)
    (case sub_C_Begin_C_Begin => first | k_is | rfl)
    (case isC_C_Send => k_is)
    (case tyC_C_Send => k_is)
    (case sub_C_Begin_C_Send => first | k_is | rfl)
    (case ne_C_Begin_C_Send => decide)
    (case isC_C_Back => k_is)
    (case tyC_C_Back => k_is)
    (case sub_C_Begin_C_Back => first | k_is | rfl)
    (case ne_C_Begin_C_Back => decide)
    (case isC_C_End => k_is)
    (case tyC_C_End => k_is)
    (case sub_C_Begin_C_End => first | k_is | rfl)
    (case ne_C_Begin_C_End => decide)
    (case sub_C_Send_C_Begin => first | k_is | rfl)
    (case ne_C_Send_C_Begin => decide)
    (case sub_C_Send_C_Send => first | k_is | rfl)
    (case sub_C_Send_C_Back => first | k_is | rfl)
    (case ne_C_Send_C_Back => decide)
    (case sub_C_Send_C_End => first | k_is | rfl)
    (case ne_C_Send_C_End => decide)
    (case sub_C_Back_C_Begin => first | k_is | rfl)
    (case ne_C_Back_C_Begin => decide)
    (case sub_C_Back_C_Send => first | k_is | rfl)
    (case ne_C_Back_C_Send => decide)
    (case sub_C_Back_C_Back => first | k_is | rfl)
    (case sub_C_Back_C_End => first | k_is | rfl)
    (case ne_C_Back_C_End => decide)
    (case sub_C_End_C_Begin => first | k_is | rfl)
    (case ne_C_End_C_Begin => decide)
    (case sub_C_End_C_Send => first | k_is | rfl)
    (case ne_C_End_C_Send => decide)
    (case sub_C_End_C_Back => first | k_is | rfl)
    (case ne_C_End_C_Back => decide)
    (case sub_C_End_C_End => first | k_is | rfl)
    (case sa_C_InvalidService => k_is)
    (case eb_C_InvalidService => k_is)
    (case tyC_C_InvalidService => k_is)
    (case kc_C_InvalidService => k_is)
    (case q_nwSvc => k_is)
    (case q_tSvc => k_is)
    (case pg_C_Service => k_is)
    (case hd_C_Service => k_is)
    (case po_C_Service => k_is)
    (case sa_C_Service => k_is)
    (case mk_C_Service => k_is)
    (case fi_f_Service_init => k_is)
    (case kc_C_Service => k_is)
    (case cc_Service_init => k_is)
    (case k_Service_init => k_is)
    (case n_C_Service_name => k_is)
    (case n_C_Service_kinds => k_is)
    (case n_C_Service_waits => k_is)
    (case n_C_Service_leaves => k_is)
    (case n_C_Service_rows => k_is)
    (case n_C_Service_moods => k_is)
    (case n_C_Service__begins => k_is)
    (case n_C_Service__sends => k_is)
    (case n_C_Service__backs => k_is)
    (case n_C_Service__ends => k_is)
    (case n_C_Service_endings => k_is)
    (case sa_C_InvalidBook => k_is)
    (case eb_C_InvalidBook => k_is)
    (case tyC_C_InvalidBook => k_is)
    (case kc_C_InvalidBook => k_is)
    (case q_nwBk => k_is)
    (case q_tBk => k_is)
    (case ca_C_Service => k_is)
    (case cm_C_Service => k_is)
    (case isC_C_Service => k_is)
    (case tyC_C_Service => k_is)
    (case sub_C_Service_C_Service => first | k_is | rfl)
    (case pg_C_Book => k_is)
    (case hd_C_Book => k_is)
    (case po_C_Book => k_is)
    (case sa_C_Book => k_is)
    (case mk_C_Book => k_is)
    (case fi_f_Book_init => k_is)
    (case kc_C_Book => k_is)
    (case n_C_Book_services => k_is)
    (case n_C_Book_roots => k_is)
    (case n_C_Book_names => k_is)
    (case n_C_Book_marks => k_is)
    (case n_C_Book_signs => k_is)
    (case n_C_Book__rows => k_is)
    (case z_int => k_is)
    (case z_bool => k_is)
    (case fi_f_Book__has_row => k_is)
    (case kf_f_Book__has_row => k_is)
    (case fi_f_Book_named => k_is)
    (case kf_f_Book_named => k_is)
    (case fi_f_Book_changed => k_is)
    (case kf_f_Book_changed => k_is)
    (case z_enumerate => k_is)
    (case fi_f_Book_without => k_is)
    (case kf_f_Book_without => k_is)
    (case q_sf_Begin => k_is)
    (case q_ef_Begin => k_is)
    (case q_en_Begin => k_is)
    (case q_eo_Begin => k_is)
    (case sub_Tstr_C_Begin => first | k_is | rfl)
    (case sub_Ttuple_C_Begin => first | k_is | rfl)
    (case q_ns_Begin => k_is)
    (case q_nt_Begin => k_is)
    (case q_sf_Send => k_is)
    (case q_ef_Send => k_is)
    (case q_en_Send => k_is)
    (case q_eo_Send => k_is)
    (case sub_Tstr_C_Send => first | k_is | rfl)
    (case sub_Ttuple_C_Send => first | k_is | rfl)
    (case q_ns_Send => k_is)
    (case q_nt_Send => k_is)
    (case q_sf_Back => k_is)
    (case q_ef_Back => k_is)
    (case q_en_Back => k_is)
    (case q_eo_Back => k_is)
    (case sub_Tstr_C_Back => first | k_is | rfl)
    (case sub_Ttuple_C_Back => first | k_is | rfl)
    (case q_ns_Back => k_is)
    (case q_nt_Back => k_is)
    (case q_sf_End => k_is)
    (case q_ef_End => k_is)
    (case q_en_End => k_is)
    (case q_eo_End => k_is)
    (case sub_Tstr_C_End => first | k_is | rfl)
    (case sub_Ttuple_C_End => first | k_is | rfl)
    (case q_ns_End => k_is)
    (case q_nt_End => k_is)
    (case q_nf_Begin_Begin => k_is)
    (case q_nf_Begin_Send => k_is)
    (case q_nf_Begin_Back => k_is)
    (case q_nf_Begin_End => k_is)
    (case q_nf_Send_Begin => k_is)
    (case q_nf_Send_Send => k_is)
    (case q_nf_Send_Back => k_is)
    (case q_nf_Send_End => k_is)
    (case q_nf_Back_Begin => k_is)
    (case q_nf_Back_Send => k_is)
    (case q_nf_Back_Back => k_is)
    (case q_nf_Back_End => k_is)
    (case q_nf_End_Begin => k_is)
    (case q_nf_End_Send => k_is)
    (case q_nf_End_Back => k_is)
    (case q_nf_End_End => k_is)
    (case q_sf_Service => k_is)
    (case q_ef_Service => k_is)
    (case q_en_Service => k_is)
    (case q_eo_Service => k_is)
    (case q_nf_Service => k_is)
    (case q_sf_Book => k_is)
    (case q_ef_Book => k_is)
    (case q_en_Book => k_is)
    (case q_eo_Book => k_is)
    (case ca_C_Book => k_is)
    (case cm_C_Book => k_is)
    (case isC_C_Book => k_is)
    (case tyC_C_Book => k_is)
    (case sub_C_Book_C_Book => first | k_is | rfl)
    (case q_nf_Book => k_is)
    (case z_abs => k_is)
    (case z_max => k_is)
    (case z_min => k_is)
    (case z_range => k_is)
    (case q_rd_Book => k_is)
    (case q_sg_Book => k_is)
    (case q_fn_read => k_is)
