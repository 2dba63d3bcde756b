import PyProof.Rows.All
import Wide.All
import OpenK.AllK
import Wide.FinOn
import HandS.ForMost
import HandS.Evl
import HandS.Style
import HandS.Walk
import HandS.IsInst
import HandS.Deep
import PySem.Challenge.RW_wholetraces_k13_books_refused
import HandS.ExcInit
import HandS.ExcField
import HandS.TryOnly
import HandS.WordsExc
import HandS.Dict
import PyProof.DictUpdate
import HandS.Set
import HandS.SetBool
import HandS.SetFor
import HandS.Strs
import HandS.Comp
import HandS.Star
import HandS.Defaults
import HandS.ExcIs
import HandS.ExcOwn
import HandS.CallSlots
set_option Elab.async false
set_option maxRecDepth 100000
set_option maxHeartbeats 4000000
set_option linter.all false
/-! ## Words of my own that speak of no program -/
namespace My
open PySem L2
/-- the box of draws: three ints -/
def bx (w s c : Int) : HO := .lst [.int w, .int s, .int c]
theorem small_ {n : Nat} (h : n ≤ 1000) : n ≤ sizeLine := Nat.le_of_lt (small1000 h)
theorem at_some {xs : List V} {k : Int} (h0 : 0 ≤ k) (h1 : k < (xs.length : Int)) : ∃ v : V, atI xs k = some v ∧ xs[k.toNat]? = some v := by
  have hk : k.toNat < xs.length := by omega
  have h2 : xs[k.toNat]? = some xs[k.toNat] := List.getElem?_eq_getElem hk
  have h3 := atI_nat h2
  rw [show ((k.toNat : Nat) : Int) = k by omega] at h3
  exact ⟨_, h3, h2⟩
theorem int_at {ns : List Int} {k : Int} (h0 : 0 ≤ k) (h1 : k < (ns.length : Int)) : ∃ z : Int, atI (ns.map V.int) k = some (.int z) := by
  obtain ⟨v, h, e⟩ := at_some (xs := ns.map V.int) h0 (by rw [List.length_map]; exact h1)
  rw [List.getElem?_map] at e
  cases q : ns[k.toNat]? with
  | none => rw [q] at e; cases e
  | some z => rw [q] at e; cases e; exact ⟨z, h⟩
/-! ### the heap grows, the box alone changes -/
structure Gr (b : Addr) (H H' : Hp) : Prop where
  keep : ∀ a o, a ≠ b → H a = some o → H' a = some o
  box : ∃ w s c, H' b = some (bx w s c)
/-- at a, which is not the box, stands o -/
structure At (b : Addr) (H : Hp) (a : Addr) (o : HO) : Prop where
  ne : a ≠ b
  at_ : H a = some o
theorem Gr.refl {b : Addr} {H : Hp} {w s c : Int} (h : H b = some (bx w s c)) : Gr b H H := ⟨fun _ _ _ e => e, w, s, c, h⟩
theorem Gr.trans {b : Addr} {H H1 H2 : Hp} (x : Gr b H H1) (y : Gr b H1 H2) : Gr b H H2 := ⟨fun a o n e => y.keep a o n (x.keep a o n e), y.box⟩
theorem Gr.draw {b : Addr} {H H1 : Hp} (x : Gr b H H1) (w s c : Int) : Gr b H (upd H1 b (bx w s c)) := ⟨fun a o n e => by rw [upd_ne n]; exact x.keep a o n e, w, s, c, upd_same⟩
theorem Gr.ne_new {b p : Addr} {H H1 : Hp} (x : Gr b H H1) (h : H1 p = none) : p ≠ b := fun e => by
  obtain ⟨w, s, c, q⟩ := x.box
  rw [e, q] at h
  cases h
theorem Gr.free {b p : Addr} {H H1 : Hp} (x : Gr b H H1) (h : H1 p = none) : H p = none := by
  cases q : H p with
  | none => rfl
  | some o =>
    rw [x.keep p o (x.ne_new h) q] at h
    cases h
theorem Gr.new {b p : Addr} {H H1 : Hp} (x : Gr b H H1) (h : H1 p = none) (o : HO) : Gr b H (upd H1 p o) := by
  have np := x.ne_new h
  refine ⟨fun a u n e => ?_, ?_⟩
  · rw [upd_ne (ne_of_none (x.keep a u n e) h)]
    exact x.keep a u n e
  · obtain ⟨w, s, c, q⟩ := x.box
    exact ⟨w, s, c, by rw [upd_ne np.symm]; exact q⟩
/-- what H does not know may be changed -/
theorem Gr.mut {b p : Addr} {H H1 : Hp} (x : Gr b H H1) (h : H p = none) (np : p ≠ b) (o : HO) : Gr b H (upd H1 p o) := by
  refine ⟨fun a u n e => ?_, ?_⟩
  · rw [upd_ne (ne_of_none e h)]
    exact x.keep a u n e
  · obtain ⟨w, s, c, q⟩ := x.box
    exact ⟨w, s, c, by rw [upd_ne np.symm]; exact q⟩
theorem At.gr {b a : Addr} {H H' : Hp} {o : HO} (h : At b H a o) (g : Gr b H H') : At b H' a o := ⟨h.ne, g.keep a o h.ne h.at_⟩
theorem At.l {K : PySem.W.Frag} {b a : Addr} {H : Hp} {xs : List V} (h : At b H a (.lst xs)) : SqL K H a xs := SqL.of h.at_
theorem At.t {K : PySem.W.Frag} {b a : Addr} {H : Hp} {xs : List V} (h : At b H a (.tup xs)) : SqT K H a xs := SqT.of h.at_
theorem Gr.at_new {b p : Addr} {H H1 : Hp} (x : Gr b H H1) (h : H1 p = none) (o : HO) : At b (upd H1 p o) p o := ⟨x.ne_new h, upd_same⟩
theorem At.new {b a p : Addr} {H : Hp} {o u : HO} (h : At b H a o) (hp : H p = none) : At b (upd H p u) a o := ⟨h.ne, by rw [upd_ne (ne_of_none h.at_ hp)]; exact h.at_⟩
theorem At.nep {b a p : Addr} {H : Hp} {o : HO} (h : At b H a o) (hp : H p = none) : a ≠ p := ne_of_none h.at_ hp
theorem Gr.of_new {b p : Addr} {H : Hp} {w s c : Int} (hb : H b = some (bx w s c)) (h : H p = none) (o : HO) : Gr b H (upd H p o) := (Gr.refl hb).new h o
theorem At.mk_new {b p : Addr} {H H1 : Hp} (x : Gr b H H1) (h : H1 p = none) (o : HO) : At b (upd H1 p o) p o := ⟨x.ne_new h, upd_same⟩
theorem Same.gr {b : Addr} {H H' : Hp} {w s c : Int} (e : Same H H') (h : H b = some (bx w s c)) : Gr b H H' := ⟨fun a o _ q => e a o q, w, s, c, e _ _ h⟩
theorem same_upd {H : Hp} {p : Addr} (h : H p = none) (o : HO) : Same H (upd H p o) := fun b u q => by rw [upd_ne (ne_of_none q h)]; exact q

/-! ### a list against an empty list -/
section
variable {X : Cx}
def rEqE (K : PySem.W.Frag) (neg : Bool) : R2 := fun x y H Q => ∃ (a q : Addr) (xs : List V), x = .ref a ∧ y = .ref q ∧ SqL K H a xs ∧ SqL K H q [] ∧ Q (.bl (if neg then !xs.isEmpty else xs.isEmpty)) H
theorem op_eqE (hu : X.A.units < cLine) : OpR X (compareOp .Eq) (rEqE X.K false) := by
  intro pins s σ H x y u v Q I rx ry h
  obtain ⟨a, q, xs, rfl, rfl, h1, h2, k⟩ := h
  cases rx
  cases ry
  obtain ⟨is, r, p, _⟩ := I.list h1
  obtain ⟨js, r', p', _⟩ := I.list h2
  cases r'
  cases xs with
  | nil =>
    cases r
    exact SeqAt.RcAt.lists (e := fun _ => true) p.isList p'.isList rfl hu (fun j h1 _ => absurd h1 (by simp)) X.prog X.w X.xe _ ⟨.bl true, H, I, rfl, k⟩
  | cons x xs =>
    cases r with
    | cons r1 r2 => exact SeqAt.RcAt.lists_lengths p.isList p'.isList (by simp) hu X.prog X.w X.xe _ ⟨.bl false, H, I, rfl, k⟩
theorem op_neE (hu : X.A.units < cLine) : OpR X (compareOp .NotEq) (rEqE X.K true) := by
  intro pins s σ H x y u v Q I rx ry h
  obtain ⟨a, q, xs, rfl, rfl, h1, h2, k⟩ := h
  cases rx
  cases ry
  obtain ⟨is, r, p, _⟩ := I.list h1
  obtain ⟨js, r', p', _⟩ := I.list h2
  cases r'
  cases xs with
  | nil =>
    cases r
    exact SeqAt.RcNeAt.lists (e := fun _ => true) p.isList p'.isList rfl hu (fun j h1 _ => absurd h1 (by simp)) X.prog X.w X.xe _ ⟨.bl false, H, I, rfl, k⟩
  | cons x xs =>
    cases r with
    | cons r1 r2 => exact SeqAt.RcNeAt.lists_lengths p.isList p'.isList (by simp) hu X.prog X.w X.xe _ ⟨.bl true, H, I, rfl, k⟩
/-- a text so many times -/
def timesL (x : List Nat) : Nat → List Nat
  | 0 => []
  | n + 1 => x ++ timesL x n
end
end My

/-! ## Further rules of my own: a text so many times -/
namespace My
open PySem L2
theorem timesL_one (x : List Nat) : timesL x 1 = x := by simp [timesL]
theorem fold_times (x : Array Nat) : ∀ (n : Nat) (acc : Array Nat), ((List.replicate n x).foldl (· ++ ·) acc).toList = acc.toList ++ timesL x.toList n
  | 0, acc => by simp [timesL]
  | n + 1, acc => by
    rw [List.replicate_succ, List.foldl_cons, fold_times x n, Array.toList_append, List.append_assoc]
    rfl
theorem timesL_len (x : List Nat) : ∀ n : Nat, (timesL x n).length = n * x.length
  | 0 => by simp [timesL]
  | n + 1 => by
    show (x ++ timesL x n).length = (n + 1) * x.length
    rw [List.length_append, timesL_len x n, Nat.add_mul, Nat.one_mul, Nat.add_comm]
theorem timesL_nil : ∀ n : Nat, timesL [] n = []
  | 0 => rfl
  | n + 1 => by
    show [] ++ timesL [] n = []
    rw [timesL_nil n]
    rfl
section
variable {X : Cx}
theorem op_mul_str : OpR X (binaryOp .Mult) (fun x y H Q => ∃ (z : Str) (n : Int), x = .str z ∧ y = .int n ∧ 0 ≤ n ∧ n ≤ 1000 ∧ z.length ≤ 1000 ∧ Q (.str ⟨(timesL z.cps.toList n.toNat).toArray⟩) H) := by
  intro pins s σ H x y v u Q I rx ry h
  obtain ⟨z, n, rfl, rfl, h0, h1, hz, k⟩ := h
  obtain ⟨t, rfl⟩ := rx
  obtain ⟨t', rfl⟩ := ry
  have hs : z.cps.size ≤ 1000 := hz
  refine PySem.P.mul_str (by rw [decide_eq_false (by omega), decide_eq_false (by omega)]; rfl) (fun h2 _ => ?_) (fun h2 _ => ?_) ?_
  · have h3 : (1000 : Int) ≤ (2 ^ 63 - 1) / n := by
      rw [Int.le_ediv_iff_mul_le (by omega)]
      have : (1000 : Int) * n ≤ 1000000 := by omega
      omega
    omega
  · have h3 : z.length * n.toNat ≤ 1000 * 1000 := Nat.mul_le_mul hz (by omega)
    have h4 : z.length * n.toNat ≤ sizeLine := by rw [sizeLine_eq]; omega
    show decide (z.length * n.toNat > sizeLine) = false
    exact decide_eq_false (by omega)
  · by_cases n0 : n < 1
    · have e : n = 0 := by omega
      subst e
      exact ⟨Nat.zero_le _, .str ⟨#[]⟩, H, I.tok _, ⟨_, rfl⟩, k⟩
    · rw [if_neg n0]
      by_cases e : (n == 1 || z.length == 0) = true
      · rw [if_pos e]
        have q : timesL z.cps.toList n.toNat = z.cps.toList := by
          rcases Bool.or_eq_true_iff.mp e with e | e
          · have e' : n = 1 := by simpa using e
            subst e'
            exact timesL_one _
          · have e' : z.cps.toList = [] := by
              have : z.cps.size = 0 := by simpa [Str.length] using e
              exact List.eq_nil_of_length_eq_zero (by simpa using this)
            rw [e', timesL_nil]
        rw [q] at k
        exact ⟨.str z, H, I, ⟨t, rfl⟩, by simpa using k⟩
      · rw [if_neg e]
        have q : (⟨(List.replicate n.toNat z.cps).foldl (· ++ ·) #[]⟩ : Str) = ⟨(timesL z.cps.toList n.toNat).toArray⟩ := by
          have f := fold_times z.cps n.toNat #[]
          have g : (List.replicate n.toNat z.cps).foldl (· ++ ·) #[] = (timesL z.cps.toList n.toNat).toArray := by
            apply Array.toList_inj.mp
            rw [f]
            simp
          rw [g]
        rw [← q] at k
        refine ⟨?_, .str _, H, I.tok _, ⟨_, rfl⟩, k⟩
        show ((List.replicate n.toNat z.cps).foldl (· ++ ·) #[]).size ≤ sizeLine
        rw [← Array.length_toList, fold_times, List.length_append, timesL_len]
        have h3 : n.toNat * z.cps.toList.length ≤ 1000 * 1000 := Nat.mul_le_mul (by omega) (by simpa using hs)
        rw [sizeLine_eq]
        simpa using (by omega : n.toNat * z.cps.toList.length ≤ 16777216)
end
end My

/-! ## The rules that read the written part, with it named (within a comprehension's block it must not hang on the block) -/
namespace My
open PySem L2
section
variable {X : Cx} {e a b o : Expr} {es : List Expr} {te ta tb to : TE} {t : TA} {f name : Str} {pos cpos p apos : Pos} {id T : String}
theorem pe_fldK (K : PySem.W.Frag) (he : PE X e ta) (hK : X.K = K := by rfl) (hb : attributeBase e f X.env (eval e X.env) = eval e X.env := by rfl) : PE X (.Attribute e f pos) (tFld K ta f) := hK ▸ pe_fld he hb
theorem ix_listK (K : PySem.W.Frag) (hK : X.K = K := by rfl) : IxR X (rIxL K) := hK ▸ ix_list
theorem ix_tupK (K : PySem.W.Frag) (hK : X.K = K := by rfl) : IxR X (rIxT K) := hK ▸ ix_tup
theorem sl_listK (K : PySem.W.Frag) (hK : X.K = K := by rfl) : SlR X (rSlL K) := hK ▸ sl_list
theorem sl_tupK (K : PySem.W.Frag) (hK : X.K = K := by rfl) : SlR X (rSlT K) := hK ▸ sl_tup
def rLenS (K : PySem.W.Frag) : List V → Hp → VK → Prop := fun xs H Q => ∃ p ys, xs = [.ref p] ∧ (SqL K H p ys ∨ SqT K H p ys) ∧ Q (.int ys.length) H
theorem call_lenK (K : PySem.W.Frag) (hK : X.K = K := by rfl) : CallR X (.builtin "len") (rLenS K) := hK ▸ call_len_seq
def rListO (K : PySem.W.Frag) : List V → Hp → VK → Prop := fun xs H Q => ∃ p ys, xs = [.ref p] ∧ (SqL K H p ys ∨ SqT K H p ys) ∧ ∀ l, H l = none → Q (.ref l) (upd H l (.lst ys))
theorem call_listK (K : PySem.W.Frag) (hK : X.K = K := by rfl) : CallR X (.type "list") (rListO K) := hK ▸ call_list_of
def rTupO (K : PySem.W.Frag) : List V → Hp → VK → Prop := fun xs H Q => ∃ p ys, xs = [.ref p] ∧ ((SqL K H p ys ∧ ∀ l, H l = none → Q (.ref l) (upd H l (.tup ys))) ∨ (SqT K H p ys ∧ Q (.ref p) H))
theorem call_tupleK (K : PySem.W.Frag) (hK : X.K = K := by rfl) : CallR X (.type "tuple") (rTupO K) := hK ▸ call_tuple_of
theorem op_inK (K : PySem.W.Frag) (hK : X.K = K := by rfl) : OpR X (compareOp .In) (rIn K false) := hK ▸ op_in_seq
theorem op_notInK (K : PySem.W.Frag) (hK : X.K = K := by rfl) : OpR X (compareOp .NotIn) (rIn K true) := hK ▸ op_notIn_seq
theorem op_eqDK (K : PySem.W.Frag) (hu : X.A.units + 64 < cLine) (hK : X.K = K := by rfl) : OpR X (compareOp .Eq) (rEqD K) := hK ▸ op_eqD hu
theorem op_neDK (K : PySem.W.Frag) (hu : X.A.units + 64 < cLine) (hK : X.K = K := by rfl) : OpR X (compareOp .NotEq) (rNeD K) := hK ▸ op_neD hu
theorem op_eqEK (K : PySem.W.Frag) (hu : X.A.units < cLine) (hK : X.K = K := by rfl) : OpR X (compareOp .Eq) (rEqE K false) := hK ▸ op_eqE hu
theorem op_neEK (K : PySem.W.Frag) (hu : X.A.units < cLine) (hK : X.K = K := by rfl) : OpR X (compareOp .NotEq) (rEqE K true) := hK ▸ op_neE hu
def rJoin (K : PySem.W.Frag) : V → List V → Hp → VK → Prop := fun x xs H Q => ∃ a p, ∃ ys : List Str, x = .str a ∧ xs = [.ref p] ∧ (SqL K H p (ys.map V.str) ∨ SqT K H p (ys.map V.str)) ∧
  (ys.map (·.length)).sum + ys.length * a.length ≤ 16777216 ∧ Q (.str (Txt.join a ys)) H
theorem mt_joinK (K : PySem.W.Frag) (hK : X.K = K := by rfl) : MtR X "str.join" (rJoin K) := hK ▸ mt_join
theorem pi_listK (K : PySem.W.Frag) {tg : Expr} (hl : PE X e te) (hK : X.K = K := by rfl) : PI X tg e (iList K te) := hK ▸ pi_list hl
theorem pi_tupK (K : PySem.W.Frag) {tg : Expr} (hl : PE X e te) (hK : X.K = K := by rfl) : PI X tg e (iTup K te) := hK ▸ pi_tup hl
theorem call_isiV (K : PySem.W.Frag) (hK : X.K = K := by rfl) : CallR X (.builtin "isinstance") (rIsi K) := hK ▸ call_isi
theorem call_isiTV (K : PySem.W.Frag) (hK : X.K = K := by rfl) : CallR X (.builtin "isinstance") (rIsiT K) := hK ▸ call_isiT
theorem cr_allK (K : PySem.W.Frag) (hc : X.calm = true) (hK : X.K = K := by rfl) : CallR X (.builtin "all") (rAll K) := hK ▸ cr_all hc
end
end My

/-! ## Data: values that are nested lists and tuples -/
namespace My
open PySem L2
mutual
theorem Dp.same {K : PySem.W.Frag} {H H' : Hp} (e : Same H H') : ∀ (d : PyData) (v : V), Dp K H v d → Dp K H' v d
  | .none, _, h => by cases h; exact .non
  | .bool b, _, h => by cases h; exact .bl b
  | .int i, _, h => by cases h; exact .int i
  | .str x, _, h => by cases h; exact .str x
  | .list ds, _, h => by
    cases h with
    | lst hs ha => exact .lst (e.seq hs) (DpAll.same e ds _ ha)
  | .tuple ds, _, h => by
    cases h with
    | tup hs ha =>
      refine .tup ?_ (DpAll.same e ds _ ha)
      rcases hs with (hs | ⟨o, hs⟩) | hs
      · exact .inl (.inl (e _ _ hs))
      · exact .inl (.inr ⟨o, e _ _ hs⟩)
      · exact .inr hs
  | .dict _, _, h => by cases h
theorem DpAll.same {K : PySem.W.Frag} {H H' : Hp} (e : Same H H') : ∀ (ds : List PyData) (vs : List V), DpAll K H vs ds → DpAll K H' vs ds
  | [], _, h => by cases h; exact .nil
  | d :: ds, _, h => by
    cases h with
    | cons h1 h2 => exact .cons (Dp.same e d _ h1) (DpAll.same e ds _ h2)
end
theorem seqL_same {K : PySem.W.Frag} {H H' : Hp} (e : Same H H') {a : Addr} {xs : List V} (h : SqL K H a xs) : SqL K H' a xs := e.seq h
theorem seqT_same {K : PySem.W.Frag} {H H' : Hp} (e : Same H H') {a : Addr} {xs : List V} (hs : SqT K H a xs) : SqT K H' a xs := by
  rcases hs with (hs | ⟨o, hs⟩) | hs
  · exact .inl (.inl (e _ _ hs))
  · exact .inl (.inr ⟨o, e _ _ hs⟩)
  · exact .inr hs
theorem tyL {K : PySem.W.Frag} {H : Hp} {a : Addr} {xs : List V} (h : SqL K H a xs) : TyX K H (.ref a) (.type "list") := by
  rcases h with (h | ⟨o, h⟩) | ⟨o, its, n, h, hc, _⟩
  · exact .base (.lst h)
  · exact .base (.frz h)
  · exact .kList h hc
theorem tyT {K : PySem.W.Frag} {H : Hp} {a : Addr} {xs : List V} (h : SqT K H a xs) : TyX K H (.ref a) (.type "tuple") := by
  rcases h with (h | ⟨o, h⟩) | ⟨o, its, n, h, hc, _⟩
  · exact .base (.tup h)
  · exact .fTuple h
  · exact .kTuple h hc
/-- the type of a datum -/
def tyD : PyData → String
  | .none => "NoneType"
  | .bool _ => "bool"
  | .int _ => "int"
  | .str _ => "str"
  | .list _ => "list"
  | .tuple _ => "tuple"
  | .dict _ => "dict"
theorem Dp.ty {K : PySem.W.Frag} {H : Hp} {v : V} {d : PyData} (h : Dp K H v d) : TyX K H v (.type (tyD d)) := by
  cases h with
  | non => exact .base .non
  | bl b => exact .base (.bl b)
  | int i => exact .base (.int i)
  | str x => exact .base (.str x)
  | lst hs _ => exact tyL hs
  | tup hs _ => exact tyT hs
/-- a datum of bounded depth whose text, if it is one, is short -/
structure Dv (K : PySem.W.Frag) (H : Hp) (v : V) (d : PyData) : Prop where
  dp : Dp K H v d
  sh : SeqAt.shaped d = true
  tx : ∀ x, d = .str x → x.length ≤ 2000
theorem Dv.same {K : PySem.W.Frag} {H H' : Hp} {v : V} {d : PyData} (h : Dv K H v d) (e : Same H H') : Dv K H' v d := ⟨Dp.same e d v h.dp, h.sh, h.tx⟩
/-- a short text of code points -/
def okS (x : Str) : Bool := decide (x.length ≤ 2000) && PyData.strOk x
theorem shaped_str {x : Str} (h : PyData.strOk x = true) : SeqAt.shaped (.str x) = true := by
  unfold SeqAt.shaped
  simp [PyData.canLay0, PyData.depth, h]
theorem Dv.str {K : PySem.W.Frag} {H : Hp} {x : Str} (h : okS x = true) : Dv K H (.str x) (.str x) := by
  have h' := Bool.and_eq_true_iff.mp h
  exact ⟨.str x, shaped_str h'.2, fun y e => by cases e; exact of_decide_eq_true h'.1⟩
theorem Dp.all_strs {K : PySem.W.Frag} {H : Hp} : ∀ l : List Str, DpAll K H (l.map V.str) (l.map PyData.str)
  | [] => .nil
  | x :: l => .cons (.str x) (Dp.all_strs l)
/-- a datum as a text among some -/
def txD (l : List Str) : PyData → Bool
  | .str x => l.contains x
  | _ => false
theorem any_strs (l : List Str) (d : PyData) : ((l.map PyData.str).any fun z => PyData.eqv z d) = txD l d := by
  induction l with
  | nil => cases d <;> rfl
  | cons y l ih =>
    rw [List.map_cons, List.any_cons, ih]
    cases d with
    | str x =>
      show (PyData.eqv (.str y) (.str x) || l.contains x) = (y :: l).contains x
      rw [List.contains_cons, show PyData.eqv (.str y) (.str x) = (y == x) from by simp [PyData.eqv], BEq.comm]
    | _ =>
      show (PyData.eqv (.str y) _ || false) = false
      simp [PyData.eqv]
theorem canLay_strs : ∀ l : List Str, (l.all PyData.strOk) = true → PyData.canLayAll0 (l.map PyData.str) = true
  | [], _ => rfl
  | y :: l, h => by
    rw [List.all_cons, Bool.and_eq_true] at h
    have ih := canLay_strs l h.2
    simp [PyData.canLayAll0, PyData.canLay0, h.1, ih]
theorem depth_strs : ∀ l : List Str, PyData.depthAll (l.map PyData.str) = 0
  | [] => by simp [PyData.depthAll]
  | y :: l => by
    have ih := depth_strs l
    simp [PyData.depthAll, PyData.depth, ih]
theorem shaped_strs {l : List Str} (h : (l.all PyData.strOk) = true) : SeqAt.shaped (.tuple (l.map PyData.str)) = true := by
  unfold SeqAt.shaped
  simp [PyData.canLay0, PyData.depth, canLay_strs l h, depth_strs l]
theorem shapedL_strs {l : List Str} (h : (l.all PyData.strOk) = true) : SeqAt.shaped (.list (l.map PyData.str)) = true := by
  unfold SeqAt.shaped
  simp [PyData.canLay0, PyData.depth, canLay_strs l h, depth_strs l]
section
variable {X : Cx}
def rInT (K : PySem.W.Frag) (neg : Bool) : R2 := fun x y H Q => ∃ d ds, Dp K H x d ∧ Dp K H y (.tuple ds) ∧ SeqAt.shaped d = true ∧ SeqAt.shaped (.tuple ds) = true ∧ Q (.bl (if neg then !ds.any fun z => PyData.eqv z d else ds.any fun z => PyData.eqv z d)) H
theorem op_inT (K : PySem.W.Frag) (hu : X.A.units + 65 < cLine) (hK : X.K = K := by rfl) : OpR X (compareOp .In) (rInT K false) := by
  subst hK
  intro pins s σ H x y v u Q I rx ry h
  obtain ⟨d, ds, hd, he, sd, se, q⟩ := h
  obtain ⟨as, r1⟩ := Dp.reads I d x v hd rx
  obtain ⟨bs, r2⟩ := Dp.reads I (.tuple ds) y u he ry
  exact SeqAt.in_tuple_reads r2 r1 (by simpa [PyData.canLay0] using SeqAt.canLay_of_shaped se) (SeqAt.canLay_of_shaped sd) (by have := SeqAt.depth_of_shaped sd; have := Nat.min_le_right (PyData.depthAll ds) d.depth; omega) ⟨.bl _, H, I, rfl, q⟩
theorem op_notInT (K : PySem.W.Frag) (hu : X.A.units + 65 < cLine) (hK : X.K = K := by rfl) : OpR X (compareOp .NotIn) (rInT K true) := by
  subst hK
  intro pins s σ H x y v u Q I rx ry h
  obtain ⟨d, ds, hd, he, sd, se, q⟩ := h
  obtain ⟨as, r1⟩ := Dp.reads I d x v hd rx
  obtain ⟨bs, r2⟩ := Dp.reads I (.tuple ds) y u he ry
  exact SeqAt.notIn_tuple_reads r2 r1 (by simpa [PyData.canLay0] using SeqAt.canLay_of_shaped se) (SeqAt.canLay_of_shaped sd) (by have := SeqAt.depth_of_shaped sd; have := Nat.min_le_right (PyData.depthAll ds) d.depth; omega) ⟨.bl _, H, I, rfl, q⟩
end
theorem room65 {k : Nat} {A : Around} (r : Room k A) : A.units + 65 < cLine := by have := r.un; omega
end My

/-! ## The law's draws: the box, a draw, a pick -/
namespace My
open PySem L2
def top (i : Nat) : Stmt := PySem.Challenge.pw_wholetraces_k13_books_refused.main.body.getD i (.Pass ⟨0, 0, 0, 0⟩)
abbrev s_box : Stmt := top 40
abbrev N_box : List Str := ["_law_script", "_law_k", "_law_cell", "_law_seed", "_law_wide"]
abbrev P_box : List Str := ["_law_script", "_law_k"]
theorem sc_box : FnScope N_box P_box (defScope s_box) := ⟨rfl, rfl, rfl, by decide +kernel, rfl, by decide +kernel, by decide +kernel⟩
abbrev s_take : Stmt := top 41
abbrev N_take : List Str := ["_law_box_here", "_law_many", "_law_digit", "_law_near"]
abbrev P_take : List Str := ["_law_box_here", "_law_many"]
theorem sc_take : FnScope N_take P_take (defScope s_take) := ⟨rfl, rfl, rfl, by decide +kernel, rfl, by decide +kernel, by decide +kernel⟩
abbrev s_pick : Stmt := top 42
abbrev N_pick : List Str := ["_law_box_here", "_law_some_here"]
abbrev P_pick : List Str := ["_law_box_here", "_law_some_here"]
theorem sc_pick : FnScope N_pick P_pick (defScope s_pick) := ⟨rfl, rfl, rfl, by decide +kernel, rfl, by decide +kernel, by decide +kernel⟩
structure TxDraw (K : PySem.W.Frag) (mg : Str → Option Value) where
  z_len : mg "len" = none
  z_int : mg "int" = none
  z_abs : mg "abs" = none
  f_take : Addr
  d_take : FuncData
  F_take : Fun K "_law_take" "_law_take" s_take f_take d_take
  m_take : mg "_law_take" = some (.ref f_take)
  b_take : Binds K d_take P_take []
  f_box : Addr
  d_box : FuncData
  F_box : Fun K "_law_box" "_law_box" s_box f_box d_box
  m_box : mg "_law_box" = some (.ref f_box)
  b_box : Binds K d_box P_box []
  f_pick : Addr
  d_pick : FuncData
  F_pick : Fun K "_law_pick" "_law_pick" s_pick f_pick d_pick
  m_pick : mg "_law_pick" = some (.ref f_pick)
  b_pick : Binds K d_pick P_pick []
def spBox (K : PySem.W.Frag) : Sp := fun vs H Q _ => ∃ (a : Addr) (ns : List Int) (k : Int), vs = [.ref a, .int k] ∧ SqL K H a (ns.map V.int) ∧ ns.length ≤ 63 ∧ 0 ≤ k ∧
  ∀ (b : Addr) (w s : Int), H b = none → Q (.ref b) (upd H b (bx w s 0))
def spTake : Sp := fun vs H Q _ => ∃ (b : Addr) (w s c m : Int), vs = [.ref b, .int m] ∧ H b = some (bx w s c) ∧ 0 < m ∧ m < 1073741824 ∧
  ∀ (d w' s' c' : Int), 0 ≤ d → d < m → Q (.int d) (upd H b (bx w' s' c'))
/-- an item of a list that stands at a, another object than the box -/
def spPick (K : PySem.W.Frag) : Sp := fun vs H Q _ => ∃ (b a : Addr) (w s c : Int) (xs : List V), vs = [.ref b, .ref a] ∧ H b = some (bx w s c) ∧ SqL K H a xs ∧ (∀ u, SqL K (upd H b u) a xs) ∧ xs ≠ [] ∧ xs.length ≤ 1000 ∧
  ∀ (x : V) (w' s' c' : Int), x ∈ xs → Q x (upd H b (bx w' s' c'))
section
variable {P : Program} {w : World} {K : PySem.W.Frag} {mg : Str → Option Value} {base : Heap}
theorem ok_take (T : TxDraw K mg) : FnOk P w K mg base CX0 1 T.f_take T.d_take P_take spTake := by
  refine T.F_take.ok sc_take (fun vs H Q E h => ?_) (fun cdv A outer s H vs Q E hr h => ?_)
  · obtain ⟨b, w, s, c, m, rfl, _⟩ := h
    rfl
  obtain ⟨b, w, s, c, m, rfl, hb, m0, m1, k⟩ := h
  refine ⟨_, (pss_cons (ps_if (pt_cmpR op_gt (pe_ix (ix_listK K) (pv 0) pe_int (fun _ _ => rfl)) pe_int (nomark _)) (pss_cons (ps_set (i := 2) sc_take.nd rfl (Or.inl rfl) (pe_op op_mod (pe_callTy call_int1 (by rfl) T.z_int (by decide +kernel) (pa_cons (pe_ix (ix_listK K) (pv 0) pe_int (fun _ _ => rfl)) pa_nil)) (pv 1)))
      (pss_cons (ps_asg (pe_op op_fdiv (pe_ix (ix_listK K) (pv 0) pe_int (fun _ _ => rfl)) (pv 1)) (pg_sub (pv 0) pe_int set_list))
      (pss_one (ps_ret (pv 2))))) pss_nil)
      (pss_cons (ps_asg (pe_op op_add (pe_ix (ix_listK K) (pv 0) pe_int (fun _ _ => rfl)) pe_int) (pg_sub (pv 0) pe_int set_list))
      (pss_cons (ps_set (i := 3) sc_take.nd rfl (Or.inl rfl) (pe_op op_mod (pe_callTy call_int1 (by rfl) T.z_int (by decide +kernel) (pa_cons (pe_op op_mul (pe_op op_add (pe_ix (ix_listK K) (pv 0) pe_int (fun _ _ => rfl)) (pe_op op_mul pe_int (pe_ix (ix_listK K) (pv 0) pe_int (fun _ _ => rfl)))) pe_int) pa_nil)) pe_int))
      (pss_cons (ps_asg (pe_op op_add (pe_op op_mod (pe_callTy call_int1 (by rfl) T.z_int (by decide +kernel) (pa_cons (pe_op op_add (pe_op op_mul (pv 3) pe_int) pe_int) pa_nil)) pe_int) pe_int) (pg_sub (pv 0) pe_int set_list))
      (pss_one (ps_ret (pe_op op_mod (pe_callTy call_int1 (by rfl) T.z_int (by decide +kernel) (pa_cons (pe_op op_fdiv (pe_op op_add (pe_op op_mul (pv 3) pe_int) (pe_ix (ix_listK K) (pv 0) pe_int (fun _ _ => rfl))) pe_int) pa_nil)) (pv 1)))))))), ?_⟩
  refine ⟨_, rfl, _, _, _, _, rfl, rfl, SqL.of hb, rfl, _, _, rfl, rfl, _, rfl, ?_⟩
  refine ite2 (fun h => ?_) (fun h => ?_)
  · refine ⟨_, rfl, _, _, _, _, rfl, rfl, SqL.of hb, rfl, .inl ⟨_, rfl, _, rfl, _, _, rfl, rfl, m0, ?_⟩⟩
    refine ⟨_, rfl, _, _, _, _, rfl, rfl, SqL.of hb, rfl, _, rfl, _, _, rfl, rfl, ⟨m0, m1⟩, _, rfl, b, _, _, 0, rfl, rfl, hb, rfl, _, rfl, ?_⟩
    exact k _ _ _ _ (Int.emod_nonneg _ (by omega)) (Int.emod_lt_of_pos _ m0)
  · refine ⟨_, rfl, _, _, _, _, rfl, rfl, SqL.of hb, rfl, _, _, rfl, rfl, _, rfl, b, _, _, 2, rfl, rfl, hb, rfl, ?_⟩
    refine ⟨_, rfl, _, _, _, _, rfl, rfl, SqL.of upd_same, rfl, _, rfl, _, _, _, _, rfl, rfl, SqL.of upd_same, rfl, _, _, rfl, rfl, .inl ⟨by decide, by decide⟩, _, _, rfl, rfl, _, _, rfl, rfl, .inr ⟨by decide, by decide⟩, .inl ⟨_, rfl, _, _, rfl, rfl, (by show (0 : Int) < _; decide), ?_⟩⟩
    refine ⟨_, rfl, _, _, rfl, rfl, .inr ⟨by decide, by decide⟩, _, _, rfl, rfl, .inl ⟨_, rfl, _, _, rfl, rfl, (by show (0 : Int) < _; decide), _, _, rfl, rfl, _, rfl, b, _, _, 1, rfl, rfl, upd_same, rfl, ?_⟩⟩
    rw [upd_upd]
    refine ⟨_, rfl, _, _, rfl, rfl, .inr ⟨by decide, by decide⟩, _, rfl, _, _, _, _, rfl, rfl, SqL.of upd_same, rfl, _, _, rfl, rfl, _, _, rfl, rfl, ⟨by decide, by decide⟩, .inl ⟨_, rfl, _, rfl, _, _, rfl, rfl, m0, ?_⟩⟩
    exact k _ _ _ _ (Int.emod_nonneg _ (by omega)) (Int.emod_lt_of_pos _ m0)
theorem ok_box (T : TxDraw K mg) : FnOk P w K mg base CX0 1 T.f_box T.d_box P_box (spBox K) := by
  refine T.F_box.ok sc_box (fun vs H Q E h => ?_) (fun cdv A outer s H vs Q E hr h => ?_)
  · obtain ⟨a, ns, k, rfl, _⟩ := h
    rfl
  obtain ⟨a, ns, k, rfl, hS, h63, k0, q⟩ := h
  have hl : (ns.map V.int).length = ns.length := List.length_map _
  refine ⟨_, (pss_cons (ps_set (i := 2) sc_box.nd rfl (Or.inl rfl) (pe_op op_add (pe_op op_mul pe_int (pv 1)) pe_int))
      (Evl.pss_cut (ps_if (pt_cmpR op_lt (pv 1) (pe_callB (call_lenK K) (by rfl) T.z_len (by decide +kernel) (pa_cons (pv 0) pa_nil)) (nomark _)) (pss_one (ps_set (i := 2) sc_box.nd rfl (Or.inl rfl) (pe_callB call_abs (by rfl) T.z_abs (by decide +kernel) (pa_cons (pe_callTy call_int1 (by rfl) T.z_int (by decide +kernel) (pa_cons (pe_ix (ix_listK K) (pv 0) (pv 1) (fun _ _ => rfl)) pa_nil)) pa_nil)))) (pss_one (ps_if (pt_cmpR op_gt (pe_callB (call_lenK K) (by rfl) T.z_len (by decide +kernel) (pa_cons (pv 0) pa_nil)) pe_int (nomark _)) (pss_one (ps_set (i := 2) sc_box.nd rfl (Or.inl rfl) (pe_op op_add (pv 2) (pe_op op_mul (pe_op op_mod (pe_callTy call_int1 (by rfl) T.z_int (by decide +kernel) (pa_cons (pe_ix (ix_listK K) (pv 0) (pe_op op_mod (pe_callTy call_int1 (by rfl) T.z_int (by decide +kernel) (pa_cons (pv 1) pa_nil)) (pe_callB (call_lenK K) (by rfl) T.z_len (by decide +kernel) (pa_cons (pv 0) pa_nil))) (fun _ _ => rfl)) pa_nil)) pe_int) pe_int)))) pss_nil)))
      (pss_cons (ps_set (i := 3) sc_box.nd rfl (Or.inl rfl) (pe_op op_add (pe_op op_mod (pe_callTy call_int1 (by rfl) T.z_int (by decide +kernel) (pa_cons (pe_op op_add (pe_op op_add (pe_op op_mul (pe_op op_mod (pe_callTy call_int1 (by rfl) T.z_int (by decide +kernel) (pa_cons (pv 2) pa_nil)) pe_int) pe_int) (pe_op op_mul pe_int (pv 1))) pe_int) pa_nil)) pe_int) pe_int))
      (pss_cons (ps_set (i := 4) sc_box.nd rfl (Or.inl rfl) (pe_ifExp (pt_cmpR op_ge (pv 2) (pe_op op_pow pe_int pe_int) (nomark _)) (pv 2) pe_int))
      (pss_one (ps_ret (pe_lst (pa_cons (pv 4) (pa_cons (pv 3) (pa_cons pe_int pa_nil)))))))))), ?_⟩
  refine ⟨_, rfl, _, _, rfl, rfl, .inl ⟨by decide, by decide⟩, _, _, rfl, rfl, ?_⟩
  refine ⟨fun σ H' => H' = H ∧ ∃ cell : Int, σ = [some (.ref a), some (.int k), some (.int cell), none, none], ?_, ?_⟩
  · refine ⟨_, rfl, _, rfl, _, _, rfl, .inl hS, _, _, rfl, rfl, _, rfl, ?_⟩
    refine ite2 (fun h => ?_) (fun h => ?_)
    · have h' := of_decide_eq_true h
      rw [hl] at h'
      obtain ⟨z, hz⟩ := int_at k0 h'
      exact ⟨_, rfl, _, rfl, _, _, _, _, rfl, rfl, hS, hz, .inl ⟨_, rfl, _, rfl, rfl, _, rfl⟩⟩
    · refine ⟨_, rfl, _, _, rfl, .inl hS, _, _, rfl, rfl, _, rfl, ?_⟩
      refine ite2 (fun h2 => ?_) (fun h2 => ?_)
      · have h2' := of_decide_eq_true h2
        obtain ⟨z, hz⟩ := int_at (ns := ns) (k := k % (((ns.map V.int).length : Nat) : Int)) (Int.emod_nonneg _ (by omega)) (by rw [hl] at h2' ⊢; exact Int.emod_lt_of_pos _ h2')
        exact ⟨_, rfl, _, rfl, _, rfl, .inl ⟨_, rfl, _, rfl, _, _, rfl, .inl hS, _, _, rfl, rfl, h2', _, _, _, _, rfl, rfl, hS, hz, .inl ⟨_, rfl, _, _, rfl, rfl, (by show (0 : Int) < _; decide), _, _, rfl, rfl, .inr ⟨by decide, by decide⟩, _, _, rfl, rfl, rfl, _, rfl⟩⟩⟩
      · exact ⟨rfl, _, rfl⟩
  · rintro σ H' ⟨rfl, cell, rfl⟩
    refine ⟨_, rfl, .inl ⟨_, rfl, _, _, rfl, rfl, (by show (0 : Int) < _; decide), _, _, rfl, rfl, .inr ⟨by decide, by decide⟩, _, rfl, _, _, rfl, rfl, .inl ⟨by decide, by decide⟩, _, _, rfl, rfl, _, _, rfl, rfl, .inl ⟨_, rfl, _, _, rfl, rfl, (by show (0 : Int) < _; decide), _, _, rfl, rfl, ?_⟩⟩⟩
    refine ⟨_, rfl, _, _, rfl, rfl, ⟨by decide, by decide, by decide⟩, _, _, rfl, rfl, _, rfl, ?_⟩
    refine ite2 (fun h => ?_) (fun h => ?_)
    · exact ⟨_, rfl, _, rfl, _, rfl, by show 3 ≤ sizeLine; decide, fun b hb => q b _ _ hb⟩
    · exact ⟨_, rfl, _, rfl, by show 3 ≤ sizeLine; decide, fun b hb => q b _ _ hb⟩
theorem ok_pick (T : TxDraw K mg) : FnOk P w K mg base CX0 2 T.f_pick T.d_pick P_pick (spPick K) := by
  have G_take : FnOk P w K mg base CX0 1 T.f_take T.d_take P_take spTake := ok_take T
  refine T.F_pick.ok sc_pick (fun vs H Q E h => ?_) (fun cdv A outer s H vs Q E hr h => ?_)
  · obtain ⟨b, a, w, s, c, xs, rfl, _⟩ := h
    rfl
  obtain ⟨b, a, w, s, c, xs, rfl, hb, hS, hk, hne, hlen, q⟩ := h
  refine ⟨_, (pss_one (ps_ret (pe_ix (ix_listK K) (pv 1) (pe_call G_take (hr.mono (by decide)) (by rfl) T.m_take T.F_take.kp T.b_take .nil pass0 (pa_cons (pv 0) (pa_cons (pe_callB (call_lenK K) (by rfl) T.z_len (by decide +kernel) (pa_cons (pv 1) pa_nil)) pa_nil))) (fun _ _ => rfl)))), ?_⟩
  have hp : 0 < xs.length := List.length_pos_iff.mpr hne
  refine ⟨_, rfl, _, rfl, _, rfl, _, _, rfl, .inl hS, b, w, s, c, _, rfl, hb, by omega, by omega, fun d w' s' c' d0 d1 => ?_⟩
  obtain ⟨v, hv, he⟩ := at_some (xs := xs) d0 d1
  exact ⟨_, _, _, _, rfl, rfl, hk _, hv, q v w' s' c' (List.mem_of_getElem? he)⟩
/-- the same, the heap behind told by what stands -/
def spTakeG : Sp := fun vs H Q _ => ∃ (b : Addr) (m : Int), vs = [.ref b, .int m] ∧ Gr b H H ∧ 0 < m ∧ m < 1073741824 ∧
  ∀ (d : Int) (H' : Hp), 0 ≤ d → d < m → Gr b H H' → Q (.int d) H'
def spPickG : Sp := fun vs H Q _ => ∃ (b a : Addr) (xs : List V), vs = [.ref b, .ref a] ∧ Gr b H H ∧ At b H a (.lst xs) ∧ xs ≠ [] ∧ xs.length ≤ 1000 ∧
  ∀ (x : V) (H' : Hp), x ∈ xs → Gr b H H' → Q x H'
theorem ok_takeG (T : TxDraw K mg) : FnOk P w K mg base CX0 1 T.f_take T.d_take P_take spTakeG := (ok_take T).imp fun vs H Q E h => by
  obtain ⟨b, m, rfl, g, m0, m1, k⟩ := h
  obtain ⟨w, s, c, hb⟩ := g.box
  exact ⟨b, w, s, c, m, rfl, hb, m0, m1, fun d w' s' c' d0 d1 => k d _ d0 d1 (g.draw _ _ _)⟩
theorem ok_pickG (T : TxDraw K mg) : FnOk P w K mg base CX0 2 T.f_pick T.d_pick P_pick spPickG := (ok_pick T).imp fun vs H Q E h => by
  obtain ⟨b, a, xs, rfl, g, ha, hne, hl, k⟩ := h
  obtain ⟨w, s, c, hb⟩ := g.box
  exact ⟨b, a, w, s, c, xs, rfl, hb, ha.l, fun u => SqL.of (by rw [upd_ne ha.ne]; exact ha.at_), hne, hl, fun x w' s' c' hx => k x _ hx (g.draw _ _ _)⟩
end
end My

/-! ## Names: what a name is, lists mixed, names drawn -/
namespace My
open PySem L2
/-- the words that are no names -/
def BAR : List Str := ["none", "any", "same", "keep", "drop", "good", "bad", "old", "new", "both"]
def ABC : Str := "abcdefghijklmnopqrstuvwxyz"
/-- a name: one to four small letters, none of those words -/
def isNm (x : Str) : Bool := decide (1 ≤ x.length) && decide (x.length ≤ 4) && !(BAR.contains x) && x.cps.toList.all fun c => decide (c ∈ ABC.cps.toList)
theorem isNm_len {x : Str} (h : isNm x = true) : 1 ≤ x.length ∧ x.length ≤ 4 := by
  unfold isNm at h
  simp only [Bool.and_eq_true, decide_eq_true_eq] at h
  exact h.1.1
abbrev s_mixed : Stmt := top 43
abbrev N_mixed : List Str := ["_law_box_here", "_law_some_here", "_law_left", "_law_found"]
abbrev P_mixed : List Str := ["_law_box_here", "_law_some_here"]
theorem sc_mixed : FnScope N_mixed P_mixed (defScope s_mixed) := ⟨rfl, rfl, rfl, by decide +kernel, rfl, by decide +kernel, by decide +kernel⟩
abbrev s_names : Stmt := top 44
abbrev N_names : List Str := ["_law_box_here", "_law_many", "_law_words_here", "_law_letters", "_law_form", "_law_spot", "_law_k"]
abbrev P_names : List Str := ["_law_box_here", "_law_many"]
theorem sc_names : FnScope N_names P_names (defScope s_names) := ⟨rfl, rfl, rfl, by decide +kernel, rfl, by decide +kernel, by decide +kernel⟩
structure TxNames (K : PySem.W.Frag) (mg : Str → Option Value) extends TxDraw K mg where
  z_list : mg "list" = none
  z_range : mg "range" = none
  f_mixed : Addr
  d_mixed : FuncData
  F_mixed : Fun K "_law_mixed" "_law_mixed" s_mixed f_mixed d_mixed
  m_mixed : mg "_law_mixed" = some (.ref f_mixed)
  b_mixed : Binds K d_mixed P_mixed []
  f_names : Addr
  d_names : FuncData
  F_names : Fun K "_law_names" "_law_names" s_names f_names d_names
  m_names : mg "_law_names" = some (.ref f_names)
  b_names : Binds K d_names P_names []
def spMixed : Sp := fun vs H Q _ => ∃ (b a : Addr) (xs : List V), vs = [.ref b, .ref a] ∧ Gr b H H ∧ At b H a (.lst xs) ∧ xs.length ≤ 1000 ∧
  ∀ (p : Addr) (ys : List V) (H' : Hp), Gr b H H' → H p = none → At b H' p (.lst ys) → ys.Perm xs → Q (.ref p) H'
def spNames : Sp := fun vs H Q _ => ∃ (b : Addr) (n : Int), vs = [.ref b, .int n] ∧ Gr b H H ∧ 0 ≤ n ∧ n ≤ 12 ∧
  ∀ (p : Addr) (ys : List Str) (H' : Hp), Gr b H H' → H p = none → At b H' p (.lst (ys.map V.str)) → (ys.length : Int) = n → ys.Nodup → (∀ y ∈ ys, isNm y = true) → Q (.ref p) H'
/-- the same, and that none of them is the word of a stranger -/
def spNamesZ : Sp := fun vs H Q _ => ∃ (b : Addr) (n : Int), vs = [.ref b, .int n] ∧ Gr b H H ∧ 0 ≤ n ∧ n ≤ 12 ∧
  ∀ (p : Addr) (ys : List Str) (H' : Hp), Gr b H H' → H p = none → At b H' p (.lst (ys.map V.str)) → (ys.length : Int) = n → ys.Nodup → (∀ y ∈ ys, isNm y = true ∧ y ≠ "zx") → Q (.ref p) H'
theorem eraseIdx_perm {xs : List V} {k : Nat} {y : V} (h : xs[k]? = some y) : (y :: xs.eraseIdx k).Perm xs := by
  induction xs generalizing k with
  | nil => simp at h
  | cons x xs ih =>
    cases k with
    | zero =>
      simp at h
      subst h
      exact List.Perm.refl _
    | succ k =>
      simp at h
      exact (List.Perm.swap x y _).trans ((ih h).cons x)
theorem seq_ix {d : Int} {n : Nat} (h0 : 0 ≤ d) (h1 : d < (n : Int)) : seqIndex? d n = some d.toNat := by
  unfold seqIndex?
  rw [if_neg (by omega : ¬ d < 0)]
  have e : (decide (0 ≤ d) && decide (d < (n : Int))) = true := by rw [decide_eq_true h0, decide_eq_true h1]; rfl
  exact if_pos e
theorem perm_of_map {α β : Type} {f : α → β} {ys xs' : List β} (h : ys.Perm xs') : ∀ xs : List α, xs' = xs.map f → ∃ zs : List α, ys = zs.map f ∧ zs.Perm xs := by
  induction h with
  | nil =>
    intro xs e
    cases xs with
    | nil => exact ⟨[], rfl, .refl _⟩
    | cons a t => cases e
  | cons x h ih =>
    intro xs e
    cases xs with
    | nil => cases e
    | cons a t =>
      injection e with e1 e2
      obtain ⟨zs, e3, p⟩ := ih t e2
      exact ⟨a :: zs, by rw [List.map_cons, e1, e3], p.cons a⟩
  | swap x y l =>
    intro xs e
    cases xs with
    | nil => cases e
    | cons a t =>
      cases t with
      | nil => injection e with _ e2; cases e2
      | cons c t =>
        injection e with e1 e2
        injection e2 with e2 e3
        exact ⟨c :: a :: t, by rw [List.map_cons, List.map_cons, e1, e2, e3], .swap a c t⟩
  | trans h1 h2 ih1 ih2 =>
    intro xs e
    obtain ⟨zs, e1, p1⟩ := ih2 xs e
    obtain ⟨ws, e2, p2⟩ := ih1 zs e1
    exact ⟨ws, e2, p2.trans p1⟩
section
variable {P : Program} {w : World} {K : PySem.W.Frag} {mg : Str → Option Value} {base : Heap}
theorem ok_mixed (T : TxNames K mg) : FnOk P w K mg base CX0 2 T.f_mixed T.d_mixed P_mixed spMixed := by
  have G_take : FnOk P w K mg base CX0 1 T.f_take T.d_take P_take spTake := ok_take T.toTxDraw
  refine T.F_mixed.ok sc_mixed (fun vs H Q E h => ?_) (fun cdv A outer s H vs Q E hr h => ?_)
  · obtain ⟨b, a, xs, rfl, _⟩ := h
    rfl
  obtain ⟨b, a, xs, rfl, g0, ha, hlen, q⟩ := h
  refine ⟨_, (pss_cons (ps_par (i := 2) (j := 3) (by rfl) sc_mixed.nd rfl rfl (by decide) rfl rfl (pa_cons (pe_callTy (call_listK K) (by rfl) T.z_list (by decide +kernel) (pa_cons (pv 1) pa_nil)) (pa_cons (pe_lst pa_nil) pa_nil)) (by rfl))
      (pss_cons (ps_while PassesOwn.never (pt_cmpR (op_neEK K hr.units0) (pv 2) (pe_lst pa_nil) (nomark _)) (pss_one (ps_expr (pe_bm PySem.F.plainAttrs_list PySem.F.slot_list_append PySem.F.type_list_append mt_append (pv 3) (pa_cons (pe_bm PySem.F.plainAttrs_list PySem.F.slot_list_pop PySem.F.type_list_pop mt_popAt (pv 2) (pa_cons (pe_call G_take (hr.mono (by decide)) (by rfl) T.m_take T.F_take.kp T.b_take .nil pass0 (pa_cons (pv 0) (pa_cons (pe_callB (call_lenK K) (by rfl) T.z_len (by decide +kernel) (pa_cons (pv 2) pa_nil)) pa_nil))) pa_nil)) pa_nil)))))
      (pss_one (ps_ret (pv 3))))), ?_⟩
  refine ⟨_, rfl, a, _, rfl, .inl ha.l, fun l hl => ⟨Nat.zero_le _, fun p hp => ?_⟩⟩
  have g1 : Gr b H (upd H l (.lst xs)) := g0.new hl _
  have g2 : Gr b H (upd (upd H l (.lst xs)) p (.lst [])) := g1.new hp _
  have nlb := g0.ne_new hl
  have npb := g1.ne_new hp
  have hp0 := g1.free hp
  have npl : p ≠ l := fun e => by rw [e, upd_same] at hp; cases hp
  refine ⟨_, _, rfl, while_by (fun σ H' => ∃ ls fs : List V, σ = [some (.ref b), some (.ref a), some (.ref l), some (.ref p)] ∧ Gr b H H' ∧ H' l = some (.lst ls) ∧ H' p = some (.lst fs) ∧ (fs ++ ls).Perm xs)
    (fun σ H' => match H' l with | some (.lst ls) => ls.length | _ => 0) ⟨xs, [], rfl, g2, by rw [upd_ne npl.symm, upd_same], upd_same, List.Perm.refl _⟩ ?_ ?_⟩
  · rintro σ H1 ⟨ls, fs, rfl, g3, h1, h2, pm⟩
    refine ⟨_, rfl, Nat.zero_le _, fun e he => ⟨l, e, ls, rfl, rfl, SqL.of (by rw [upd_ne (ne_of_none h1 he)]; exact h1), SqL.of upd_same, _, rfl, ?_⟩⟩
    have ple : fs.length + ls.length = xs.length := by rw [← List.length_append]; exact pm.length_eq
    cases ls with
    | nil =>
      refine iteF ?_
      have g4 := g3.new he (.lst [])
      refine ⟨_, rfl, q p fs _ g4 hp0 ⟨npb, by rw [upd_ne (ne_of_none h2 he)]; exact h2⟩ (by rw [List.append_nil] at pm; exact pm)⟩
    | cons x ls =>
      refine iteT ?_
      obtain ⟨w3, s3, c3, hb3⟩ := g3.box
      have g4 := g3.new he (.lst [])
      have neb : e ≠ b := g3.ne_new he
      have h1e : upd H1 e (.lst []) l = some (.lst (x :: ls)) := by rw [upd_ne (ne_of_none h1 he)]; exact h1
      have h2e : upd H1 e (.lst []) p = some (.lst fs) := by rw [upd_ne (ne_of_none h2 he)]; exact h2
      have hbe : upd H1 e (.lst []) b = some (bx w3 s3 c3) := by rw [upd_ne neb.symm]; exact hb3
      refine ⟨_, rfl, .inl ⟨rfl, _, SqL.of h2e⟩, _, rfl, .inl ⟨rfl, _, SqL.of h1e⟩, _, rfl, _, rfl, _, _, rfl, .inl (SqL.of h1e), b, w3, s3, c3, _, rfl, hbe, by rw [List.length_cons]; omega, by rw [List.length_cons] at ple ⊢; omega, fun d w' s' c' d0 d1 => ?_⟩
      obtain ⟨v, _, hv⟩ := at_some (xs := x :: ls) d0 d1
      refine ⟨l, x :: ls, d, d.toNat, v, rfl, rfl, by rw [upd_ne nlb]; exact h1e, by omega, by rw [List.length_cons] at ple d1; omega, seq_ix d0 d1, hv, ?_⟩
      refine ⟨p, fs, v, rfl, rfl, by rw [upd_ne npl, upd_ne npb]; exact h2e, ?_, ?_⟩
      · rw [List.length_cons] at ple
        exact small1000 (by omega)
      · have er : ((x :: ls).eraseIdx d.toNat).length < (x :: ls).length := by
          rw [List.length_eraseIdx_of_lt (by rw [List.length_cons] at d1 ⊢; omega), List.length_cons]
          omega
        refine ⟨⟨(x :: ls).eraseIdx d.toNat, fs ++ [v], rfl, ((g4.draw _ _ _).mut (g0.free hl) nlb _).mut hp0 npb _, by rw [upd_ne npl.symm, upd_same], upd_same, ?_⟩, ?_⟩
        · rw [List.append_assoc]
          exact ((eraseIdx_perm hv).append_left fs).trans pm
        · rw [upd_ne npl.symm, upd_same, h1]
          exact er
  · rintro σ H1 Q1 Q2 imp ⟨v, hv, h0, h⟩
    exact ⟨v, hv, h0, fun e he => by
      obtain ⟨a', q', xs', e1, e2, e3, e4, k, e5, h5⟩ := h e he
      exact ⟨a', q', xs', e1, e2, e3, e4, k, e5, imp _ _ h5⟩⟩
/-- the words of the first kind of names -/
def WORDS : List Str := ["send", "back", "end", "root", "wait", "a", "ab", "abc", "zzzz", "row", "hear", "x"]
/-- the k-th of the first kind from a start, of the third kind, of the second -/
def wd (sp : Int) (k : Nat) : Str := WORDS.getD ((sp + 5 * (k : Int)) % 12).toNat Str.empty
def lt (sp : Int) (k : Nat) : Str := ⟨#[ABC.cps.toList.getD ((sp + 7 * (k : Int)) % 26).toNat 0]⟩ ++ ⟨(timesL [118] (sp % 4).toNat).toArray⟩
def tt (k : Nat) : Str := cutS "tttt" none (some ((k : Int) + 1))
theorem at_getD {l : List Str} {k : Int} (h0 : 0 ≤ k) (h1 : k < (l.length : Int)) : atI (l.map V.str) k = some (.str (l.getD k.toNat Str.empty)) := by
  have hk : k.toNat < l.length := by omega
  have h3 : atI (l.map V.str) ((k.toNat : Nat) : Int) = some (.str (l.getD k.toNat Str.empty)) := atI_nat (by rw [List.getElem?_map]; simp [hk, List.getD])
  rwa [show ((k.toNat : Nat) : Int) = k by omega] at h3
theorem at_getN {l : List Nat} {k : Int} (h0 : 0 ≤ k) (h1 : k < (l.length : Int)) : atI l k = some (l.getD k.toNat 0) := by
  have hk : k.toNat < l.length := by omega
  have h3 : atI l ((k.toNat : Nat) : Int) = some (l.getD k.toNat 0) := atI_nat (by simp [hk, List.getD])
  rwa [show ((k.toNat : Nat) : Int) = k by omega] at h3
theorem range_more {α : Type} (f : Nat → α) (i : Nat) : (List.range (i + 1)).map f = (List.range i).map f ++ [f i] := by rw [List.range_succ, List.map_append]; rfl
/-- names by their number: no two alike -/
theorem nodup_map {α : Type} {f : Nat → α} {n : Nat} (h : ∀ i j, i < n → j < n → f i = f j → i = j) : ((List.range n).map f).Nodup := by
  rw [List.Nodup, List.pairwise_map]
  exact List.Pairwise.imp_of_mem (fun {a b} ha hb hab e => hab (h a b (List.mem_range.mp ha) (List.mem_range.mp hb) e)) List.nodup_range
theorem WORDS_nd : ∀ i < 12, ∀ j < 12, WORDS.getD i Str.empty = WORDS.getD j Str.empty → i = j := by decide +kernel
theorem WORDS_nm : ∀ i < 12, isNm (WORDS.getD i Str.empty) = true := by decide +kernel
theorem wd_nd {sp : Int} {i j : Nat} (hi : i < 12) (hj : j < 12) (h : wd sp i = wd sp j) : i = j := by
  have e := WORDS_nd _ (by omega) _ (by omega) h
  omega
theorem wd_nm {sp : Int} {i : Nat} : isNm (wd sp i) = true := WORDS_nm _ (by omega)
theorem tt_nd : ∀ i < 4, ∀ j < 4, tt i = tt j → i = j := by decide +kernel
theorem tt_nm : ∀ i < 4, isNm (tt i) = true := by decide +kernel
theorem lt_nm0 : ∀ i < 26, ∀ k < 4, isNm (⟨#[ABC.cps.toList.getD i 0]⟩ ++ ⟨(timesL [118] k).toArray⟩) = true := by decide +kernel
theorem lt_nd0 : ∀ i < 26, ∀ j < 26, ∀ k < 4, (⟨#[ABC.cps.toList.getD i 0]⟩ ++ ⟨(timesL [118] k).toArray⟩ : Str) = ⟨#[ABC.cps.toList.getD j 0]⟩ ++ ⟨(timesL [118] k).toArray⟩ → i = j := by decide +kernel
theorem lt_nm {sp : Int} {i : Nat} : isNm (lt sp i) = true := lt_nm0 _ (by omega) _ (by omega)
theorem lt_nd {sp : Int} {i j : Nat} (hi : i < 12) (hj : j < 12) (h : lt sp i = lt sp j) : i = j := by
  have e := lt_nd0 _ (by omega) _ (by omega) _ (by omega) h
  omega
theorem WORDS_zx : ∀ i < 12, WORDS.getD i Str.empty ≠ "zx" := by decide +kernel
theorem wd_zx {sp : Int} {i : Nat} : wd sp i ≠ "zx" := WORDS_zx _ (by omega)
theorem tt_zx : ∀ i < 4, tt i ≠ "zx" := by decide +kernel
theorem lt_zx0 : ∀ i < 26, ∀ k < 4, (⟨#[ABC.cps.toList.getD i 0]⟩ ++ ⟨(timesL [118] k).toArray⟩ : Str) ≠ "zx" := by decide +kernel
theorem lt_zx {sp : Int} {i : Nat} : lt sp i ≠ "zx" := lt_zx0 _ (by omega) _ (by omega)
theorem ok_namesZ (T : TxNames K mg) : FnOk P w K mg base CX0 3 T.f_names T.d_names P_names spNamesZ := by
  have G_take : FnOk P w K mg base CX0 1 T.f_take T.d_take P_take spTakeG := ok_takeG T.toTxDraw
  have G_mixed : FnOk P w K mg base CX0 2 T.f_mixed T.d_mixed P_mixed spMixed := ok_mixed T
  refine T.F_names.ok sc_names (fun vs H Q E h => ?_) (fun cdv A outer s H vs Q E hr h => ?_)
  · obtain ⟨b, n, rfl, _⟩ := h
    rfl
  obtain ⟨b, n, rfl, g0, n0, n12, q⟩ := h
  refine ⟨_, (pss_cons (ps_set (i := 2) sc_names.nd rfl (Or.inr rfl) (pe_lst (pa_cons pe_str (pa_cons pe_str (pa_cons pe_str (pa_cons pe_str (pa_cons pe_str (pa_cons pe_str (pa_cons pe_str (pa_cons pe_str (pa_cons pe_str (pa_cons pe_str (pa_cons pe_str (pa_cons pe_str pa_nil))))))))))))))
      (pss_cons (ps_asg (pe_tup (pa_cons pe_str (pa_cons (pe_call G_take (hr.mono (by decide)) (by rfl) T.m_take T.F_take.kp T.b_take .nil pass0 (pa_cons (pv 0) (pa_cons pe_int pa_nil))) (pa_cons (pe_call G_take (hr.mono (by decide)) (by rfl) T.m_take T.F_take.kp T.b_take .nil pass0 (pa_cons (pv 0) (pa_cons pe_int pa_nil))) pa_nil)))) (pg_tup rfl (pgs_cons (pg_name (i := 3) sc_names.nd rfl (Or.inr rfl)) (pgs_cons (pg_name (i := 4) sc_names.nd rfl (Or.inl rfl)) (pgs_cons (pg_name (i := 5) sc_names.nd rfl (Or.inr rfl)) pgs_nil)))))
      (pss_cons (ps_if (pt_cmpR op_eq (pv 4) pe_int (nomark _)) (pss_one (ps_ret (pe_lc (own := [("_law_k", 6)]) (g := gName 6) (by rfl) sc_names.nd (pi_range1 (by rfl) T.z_range (pa_cons (pv 1) pa_nil)) (blkOk_by (own := [("_law_k", 6)]) (N := N_names) (sc := defScope s_names) (by decide +kernel)) (fun _ _ _ _ _ => (pg_name (i := 6) sc_names.nd rfl (Or.inl rfl))) (fun _ _ _ _ _ => pts_nil) (fun _ _ _ _ _ => (pe_ix (ix_listK K) (pv 2) (pe_op op_mod (pe_callTy call_int1 (by rfl) T.z_int (by decide +kernel) (pa_cons (pe_op op_add (pv 5) (pe_op op_mul pe_int (pv 6))) pa_nil)) pe_int) (fun _ _ => rfl)))))) pss_nil)
      (pss_cons (ps_if (PW.pt (pw_and (pt_cmpR op_eq (pv 4) pe_int (nomark _)) (pw_and1 (pt_cmpR op_lt (pv 1) pe_int (nomark _))))) (pss_one (ps_ret (pe_call G_mixed (hr.mono (by decide)) (by rfl) T.m_mixed T.F_mixed.kp T.b_mixed .nil pass0 (pa_cons (pv 0) (pa_cons (pe_lc (own := [("_law_k", 6)]) (g := gName 6) (by rfl) sc_names.nd (pi_range1 (by rfl) T.z_range (pa_cons (pv 1) pa_nil)) (blkOk_by (own := [("_law_k", 6)]) (N := N_names) (sc := defScope s_names) (by decide +kernel)) (fun _ _ _ _ _ => (pg_name (i := 6) sc_names.nd rfl (Or.inl rfl))) (fun _ _ _ _ _ => pts_nil) (fun _ _ _ _ _ => (pe_slice sl_str pe_str po_none (po_some (pe_op op_add (pv 6) pe_int))))) pa_nil))))) pss_nil)
      (pss_one (ps_ret (pe_lc (own := [("_law_k", 6)]) (g := gName 6) (by rfl) sc_names.nd (pi_range1 (by rfl) T.z_range (pa_cons (pv 1) pa_nil)) (blkOk_by (own := [("_law_k", 6)]) (N := N_names) (sc := defScope s_names) (by decide +kernel)) (fun _ _ _ _ _ => (pg_name (i := 6) sc_names.nd rfl (Or.inl rfl))) (fun _ _ _ _ _ => pts_nil) (fun _ _ _ _ _ => (pe_op op_add_str (pe_ix ix_str (pv 3) (pe_op op_mod (pe_callTy call_int1 (by rfl) T.z_int (by decide +kernel) (pa_cons (pe_op op_add (pv 5) (pe_op op_mul pe_int (pv 6))) pa_nil)) pe_int) (fun _ _ => rfl)) (pe_op op_mul_str pe_str (pe_op op_mod (pe_callTy call_int1 (by rfl) T.z_int (by decide +kernel) (pa_cons (pv 5) pa_nil)) pe_int))))))))))), ?_⟩
  refine ⟨by show 12 ≤ sizeLine; decide, fun wa hwa => ?_⟩
  have a1 : At b _ wa (.lst (WORDS.map V.str)) := .mk_new g0 hwa _
  have g1 := g0.new hwa (.lst (WORDS.map V.str))
  refine ⟨_, rfl, b, _, rfl, ⟨fun _ _ _ e => e, g1.box⟩, by decide, by decide, fun fo H2 fo0 fo1 g2 => ?_⟩
  refine ⟨_, rfl, b, _, rfl, ⟨fun _ _ _ e => e, g2.box⟩, by decide, by decide, fun sp H3 sp0 sp1 g3 => ?_⟩
  refine ⟨by show 3 ≤ sizeLine; decide, fun tp htp => ⟨tp, _, rfl, SqT.of upd_same, rfl, _, _, rfl, _, _, rfl, _, _, rfl, rfl, ?_⟩⟩
  have a4 := ((a1.gr g2).gr g3).new (u := .tup [.str ABC, .int fo, .int sp]) htp
  have g4 := ((g1.trans g2).trans g3).new htp (.tup [.str ABC, .int fo, .int sp])
  refine ⟨_, rfl, rfl, _, rfl, ?_⟩
  refine ite2 (fun c1 => ?_) (fun c1 => ?_)
  · refine ⟨_, rfl, n, rfl, by omega, by omega, fun D hD => lc_range (lo := 0) (n := n.toNat) (fun i H' => Gr b H H' ∧ At b H' wa (.lst (WORDS.map V.str)) ∧ At b H' D (.lst (((List.range i).map (wd sp)).map V.str))) ⟨g4.new hD _, a4.new hD, .mk_new g4 hD _⟩ ?_ ?_⟩
    · rintro i H' hi ⟨g5, aw, aD⟩
      refine ⟨rfl, ?_⟩
      refine ⟨_, rfl, _, rfl, _, rfl, _, _, rfl, rfl, .inl ⟨by decide, by decide⟩, _, _, rfl, rfl, .inl ⟨_, rfl, _, _, rfl, rfl, (by show (0 : Int) < _; decide), wa, _, _, _, rfl, rfl, aw.l, at_getD (Int.emod_nonneg _ (by decide)) (Int.emod_lt_of_pos _ (by decide)), _, aD.at_, small1000 (by simp; omega), ?_⟩⟩
      refine ⟨g5.mut (g4.free hD) aD.ne _, ⟨aw.ne, by rw [upd_ne (a4.nep hD)]; exact aw.at_⟩, aD.ne, ?_⟩
      rw [upd_same, range_more, List.map_append]
      simp [wd]
    · rintro H' ⟨g5, _, a5⟩
      exact q D _ H' g5 (g4.free hD) a5 (by simp; omega) (nodup_map fun i j hi hj => wd_nd (by omega) (by omega)) (fun y hy => by
        obtain ⟨i, _, rfl⟩ := List.mem_map.mp hy
        exact ⟨wd_nm, wd_zx⟩)
  · have three : ∀ (H5 : Hp) (σ : St), σ = [some (.ref b), some (.int n), some (.ref wa), some (.str ABC), some (.int fo), some (.int sp), none] → Gr b H H5 →
        tRet (tLc (iRng1 (tCons (tVar 1) tNil)) (gName 6) tYes (tOp (fun x y H Q => ∃ i j, x = V.str i ∧ y = V.str j ∧ i.length + j.length ≤ sizeLine ∧ Q (V.str (i ++ j)) H)
          (tOp rIxS (tVar 3) (tOp (rI (fun x j => 0 < j) fun i j => V.int (i % j)) (tCB (fun xs H Q => (∃ i, xs = [V.int i] ∧ Q (V.int i) H) ∨ ∃ k, xs = [V.bl k] ∧ Q (V.int (if k = true then 1 else 0)) H)
            (tCons (tOp (rI0 fun i j => V.int (i + j)) (tVar 5) (tOp (rI CMul fun i j => V.int (i * j)) (tC (V.int 7)) (tVar 6))) tNil)) (tC (V.int 26))))
          (tOp (fun x y H Q => ∃ z n, x = V.str z ∧ y = V.int n ∧ 0 ≤ n ∧ n ≤ 1000 ∧ z.length ≤ 1000 ∧ Q (V.str { cps := (timesL z.cps.toList n.toNat).toArray }) H) (tC (V.str (Str.ofString "v")))
            (tOp (rI (fun x j => 0 < j) fun i j => V.int (i % j)) (tCB (fun xs H Q => (∃ i, xs = [V.int i] ∧ Q (V.int i) H) ∨ ∃ k, xs = [V.bl k] ∧ Q (V.int (if k = true then 1 else 0)) H) (tCons (tVar 5) tNil)) (tC (V.int 4)))))
          (List.map (fun x => x.snd) [(Str.ofString "_law_k", 6)])) { nx := fun _ H' => Q .non H', rt := Q } σ H5 := by
      rintro H5 σ rfl g5
      refine ⟨_, rfl, n, rfl, by omega, by omega, fun D hD => lc_range (lo := 0) (n := n.toNat) (fun i H' => Gr b H H' ∧ At b H' D (.lst (((List.range i).map (lt sp)).map V.str))) ⟨g5.new hD _, .mk_new g5 hD _⟩ ?_ ?_⟩
      · rintro i H' hi ⟨g6, aD⟩
        refine ⟨rfl, ?_⟩
        refine ⟨_, rfl, _, rfl, _, rfl, _, _, rfl, rfl, .inl ⟨by decide, by decide⟩, _, _, rfl, rfl, .inl ⟨_, rfl, _, _, rfl, rfl, (by show (0 : Int) < _; decide), ABC, _, _, rfl, rfl, by decide +kernel, at_getN (Int.emod_nonneg _ (by decide)) (Int.emod_lt_of_pos _ (by decide)), ?_⟩⟩
        refine ⟨_, rfl, .inl ⟨_, rfl, _, _, rfl, rfl, (by show (0 : Int) < _; decide), _, _, rfl, rfl, Int.emod_nonneg _ (by decide), by have := Int.emod_lt_of_pos sp (show (0 : Int) < 4 by decide); omega, by decide +kernel, _, _, rfl, rfl, ?_, _, aD.at_, small1000 (by simp; omega), ?_⟩⟩
        · show 1 + (timesL [118] (sp % 4).toNat).toArray.size ≤ sizeLine
          rw [List.size_toArray, timesL_len, sizeLine_eq]
          have := Int.emod_lt_of_pos sp (show (0 : Int) < 4 by decide)
          simp only [List.length_singleton]
          omega
        · refine ⟨g6.mut (g5.free hD) aD.ne _, aD.ne, ?_⟩
          rw [upd_same, range_more, List.map_append]
          simp [lt]
          rfl
      · rintro H' ⟨g6, a6⟩
        exact q D _ H' g6 (g5.free hD) a6 (by simp; omega) (nodup_map fun i j hi hj => lt_nd (by omega) (by omega)) (fun y hy => by
          obtain ⟨i, _, rfl⟩ := List.mem_map.mp hy
          exact ⟨lt_nm, lt_zx⟩)
    refine ⟨_, rfl, rfl, _, rfl, ?_⟩
    refine ite2 (fun c2 => ?_) (fun c2 => ?_)
    · refine ⟨_, rfl, _, _, rfl, rfl, _, rfl, ?_⟩
      refine ite2 (fun c3 => ?_) (fun c3 => ?_)
      · have n5 : n < 5 := of_decide_eq_true c3
        refine ⟨_, rfl, _, rfl, n, rfl, by omega, by omega, fun D hD => lc_range (lo := 0) (n := n.toNat) (fun i H' => Gr b H H' ∧ At b H' D (.lst (((List.range i).map tt).map V.str))) ⟨g4.new hD _, .mk_new g4 hD _⟩ ?_ ?_⟩
        · rintro i H' hi ⟨g6, aD⟩
          refine ⟨rfl, ?_⟩
          refine ⟨_, rfl, _, _, rfl, rfl, _, rfl, _, rfl, by decide +kernel, _, aD.at_, small1000 (by simp; omega), ?_⟩
          refine ⟨g6.mut (g4.free hD) aD.ne _, aD.ne, ?_⟩
          rw [upd_same, range_more, List.map_append]
          simp [tt]
        · rintro H' ⟨g6, a6⟩
          refine ⟨b, D, _, rfl, ⟨fun _ _ _ e => e, g6.box⟩, a6, by simp; omega, fun p ys H7 g7 hp a7 pm => ?_⟩
          obtain ⟨zs, e, pm2⟩ : ∃ zs : List Str, ys = zs.map V.str ∧ zs.Perm ((List.range n.toNat).map tt) := perm_of_map pm _ rfl
          subst e
          exact q p zs H7 (g6.trans g7) (g6.free hp) a7 (by rw [pm2.length_eq]; simp; omega) (pm2.nodup_iff.mpr (nodup_map fun i j hi hj => tt_nd i (by omega) j (by omega))) (fun y hy => by
            obtain ⟨i, hi, rfl⟩ := List.mem_map.mp (pm2.mem_iff.mp hy)
            exact ⟨tt_nm i (by have := List.mem_range.mp hi; omega), tt_zx i (by have := List.mem_range.mp hi; omega)⟩)
      · exact three _ _ rfl g4
    · exact three _ _ rfl g4
theorem ok_names (T : TxNames K mg) : FnOk P w K mg base CX0 3 T.f_names T.d_names P_names spNames := (ok_namesZ T).imp fun vs H Q E h => by
  obtain ⟨b, n, e, g, n0, n1, q⟩ := h
  exact ⟨b, n, e, g, n0, n1, fun p ys H' g' hp a l nd m => q p ys H' g' hp a l nd fun y hy => (m y hy).1⟩
end
end My

/-! ## The program: what is a name -/
namespace My
open PySem L2
abbrev s_is_name : Stmt := top 5
abbrev N_is_name : List Str := ["value", "letter"]
abbrev P_is_name : List Str := ["value"]
theorem sc_is_name : FnScope N_is_name P_is_name (defScope s_is_name) := ⟨rfl, rfl, rfl, by decide +kernel, rfl, by decide +kernel, by decide +kernel⟩
/-- a text, or a thing that is none -/
inductive AnyV (K : PySem.W.Frag) (H : Hp) : V → Prop where
  | str (x : Str) (h : x.length ≤ 2000) : AnyV K H (.str x)
  | oth {v : V} {t : Value} (n : ∀ x, v ≠ .str x) (ty : TyX K H v t) (k : PySem.W.kitOne K t (.type "str") = some false) : AnyV K H v
def nmV : V → Bool
  | .str x => isNm x
  | _ => false
def nmD : PyData → Bool
  | .str x => isNm x
  | _ => false
structure TxCheck (K : PySem.W.Frag) (mg : Str → Option Value) where
  z_len : mg "len" = none
  z_isinstance : mg "isinstance" = none
  z_str : mg "str" = none
  z_all : mg "all" = none
  letT : Tok
  m_LET : mg "LETTERS" = some (.str ABC letT)
  aNO : Addr
  m_NO : mg "NO_NAMES" = some (.ref aNO)
  t_NO : ∀ H : Hp, SqT K H aNO (BAR.map V.str)
  f_is_name : Addr
  d_is_name : FuncData
  F_is_name : Fun K "is_name" "is_name" s_is_name f_is_name d_is_name
  m_is_name : mg "is_name" = some (.ref f_is_name)
  b_is_name : Binds K d_is_name P_is_name []
def spIsName (K : PySem.W.Frag) : Sp := fun vs H Q _ => ∃ v : V, vs = [v] ∧ AnyV K H v ∧ ∀ H', Same H H' → Q (.bl (nmV v)) H'
theorem inV_strs (x : Str) : ∀ l : List Str, inV (.str x) (l.map V.str) = l.contains x
  | [] => rfl
  | y :: l => by
    have h := inV_strs x l
    show (y == x || inV (.str x) (l.map V.str)) = (y :: l).contains x
    rw [h, List.contains_cons, BEq.comm]
theorem Dv.any {K : PySem.W.Frag} {H : Hp} {v : V} {d : PyData} (h : Dv K H v d) : AnyV K H v := by
  have t := Dp.ty h.dp
  cases h.dp with
  | str x => exact .str x (h.tx x rfl)
  | non => exact .oth (fun _ e => by cases e) t (kit_ty (by decide +kernel))
  | bl b => exact .oth (fun _ e => by cases e) t (kit_ty (show kitB "bool" "str" = some false by decide +kernel))
  | int i => exact .oth (fun _ e => by cases e) t (kit_ty (show kitB "int" "str" = some false by decide +kernel))
  | lst _ _ => exact .oth (fun _ e => by cases e) t (kit_ty (show kitB "list" "str" = some false by decide +kernel))
  | tup _ _ => exact .oth (fun _ e => by cases e) t (kit_ty (show kitB "tuple" "str" = some false by decide +kernel))
theorem Dv.nm {K : PySem.W.Frag} {H : Hp} {v : V} {d : PyData} (h : Dv K H v d) : nmV v = nmD d := by
  cases h.dp <;> rfl
section
variable {P : Program} {w : World} {K : PySem.W.Frag} {mg : Str → Option Value} {base : Heap}
theorem ok_is_name (T : TxCheck K mg) : FnOk P w K mg base CX0 1 T.f_is_name T.d_is_name P_is_name (spIsName K) := by
  refine T.F_is_name.ok sc_is_name (fun vs H Q E h => ?_) (fun cdv A outer s H vs Q E hr h => ?_)
  · obtain ⟨v, rfl, _⟩ := h
    rfl
  obtain ⟨v, rfl, hv, q⟩ := h
  refine ⟨_, (pss_cons (ps_if (PW.pt (pw_or (pt_not (pt_val (pe_callB (call_isiV K) (by rfl) T.z_isinstance (by decide +kernel) (pa_cons (pv 0) (pa_cons (pe_bltn (v := .ty "str") (by rfl) T.z_str (by decide +kernel) rfl) pa_nil))))) (pw_or1 (pt_not (pt_chain op_le op_le pe_int (pe_callB call_len_str (by rfl) T.z_len (by decide +kernel) (pa_cons (pv 0) pa_nil)) pe_int))))) (pss_one (ps_ret pe_bl)) pss_nil)
      (pss_one (ps_ret (pe_and (pe_cmpR (op_notInK K) (pv 0) (pe_glob (v := .ref T.aNO) (by rfl) T.m_NO rfl) (by rfl)) (pe_one (pe_callB (cr_allK K rfl) (by rfl) T.z_all (by decide +kernel) (pa_cons (pe_lc (own := [("letter", 1)]) (g := gName 1) (by rfl) sc_is_name.nd (pi_str (pv 0)) (blkOk_by (own := [("letter", 1)]) (N := N_is_name) (sc := defScope s_is_name) (by decide +kernel)) (fun _ _ _ _ _ => (pg_name (i := 1) sc_is_name.nd rfl (Or.inl rfl))) (fun _ _ _ _ _ => pts_nil) (fun _ _ _ _ _ => (pe_cmpR op_in_sign (pv 1) (pe_glob (v := .str ABC) (by rfl) T.m_LET ⟨_, rfl⟩) (by rfl)))) pa_nil))))))), ?_⟩
  cases hv with
  | oth n ty k =>
    have e : nmV v = false := by cases v <;> first | rfl | exact absurd rfl (n _)
    refine ⟨_, rfl, v, .ty "str", _, _, _, rfl, .ty _, ty, k, _, rfl, ?_⟩
    have r := q H (Same.refl H)
    rw [e] at r
    exact r
  | str x hx =>
    have hz : x.length ≤ sizeLine := by rw [sizeLine_eq]; omega
    have no : isNm x = false → Q (.bl false) H := fun e => by
      have r := q H (Same.refl H)
      rwa [show nmV (.str x) = false from e] at r
    refine ⟨_, rfl, .str x, .ty "str", _, _, true, rfl, .ty _, .base (.str x), kit_ty (by decide +kernel), _, rfl, ?_⟩
    refine ⟨_, rfl, x, rfl, hz, _, _, rfl, rfl, _, rfl, ?_⟩
    refine ite2 (fun c => ?_) (fun c => ?_)
    · have h1 : (1 : Int) ≤ (x.length : Int) := of_decide_eq_true c
      refine ⟨_, _, rfl, rfl, _, rfl, ?_⟩
      refine ite2 (fun c => ?_) (fun c => ?_)
      · have h4 : ¬ (x.length : Int) ≤ 4 := of_decide_eq_false (by simpa using c)
        exact no (by unfold isNm; rw [show decide (x.length ≤ 4) = false from decide_eq_false (by omega)]; simp)
      · have h4 : (x.length : Int) ≤ 4 := of_decide_eq_true (by simpa using c)
        refine ⟨_, rfl, T.aNO, BAR.map V.str, rfl, .inr (T.t_NO _), rfl, by decide +kernel, _, rfl, ?_⟩
        refine ite2 (fun c => ?_) (fun c => ?_)
        · have hb : BAR.contains x = false := by
            have c' : (!inV (.str x) (BAR.map V.str)) = true := c
            rw [inV_strs] at c'
            simpa using c'
          refine ⟨_, rfl, x, rfl, fun D hD => lc_it walk_str (fun i H' => Same H H' ∧ H' D = some (.lst (((x.cps.toList.take i).map fun c => decide (c ∈ ABC.cps.toList)).map V.bl))) ⟨same_upd hD _, upd_same⟩ (fun _ _ _ _ => trivial) ?_ ?_⟩
          · rintro i v H1 H2 hi ⟨s1, hD1⟩ ⟨rfl, c, hc, rfl⟩
            have hi' : i ≤ 4 := by have : i < x.length := hi; omega
            refine ⟨rfl, ?_⟩
            refine ⟨_, rfl, c, ABC, rfl, rfl, _, hD1, small1000 (by simp; omega), ?_, ?_⟩
            · intro b o e
              rw [upd_ne (ne_of_none e hD)]
              exact s1 b o e
            · have hc' : x.cps.toList[i]? = some c := by rw [Array.getElem?_toList]; exact hc
              rw [upd_same, List.take_add_one, hc']
              simp
          · rintro H' ⟨s1, hD1⟩
            refine ⟨D, _, rfl, SqL.of hD1, ?_⟩
            have e : isNm x = (((x.cps.toList.take x.cps.size).map fun c => decide (c ∈ ABC.cps.toList))).all id := by
              unfold isNm
              rw [decide_eq_true (show 1 ≤ x.length by omega), decide_eq_true (show x.length ≤ 4 by omega), hb, List.take_of_length_le (by simp), List.all_map]
              simp
            have r := q H' s1
            rw [show nmV (.str x) = isNm x from rfl, e] at r
            exact r
        · have hb : BAR.contains x = true := by
            have c' : ¬ (!inV (.str x) (BAR.map V.str)) = true := c
            rw [inV_strs] at c'
            simpa using c'
          exact no (by unfold isNm; rw [hb]; simp)
    · have h1 : ¬ (1 : Int) ≤ (x.length : Int) := of_decide_eq_false (Bool.eq_false_iff.mpr c)
      refine ⟨_, rfl, ?_⟩
      exact no (by unfold isNm; rw [show decide (1 ≤ x.length) = false from decide_eq_false (by omega)]; simp)
end
end My

/-! ## The program: rows -/
namespace My
open PySem L2
abbrev s_is_name_or : Stmt := top 17
abbrev N_is_name_or : List Str := ["value", "words"]
abbrev P_is_name_or : List Str := ["value", "words"]
theorem sc_is_name_or : FnScope N_is_name_or P_is_name_or (defScope s_is_name_or) := ⟨rfl, rfl, rfl, by decide +kernel, rfl, by decide +kernel, by decide +kernel⟩
abbrev s_InvalidRow_init : Stmt := inClass (top 11) 0
abbrev N_InvalidRow_init : List Str := ["self", "word"]
abbrev P_InvalidRow_init : List Str := ["self", "word"]
theorem sc_InvalidRow_init : FnScope N_InvalidRow_init P_InvalidRow_init (defScope s_InvalidRow_init) := ⟨rfl, rfl, rfl, by decide +kernel, rfl, by decide +kernel, by decide +kernel⟩
abbrev s_Begin_init : Stmt := inClass (top 19) 0
abbrev N_Begin_init : List Str := ["self", "mark", "kind", "mood"]
abbrev P_Begin_init : List Str := ["self", "mark", "kind", "mood"]
theorem sc_Begin_init : FnScope N_Begin_init P_Begin_init (defScope s_Begin_init) := ⟨rfl, rfl, rfl, by decide +kernel, rfl, by decide +kernel, by decide +kernel⟩
abbrev s_Send_init : Stmt := inClass (top 20) 0
abbrev N_Send_init : List Str := ["self", "mood", "service", "mark"]
abbrev P_Send_init : List Str := ["self", "mood", "service", "mark"]
theorem sc_Send_init : FnScope N_Send_init P_Send_init (defScope s_Send_init) := ⟨rfl, rfl, rfl, by decide +kernel, rfl, by decide +kernel, by decide +kernel⟩
abbrev s_Back_init : Stmt := inClass (top 21) 0
abbrev N_Back_init : List Str := ["self", "mood", "service", "sign", "then"]
abbrev P_Back_init : List Str := ["self", "mood", "service", "sign", "then"]
theorem sc_Back_init : FnScope N_Back_init P_Back_init (defScope s_Back_init) := ⟨rfl, rfl, rfl, by decide +kernel, rfl, by decide +kernel, by decide +kernel⟩
abbrev s_End_init : Stmt := inClass (top 22) 0
abbrev N_End_init : List Str := ["self", "mood", "outcome", "sign", "part"]
abbrev P_End_init : List Str := ["self", "mood", "outcome", "sign", "part"]
theorem sc_End_init : FnScope N_End_init P_End_init (defScope s_End_init) := ⟨rfl, rfl, rfl, by decide +kernel, rfl, by decide +kernel, by decide +kernel⟩
structure TxRows (K : PySem.W.Frag) (mg : Str → Option Value) extends TxCheck K mg where
  f_is_name_or : Addr
  d_is_name_or : FuncData
  F_is_name_or : Fun K "is_name_or" "is_name_or" s_is_name_or f_is_name_or d_is_name_or
  m_is_name_or : mg "is_name_or" = some (.ref f_is_name_or)
  b_is_name_or : Binds K d_is_name_or P_is_name_or []
  C_InvalidRow : Addr
  m_InvalidRow : mg "InvalidRow" = some (.ref C_InvalidRow)
  oxRow : OexC K C_InvalidRow
  nwRow : PySem.W.findIn K (.ref C_InvalidRow) "word" = some none
  f_InvalidRow_init : Addr
  d_InvalidRow_init : FuncData
  iRow : PySem.W.findIn K (.ref C_InvalidRow) "__init__" = some (some (.ref f_InvalidRow_init))
  tRow : PySem.W.typeIn K (.ref f_InvalidRow_init) = some (.type "function")
  F_InvalidRow_init : Fun K "__init__" "InvalidRow.__init__" s_InvalidRow_init f_InvalidRow_init d_InvalidRow_init
  b_InvalidRow_init : Binds K d_InvalidRow_init P_InvalidRow_init []
  C_Begin : Addr
  m_Begin : mg "Begin" = some (.ref C_Begin)
  c_Begin : Cls K C_Begin
  f_Begin_init : Addr
  d_Begin_init : FuncData
  mk_Begin : Mk K C_Begin f_Begin_init
  F_Begin_init : Fun K "__init__" "Begin.__init__" s_Begin_init f_Begin_init d_Begin_init
  b_Begin_init : Binds K d_Begin_init P_Begin_init []
  n_Begin_mark : NoAttr K C_Begin "mark"
  n_Begin_kind : NoAttr K C_Begin "kind"
  n_Begin_mood : NoAttr K C_Begin "mood"
  C_Send : Addr
  m_Send : mg "Send" = some (.ref C_Send)
  c_Send : Cls K C_Send
  f_Send_init : Addr
  d_Send_init : FuncData
  mk_Send : Mk K C_Send f_Send_init
  F_Send_init : Fun K "__init__" "Send.__init__" s_Send_init f_Send_init d_Send_init
  b_Send_init : Binds K d_Send_init P_Send_init []
  n_Send_mood : NoAttr K C_Send "mood"
  n_Send_service : NoAttr K C_Send "service"
  n_Send_mark : NoAttr K C_Send "mark"
  C_Back : Addr
  m_Back : mg "Back" = some (.ref C_Back)
  c_Back : Cls K C_Back
  f_Back_init : Addr
  d_Back_init : FuncData
  mk_Back : Mk K C_Back f_Back_init
  F_Back_init : Fun K "__init__" "Back.__init__" s_Back_init f_Back_init d_Back_init
  b_Back_init : Binds K d_Back_init P_Back_init []
  n_Back_mood : NoAttr K C_Back "mood"
  n_Back_service : NoAttr K C_Back "service"
  n_Back_sign : NoAttr K C_Back "sign"
  n_Back_then : NoAttr K C_Back "then"
  C_End : Addr
  m_End : mg "End" = some (.ref C_End)
  c_End : Cls K C_End
  f_End_init : Addr
  d_End_init : FuncData
  mk_End : Mk K C_End f_End_init
  F_End_init : Fun K "__init__" "End.__init__" s_End_init f_End_init d_End_init
  b_End_init : Binds K d_End_init P_End_init []
  n_End_mood : NoAttr K C_End "mood"
  n_End_outcome : NoAttr K C_End "outcome"
  n_End_sign : NoAttr K C_End "sign"
  n_End_part : NoAttr K C_End "part"
def spXInit (K : PySem.W.Frag) (C : Addr) : Sp := fun vs H Q _ => ∃ (a : Addr) (y : V), vs = [.ref a, y] ∧ H a = some (exo a C none) ∧
  ∀ dx, H dx = none → dx ≠ a → Q .non (upd (upd H dx (exd dx [("word", y)])) a (exo a C (some dx)))
def spNameOr (K : PySem.W.Frag) : Sp := fun vs H Q _ => ∃ (v : V) (d : PyData) (a : Addr) (l : List Str), vs = [v, .ref a] ∧ Dv K H v d ∧ SqT K H a (l.map V.str) ∧ l.all PyData.strOk = true ∧
  ∀ H', Same H H' → Q (.bl (nmD d || txD l d)) H'
section
variable {P : Program} {w : World} {K : PySem.W.Frag} {mg : Str → Option Value} {base : Heap}
theorem ok_is_name_or (T : TxRows K mg) : FnOk P w K mg base CX0 2 T.f_is_name_or T.d_is_name_or P_is_name_or (spNameOr K) := by
  have G_is_name := ok_is_name (P := P) (w := w) (base := base) T.toTxCheck
  refine T.F_is_name_or.ok sc_is_name_or (fun vs H Q E h => ?_) (fun cdv A outer s H vs Q E hr h => ?_)
  · obtain ⟨v, d, a, l, rfl, _⟩ := h
    rfl
  obtain ⟨v, d, a, l, rfl, hv, hl, ho, q⟩ := h
  refine ⟨_, (pss_one (ps_ret (pe_or (pe_call G_is_name (hr.mono (by decide)) (by rfl) T.m_is_name T.F_is_name.kp T.b_is_name .nil pass0 (pa_cons (pv 0) pa_nil)) (pe_one (pe_cmpR (op_inT K (room65 hr)) (pv 0) (pv 1) (by rfl)))))), ?_⟩
  refine ⟨_, rfl, v, rfl, hv.any, fun H' s1 => ⟨_, rfl, ?_⟩⟩
  rw [hv.nm] at *
  cases e : nmD d with
  | true =>
    have r := q H' s1
    rw [e] at r
    exact r
  | false =>
    refine ⟨_, rfl, _, rfl, d, l.map PyData.str, Dp.same s1 d v hv.dp, .tup (seqT_same s1 hl) (Dp.all_strs l), hv.sh, shaped_strs ho, ?_⟩
    have r := q H' s1
    rw [e, Bool.false_or, ← any_strs] at r
    exact r
theorem ok_xrow (T : TxRows K mg) : FnOk P w K mg base CX0 1 T.f_InvalidRow_init T.d_InvalidRow_init P_InvalidRow_init (spXInit K T.C_InvalidRow) := by
  refine T.F_InvalidRow_init.ok sc_InvalidRow_init (fun vs H Q E h => ?_) (fun cdv A outer s H vs Q E hr h => ?_)
  · obtain ⟨a, y, rfl, _⟩ := h
    rfl
  obtain ⟨a, y, rfl, ha, q⟩ := h
  refine ⟨_, (pss_one (ps_ost (pv 0) (pv 1))), ?_⟩
  exact ⟨_, rfl, _, rfl, a, T.C_InvalidRow, rfl, T.oxRow, T.nwRow, .inl ⟨ha, fun dx h1 h2 => q dx h1 h2⟩⟩
/-- raise X('word'), X's own __init__ keeping the word -/
theorem mk_word {K : PySem.W.Frag} {C : Addr} {σ : St} {H1 : Hp} {wd : Str} {Q : XK} (q : ∀ (d : Addr) (H' : Hp), Same H1 H' → H1 d = none → H' d = some (.xd [("word", .str wd)]) → Q (.ref C) (some d) H') :
    tMkO C (spXInit K C) [] (tCons (tC (.str wd)) tNil) σ H1 Q := by
  refine ⟨by show 1 ≤ 1000; decide, fun a na => ⟨a, .str wd, rfl, upd_same, fun dx h1 h2 => ⟨rfl, dx, [("word", .str wd)], upd_same, ?_, ?_, ?_⟩⟩⟩
  · rw [upd_ne h2, upd_same]
  · rw [upd_ne h2] at h1
    exact h1
  · rw [upd_ne h2] at h1
    refine q dx _ (fun b u e => ?_) h1 upd_same
    have hb : b ≠ a := ne_of_none e na
    have hd : b ≠ dx := ne_of_none e h1
    rw [upd_ne hd, del_ne hb, upd_ne hb, upd_ne hd, upd_ne hb]
    exact e
def spRow (K : PySem.W.Frag) (C CX : Addr) (names : List Str) (wr : List PyData → Option Str) : Sp := fun vs H Q E => ∃ (p dx : Addr) (as : List V) (ds : List PyData), vs = .ref p :: as ∧ as.length = names.length ∧ Paired (Dv K H) as ds ∧ H p = some (.ins C dx []) ∧
  (∀ H', wr ds = none → H' p = some (.ins C dx (names.zip as)) → (∀ b u, H b = some u → b ≠ p → H' b = some u) → Q .non H') ∧
  (∀ wd d H', wr ds = some wd → Same H H' → H d = none → H' d = some (.xd [("word", .str wd)]) → E (.ref CX) (some d) H')
theorem bnot_eq {b : Bool} (h : (!b) = true) : b = false := by simpa using h
theorem bnot_ne {b : Bool} (h : ¬ (!b) = true) : b = true := by simpa using h
def wBegin : List PyData → Option Str
  | [d0, d1, d2] => if (nmD d0 || txD ["none", "any"] d0) = false then some "mark" else if (nmD d1 || txD ["any"] d1) = false then some "kind" else if nmD d2 = false then some "mood" else none
  | _ => none
theorem ok_Begin_init (T : TxRows K mg) : FnOk P w K mg base (L2.CX P w) 3 T.f_Begin_init T.d_Begin_init P_Begin_init (spRow K T.C_Begin T.C_InvalidRow ["mark", "kind", "mood"] wBegin) := by
  have G_is_name := ok_is_name (P := P) (w := w) (base := base) T.toTxCheck
  have G_is_name_or := ok_is_name_or (P := P) (w := w) (base := base) T
  have G_InvalidRow_init := ok_xrow (P := P) (w := w) (base := base) T
  refine T.F_Begin_init.okX sc_Begin_init (fun vs H Q E h => ?_) (fun cdv A outer s H vs Q E hr h => ?_)
  · obtain ⟨p, dx, as, ds, rfl, hl, _⟩ := h
    exact congrArg Nat.succ hl
  obtain ⟨p, dx, as, ds, rfl, hl, hd, hp, q, qe⟩ := h
  obtain ⟨x0, x1, x2, rfl⟩ : ∃ x0 x1 x2, as = [x0, x1, x2] := by
    match as, hl with
    | [x0, x1, x2], _ => exact ⟨x0, x1, x2, rfl⟩
  cases hd with
  | cons h0 hd =>
  cases hd with
  | cons h1 hd =>
  cases hd with
  | cons h2 hd =>
  cases hd
  rename_i d0 d1 d2
  refine ⟨_, (pss_cons (ps_if (pt_not (pt_val (pe_call G_is_name_or (hr.mono (by decide)) (by rfl) T.m_is_name_or T.F_is_name_or.kp T.b_is_name_or .nil pass0 (pa_cons (pv 1) (pa_cons (pe_tup (pa_cons pe_str (pa_cons pe_str pa_nil))) pa_nil))))) (pss_one (ps_raise rfl (takes_of rfl rfl rfl rfl) (pmk_oex T.oxRow T.iRow T.tRow G_InvalidRow_init (hr.mono (by decide)) T.b_InvalidRow_init .nil pass0 (by rfl) T.m_InvalidRow (pa_cons pe_str pa_nil)))) pss_nil)
      (pss_cons (ps_if (pt_not (pt_val (pe_call G_is_name_or (hr.mono (by decide)) (by rfl) T.m_is_name_or T.F_is_name_or.kp T.b_is_name_or .nil pass0 (pa_cons (pv 2) (pa_cons (pe_tup (pa_cons pe_str pa_nil)) pa_nil))))) (pss_one (ps_raise rfl (takes_of rfl rfl rfl rfl) (pmk_oex T.oxRow T.iRow T.tRow G_InvalidRow_init (hr.mono (by decide)) T.b_InvalidRow_init .nil pass0 (by rfl) T.m_InvalidRow (pa_cons pe_str pa_nil)))) pss_nil)
      (pss_cons (ps_if (pt_not (pt_val (pe_call G_is_name (hr.mono (by decide)) (by rfl) T.m_is_name T.F_is_name.kp T.b_is_name .nil pass0 (pa_cons (pv 3) pa_nil)))) (pss_one (ps_raise rfl (takes_of rfl rfl rfl rfl) (pmk_oex T.oxRow T.iRow T.tRow G_InvalidRow_init (hr.mono (by decide)) T.b_InvalidRow_init .nil pass0 (by rfl) T.m_InvalidRow (pa_cons pe_str pa_nil)))) pss_nil)
      (pss_cons (ps_fld (pv 0) (pv 1) rfl)
      (pss_cons (ps_fld (pv 0) (pv 2) rfl)
      (pss_one (ps_fld (pv 0) (pv 3) rfl))))))), ?_⟩
  have s0 : Same H H := Same.refl H
  refine ⟨_, rfl, by show 2 ≤ sizeLine; decide, fun t0 ht0 => ⟨x0, d0, t0, ["none", "any"], rfl, h0.same (s0.trans (same_upd ht0 _)), SqT.of upd_same, by decide +kernel, fun H0 z0 => ⟨_, rfl, ?_⟩⟩⟩
  have s1 := s0.trans ((same_upd ht0 _).trans z0)
  refine ite2 (fun c0 => ?_) (fun c0 => ?_)
  · exact mk_word fun d H' s' n' e' => qe "mark" d H' (if_pos (bnot_eq c0)) (s1.trans s') (s1.free n') e'
  refine ⟨_, rfl, by show 1 ≤ sizeLine; decide, fun t1 ht1 => ⟨x1, d1, t1, ["any"], rfl, h1.same (s1.trans (same_upd ht1 _)), SqT.of upd_same, by decide +kernel, fun H1 z1 => ⟨_, rfl, ?_⟩⟩⟩
  have s2 := s1.trans ((same_upd ht1 _).trans z1)
  refine ite2 (fun c1 => ?_) (fun c1 => ?_)
  · exact mk_word fun d H' s' n' e' => qe "kind" d H' ((if_neg (by rw [bnot_ne c0]; decide)).trans (if_pos (bnot_eq c1))) (s2.trans s') (s2.free n') e'
  refine ⟨_, rfl, x2, rfl, (h2.same s2).any, fun H2 z2 => ⟨_, rfl, ?_⟩⟩
  rw [(h2.same s2).nm]
  have s3 := s2.trans z2
  refine ite2 (fun c2 => ?_) (fun c2 => ?_)
  · exact mk_word fun d H' s' n' e' => qe "mood" d H' ((if_neg (by rw [bnot_ne c0]; decide)).trans ((if_neg (by rw [bnot_ne c1]; decide)).trans (if_pos (bnot_eq c2)))) (s3.trans s') (s3.free n') e'
  have hp3 := s3 _ _ hp
  refine ⟨_, rfl, _, rfl, p, T.C_Begin, dx, _, rfl, hp3, T.c_Begin, T.n_Begin_mark, (by show 0 < 1000; decide), ?_⟩
  refine ⟨_, rfl, _, rfl, p, T.C_Begin, dx, _, rfl, upd_same, T.c_Begin, T.n_Begin_kind, (by show 1 < 1000; decide), ?_⟩
  refine ⟨_, rfl, _, rfl, p, T.C_Begin, dx, _, rfl, upd_same, T.c_Begin, T.n_Begin_mood, (by show 2 < 1000; decide), ?_⟩
  rw [upd_upd, upd_upd]
  refine q _ ((if_neg (by rw [bnot_ne c0]; decide)).trans ((if_neg (by rw [bnot_ne c1]; decide)).trans (if_neg (by rw [bnot_ne c2]; decide)))) upd_same fun b u e nb => ?_
  rw [upd_ne nb]
  exact s3 _ _ e
def wSend : List PyData → Option Str
  | [d0, d1, d2] => if (nmD d0 || txD ["any"] d0) = false then some "mood" else if (nmD d1 || txD ["any"] d1) = false then some "service" else if (nmD d2 || txD ["none", "same"] d2) = false then some "mark" else none
  | _ => none
theorem ok_Send_init (T : TxRows K mg) : FnOk P w K mg base (L2.CX P w) 3 T.f_Send_init T.d_Send_init P_Send_init (spRow K T.C_Send T.C_InvalidRow ["mood", "service", "mark"] wSend) := by
  have G_is_name := ok_is_name (P := P) (w := w) (base := base) T.toTxCheck
  have G_is_name_or := ok_is_name_or (P := P) (w := w) (base := base) T
  have G_InvalidRow_init := ok_xrow (P := P) (w := w) (base := base) T
  refine T.F_Send_init.okX sc_Send_init (fun vs H Q E h => ?_) (fun cdv A outer s H vs Q E hr h => ?_)
  · obtain ⟨p, dx, as, ds, rfl, hl, _⟩ := h
    exact congrArg Nat.succ hl
  obtain ⟨p, dx, as, ds, rfl, hl, hd, hp, q, qe⟩ := h
  obtain ⟨x0, x1, x2, rfl⟩ : ∃ x0 x1 x2, as = [x0, x1, x2] := by
    match as, hl with
    | [x0, x1, x2], _ => exact ⟨x0, x1, x2, rfl⟩
  cases hd with
  | cons h0 hd =>
  cases hd with
  | cons h1 hd =>
  cases hd with
  | cons h2 hd =>
  cases hd
  rename_i d0 d1 d2
  refine ⟨_, (pss_cons (ps_if (pt_not (pt_val (pe_call G_is_name_or (hr.mono (by decide)) (by rfl) T.m_is_name_or T.F_is_name_or.kp T.b_is_name_or .nil pass0 (pa_cons (pv 1) (pa_cons (pe_tup (pa_cons pe_str pa_nil)) pa_nil))))) (pss_one (ps_raise rfl (takes_of rfl rfl rfl rfl) (pmk_oex T.oxRow T.iRow T.tRow G_InvalidRow_init (hr.mono (by decide)) T.b_InvalidRow_init .nil pass0 (by rfl) T.m_InvalidRow (pa_cons pe_str pa_nil)))) pss_nil)
      (pss_cons (ps_if (pt_not (pt_val (pe_call G_is_name_or (hr.mono (by decide)) (by rfl) T.m_is_name_or T.F_is_name_or.kp T.b_is_name_or .nil pass0 (pa_cons (pv 2) (pa_cons (pe_tup (pa_cons pe_str pa_nil)) pa_nil))))) (pss_one (ps_raise rfl (takes_of rfl rfl rfl rfl) (pmk_oex T.oxRow T.iRow T.tRow G_InvalidRow_init (hr.mono (by decide)) T.b_InvalidRow_init .nil pass0 (by rfl) T.m_InvalidRow (pa_cons pe_str pa_nil)))) pss_nil)
      (pss_cons (ps_if (pt_not (pt_val (pe_call G_is_name_or (hr.mono (by decide)) (by rfl) T.m_is_name_or T.F_is_name_or.kp T.b_is_name_or .nil pass0 (pa_cons (pv 3) (pa_cons (pe_tup (pa_cons pe_str (pa_cons pe_str pa_nil))) pa_nil))))) (pss_one (ps_raise rfl (takes_of rfl rfl rfl rfl) (pmk_oex T.oxRow T.iRow T.tRow G_InvalidRow_init (hr.mono (by decide)) T.b_InvalidRow_init .nil pass0 (by rfl) T.m_InvalidRow (pa_cons pe_str pa_nil)))) pss_nil)
      (pss_cons (ps_fld (pv 0) (pv 1) rfl)
      (pss_cons (ps_fld (pv 0) (pv 2) rfl)
      (pss_one (ps_fld (pv 0) (pv 3) rfl))))))), ?_⟩
  have s0 : Same H H := Same.refl H
  refine ⟨_, rfl, by show 1 ≤ sizeLine; decide, fun t0 ht0 => ⟨x0, d0, t0, ["any"], rfl, h0.same (s0.trans (same_upd ht0 _)), SqT.of upd_same, by decide +kernel, fun H0 z0 => ⟨_, rfl, ?_⟩⟩⟩
  have s1 := s0.trans ((same_upd ht0 _).trans z0)
  refine ite2 (fun c0 => ?_) (fun c0 => ?_)
  · exact mk_word fun d H' s' n' e' => qe "mood" d H' (if_pos (bnot_eq c0)) (s1.trans s') (s1.free n') e'
  refine ⟨_, rfl, by show 1 ≤ sizeLine; decide, fun t1 ht1 => ⟨x1, d1, t1, ["any"], rfl, h1.same (s1.trans (same_upd ht1 _)), SqT.of upd_same, by decide +kernel, fun H1 z1 => ⟨_, rfl, ?_⟩⟩⟩
  have s2 := s1.trans ((same_upd ht1 _).trans z1)
  refine ite2 (fun c1 => ?_) (fun c1 => ?_)
  · exact mk_word fun d H' s' n' e' => qe "service" d H' ((if_neg (by rw [bnot_ne c0]; decide)).trans (if_pos (bnot_eq c1))) (s2.trans s') (s2.free n') e'
  refine ⟨_, rfl, by show 2 ≤ sizeLine; decide, fun t2 ht2 => ⟨x2, d2, t2, ["none", "same"], rfl, h2.same (s2.trans (same_upd ht2 _)), SqT.of upd_same, by decide +kernel, fun H2 z2 => ⟨_, rfl, ?_⟩⟩⟩
  have s3 := s2.trans ((same_upd ht2 _).trans z2)
  refine ite2 (fun c2 => ?_) (fun c2 => ?_)
  · exact mk_word fun d H' s' n' e' => qe "mark" d H' ((if_neg (by rw [bnot_ne c0]; decide)).trans ((if_neg (by rw [bnot_ne c1]; decide)).trans (if_pos (bnot_eq c2)))) (s3.trans s') (s3.free n') e'
  have hp3 := s3 _ _ hp
  refine ⟨_, rfl, _, rfl, p, T.C_Send, dx, _, rfl, hp3, T.c_Send, T.n_Send_mood, (by show 0 < 1000; decide), ?_⟩
  refine ⟨_, rfl, _, rfl, p, T.C_Send, dx, _, rfl, upd_same, T.c_Send, T.n_Send_service, (by show 1 < 1000; decide), ?_⟩
  refine ⟨_, rfl, _, rfl, p, T.C_Send, dx, _, rfl, upd_same, T.c_Send, T.n_Send_mark, (by show 2 < 1000; decide), ?_⟩
  rw [upd_upd, upd_upd]
  refine q _ ((if_neg (by rw [bnot_ne c0]; decide)).trans ((if_neg (by rw [bnot_ne c1]; decide)).trans (if_neg (by rw [bnot_ne c2]; decide)))) upd_same fun b u e nb => ?_
  rw [upd_ne nb]
  exact s3 _ _ e
def wBack : List PyData → Option Str
  | [d0, d1, d2, d3] => if (nmD d0 || txD ["any"] d0) = false then some "mood" else if (nmD d1 || txD ["any"] d1) = false then some "service" else if (nmD d2 || txD ["none", "any"] d2) = false then some "sign" else if (nmD d3 || txD ["same"] d3) = false then some "then" else none
  | _ => none
theorem ok_Back_init (T : TxRows K mg) : FnOk P w K mg base (L2.CX P w) 3 T.f_Back_init T.d_Back_init P_Back_init (spRow K T.C_Back T.C_InvalidRow ["mood", "service", "sign", "then"] wBack) := by
  have G_is_name := ok_is_name (P := P) (w := w) (base := base) T.toTxCheck
  have G_is_name_or := ok_is_name_or (P := P) (w := w) (base := base) T
  have G_InvalidRow_init := ok_xrow (P := P) (w := w) (base := base) T
  refine T.F_Back_init.okX sc_Back_init (fun vs H Q E h => ?_) (fun cdv A outer s H vs Q E hr h => ?_)
  · obtain ⟨p, dx, as, ds, rfl, hl, _⟩ := h
    exact congrArg Nat.succ hl
  obtain ⟨p, dx, as, ds, rfl, hl, hd, hp, q, qe⟩ := h
  obtain ⟨x0, x1, x2, x3, rfl⟩ : ∃ x0 x1 x2 x3, as = [x0, x1, x2, x3] := by
    match as, hl with
    | [x0, x1, x2, x3], _ => exact ⟨x0, x1, x2, x3, rfl⟩
  cases hd with
  | cons h0 hd =>
  cases hd with
  | cons h1 hd =>
  cases hd with
  | cons h2 hd =>
  cases hd with
  | cons h3 hd =>
  cases hd
  rename_i d0 d1 d2 d3
  refine ⟨_, (pss_cons (ps_if (pt_not (pt_val (pe_call G_is_name_or (hr.mono (by decide)) (by rfl) T.m_is_name_or T.F_is_name_or.kp T.b_is_name_or .nil pass0 (pa_cons (pv 1) (pa_cons (pe_tup (pa_cons pe_str pa_nil)) pa_nil))))) (pss_one (ps_raise rfl (takes_of rfl rfl rfl rfl) (pmk_oex T.oxRow T.iRow T.tRow G_InvalidRow_init (hr.mono (by decide)) T.b_InvalidRow_init .nil pass0 (by rfl) T.m_InvalidRow (pa_cons pe_str pa_nil)))) pss_nil)
      (pss_cons (ps_if (pt_not (pt_val (pe_call G_is_name_or (hr.mono (by decide)) (by rfl) T.m_is_name_or T.F_is_name_or.kp T.b_is_name_or .nil pass0 (pa_cons (pv 2) (pa_cons (pe_tup (pa_cons pe_str pa_nil)) pa_nil))))) (pss_one (ps_raise rfl (takes_of rfl rfl rfl rfl) (pmk_oex T.oxRow T.iRow T.tRow G_InvalidRow_init (hr.mono (by decide)) T.b_InvalidRow_init .nil pass0 (by rfl) T.m_InvalidRow (pa_cons pe_str pa_nil)))) pss_nil)
      (pss_cons (ps_if (pt_not (pt_val (pe_call G_is_name_or (hr.mono (by decide)) (by rfl) T.m_is_name_or T.F_is_name_or.kp T.b_is_name_or .nil pass0 (pa_cons (pv 3) (pa_cons (pe_tup (pa_cons pe_str (pa_cons pe_str pa_nil))) pa_nil))))) (pss_one (ps_raise rfl (takes_of rfl rfl rfl rfl) (pmk_oex T.oxRow T.iRow T.tRow G_InvalidRow_init (hr.mono (by decide)) T.b_InvalidRow_init .nil pass0 (by rfl) T.m_InvalidRow (pa_cons pe_str pa_nil)))) pss_nil)
      (pss_cons (ps_if (pt_not (pt_val (pe_call G_is_name_or (hr.mono (by decide)) (by rfl) T.m_is_name_or T.F_is_name_or.kp T.b_is_name_or .nil pass0 (pa_cons (pv 4) (pa_cons (pe_tup (pa_cons pe_str pa_nil)) pa_nil))))) (pss_one (ps_raise rfl (takes_of rfl rfl rfl rfl) (pmk_oex T.oxRow T.iRow T.tRow G_InvalidRow_init (hr.mono (by decide)) T.b_InvalidRow_init .nil pass0 (by rfl) T.m_InvalidRow (pa_cons pe_str pa_nil)))) pss_nil)
      (pss_cons (ps_fld (pv 0) (pv 1) rfl)
      (pss_cons (ps_fld (pv 0) (pv 2) rfl)
      (pss_cons (ps_fld (pv 0) (pv 3) rfl)
      (pss_one (ps_fld (pv 0) (pv 4) rfl))))))))), ?_⟩
  have s0 : Same H H := Same.refl H
  refine ⟨_, rfl, by show 1 ≤ sizeLine; decide, fun t0 ht0 => ⟨x0, d0, t0, ["any"], rfl, h0.same (s0.trans (same_upd ht0 _)), SqT.of upd_same, by decide +kernel, fun H0 z0 => ⟨_, rfl, ?_⟩⟩⟩
  have s1 := s0.trans ((same_upd ht0 _).trans z0)
  refine ite2 (fun c0 => ?_) (fun c0 => ?_)
  · exact mk_word fun d H' s' n' e' => qe "mood" d H' (if_pos (bnot_eq c0)) (s1.trans s') (s1.free n') e'
  refine ⟨_, rfl, by show 1 ≤ sizeLine; decide, fun t1 ht1 => ⟨x1, d1, t1, ["any"], rfl, h1.same (s1.trans (same_upd ht1 _)), SqT.of upd_same, by decide +kernel, fun H1 z1 => ⟨_, rfl, ?_⟩⟩⟩
  have s2 := s1.trans ((same_upd ht1 _).trans z1)
  refine ite2 (fun c1 => ?_) (fun c1 => ?_)
  · exact mk_word fun d H' s' n' e' => qe "service" d H' ((if_neg (by rw [bnot_ne c0]; decide)).trans (if_pos (bnot_eq c1))) (s2.trans s') (s2.free n') e'
  refine ⟨_, rfl, by show 2 ≤ sizeLine; decide, fun t2 ht2 => ⟨x2, d2, t2, ["none", "any"], rfl, h2.same (s2.trans (same_upd ht2 _)), SqT.of upd_same, by decide +kernel, fun H2 z2 => ⟨_, rfl, ?_⟩⟩⟩
  have s3 := s2.trans ((same_upd ht2 _).trans z2)
  refine ite2 (fun c2 => ?_) (fun c2 => ?_)
  · exact mk_word fun d H' s' n' e' => qe "sign" d H' ((if_neg (by rw [bnot_ne c0]; decide)).trans ((if_neg (by rw [bnot_ne c1]; decide)).trans (if_pos (bnot_eq c2)))) (s3.trans s') (s3.free n') e'
  refine ⟨_, rfl, by show 1 ≤ sizeLine; decide, fun t3 ht3 => ⟨x3, d3, t3, ["same"], rfl, h3.same (s3.trans (same_upd ht3 _)), SqT.of upd_same, by decide +kernel, fun H3 z3 => ⟨_, rfl, ?_⟩⟩⟩
  have s4 := s3.trans ((same_upd ht3 _).trans z3)
  refine ite2 (fun c3 => ?_) (fun c3 => ?_)
  · exact mk_word fun d H' s' n' e' => qe "then" d H' ((if_neg (by rw [bnot_ne c0]; decide)).trans ((if_neg (by rw [bnot_ne c1]; decide)).trans ((if_neg (by rw [bnot_ne c2]; decide)).trans (if_pos (bnot_eq c3))))) (s4.trans s') (s4.free n') e'
  have hp3 := s4 _ _ hp
  refine ⟨_, rfl, _, rfl, p, T.C_Back, dx, _, rfl, hp3, T.c_Back, T.n_Back_mood, (by show 0 < 1000; decide), ?_⟩
  refine ⟨_, rfl, _, rfl, p, T.C_Back, dx, _, rfl, upd_same, T.c_Back, T.n_Back_service, (by show 1 < 1000; decide), ?_⟩
  refine ⟨_, rfl, _, rfl, p, T.C_Back, dx, _, rfl, upd_same, T.c_Back, T.n_Back_sign, (by show 2 < 1000; decide), ?_⟩
  refine ⟨_, rfl, _, rfl, p, T.C_Back, dx, _, rfl, upd_same, T.c_Back, T.n_Back_then, (by show 3 < 1000; decide), ?_⟩
  rw [upd_upd, upd_upd, upd_upd]
  refine q _ ((if_neg (by rw [bnot_ne c0]; decide)).trans ((if_neg (by rw [bnot_ne c1]; decide)).trans ((if_neg (by rw [bnot_ne c2]; decide)).trans (if_neg (by rw [bnot_ne c3]; decide))))) upd_same fun b u e nb => ?_
  rw [upd_ne nb]
  exact s4 _ _ e
def wEnd : List PyData → Option Str
  | [d0, d1, d2, d3] => if (nmD d0 || txD ["any"] d0) = false then some "mood" else if txD ["good", "bad", "any"] d1 = false then some "outcome" else if (nmD d2 || txD ["none"] d2) = false then some "sign" else if txD ["keep", "drop"] d3 = false then some "part" else none
  | _ => none
theorem ok_End_init (T : TxRows K mg) : FnOk P w K mg base (L2.CX P w) 3 T.f_End_init T.d_End_init P_End_init (spRow K T.C_End T.C_InvalidRow ["mood", "outcome", "sign", "part"] wEnd) := by
  have G_is_name := ok_is_name (P := P) (w := w) (base := base) T.toTxCheck
  have G_is_name_or := ok_is_name_or (P := P) (w := w) (base := base) T
  have G_InvalidRow_init := ok_xrow (P := P) (w := w) (base := base) T
  refine T.F_End_init.okX sc_End_init (fun vs H Q E h => ?_) (fun cdv A outer s H vs Q E hr h => ?_)
  · obtain ⟨p, dx, as, ds, rfl, hl, _⟩ := h
    exact congrArg Nat.succ hl
  obtain ⟨p, dx, as, ds, rfl, hl, hd, hp, q, qe⟩ := h
  obtain ⟨x0, x1, x2, x3, rfl⟩ : ∃ x0 x1 x2 x3, as = [x0, x1, x2, x3] := by
    match as, hl with
    | [x0, x1, x2, x3], _ => exact ⟨x0, x1, x2, x3, rfl⟩
  cases hd with
  | cons h0 hd =>
  cases hd with
  | cons h1 hd =>
  cases hd with
  | cons h2 hd =>
  cases hd with
  | cons h3 hd =>
  cases hd
  rename_i d0 d1 d2 d3
  refine ⟨_, (pss_cons (ps_if (pt_not (pt_val (pe_call G_is_name_or (hr.mono (by decide)) (by rfl) T.m_is_name_or T.F_is_name_or.kp T.b_is_name_or .nil pass0 (pa_cons (pv 1) (pa_cons (pe_tup (pa_cons pe_str pa_nil)) pa_nil))))) (pss_one (ps_raise rfl (takes_of rfl rfl rfl rfl) (pmk_oex T.oxRow T.iRow T.tRow G_InvalidRow_init (hr.mono (by decide)) T.b_InvalidRow_init .nil pass0 (by rfl) T.m_InvalidRow (pa_cons pe_str pa_nil)))) pss_nil)
      (pss_cons (ps_if (pt_cmpR (op_notInT K (room65 hr)) (pv 2) (pe_tup (pa_cons pe_str (pa_cons pe_str (pa_cons pe_str pa_nil)))) (by rfl)) (pss_one (ps_raise rfl (takes_of rfl rfl rfl rfl) (pmk_oex T.oxRow T.iRow T.tRow G_InvalidRow_init (hr.mono (by decide)) T.b_InvalidRow_init .nil pass0 (by rfl) T.m_InvalidRow (pa_cons pe_str pa_nil)))) pss_nil)
      (pss_cons (ps_if (pt_not (pt_val (pe_call G_is_name_or (hr.mono (by decide)) (by rfl) T.m_is_name_or T.F_is_name_or.kp T.b_is_name_or .nil pass0 (pa_cons (pv 3) (pa_cons (pe_tup (pa_cons pe_str pa_nil)) pa_nil))))) (pss_one (ps_raise rfl (takes_of rfl rfl rfl rfl) (pmk_oex T.oxRow T.iRow T.tRow G_InvalidRow_init (hr.mono (by decide)) T.b_InvalidRow_init .nil pass0 (by rfl) T.m_InvalidRow (pa_cons pe_str pa_nil)))) pss_nil)
      (pss_cons (ps_if (pt_cmpR (op_notInT K (room65 hr)) (pv 4) (pe_tup (pa_cons pe_str (pa_cons pe_str pa_nil))) (by rfl)) (pss_one (ps_raise rfl (takes_of rfl rfl rfl rfl) (pmk_oex T.oxRow T.iRow T.tRow G_InvalidRow_init (hr.mono (by decide)) T.b_InvalidRow_init .nil pass0 (by rfl) T.m_InvalidRow (pa_cons pe_str pa_nil)))) pss_nil)
      (pss_cons (ps_fld (pv 0) (pv 1) rfl)
      (pss_cons (ps_fld (pv 0) (pv 2) rfl)
      (pss_cons (ps_fld (pv 0) (pv 3) rfl)
      (pss_one (ps_fld (pv 0) (pv 4) rfl))))))))), ?_⟩
  have s0 : Same H H := Same.refl H
  refine ⟨_, rfl, by show 1 ≤ sizeLine; decide, fun t0 ht0 => ⟨x0, d0, t0, ["any"], rfl, h0.same (s0.trans (same_upd ht0 _)), SqT.of upd_same, by decide +kernel, fun H0 z0 => ⟨_, rfl, ?_⟩⟩⟩
  have s1 := s0.trans ((same_upd ht0 _).trans z0)
  refine ite2 (fun c0 => ?_) (fun c0 => ?_)
  · exact mk_word fun d H' s' n' e' => qe "mood" d H' (if_pos (bnot_eq c0)) (s1.trans s') (s1.free n') e'
  refine ⟨_, rfl, by show 3 ≤ sizeLine; decide, fun t1 ht1 => ⟨d1, (["good", "bad", "any"] : List Str).map PyData.str, (h1.same (s1.trans (same_upd ht1 _))).dp, .tup (SqT.of upd_same) (Dp.all_strs ["good", "bad", "any"]), h1.sh, shaped_strs (by decide +kernel), _, rfl, ?_⟩⟩
  have s2 := s1.trans (same_upd ht1 (.tup ((["good", "bad", "any"] : List Str).map V.str)))
  refine ite2 (fun c1 => ?_) (fun c1 => ?_)
  · exact mk_word fun d H' s' n' e' => qe "outcome" d H' ((if_neg (by rw [bnot_ne c0]; decide)).trans (if_pos (by rw [← any_strs]; exact bnot_eq c1))) (s2.trans s') (s2.free n') e'
  refine ⟨_, rfl, by show 1 ≤ sizeLine; decide, fun t2 ht2 => ⟨x2, d2, t2, ["none"], rfl, h2.same (s2.trans (same_upd ht2 _)), SqT.of upd_same, by decide +kernel, fun H2 z2 => ⟨_, rfl, ?_⟩⟩⟩
  have s3 := s2.trans ((same_upd ht2 _).trans z2)
  refine ite2 (fun c2 => ?_) (fun c2 => ?_)
  · exact mk_word fun d H' s' n' e' => qe "sign" d H' ((if_neg (by rw [bnot_ne c0]; decide)).trans ((if_neg (by rw [← any_strs]; rw [bnot_ne c1]; decide)).trans (if_pos (bnot_eq c2)))) (s3.trans s') (s3.free n') e'
  refine ⟨_, rfl, by show 2 ≤ sizeLine; decide, fun t3 ht3 => ⟨d3, (["keep", "drop"] : List Str).map PyData.str, (h3.same (s3.trans (same_upd ht3 _))).dp, .tup (SqT.of upd_same) (Dp.all_strs ["keep", "drop"]), h3.sh, shaped_strs (by decide +kernel), _, rfl, ?_⟩⟩
  have s4 := s3.trans (same_upd ht3 (.tup ((["keep", "drop"] : List Str).map V.str)))
  refine ite2 (fun c3 => ?_) (fun c3 => ?_)
  · exact mk_word fun d H' s' n' e' => qe "part" d H' ((if_neg (by rw [bnot_ne c0]; decide)).trans ((if_neg (by rw [← any_strs]; rw [bnot_ne c1]; decide)).trans ((if_neg (by rw [bnot_ne c2]; decide)).trans (if_pos (by rw [← any_strs]; exact bnot_eq c3))))) (s4.trans s') (s4.free n') e'
  have hp3 := s4 _ _ hp
  refine ⟨_, rfl, _, rfl, p, T.C_End, dx, _, rfl, hp3, T.c_End, T.n_End_mood, (by show 0 < 1000; decide), ?_⟩
  refine ⟨_, rfl, _, rfl, p, T.C_End, dx, _, rfl, upd_same, T.c_End, T.n_End_outcome, (by show 1 < 1000; decide), ?_⟩
  refine ⟨_, rfl, _, rfl, p, T.C_End, dx, _, rfl, upd_same, T.c_End, T.n_End_sign, (by show 2 < 1000; decide), ?_⟩
  refine ⟨_, rfl, _, rfl, p, T.C_End, dx, _, rfl, upd_same, T.c_End, T.n_End_part, (by show 3 < 1000; decide), ?_⟩
  rw [upd_upd, upd_upd, upd_upd]
  refine q _ ((if_neg (by rw [bnot_ne c0]; decide)).trans ((if_neg (by rw [← any_strs]; rw [bnot_ne c1]; decide)).trans ((if_neg (by rw [bnot_ne c2]; decide)).trans (if_neg (by rw [← any_strs]; rw [bnot_ne c3]; decide))))) upd_same fun b u e nb => ?_
  rw [upd_ne nb]
  exact s4 _ _ e
end
end My

/-! ## The law's rows: the words that may stand, rows drawn -/
namespace My
open PySem L2
def ws_begin : List (Str × List Str) := [("mark", ["none", "any"]), ("kind", ["any"]), ("mood", [])]
def ws_send : List (Str × List Str) := [("mood", ["any"]), ("service", ["any"]), ("mark", ["none", "same"])]
def ws_back : List (Str × List Str) := [("mood", ["any"]), ("service", ["any"]), ("sign", ["none", "any"]), ("then", ["same"])]
def ws_end : List (Str × List Str) := [("mood", ["any"]), ("outcome", ["good", "bad", "any"]), ("sign", ["none"]), ("part", ["keep", "drop"])]
/-- the words of a sort -/
def wsOf (s : Str) : List (Str × List Str) := if s = "begin" then ws_begin else if s = "send" then ws_send else if s = "back" then ws_back else ws_end
/-- the list of pairs stands at p, made of objects of a kind -/
def WordsAt (ok : Addr → Prop) (H : Hp) (p : Addr) (ws : List (Str × List Str)) : Prop :=
  ∃ vs : List V, H p = some (.lst vs) ∧ Paired (fun v w => ∃ (a l : Addr), v = V.ref a ∧ H a = some (.tup [.str w.1, .ref l]) ∧ H l = some (.lst (w.2.map V.str)) ∧ ok a ∧ ok l) vs ws
abbrev s_words : Stmt := top 47
abbrev N_words : List Str := ["_law_row_here"]
abbrev P_words : List Str := ["_law_row_here"]
theorem sc_words : FnScope N_words P_words (defScope s_words) := ⟨rfl, rfl, rfl, by decide +kernel, rfl, by decide +kernel, by decide +kernel⟩
structure TxWords (K : PySem.W.Frag) (mg : Str → Option Value) extends TxNames K mg where
  f_words : Addr
  d_words : FuncData
  F_words : Fun K "_law_words" "_law_words" s_words f_words d_words
  m_words : mg "_law_words" = some (.ref f_words)
  b_words : Binds K d_words P_words []
def spWords (K : PySem.W.Frag) : Sp := fun vs H Q _ => ∃ (a : Addr) (s : Str) (r : List V), vs = [.ref a] ∧ (SqL K H a (.str s :: r) ∨ SqT K H a (.str s :: r)) ∧
  ∀ (p : Addr) (H' : Hp), Same H H' → H p = none → WordsAt (fun a => H a = none) H' p (wsOf s) → Q (.ref p) H'
section
variable {P : Program} {w : World} {K : PySem.W.Frag} {mg : Str → Option Value} {base : Heap}
theorem rIx_first {K : PySem.W.Frag} {H : Hp} {a : Addr} {s : Str} {r : List V} {Q : VK} (h : SqL K H a (.str s :: r) ∨ SqT K H a (.str s :: r)) (q : Q (.str s) H) : rIx K (.ref a) (.int 0) H Q := by
  rcases h with h | h
  · exact .inl ⟨a, _, 0, _, rfl, rfl, h, atI_nat (j := 0) rfl, q⟩
  · exact .inr (.inl ⟨a, _, 0, _, rfl, rfl, h, atI_nat (j := 0) rfl, q⟩)
theorem str_eq_of {a b : Str} (h : decide (V.str a = V.str b) = true) : a = b := by
  have e := of_decide_eq_true h
  cases e
  rfl
theorem str_ne_of {a b : Str} (h : ¬ decide (V.str a = V.str b) = true) : a ≠ b := fun e => h (by rw [e]; exact decide_eq_true rfl)
theorem ok_words (T : TxWords K mg) : FnOk P w K mg base CX0 1 T.f_words T.d_words P_words (spWords K) := by
  refine T.F_words.ok sc_words (fun vs H Q E h => ?_) (fun cdv A outer s H vs Q E hr h => ?_)
  · obtain ⟨a, s, r, rfl, _⟩ := h
    rfl
  obtain ⟨a, so, r, rfl, hS, q⟩ := h
  refine ⟨_, (pss_cons (ps_if (pt_cmpR op_eq (pe_ix ix_seq (pv 0) pe_int (fun _ _ => rfl)) pe_str (nomark _)) (pss_one (ps_ret (pe_lst (pa_cons (pe_tup (pa_cons pe_str (pa_cons (pe_lst (pa_cons pe_str (pa_cons pe_str pa_nil))) pa_nil))) (pa_cons (pe_tup (pa_cons pe_str (pa_cons (pe_lst (pa_cons pe_str pa_nil)) pa_nil))) (pa_cons (pe_tup (pa_cons pe_str (pa_cons (pe_lst pa_nil) pa_nil))) pa_nil)))))) pss_nil)
      (pss_cons (ps_if (pt_cmpR op_eq (pe_ix ix_seq (pv 0) pe_int (fun _ _ => rfl)) pe_str (nomark _)) (pss_one (ps_ret (pe_lst (pa_cons (pe_tup (pa_cons pe_str (pa_cons (pe_lst (pa_cons pe_str pa_nil)) pa_nil))) (pa_cons (pe_tup (pa_cons pe_str (pa_cons (pe_lst (pa_cons pe_str pa_nil)) pa_nil))) (pa_cons (pe_tup (pa_cons pe_str (pa_cons (pe_lst (pa_cons pe_str (pa_cons pe_str pa_nil))) pa_nil))) pa_nil)))))) pss_nil)
      (pss_cons (ps_if (pt_cmpR op_eq (pe_ix ix_seq (pv 0) pe_int (fun _ _ => rfl)) pe_str (nomark _)) (pss_one (ps_ret (pe_lst (pa_cons (pe_tup (pa_cons pe_str (pa_cons (pe_lst (pa_cons pe_str pa_nil)) pa_nil))) (pa_cons (pe_tup (pa_cons pe_str (pa_cons (pe_lst (pa_cons pe_str pa_nil)) pa_nil))) (pa_cons (pe_tup (pa_cons pe_str (pa_cons (pe_lst (pa_cons pe_str (pa_cons pe_str pa_nil))) pa_nil))) (pa_cons (pe_tup (pa_cons pe_str (pa_cons (pe_lst (pa_cons pe_str pa_nil)) pa_nil))) pa_nil))))))) pss_nil)
      (pss_one (ps_ret (pe_lst (pa_cons (pe_tup (pa_cons pe_str (pa_cons (pe_lst (pa_cons pe_str pa_nil)) pa_nil))) (pa_cons (pe_tup (pa_cons pe_str (pa_cons (pe_lst (pa_cons pe_str (pa_cons pe_str (pa_cons pe_str pa_nil)))) pa_nil))) (pa_cons (pe_tup (pa_cons pe_str (pa_cons (pe_lst (pa_cons pe_str pa_nil)) pa_nil))) (pa_cons (pe_tup (pa_cons pe_str (pa_cons (pe_lst (pa_cons pe_str (pa_cons pe_str pa_nil))) pa_nil))) pa_nil)))))))))), ?_⟩
  refine ⟨_, rfl, rIx_first hS ⟨rfl, _, rfl, ?_⟩⟩
  refine ite2 (fun c => ?_) (fun c => ?_)
  · have e := str_eq_of c
    subst e
    have z0 : Same H H := Same.refl H
    refine ⟨by show 2 ≤ sizeLine; decide, fun l0 hl0 => ⟨by show 2 ≤ sizeLine; decide, fun t0 ht0 => ?_⟩⟩
    have y0 := (same_upd hl0 (.lst ((["none", "any"] : List Str).map V.str))).trans (same_upd ht0 (.tup [.str "mark", .ref l0]))
    have z1 := z0.trans y0
    have fl0 : H l0 = none := z0.free hl0
    have ft0 : H t0 = none := (z0.trans (same_upd hl0 (.lst ((["none", "any"] : List Str).map V.str)))).free ht0
    have al0 := (same_upd ht0 (.tup [.str "mark", .ref l0])) _ _ (upd_same (a := l0) (o := .lst ((["none", "any"] : List Str).map V.str)))
    refine ⟨by show 1 ≤ sizeLine; decide, fun l1 hl1 => ⟨by show 2 ≤ sizeLine; decide, fun t1 ht1 => ?_⟩⟩
    have y1 := (same_upd hl1 (.lst ((["any"] : List Str).map V.str))).trans (same_upd ht1 (.tup [.str "kind", .ref l1]))
    have z2 := z1.trans y1
    have fl1 : H l1 = none := z1.free hl1
    have ft1 : H t1 = none := (z1.trans (same_upd hl1 (.lst ((["any"] : List Str).map V.str)))).free ht1
    have al1 := (same_upd ht1 (.tup [.str "kind", .ref l1])) _ _ (upd_same (a := l1) (o := .lst ((["any"] : List Str).map V.str)))
    refine ⟨by show 0 ≤ sizeLine; decide, fun l2 hl2 => ⟨by show 2 ≤ sizeLine; decide, fun t2 ht2 => ?_⟩⟩
    have y2 := (same_upd hl2 (.lst (([] : List Str).map V.str))).trans (same_upd ht2 (.tup [.str "mood", .ref l2]))
    have z3 := z2.trans y2
    have fl2 : H l2 = none := z2.free hl2
    have ft2 : H t2 = none := (z2.trans (same_upd hl2 (.lst (([] : List Str).map V.str)))).free ht2
    have al2 := (same_upd ht2 (.tup [.str "mood", .ref l2])) _ _ (upd_same (a := l2) (o := .lst (([] : List Str).map V.str)))
    refine ⟨by show 3 ≤ sizeLine; decide, fun p hp => ?_⟩
    have yp := same_upd hp (.lst [.ref t0, .ref t1, .ref t2])
    exact q p _ (z3.trans yp) (z3.free hp) ⟨_, upd_same, .cons ⟨t0, l0, rfl, ((y1.trans y2).trans yp) _ _ upd_same, ((y1.trans y2).trans yp) _ _ al0, ft0, fl0⟩ (.cons ⟨t1, l1, rfl, (y2.trans yp) _ _ upd_same, (y2.trans yp) _ _ al1, ft1, fl1⟩ (.cons ⟨t2, l2, rfl, yp _ _ upd_same, yp _ _ al2, ft2, fl2⟩ (.nil)))⟩
  refine ⟨_, rfl, rIx_first hS ⟨rfl, _, rfl, ?_⟩⟩
  refine ite2 (fun c2 => ?_) (fun c2 => ?_)
  · have e := str_eq_of c2
    subst e
    have z0 : Same H H := Same.refl H
    refine ⟨by show 1 ≤ sizeLine; decide, fun l0 hl0 => ⟨by show 2 ≤ sizeLine; decide, fun t0 ht0 => ?_⟩⟩
    have y0 := (same_upd hl0 (.lst ((["any"] : List Str).map V.str))).trans (same_upd ht0 (.tup [.str "mood", .ref l0]))
    have z1 := z0.trans y0
    have fl0 : H l0 = none := z0.free hl0
    have ft0 : H t0 = none := (z0.trans (same_upd hl0 (.lst ((["any"] : List Str).map V.str)))).free ht0
    have al0 := (same_upd ht0 (.tup [.str "mood", .ref l0])) _ _ (upd_same (a := l0) (o := .lst ((["any"] : List Str).map V.str)))
    refine ⟨by show 1 ≤ sizeLine; decide, fun l1 hl1 => ⟨by show 2 ≤ sizeLine; decide, fun t1 ht1 => ?_⟩⟩
    have y1 := (same_upd hl1 (.lst ((["any"] : List Str).map V.str))).trans (same_upd ht1 (.tup [.str "service", .ref l1]))
    have z2 := z1.trans y1
    have fl1 : H l1 = none := z1.free hl1
    have ft1 : H t1 = none := (z1.trans (same_upd hl1 (.lst ((["any"] : List Str).map V.str)))).free ht1
    have al1 := (same_upd ht1 (.tup [.str "service", .ref l1])) _ _ (upd_same (a := l1) (o := .lst ((["any"] : List Str).map V.str)))
    refine ⟨by show 2 ≤ sizeLine; decide, fun l2 hl2 => ⟨by show 2 ≤ sizeLine; decide, fun t2 ht2 => ?_⟩⟩
    have y2 := (same_upd hl2 (.lst ((["none", "same"] : List Str).map V.str))).trans (same_upd ht2 (.tup [.str "mark", .ref l2]))
    have z3 := z2.trans y2
    have fl2 : H l2 = none := z2.free hl2
    have ft2 : H t2 = none := (z2.trans (same_upd hl2 (.lst ((["none", "same"] : List Str).map V.str)))).free ht2
    have al2 := (same_upd ht2 (.tup [.str "mark", .ref l2])) _ _ (upd_same (a := l2) (o := .lst ((["none", "same"] : List Str).map V.str)))
    refine ⟨by show 3 ≤ sizeLine; decide, fun p hp => ?_⟩
    have yp := same_upd hp (.lst [.ref t0, .ref t1, .ref t2])
    exact q p _ (z3.trans yp) (z3.free hp) ⟨_, upd_same, .cons ⟨t0, l0, rfl, ((y1.trans y2).trans yp) _ _ upd_same, ((y1.trans y2).trans yp) _ _ al0, ft0, fl0⟩ (.cons ⟨t1, l1, rfl, (y2.trans yp) _ _ upd_same, (y2.trans yp) _ _ al1, ft1, fl1⟩ (.cons ⟨t2, l2, rfl, yp _ _ upd_same, yp _ _ al2, ft2, fl2⟩ (.nil)))⟩
  refine ⟨_, rfl, rIx_first hS ⟨rfl, _, rfl, ?_⟩⟩
  refine ite2 (fun c3 => ?_) (fun c3 => ?_)
  · have e := str_eq_of c3
    subst e
    have z0 : Same H H := Same.refl H
    refine ⟨by show 1 ≤ sizeLine; decide, fun l0 hl0 => ⟨by show 2 ≤ sizeLine; decide, fun t0 ht0 => ?_⟩⟩
    have y0 := (same_upd hl0 (.lst ((["any"] : List Str).map V.str))).trans (same_upd ht0 (.tup [.str "mood", .ref l0]))
    have z1 := z0.trans y0
    have fl0 : H l0 = none := z0.free hl0
    have ft0 : H t0 = none := (z0.trans (same_upd hl0 (.lst ((["any"] : List Str).map V.str)))).free ht0
    have al0 := (same_upd ht0 (.tup [.str "mood", .ref l0])) _ _ (upd_same (a := l0) (o := .lst ((["any"] : List Str).map V.str)))
    refine ⟨by show 1 ≤ sizeLine; decide, fun l1 hl1 => ⟨by show 2 ≤ sizeLine; decide, fun t1 ht1 => ?_⟩⟩
    have y1 := (same_upd hl1 (.lst ((["any"] : List Str).map V.str))).trans (same_upd ht1 (.tup [.str "service", .ref l1]))
    have z2 := z1.trans y1
    have fl1 : H l1 = none := z1.free hl1
    have ft1 : H t1 = none := (z1.trans (same_upd hl1 (.lst ((["any"] : List Str).map V.str)))).free ht1
    have al1 := (same_upd ht1 (.tup [.str "service", .ref l1])) _ _ (upd_same (a := l1) (o := .lst ((["any"] : List Str).map V.str)))
    refine ⟨by show 2 ≤ sizeLine; decide, fun l2 hl2 => ⟨by show 2 ≤ sizeLine; decide, fun t2 ht2 => ?_⟩⟩
    have y2 := (same_upd hl2 (.lst ((["none", "any"] : List Str).map V.str))).trans (same_upd ht2 (.tup [.str "sign", .ref l2]))
    have z3 := z2.trans y2
    have fl2 : H l2 = none := z2.free hl2
    have ft2 : H t2 = none := (z2.trans (same_upd hl2 (.lst ((["none", "any"] : List Str).map V.str)))).free ht2
    have al2 := (same_upd ht2 (.tup [.str "sign", .ref l2])) _ _ (upd_same (a := l2) (o := .lst ((["none", "any"] : List Str).map V.str)))
    refine ⟨by show 1 ≤ sizeLine; decide, fun l3 hl3 => ⟨by show 2 ≤ sizeLine; decide, fun t3 ht3 => ?_⟩⟩
    have y3 := (same_upd hl3 (.lst ((["same"] : List Str).map V.str))).trans (same_upd ht3 (.tup [.str "then", .ref l3]))
    have z4 := z3.trans y3
    have fl3 : H l3 = none := z3.free hl3
    have ft3 : H t3 = none := (z3.trans (same_upd hl3 (.lst ((["same"] : List Str).map V.str)))).free ht3
    have al3 := (same_upd ht3 (.tup [.str "then", .ref l3])) _ _ (upd_same (a := l3) (o := .lst ((["same"] : List Str).map V.str)))
    refine ⟨by show 4 ≤ sizeLine; decide, fun p hp => ?_⟩
    have yp := same_upd hp (.lst [.ref t0, .ref t1, .ref t2, .ref t3])
    exact q p _ (z4.trans yp) (z4.free hp) ⟨_, upd_same, .cons ⟨t0, l0, rfl, (((y1.trans y2).trans y3).trans yp) _ _ upd_same, (((y1.trans y2).trans y3).trans yp) _ _ al0, ft0, fl0⟩ (.cons ⟨t1, l1, rfl, ((y2.trans y3).trans yp) _ _ upd_same, ((y2.trans y3).trans yp) _ _ al1, ft1, fl1⟩ (.cons ⟨t2, l2, rfl, (y3.trans yp) _ _ upd_same, (y3.trans yp) _ _ al2, ft2, fl2⟩ (.cons ⟨t3, l3, rfl, yp _ _ upd_same, yp _ _ al3, ft3, fl3⟩ (.nil))))⟩
  have e : wsOf so = ws_end := by
    unfold wsOf
    rw [if_neg (str_ne_of c), if_neg (str_ne_of c2), if_neg (str_ne_of c3)]
  rw [e] at q
  have z0 : Same H H := Same.refl H
  refine ⟨by show 1 ≤ sizeLine; decide, fun l0 hl0 => ⟨by show 2 ≤ sizeLine; decide, fun t0 ht0 => ?_⟩⟩
  have y0 := (same_upd hl0 (.lst ((["any"] : List Str).map V.str))).trans (same_upd ht0 (.tup [.str "mood", .ref l0]))
  have z1 := z0.trans y0
  have fl0 : H l0 = none := z0.free hl0
  have ft0 : H t0 = none := (z0.trans (same_upd hl0 (.lst ((["any"] : List Str).map V.str)))).free ht0
  have al0 := (same_upd ht0 (.tup [.str "mood", .ref l0])) _ _ (upd_same (a := l0) (o := .lst ((["any"] : List Str).map V.str)))
  refine ⟨by show 3 ≤ sizeLine; decide, fun l1 hl1 => ⟨by show 2 ≤ sizeLine; decide, fun t1 ht1 => ?_⟩⟩
  have y1 := (same_upd hl1 (.lst ((["good", "bad", "any"] : List Str).map V.str))).trans (same_upd ht1 (.tup [.str "outcome", .ref l1]))
  have z2 := z1.trans y1
  have fl1 : H l1 = none := z1.free hl1
  have ft1 : H t1 = none := (z1.trans (same_upd hl1 (.lst ((["good", "bad", "any"] : List Str).map V.str)))).free ht1
  have al1 := (same_upd ht1 (.tup [.str "outcome", .ref l1])) _ _ (upd_same (a := l1) (o := .lst ((["good", "bad", "any"] : List Str).map V.str)))
  refine ⟨by show 1 ≤ sizeLine; decide, fun l2 hl2 => ⟨by show 2 ≤ sizeLine; decide, fun t2 ht2 => ?_⟩⟩
  have y2 := (same_upd hl2 (.lst ((["none"] : List Str).map V.str))).trans (same_upd ht2 (.tup [.str "sign", .ref l2]))
  have z3 := z2.trans y2
  have fl2 : H l2 = none := z2.free hl2
  have ft2 : H t2 = none := (z2.trans (same_upd hl2 (.lst ((["none"] : List Str).map V.str)))).free ht2
  have al2 := (same_upd ht2 (.tup [.str "sign", .ref l2])) _ _ (upd_same (a := l2) (o := .lst ((["none"] : List Str).map V.str)))
  refine ⟨by show 2 ≤ sizeLine; decide, fun l3 hl3 => ⟨by show 2 ≤ sizeLine; decide, fun t3 ht3 => ?_⟩⟩
  have y3 := (same_upd hl3 (.lst ((["keep", "drop"] : List Str).map V.str))).trans (same_upd ht3 (.tup [.str "part", .ref l3]))
  have z4 := z3.trans y3
  have fl3 : H l3 = none := z3.free hl3
  have ft3 : H t3 = none := (z3.trans (same_upd hl3 (.lst ((["keep", "drop"] : List Str).map V.str)))).free ht3
  have al3 := (same_upd ht3 (.tup [.str "part", .ref l3])) _ _ (upd_same (a := l3) (o := .lst ((["keep", "drop"] : List Str).map V.str)))
  refine ⟨by show 4 ≤ sizeLine; decide, fun p hp => ?_⟩
  have yp := same_upd hp (.lst [.ref t0, .ref t1, .ref t2, .ref t3])
  exact q p _ (z4.trans yp) (z4.free hp) ⟨_, upd_same, .cons ⟨t0, l0, rfl, (((y1.trans y2).trans y3).trans yp) _ _ upd_same, (((y1.trans y2).trans y3).trans yp) _ _ al0, ft0, fl0⟩ (.cons ⟨t1, l1, rfl, ((y2.trans y3).trans yp) _ _ upd_same, ((y2.trans y3).trans yp) _ _ al1, ft1, fl1⟩ (.cons ⟨t2, l2, rfl, (y3.trans yp) _ _ upd_same, (y3.trans yp) _ _ al2, ft2, fl2⟩ (.cons ⟨t3, l3, rfl, yp _ _ upd_same, yp _ _ al3, ft3, fl3⟩ (.nil))))⟩
end
end My

/-! ## A row drawn -/
namespace My
open PySem L2
def POOLW : List Str := ["mark", "kind", "mood", "service", "sign"]
/-- the lists of names that a row's words are drawn from, by their words -/
structure Pools (b : Addr) (H : Hp) (pd : Addr) (pf : Str → List Str) : Prop where
  at_ : ∃ kvs : List (Key × V), At b H pd (.dK kvs) ∧ ∀ x ∈ POOLW, ∃ l, valV kvs (Sum.inr x) = some (.ref l) ∧ At b H l (.lst ((pf x).map V.str))
  ne : ∀ x ∈ POOLW, pf x ≠ [] ∧ (pf x).length ≤ 100 ∧ ∀ y ∈ pf x, isNm y = true
theorem Pools.gr {b : Addr} {H H' : Hp} {pd : Addr} {pf : Str → List Str} (h : Pools b H pd pf) (g : Gr b H H') : Pools b H' pd pf := by
  obtain ⟨kvs, h1, h2⟩ := h.at_
  refine ⟨⟨kvs, h1.gr g, fun x hx => ?_⟩, h.ne⟩
  obtain ⟨l, e, a⟩ := h2 x hx
  exact ⟨l, e, a.gr g⟩
/-- a word that may stand: one of the others, or a name where the word is none of those two -/
def fitW (y : Str) (w : Str × List Str) : Prop := y ∈ w.2 ∨ (w.1 ≠ "outcome" ∧ w.1 ≠ "part" ∧ isNm y = true)
def SORTS : List Str := ["begin", "send", "back", "end"]
/-- the words of each sort: where nothing else may stand a name is asked for; each but those two has its pool -/
def wsGood (ws : List (Str × List Str)) : Bool := ws.all fun w => decide (w.2.length ≤ 3) && (if w.1 = "outcome" ∨ w.1 = "part" then decide (w.2 ≠ []) else decide ((if w.1 = ("then" : Str) then ("mood" : Str) else w.1) ∈ POOLW))
theorem wsOf_good : ∀ s ∈ SORTS, wsGood (wsOf s) = true ∧ (wsOf s).length ≤ 4 := by decide +kernel
abbrev s_drawn_row : Stmt := top 48
abbrev N_drawn_row : List Str := ["_law_box_here", "_law_sort", "_law_pools", "_law_found", "_law_word_here", "_law_others", "_law_names_here", "_law_near"]
abbrev P_drawn_row : List Str := ["_law_box_here", "_law_sort", "_law_pools"]
theorem sc_drawn_row : FnScope N_drawn_row P_drawn_row (defScope s_drawn_row) := ⟨rfl, rfl, rfl, by decide +kernel, rfl, by decide +kernel, by decide +kernel⟩
structure TxDrawn (K : PySem.W.Frag) (mg : Str → Option Value) extends TxWords K mg where
  z_tuple : mg "tuple" = none
  f_drawn_row : Addr
  d_drawn_row : FuncData
  F_drawn_row : Fun K "_law_drawn_row" "_law_drawn_row" s_drawn_row f_drawn_row d_drawn_row
  m_drawn_row : mg "_law_drawn_row" = some (.ref f_drawn_row)
  b_drawn_row : Binds K d_drawn_row P_drawn_row []
def spDrawn : Sp := fun vs H Q _ => ∃ (b pd : Addr) (s : Str) (pf : Str → List Str), vs = [.ref b, .str s, .ref pd] ∧ Gr b H H ∧ s ∈ SORTS ∧ Pools b H pd pf ∧
  ∀ (p : Addr) (ys : List Str) (H' : Hp), Gr b H H' → H p = none → At b H' p (.tup (.str s :: ys.map V.str)) → Paired fitW ys (wsOf s) → Q (.ref p) H'
theorem paired_get {α β : Type} {R : α → β → Prop} : ∀ {xs : List α} {ys : List β} {i : Nat} {x : α}, Paired R xs ys → xs[i]? = some x → ∃ y, ys[i]? = some y ∧ R x y
  | _, _, _, _, .nil, e => by simp at e
  | _, _, 0, _, .cons r _, e => by simp at e; subst e; exact ⟨_, rfl, r⟩
  | _, _, i + 1, x, .cons _ t, e => by
    obtain ⟨y, h1, h2⟩ := paired_get (i := i) (x := x) t (by simpa using e)
    exact ⟨y, by simpa using h1, h2⟩
theorem paired_snoc {α β : Type} {R : α → β → Prop} {x : α} {y : β} : ∀ {xs : List α} {ys : List β}, Paired R xs ys → R x y → Paired R (xs ++ [x]) (ys ++ [y])
  | _, _, .nil, h => .cons h .nil
  | _, _, .cons r t, h => .cons r (paired_snoc t h)
section
variable {P : Program} {w : World} {K : PySem.W.Frag} {mg : Str → Option Value} {base : Heap}
theorem ok_drawn (T : TxDrawn K mg) : FnOk P w K mg base CX0 3 T.f_drawn_row T.d_drawn_row P_drawn_row spDrawn := by
  have G_take : FnOk P w K mg base CX0 1 T.f_take T.d_take P_take spTakeG := ok_takeG T.toTxDraw
  have G_pick : FnOk P w K mg base CX0 2 T.f_pick T.d_pick P_pick (spPickG) := ok_pickG T.toTxDraw
  have G_words : FnOk P w K mg base CX0 1 T.f_words T.d_words P_words (spWords K) := ok_words T.toTxWords
  refine T.F_drawn_row.ok sc_drawn_row (fun vs H Q E h => ?_) (fun cdv A outer s H vs Q E hr h => ?_)
  · obtain ⟨b, pd, so, pf, rfl, _⟩ := h
    rfl
  obtain ⟨b, pd, so, pf, rfl, g0, hso, hP, q⟩ := h
  refine ⟨_, (pss_cons (ps_set (i := 3) sc_drawn_row.nd rfl (Or.inl rfl) (pe_lst (pa_cons (pv 1) pa_nil)))
      (pss_cons (ps_for PassesOwn.never rfl (pi_listK K (pe_call G_words (hr.mono (by decide)) (by rfl) T.m_words T.F_words.kp T.b_words .nil pass0 (pa_cons (pe_tup (pa_cons (pv 1) pa_nil)) pa_nil))) (pg_tup rfl (pgs_cons (pg_name (i := 4) sc_drawn_row.nd rfl (Or.inl rfl)) (pgs_cons (pg_name (i := 5) sc_drawn_row.nd rfl (Or.inl rfl)) pgs_nil))) (Evl.pss_cut (ps_set (i := 6) sc_drawn_row.nd rfl (Or.inl rfl) (pe_ifExp (pt_cmpR (op_notInK K) (pv 4) (pe_tup (pa_cons pe_str (pa_cons pe_str pa_nil))) (by rfl)) (pe_dget (hu_of hr) (pv 2) (pe_ifExp (pt_cmpR op_eq (pv 4) pe_str (nomark _)) pe_str (pv 4)) (fun _ _ => rfl)) (pe_lst pa_nil)))
      (Evl.pss_cut (ps_set (i := 7) sc_drawn_row.nd rfl (Or.inl rfl) (pe_ifExp (PW.pt (pw_or (pt_cmpR (op_eqEK K hr.units0) (pv 6) (pe_lst pa_nil) (nomark _)) (pw_or1 (PW.pt (pw_and (pt_cmpR (op_neEK K hr.units0) (pv 5) (pe_lst pa_nil) (nomark _)) (pw_and1 (pt_cmpR op_eq (pe_call G_take (hr.mono (by decide)) (by rfl) T.m_take T.F_take.kp T.b_take .nil pass0 (pa_cons (pv 0) (pa_cons pe_int pa_nil))) pe_int (nomark _)))))))) (pv 5) (pv 6)))
      (pss_one (ps_expr (pe_bm PySem.F.plainAttrs_list PySem.F.slot_list_append PySem.F.type_list_append mt_append (pv 3) (pa_cons (pe_call G_pick (hr.mono (by decide)) (by rfl) T.m_pick T.F_pick.kp T.b_pick .nil pass0 (pa_cons (pv 0) (pa_cons (pv 7) pa_nil))) pa_nil)))))))
      (pss_one (ps_ret (pe_callTy (call_tupleK K) (by rfl) T.z_tuple (by decide +kernel) (pa_cons (pv 3) pa_nil)))))), ?_⟩
  refine ⟨_, rfl, by show 1 ≤ sizeLine; decide, fun fo hfo => ?_⟩
  have g1 := g0.new hfo (.lst [.str so])
  have nfb := g0.ne_new hfo
  refine ⟨_, rfl, by show 1 ≤ sizeLine; decide, fun tu htu => ⟨tu, so, [], rfl, .inr (SqT.of upd_same), fun wl H2 s2 hwl hW => ?_⟩⟩
  have y1 := (same_upd htu (.tup [.str so])).trans s2
  obtain ⟨ws, hws, prs⟩ := hW
  have fo2 : H2 fo = some (.lst [.str so]) := y1 _ _ upd_same
  obtain ⟨bw, bs, bc, hb1⟩ := g1.box
  have g2 : Gr b H H2 := g1.trans (Same.gr y1 hb1)
  have good := wsOf_good so hso
  have ff : H fo = none := hfo
  have wfo : wl ≠ fo := fun z => by rw [z, upd_ne (fun z2 => by rw [← z2, upd_same] at htu; cases htu), upd_same] at hwl; cases hwl
  have wlb : wl ≠ b := fun z => by rw [z, upd_ne (fun z2 => by rw [← z2, hb1] at htu; cases htu), hb1] at hwl; cases hwl
  refine ⟨wl, rfl, ⟨_, SqL.of hws⟩, for_list (K := K) (a := wl) (xs := ws) (fun i σ H' => ∃ (ys : List Str) (v4 v5 v6 v7 : Option V), σ = [some (.ref b), some (.str so), some (.ref pd), some (.ref fo), v4, v5, v6, v7] ∧ Gr b H H' ∧
      (∀ a o, a ≠ b → a ≠ fo → H2 a = some o → H' a = some o) ∧ H' fo = some (.lst (.str so :: ys.map V.str)) ∧ Paired fitW ys ((wsOf so).take i) ∧ ys.length = i)
    ⟨[], none, none, none, none, rfl, g2, fun _ _ _ _ e => e, fo2, .nil, rfl⟩ (fun i σ H' _ ⟨_, _, _, _, _, _, _, k, _⟩ => SqL.of (k wl _ wlb wfo hws)) ?_ ?_⟩
  · rintro i x σ H3 hi ⟨ys, v4, v5, v6, v7, rfl, g3, k3, fo3, pr3, yl⟩
    obtain ⟨⟨wd, ls⟩, hw, a, l, rfl, ha, hl, oka, okl⟩ := paired_get prs hi
    have bo : upd (upd H fo (.lst [.str so])) tu (.tup [.str so]) b = some (bx bw bs bc) := by rw [upd_ne (fun z2 => by rw [← z2, hb1] at htu; cases htu)]; exact hb1
    have foo : upd (upd H fo (.lst [.str so])) tu (.tup [.str so]) fo = some (.lst [.str so]) := by rw [upd_ne (fun z2 => by rw [← z2, upd_same] at htu; cases htu)]; exact upd_same
    have nb : ∀ {c : Addr}, upd (upd H fo (.lst [.str so])) tu (.tup [.str so]) c = none → c ≠ b ∧ c ≠ fo := fun {c} e => ⟨(ne_of_none bo e).symm, (ne_of_none foo e).symm⟩
    have ha3 := k3 a _ (nb oka).1 (nb oka).2 ha
    have hl3 : At b H3 l (.lst (ls.map V.str)) := ⟨(nb okl).1, k3 l _ (nb okl).1 (nb okl).2 hl⟩
    have gw : decide (ls.length ≤ 3) = true ∧ (if wd = "outcome" ∨ wd = "part" then decide (ls ≠ []) else decide ((if wd = ("then" : Str) then ("mood" : Str) else wd) ∈ POOLW)) = true := by
      have h1 := List.all_eq_true.mp good.1 (wd, ls) (List.mem_of_getElem? hw)
      exact Bool.and_eq_true_iff.mp h1
    have ll : ls.length ≤ 3 := of_decide_eq_true gw.1
    have nla : l ≠ fo := (nb okl).2
    refine ⟨a, _, rfl, SqT.of ha3, rfl, _, _, rfl, _, _, rfl, rfl, ?_⟩
    refine ⟨fun σ H4 => ∃ (nl : Addr) (nms : List Str), σ = [some (.ref b), some (.str so), some (.ref pd), some (.ref fo), some (.str wd), some (.ref l), some (.ref nl), v7] ∧ Gr b H3 H4 ∧ At b H4 nl (.lst (nms.map V.str)) ∧ nl ≠ fo ∧
      nms.length ≤ 100 ∧ (nms = [] → ls ≠ []) ∧ (∀ y ∈ nms, fitW y (wd, ls)), ?_, ?_⟩
    · refine ⟨_, rfl, by show 2 ≤ sizeLine; decide, fun t4 ht4 => ⟨t4, _, rfl, .inr (SqT.of upd_same), rfl, by decide +kernel, _, rfl, ?_⟩⟩
      have r3 : Gr b H3 H3 := ⟨fun _ _ _ e => e, g3.box⟩
      have g4 := r3.new ht4 (.tup [.str "outcome", .str "part"])
      have t4o : t4 ≠ fo := fun z => by rw [z, fo3] at ht4; cases ht4
      have inw : inV (.str wd) [.str "outcome", .str "part"] = (["outcome", "part"] : List Str).contains wd := inV_strs wd ["outcome", "part"]
      refine ite2 (fun c => ?_) (fun c => ?_)
      · have nin : (["outcome", "part"] : List Str).contains wd = false := by
          have c' : (!inV (.str wd) [.str "outcome", .str "part"]) = true := c
          rw [inw] at c'
          simpa using c'
        have n1 : ¬ (wd = "outcome" ∨ wd = "part") := by
          intro z
          rcases z with z | z <;> subst z <;> revert nin <;> decide +kernel
        have gw2 : (if wd = ("then" : Str) then ("mood" : Str) else wd) ∈ POOLW := by
          have h := gw.2
          rw [if_neg n1] at h
          exact of_decide_eq_true h
        obtain ⟨kvs, hk0, hks⟩ := hP.at_
        have hk := (hk0.gr g3).gr g4
        have fin : ∀ x ∈ POOLW, ∃ l', DGet (upd H3 t4 (.tup [.str "outcome", .str "part"])) pd (kV (Sum.inr x)) (some (.ref l')) ∧
            ∃ (nl : Addr) (nms : List Str), (V.ref l') = .ref nl ∧ At b (upd H3 t4 (.tup [.str "outcome", .str "part"])) nl (.lst (nms.map V.str)) ∧ nl ≠ fo ∧ nms.length ≤ 100 ∧ (nms = [] → ls ≠ []) ∧ (∀ y ∈ nms, fitW y (wd, ls)) := by
          intro x hx
          obtain ⟨l', e, hl'⟩ := hks x hx
          obtain ⟨p1, p2, p3⟩ := hP.ne x hx
          refine ⟨l', ?_, l', pf x, rfl, (hl'.gr g3).gr g4, hl'.nep ff, p2, fun z => absurd z p1, fun y hy => .inr ⟨fun z => n1 (.inl z), fun z => n1 (.inr z), p3 y hy⟩⟩
          rw [← e]
          exact DGet.k hk.at_
        refine ⟨_, rfl, _, rfl, rfl, _, rfl, ?_⟩
        refine ite2 (fun c2 => ?_) (fun c2 => ?_)
        · have e2 := str_eq_of c2
          rw [if_pos e2] at gw2
          obtain ⟨l', hd, nl, nms, e, h1, h2, h3, h4, h5⟩ := fin _ gw2
          cases e
          exact ⟨pd, _, rfl, hd, l', nms, rfl, g4, h1, h2, h3, h4, h5⟩
        · have e2 := str_ne_of c2
          rw [if_neg e2] at gw2
          obtain ⟨l', hd, nl, nms, e, h1, h2, h3, h4, h5⟩ := fin _ gw2
          cases e
          exact ⟨_, rfl, pd, _, rfl, hd, l', nms, rfl, g4, h1, h2, h3, h4, h5⟩
      · have yin : (["outcome", "part"] : List Str).contains wd = true := by
          cases h : (["outcome", "part"] : List Str).contains wd with
          | true => rfl
          | false =>
            refine absurd ?_ c
            show (!inV (.str wd) [.str "outcome", .str "part"]) = true
            rw [inw, h]
            rfl
        have y1 : wd = "outcome" ∨ wd = "part" := by
          have h1 := List.contains_iff_mem.mp yin
          rcases List.mem_cons.mp h1 with h2 | h2
          · exact .inl h2
          · exact .inr (List.mem_singleton.mp h2)
        refine ⟨Nat.zero_le _, fun el hel => ⟨el, [], rfl, g4.new hel _, .mk_new g4 hel _, fun z => ?_, Nat.zero_le _, fun _ => ?_, fun _ h => nomatch h⟩⟩
        · rw [z, upd_ne t4o.symm, fo3] at hel
          cases hel
        · have h := gw.2
          rw [if_pos y1] at h
          exact of_decide_eq_true h
    · rintro σ H4 ⟨nl, nms, rfl, g4, hn4, nnf, nl100, nne, nfit⟩
      refine ⟨fun σ H5 => ∃ (el : Addr) (es : List Str), σ = [some (.ref b), some (.str so), some (.ref pd), some (.ref fo), some (.str wd), some (.ref l), some (.ref nl), some (.ref el)] ∧ Gr b H3 H5 ∧ At b H5 el (.lst (es.map V.str)) ∧ el ≠ fo ∧
        es ≠ [] ∧ es.length ≤ 100 ∧ (∀ y ∈ es, fitW y (wd, ls)), ?_, ?_⟩
      · have gl4 : At b H4 l (.lst (ls.map V.str)) := hl3.gr g4
        have r4 : Gr b H4 H4 := ⟨fun _ _ _ e => e, g4.box⟩
        have lfit : ∀ y ∈ ls, fitW y (wd, ls) := fun y hy => .inl hy
        refine ⟨_, rfl, Nat.zero_le _, fun e1 he1 => ⟨nl, e1, nms.map V.str, rfl, rfl, (hn4.new he1).l, SqL.of upd_same, _, rfl, ?_⟩⟩
        have g5 := r4.new he1 (.lst [])
        refine ite2 (fun c => ?_) (fun c => ?_)
        · have n0 : nms = [] := by
            have c' : (nms.map V.str).isEmpty = true := c
            simpa using c'
          exact ⟨_, rfl, l, ls, rfl, g4.trans g5, gl4.gr g5, nla, nne n0, by omega, lfit⟩
        · have n0 : nms ≠ [] := fun z => c (by rw [z]; rfl)
          refine ⟨_, rfl, Nat.zero_le _, fun e2 he2 => ⟨l, e2, ls.map V.str, rfl, rfl, ((gl4.gr g5).new he2).l, SqL.of upd_same, _, rfl, ?_⟩⟩
          have g6 := g5.new he2 (.lst [])
          refine ite2 (fun c2 => ?_) (fun c2 => ?_)
          · have l0 : ls ≠ [] := fun z => by
              have c' : (!(ls.map V.str).isEmpty) = true := c2
              rw [z] at c'
              cases c'
            refine ⟨_, rfl, b, _, rfl, ⟨fun _ _ _ e => e, g6.box⟩, by decide, by decide, fun d H7 d0 d1 g7 => ⟨rfl, _, rfl, ?_⟩⟩
            refine ite2 (fun c3 => ?_) (fun c3 => ?_)
            · exact ⟨_, rfl, l, ls, rfl, (g4.trans g6).trans g7, (gl4.gr g6).gr g7, nla, l0, by omega, lfit⟩
            · exact ⟨_, rfl, nl, nms, rfl, (g4.trans g6).trans g7, (hn4.gr g6).gr g7, nnf, n0, nl100, nfit⟩
          · exact ⟨_, rfl, nl, nms, rfl, g4.trans g6, hn4.gr g6, nnf, n0, nl100, nfit⟩
      · rintro σ H5 ⟨el, es, rfl, g5, he5, nef, ene, el100, efit⟩
        have fo5 : H5 fo = some (.lst (.str so :: ys.map V.str)) := g5.keep _ _ nfb fo3
        refine ⟨_, rfl, .inl ⟨rfl, _, SqL.of fo5⟩, _, rfl, _, rfl, b, el, _, rfl, ⟨fun _ _ _ e => e, g5.box⟩, he5, by simpa using ene, by rw [List.length_map]; omega, fun x H6 hx g6 => ?_⟩
        obtain ⟨y, hy, rfl⟩ := List.mem_map.mp hx
        have fo6 := g6.keep _ _ nfb fo5
        have pr4 : Paired fitW (ys ++ [y]) ((wsOf so).take (i + 1)) := by
          rw [List.take_add_one, hw]
          exact paired_snoc pr3 (efit y hy)
        have yl4 : (ys ++ [y]).length = i + 1 := by rw [List.length_append, yl]; rfl
        have i4 : i < 4 := by
          have h1 := (List.getElem?_eq_some_iff.mp hw).1
          have h2 := good.2
          omega
        refine ⟨fo, _, _, rfl, rfl, fo6, small1000 (by simp; omega), ?_⟩
        refine ⟨ys ++ [y], _, _, _, _, rfl, (g3.trans (g5.trans g6)).mut ff nfb _, fun c o nb nf e => ?_, ?_, pr4, yl4⟩
        · rw [upd_ne nf]
          exact g6.keep c o nb (g5.keep c o nb (k3 c o nb nf e))
        · rw [upd_same, List.map_append]
          rfl
  · rintro σ H3 ⟨ys, v4, v5, v6, v7, rfl, g3, k3, fo3, pr3, yl⟩
    refine ⟨_, rfl, fo, _, rfl, .inl ⟨SqL.of fo3, fun p hp => ?_⟩⟩
    rw [show ws.length = (wsOf so).length from prs.length, List.take_length] at pr3
    exact q p ys _ (g3.new hp _) (g3.free hp) (.mk_new g3 hp _) pr3
end
end My

/-! ## d.update(e), both with keys of ints and texts -/
namespace My
open PySem PySem.Spec PyProof.Rows L2
def rUpdK : V → List V → Hp → VK → Prop := fun x xs H Q => ∃ (d e : Addr) (kvs ms : List (Key × V)), x = .ref d ∧ xs = [.ref e] ∧ H d = some (.dK kvs) ∧ H e = some (.dK ms) ∧ d ≠ e ∧ kvs.length + ms.length ≤ sizeLine ∧ Q .non (upd H d (.dK (mergeK kvs ms)))
theorem mt_update {X : Cx} : MtR X "dict.update" rUpdK := by
  intro pins s σ H x xs v us Q I rx r h
  obtain ⟨d, e, kvs, ms, rfl, rfl, hd, he, hne, hsz, q⟩ := h
  cases rx
  cases r with
  | cons r1 rr =>
  cases rr
  cases r1
  obtain ⟨z1, lo1, vs1, kv1, dt1⟩ := dk_of I.hok hd
  obtain ⟨z2, lo2, vs2, kv2, dt2⟩ := dk_of I.hok he
  have hl : (mergeK kvs ms).length ≤ sizeLine := Nat.le_trans (length_mergeK ms kvs) hsz
  refine call_meetsIn PySem.F.slot_dict_update dt1.typeIs PySem.F.entry_dict_update (PySem.F.args_dict_update_2 _ _) (meets_dict_update (mixKind X.prog X.w) d e hne lo2)
    ⟨vs1, vs2, dt1, dt2, by rw [← kv1.length, ← kv2.length]; exact hsz, fun h' hm _ hs => ⟨.non, _, ?_, rfl, q⟩⟩
  have hq : ∃ o, h'.get? d = some o := let ⟨o, _, _, ho, _⟩ := hm; ⟨o, ho⟩
  exact d_write I (by rw [hd]; exact True.intro) hs hq (dk_new hl lo1 (kv2.merge kv1) hm)
end My

/-! ## Some of some names, in a drawn order -/
namespace My
open PySem L2
abbrev s_some : Stmt := top 51
abbrev N_some : List Str := ["_law_box_here", "_law_names_here", "_law_fewest"]
abbrev P_some : List Str := ["_law_box_here", "_law_names_here", "_law_fewest"]
theorem sc_some : FnScope N_some P_some (defScope s_some) := ⟨rfl, rfl, rfl, by decide +kernel, rfl, by decide +kernel, by decide +kernel⟩
structure TxSome (K : PySem.W.Frag) (mg : Str → Option Value) extends TxNames K mg where
  f_some : Addr
  d_some : FuncData
  F_some : Fun K "_law_some" "_law_some" s_some f_some d_some
  m_some : mg "_law_some" = some (.ref f_some)
  b_some : Binds K d_some P_some []
/-- some of some: not fewer than so many, no other ones, each once where they are -/
structure SomeOf (few : Nat) (ys zs : List Str) : Prop where
  sub : ∀ z ∈ zs, z ∈ ys
  nd : ys.Nodup → zs.Nodup
  few : few ≤ zs.length
  len : zs.length ≤ ys.length
def spSome : Sp := fun vs H Q _ => ∃ (b a : Addr) (ys : List Str) (few : Nat), vs = [.ref b, .ref a, .int (few : Int)] ∧ Gr b H H ∧ At b H a (.lst (ys.map V.str)) ∧ few ≤ ys.length ∧ ys.length ≤ 100 ∧
  ∀ (p : Addr) (zs : List Str) (H' : Hp), Gr b H H' → H p = none → At b H' p (.lst (zs.map V.str)) → SomeOf few ys zs → Q (.ref p) H'
theorem cut_first {xs : List V} {i : Nat} (h : i ≤ xs.length) : cutV xs none (some (i : Int)) = xs.take i := by
  unfold cutV
  rw [HT.sIx_nat, HT.sIx_none, Nat.min_eq_left h]
  simp
section
variable {P : Program} {w : World} {K : PySem.W.Frag} {mg : Str → Option Value} {base : Heap}
theorem ok_some (T : TxSome K mg) : FnOk P w K mg base CX0 3 T.f_some T.d_some P_some spSome := by
  have G_take : FnOk P w K mg base CX0 1 T.f_take T.d_take P_take spTakeG := ok_takeG T.toTxDraw
  have G_mixed : FnOk P w K mg base CX0 2 T.f_mixed T.d_mixed P_mixed spMixed := ok_mixed T.toTxNames
  refine T.F_some.ok sc_some (fun vs H Q E h => ?_) (fun cdv A outer s H vs Q E hr h => ?_)
  · obtain ⟨b, a, ys, few, rfl, _⟩ := h
    rfl
  obtain ⟨b, a, ys, few, rfl, g0, ha, h1, h2, q⟩ := h
  refine ⟨_, (pss_one (ps_ret (pe_slice (sl_listK K) (pe_call G_mixed (hr.mono (by decide)) (by rfl) T.m_mixed T.F_mixed.kp T.b_mixed .nil pass0 (pa_cons (pv 0) (pa_cons (pv 1) pa_nil))) po_none (po_some (pe_op op_add (pv 2) (pe_call G_take (hr.mono (by decide)) (by rfl) T.m_take T.F_take.kp T.b_take .nil pass0 (pa_cons (pv 0) (pa_cons (pe_op op_sub (pe_op op_add (pe_callB (call_lenK K) (by rfl) T.z_len (by decide +kernel) (pa_cons (pv 1) pa_nil)) pe_int) (pv 2)) pa_nil)))))))), ?_⟩
  refine ⟨_, rfl, _, rfl, b, a, ys.map V.str, rfl, g0, ha, by rw [List.length_map]; omega, fun p zs H1 g1 hp aP pm => ?_⟩
  obtain ⟨ws, rfl, pw⟩ := perm_of_map pm ys rfl
  have lw : ws.length = ys.length := pw.length_eq
  have r1 : Gr b H1 H1 := ⟨fun _ _ _ e => e, g1.box⟩
  refine ⟨_, rfl, _, rfl, _, rfl, a, ys.map V.str, rfl, .inl (ha.gr g1).l, _, _, rfl, rfl, _, rfl, _, _, rfl, rfl, b, _, rfl, r1, ?_, ?_, fun d H2 d0 d1 g2 => ⟨_, _, rfl, rfl, _, rfl, p, _, rfl, (aP.gr g2).l, fun sl hsl => ?_⟩⟩
  · rw [List.length_map]; omega
  · rw [List.length_map]; omega
  rw [List.length_map] at d1
  obtain ⟨n, rfl⟩ : ∃ n : Nat, d = (n : Int) := ⟨d.toNat, by omega⟩
  have hn : few + n ≤ ws.length := by omega
  have e1 : cutV (ws.map V.str) none (some ((few : Int) + (n : Int))) = (ws.take (few + n)).map V.str := by
    rw [show (few : Int) + (n : Int) = ((few + n : Nat) : Int) by omega, cut_first (by rw [List.length_map]; exact hn), List.map_take]
  rw [e1]
  have g12 := g1.trans g2
  refine q sl (ws.take (few + n)) _ (g12.new hsl _) (g12.free hsl) (.mk_new g12 hsl _) ⟨fun z hz => pw.mem_iff.mp (List.mem_of_mem_take hz), fun nd => (pw.nodup_iff.mpr nd).sublist (List.take_sublist _ _), ?_, ?_⟩
  · rw [List.length_take]; omega
  · rw [List.length_take]; omega
end
end My

/-! ## A service's arguments drawn, in a dict -/
namespace My
open PySem L2
abbrev s_any_service : Stmt := top 52
abbrev N_any_service : List Str := ["_law_box_here", "_law_name", "_law_names_here", "_law_words_here", "_law_kinds", "_law_moods", "_law_pools", "_law_some_here", "_law_turn", "_law_rows", "_law_sort", "_law_found"]
abbrev P_any_service : List Str := ["_law_box_here", "_law_name", "_law_names_here", "_law_words_here"]
theorem sc_any_service : FnScope N_any_service P_any_service (defScope s_any_service) := ⟨rfl, rfl, rfl, by decide +kernel, rfl, by decide +kernel, by decide +kernel⟩
structure TxAnySvc (K : PySem.W.Frag) (mg : Str → Option Value) extends TxSome K mg, TxDrawn K mg where
  f_any_service : Addr
  d_any_service : FuncData
  F_any_service : Fun K "_law_any_service" "_law_any_service" s_any_service f_any_service d_any_service
  m_any_service : mg "_law_any_service" = some (.ref f_any_service)
  b_any_service : Binds K d_any_service P_any_service []
/-- the dict of a service's arguments at p -/
structure SvcD (b : Addr) (H : Hp) (p : Addr) (nm : Str) (ks ws ls : List Str) (rs : List (Str × List Str)) : Prop where
  at_ : ∃ (k w l r : Addr) (rl : List Addr), At b H p (.dK [(.inr "name", .str nm), (.inr "kinds", .ref k), (.inr "rows", .ref r), (.inr "waits", .ref w), (.inr "leaves", .ref l)]) ∧ At b H k (.lst (ks.map V.str)) ∧ At b H w (.lst (ws.map V.str)) ∧ At b H l (.lst (ls.map V.str)) ∧
    At b H r (.lst (rl.map V.ref)) ∧ Paired (fun a r => At b H a (.tup (.str r.1 :: r.2.map V.str))) rl rs
theorem at_all {b : Addr} {H H' : Hp} (g : Gr b H H') : ∀ {rl : List Addr} {rs : List (Str × List Str)}, Paired (fun a r => At b H a (.tup (.str r.1 :: r.2.map V.str))) rl rs → Paired (fun a r => At b H' a (.tup (.str r.1 :: r.2.map V.str))) rl rs
  | _, _, .nil => .nil
  | _, _, .cons h t => .cons (h.gr g) (at_all g t)
theorem SvcD.gr {b : Addr} {H H' : Hp} {p : Addr} {nm : Str} {ks ws ls : List Str} {rs : List (Str × List Str)} (h : SvcD b H p nm ks ws ls rs) (g : Gr b H H') : SvcD b H' p nm ks ws ls rs := by
  obtain ⟨k, w, l, r, rl, h1, h2, h3, h4, h5, h6⟩ := h.at_
  exact ⟨k, w, l, r, rl, h1.gr g, h2.gr g, h3.gr g, h4.gr g, h5.gr g, at_all g h6⟩
/-- the same, where its dict and its lists are such as N tells -/
structure SvcN (N : Addr → Prop) (b : Addr) (H : Hp) (p : Addr) (nm : Str) (ks ws ls : List Str) (rs : List (Str × List Str)) : Prop where
  at_ : ∃ (k w l r : Addr) (rl : List Addr), (At b H p (.dK [(.inr "name", .str nm), (.inr "kinds", .ref k), (.inr "rows", .ref r), (.inr "waits", .ref w), (.inr "leaves", .ref l)]) ∧ At b H k (.lst (ks.map V.str)) ∧ At b H w (.lst (ws.map V.str)) ∧ At b H l (.lst (ls.map V.str)) ∧
    At b H r (.lst (rl.map V.ref)) ∧ Paired (fun a r => At b H a (.tup (.str r.1 :: r.2.map V.str))) rl rs) ∧ N p ∧ N k ∧ N w ∧ N l ∧ N r
theorem SvcN.toD {N : Addr → Prop} {b : Addr} {H : Hp} {p : Addr} {nm : Str} {ks ws ls : List Str} {rs : List (Str × List Str)} (h : SvcN N b H p nm ks ws ls rs) : SvcD b H p nm ks ws ls rs := by
  obtain ⟨k, w, l, r, rl, h, _⟩ := h.at_
  exact ⟨k, w, l, r, rl, h⟩
theorem SvcN.gr {N : Addr → Prop} {b : Addr} {H H' : Hp} {p : Addr} {nm : Str} {ks ws ls : List Str} {rs : List (Str × List Str)} (h : SvcN N b H p nm ks ws ls rs) (g : Gr b H H') : SvcN N b H' p nm ks ws ls rs := by
  obtain ⟨k, w, l, r, rl, ⟨h1, h2, h3, h4, h5, h6⟩, n⟩ := h.at_
  exact ⟨k, w, l, r, rl, ⟨h1.gr g, h2.gr g, h3.gr g, h4.gr g, h5.gr g, at_all g h6⟩, n⟩
theorem SvcN.imp {N M : Addr → Prop} {b : Addr} {H : Hp} {p : Addr} {nm : Str} {ks ws ls : List Str} {rs : List (Str × List Str)} (h : SvcN N b H p nm ks ws ls rs) (i : ∀ a, N a → M a) : SvcN M b H p nm ks ws ls rs := by
  obtain ⟨k, w, l, r, rl, h, n1, n2, n3, n4, n5⟩ := h.at_
  exact ⟨k, w, l, r, rl, h, i _ n1, i _ n2, i _ n3, i _ n4, i _ n5⟩
/-- a list of others may be changed -/
theorem SvcN.put {N : Addr → Prop} {b D : Addr} {H : Hp} {p : Addr} {nm : Str} {ks ws ls : List Str} {rs : List (Str × List Str)} {xs : List V} (h : SvcN N b H p nm ks ws ls rs) (hD : H D = some (.lst xs)) (nD : ∀ a, N a → a ≠ D) (o : HO) : SvcN N b (upd H D o) p nm ks ws ls rs := by
  obtain ⟨k, w, l, r, rl, ⟨h1, h2, h3, h4, h5, h6⟩, n1, n2, n3, n4, n5⟩ := h.at_
  have pt : ∀ {a : Addr} {u : HO}, At b H a u → a ≠ D → At b (upd H D o) a u := fun h n => ⟨h.ne, by rw [upd_ne n]; exact h.at_⟩
  have all : ∀ {rl : List Addr} {rs : List (Str × List Str)}, Paired (fun a r => At b H a (.tup (.str r.1 :: r.2.map V.str))) rl rs → Paired (fun a r => At b (upd H D o) a (.tup (.str r.1 :: r.2.map V.str))) rl rs := by
    intro rl rs h
    induction h with
    | nil => exact .nil
    | cons r _ ih => exact .cons (pt r fun z => by have e := r.at_; rw [z, hD] at e; cases e) ih
  exact ⟨k, w, l, r, rl, ⟨pt h1 (nD _ n1), pt h2 (nD _ n2), pt h3 (nD _ n3), pt h4 (nD _ n4), pt h5 (nD _ n5), all h6⟩, n1, n2, n3, n4, n5⟩
def spAnySvc : Sp := fun vs H Q _ => ∃ (b na wa : Addr) (nm : Str) (names words : List Str), vs = [.ref b, .str nm, .ref na, .ref wa] ∧ Gr b H H ∧ At b H na (.lst (names.map V.str)) ∧ At b H wa (.lst (words.map V.str)) ∧ words.length = 7 ∧
  names ≠ [] ∧ names.length ≤ 12 ∧ (∀ y ∈ names, isNm y = true) ∧ (∀ y ∈ words, isNm y = true) ∧
  ∀ (p : Addr) (ks ws ls : List Str) (rs : List (Str × List Str)) (H' : Hp), Gr b H H' → H p = none → SvcN (fun a => H a = none) b H' p nm ks ws ls rs → SomeOf 1 (words.take 2) ks → SomeOf 0 names ws → SomeOf 0 names ls → rs.length ≤ 5 → (∀ r ∈ rs, r.1 ∈ SORTS ∧ Paired fitW r.2 (wsOf r.1)) → Q (.ref p) H'
theorem isNm_calm : isNm "calm" = true := by decide +kernel
theorem cut_mid (a b c d e f g : V) : cutV [a, b, c, d, e, f, g] (some 2) (some 4) = [c, d] := rfl
theorem cut_46 (a b c d e f g : V) : cutV [a, b, c, d, e, f, g] (some 4) (some 6) = [e, f] := rfl
theorem cut_57 (a b c d e f g : V) : cutV [a, b, c, d, e, f, g] (some 5) (some 7) = [f, g] := rfl
theorem cut_02 (a b c d e f g : V) : cutV [a, b, c, d, e, f, g] none (some 2) = [a, b] := rfl
theorem At.put {b p a : Addr} {H : Hp} {xs : List V} {kvs : List (Key × V)} (h : At b H a (.lst xs)) (hp : H p = some (.dK kvs)) (o : HO) : At b (upd H p o) a (.lst xs) := ⟨h.ne, by
  rw [upd_ne (fun z => by have e := h.at_; rw [z, hp] at e; cases e)]
  exact h.at_⟩
theorem paired_len' {α β : Type} {R : α → β → Prop} : ∀ {xs : List α} {ys : List β}, Paired R xs ys → xs.length = ys.length
  | _, _, .nil => rfl
  | _, _, .cons _ t => by rw [List.length_cons, List.length_cons, paired_len' t]
theorem paired_imp' {α β : Type} {R S : α → β → Prop} (h : ∀ x y, R x y → S x y) : ∀ {xs : List α} {ys : List β}, Paired R xs ys → Paired S xs ys
  | _, _, .nil => .nil
  | _, _, .cons r t => .cons (h _ _ r) (paired_imp' h t)
def poolF (ks names : List Str) (x2 x3 x4 x5 x6 : Str) : Str → List Str := fun x => if x = "mark" then [x4, x5] else if x = "kind" then ks else if x = "mood" then [("calm" : Str), x2, x3] else if x = "service" then names else [x5, x6]
theorem pools_of {b pd s46 kp mp sv s57 : Addr} {H : Hp} {ks names : List Str} {x0 x1 x2 x3 x4 x5 x6 : Str} (pdb : pd ≠ b) (d : H pd = some (.dK (mergeK [] [(.inr "mark", .ref s46), (.inr "kind", .ref kp), (.inr "mood", .ref mp), (.inr "service", .ref sv), (.inr "sign", .ref s57)])))
    (p46 : At b H s46 (.lst ([x4, x5].map V.str))) (pK : At b H kp (.lst (ks.map V.str))) (pM : At b H mp (.lst ([("calm" : Str), x2, x3].map V.str))) (pS : At b H sv (.lst (names.map V.str))) (p57 : At b H s57 (.lst ([x5, x6].map V.str)))
    (nmW : ∀ y ∈ [x0, x1, x2, x3, x4, x5, x6], isNm y = true) (nmN : ∀ y ∈ names, isNm y = true) (sK : SomeOf 1 [x0, x1] ks) (n0 : names ≠ []) (n12 : names.length ≤ 12) : Pools b H pd (poolF ks names x2 x3 x4 x5 x6) := by
  refine ⟨⟨_, ⟨pdb, d⟩, fun x hx => ?_⟩, fun x hx => ?_⟩
  · simp only [POOLW, List.mem_cons, List.not_mem_nil, or_false] at hx
    rcases hx with rfl | rfl | rfl | rfl | rfl
    · exact ⟨s46, rfl, p46⟩
    · exact ⟨kp, rfl, pK⟩
    · exact ⟨mp, rfl, pM⟩
    · exact ⟨sv, rfl, pS⟩
    · exact ⟨s57, rfl, p57⟩
  · have kk : ks ≠ [] ∧ ks.length ≤ 100 ∧ ∀ y ∈ ks, isNm y = true := by
      refine ⟨fun z => ?_, ?_, fun y hy => ?_⟩
      · have := sK.few
        rw [z] at this
        exact absurd this (by decide)
      · have := sK.len
        simp at this
        omega
      · have := sK.sub y hy
        refine nmW y ?_
        simp at this
        rcases this with rfl | rfl <;> simp
    simp only [POOLW, List.mem_cons, List.not_mem_nil, or_false] at hx
    rcases hx with rfl | rfl | rfl | rfl | rfl
    · refine ⟨fun z => (nomatch z), by show 2 ≤ 100; decide, fun y hy => nmW y ?_⟩
      have hy' : y ∈ [x4, x5] := hy
      simp at hy'
      rcases hy' with rfl | rfl <;> simp
    · exact kk
    · refine ⟨fun z => (nomatch z), by show 3 ≤ 100; decide, fun y hy => ?_⟩
      have hy' : y ∈ [("calm" : Str), x2, x3] := hy
      rcases List.mem_cons.mp hy' with z | z
      · rw [z]
        exact isNm_calm
      · refine nmW y ?_
        simp at z
        rcases z with rfl | rfl <;> simp
    · exact ⟨n0, by show names.length ≤ 100; omega, nmN⟩
    · refine ⟨fun z => (nomatch z), by show 2 ≤ 100; decide, fun y hy => nmW y ?_⟩
      have hy' : y ∈ [x5, x6] := hy
      simp at hy'
      rcases hy' with rfl | rfl <;> simp
theorem At.putT {b p a : Addr} {H : Hp} {xs : List V} {kvs : List (Key × V)} (h : At b H a (.tup xs)) (hp : H p = some (.dK kvs)) (o : HO) : At b (upd H p o) a (.tup xs) := ⟨h.ne, by
  rw [upd_ne (fun z => by have e := h.at_; rw [z, hp] at e; cases e)]
  exact h.at_⟩
def SORTL : List Str := ["begin", "send", "back", "end"]
section
variable {P : Program} {w : World} {K : PySem.W.Frag} {mg : Str → Option Value} {base : Heap}
theorem ok_any_service (T : TxAnySvc K mg) : FnOk P w K mg base CX0 4 T.f_any_service T.d_any_service P_any_service spAnySvc := by
  have G_take : FnOk P w K mg base CX0 1 T.f_take T.d_take P_take spTakeG := ok_takeG T.toTxDraw
  have G_pick : FnOk P w K mg base CX0 2 T.f_pick T.d_pick P_pick spPickG := ok_pickG T.toTxDraw
  have G_some : FnOk P w K mg base CX0 3 T.f_some T.d_some P_some spSome := ok_some T.toTxSome
  have G_drawn_row : FnOk P w K mg base CX0 3 T.f_drawn_row T.d_drawn_row P_drawn_row spDrawn := ok_drawn T.toTxDrawn
  refine T.F_any_service.ok sc_any_service (fun vs H Q E h => ?_) (fun cdv A outer s H vs Q E hr h => ?_)
  · obtain ⟨b, na, wa, nm, names, words, rfl, _⟩ := h
    rfl
  obtain ⟨b, na, wa, nm, names, words, rfl, g0, hna, hwa, w7, n0, n12, nmN, nmW, q⟩ := h
  refine ⟨_, (pss_cons (ps_par (i := 4) (j := 5) (by rfl) sc_any_service.nd rfl rfl (by decide) rfl rfl (pa_cons (pe_call G_some (hr.mono (by decide)) (by rfl) T.m_some T.F_some.kp T.b_some .nil pass0 (pa_cons (pv 0) (pa_cons (pe_slice (sl_listK K) (pv 3) po_none (po_some pe_int)) (pa_cons pe_int pa_nil)))) (pa_cons (pe_op op_cat (pe_lst (pa_cons pe_str pa_nil)) (pe_slice (sl_listK K) (pv 3) (po_some pe_int) (po_some pe_int))) pa_nil)) (by rfl))
      (pss_cons (ps_set (i := 6) sc_any_service.nd rfl (Or.inr rfl) (pe_disp (pps_cons pe_str (pe_slice (sl_listK K) (pv 3) (po_some pe_int) (po_some pe_int)) (pps_cons pe_str (pv 4) (pps_cons pe_str (pv 5) (pps_cons pe_str (pe_callTy (call_listK K) (by rfl) T.z_list (by decide +kernel) (pa_cons (pv 2) pa_nil)) (pps_cons pe_str (pe_slice (sl_listK K) (pv 3) (po_some pe_int) (po_some pe_int)) pps_nil))))) rfl rfl (fun h => nomatch h) (Nat.le_of_ble_eq_true rfl)))
      (pss_cons (ps_setLc (i := 7) (own := [("_law_turn", 8)]) (g := gName 8) (by rfl) sc_any_service.nd rfl rfl (sw_true rfl rfl rfl (by decide +kernel)) (pi_range1 (by rfl) T.z_range (pa_cons (pe_call G_take (hr.mono (by decide)) (by rfl) T.m_take T.F_take.kp T.b_take .nil pass0 (pa_cons (pv 0) (pa_cons pe_int pa_nil))) pa_nil)) (blkOk_by (own := [("_law_turn", 8)]) (N := N_any_service) (sc := defScope s_any_service) (by decide +kernel)) (fun _ _ _ _ _ => (pg_name (i := 8) sc_any_service.nd rfl (Or.inl rfl))) (fun _ _ _ _ _ => pts_nil) (fun _ _ _ _ _ => (pe_call G_pick (hr.mono (by decide)) (by rfl) T.m_pick T.F_pick.kp T.b_pick .nil pass0 (pa_cons (pv 0) (pa_cons (pe_lst (pa_cons pe_str (pa_cons pe_str (pa_cons pe_str (pa_cons pe_str pa_nil))))) pa_nil)))))
      (pss_cons (ps_setLc (i := 9) (own := [("_law_sort", 10)]) (g := gName 10) (by rfl) sc_any_service.nd rfl rfl (sw_true rfl rfl rfl (by decide +kernel)) (pi_listK K (pv 7)) (blkOk_by (own := [("_law_sort", 10)]) (N := N_any_service) (sc := defScope s_any_service) (by decide +kernel)) (fun _ _ _ _ _ => (pg_name (i := 10) sc_any_service.nd rfl (Or.inl rfl))) (fun _ _ _ _ _ => pts_nil) (fun _ _ _ _ _ => (pe_call G_drawn_row (hr.mono (by decide)) (by rfl) T.m_drawn_row T.F_drawn_row.kp T.b_drawn_row .nil pass0 (pa_cons (pv 0) (pa_cons (pv 10) (pa_cons (pv 6) pa_nil))))))
      (pss_cons (ps_set (i := 11) sc_any_service.nd rfl (Or.inl rfl) (pe_disp (pps_cons pe_str (pv 1) (pps_cons pe_str (pv 4) (pps_cons pe_str (pv 9) pps_nil))) rfl rfl (fun h => nomatch h) (Nat.le_of_ble_eq_true rfl)))
      (pss_cons (ps_expr (pe_bm PySem.F.plainAttrs_dict PySem.F.slot_dict_update PySem.F.type_dict_update mt_update (pv 11) (pa_cons (pe_disp (pps_cons pe_str (pe_call G_some (hr.mono (by decide)) (by rfl) T.m_some T.F_some.kp T.b_some .nil pass0 (pa_cons (pv 0) (pa_cons (pv 2) (pa_cons pe_int pa_nil)))) (pps_cons pe_str (pe_call G_some (hr.mono (by decide)) (by rfl) T.m_some T.F_some.kp T.b_some .nil pass0 (pa_cons (pv 0) (pa_cons (pv 2) (pa_cons pe_int pa_nil)))) pps_nil)) rfl rfl (fun h => nomatch h) (Nat.le_of_ble_eq_true rfl)) pa_nil)))
      (pss_one (ps_ret (pv 11))))))))), ?_⟩
  obtain ⟨x0, x1, x2, x3, x4, x5, x6, rfl⟩ : ∃ x0 x1 x2 x3 x4 x5 x6, words = [x0, x1, x2, x3, x4, x5, x6] := by
    match words, w7 with
    | [x0, x1, x2, x3, x4, x5, x6], _ => exact ⟨x0, x1, x2, x3, x4, x5, x6, rfl⟩
  refine ⟨_, rfl, _, rfl, 2, rfl, wa, _, rfl, hwa.l, fun s1 hs1 => ?_⟩
  have g1 := g0.new hs1 (.lst (cutV ([x0, x1, x2, x3, x4, x5, x6].map V.str) none (some 2)))
  have a1 : At b _ s1 (.lst ([x0, x1].map V.str)) := .mk_new g0 hs1 _
  refine ⟨b, s1, [x0, x1], 1, rfl, ⟨fun _ _ _ e => e, g1.box⟩, a1, by simp, by simp, fun kp ks H2 g2 hkp aK sK => ?_⟩
  have g12 := g1.trans g2
  refine ⟨by show 1 ≤ sizeLine; decide, fun c1 hc1 => ?_⟩
  have g3 := g12.new hc1 (.lst [.str "calm"])
  refine ⟨_, rfl, 2, rfl, 4, rfl, wa, _, rfl, (hwa.gr g3).l, fun c2 hc2 => ?_⟩
  have g4 := g3.new hc2 (.lst (cutV ([x0, x1, x2, x3, x4, x5, x6].map V.str) (some 2) (some 4)))
  refine ⟨c1, c2, [.str "calm"], [.str x2, .str x3], rfl, rfl, (same_upd hc2 _) _ _ upd_same, upd_same, by show 3 ≤ sizeLine; decide, fun mp hmp => ?_⟩
  have g5 := g4.new hmp (.lst ([("calm" : Str), x2, x3].map V.str))
  have aM : At b _ mp (.lst ([("calm" : Str), x2, x3].map V.str)) := .mk_new g4 hmp _
  have aK5 := ((aK.new hc1 (u := .lst [.str "calm"])).new hc2 (u := .lst (cutV ([x0, x1, x2, x3, x4, x5, x6].map V.str) (some 2) (some 4)))).new hmp (u := .lst ([("calm" : Str), x2, x3].map V.str))
  refine ⟨_, _, rfl, ?_⟩
  intro pd hpd
  have g6 := g5.new hpd (.dK [])
  dsimp only [tPairs]
  refine ⟨_, rfl, 4, rfl, 6, rfl, wa, _, rfl, (hwa.gr g6).l, fun s46 h46 => ?_⟩
  have g7 := g6.new h46 (.lst (cutV ([x0, x1, x2, x3, x4, x5, x6].map V.str) (some 4) (some 6)))
  refine ⟨_, rfl, _, rfl, _, rfl, na, _, rfl, .inl (hna.gr g7).l, fun sv hsv => ?_⟩
  have g8 := g7.new hsv (.lst (names.map V.str))
  refine ⟨_, rfl, 5, rfl, 7, rfl, wa, _, rfl, (hwa.gr g8).l, fun s57 h57 => ?_⟩
  have g9 := g8.new h57 (.lst (cutV ([x0, x1, x2, x3, x4, x5, x6].map V.str) (some 5) (some 7)))
  have d9 : upd (upd (upd (upd (upd (upd (upd H2 c1 (.lst [.str "calm"])) c2 (.lst (cutV ([x0, x1, x2, x3, x4, x5, x6].map V.str) (some 2) (some 4)))) mp (.lst ([("calm" : Str), x2, x3].map V.str))) pd (.dK [])) s46 (.lst (cutV ([x0, x1, x2, x3, x4, x5, x6].map V.str) (some 4) (some 6)))) sv (.lst (names.map V.str))) s57 (.lst (cutV ([x0, x1, x2, x3, x4, x5, x6].map V.str) (some 5) (some 7))) pd = some (.dK []) := (same_upd h57 _) _ _ ((same_upd hsv _) _ _ ((same_upd h46 _) _ _ upd_same))
  refine ⟨d9, [(.inr "mark", .ref s46), (.inr "kind", .ref kp), (.inr "mood", .ref mp), (.inr "service", .ref sv), (.inr "sign", .ref s57)], rfl, by simp, ?_⟩
  have pdb : pd ≠ b := g5.ne_new hpd
  have g10 := g9.mut (g5.free hpd) pdb (.dK (mergeK [] [(.inr "mark", .ref s46), (.inr "kind", .ref kp), (.inr "mood", .ref mp), (.inr "service", .ref sv), (.inr "sign", .ref s57)]))
  have p46 := ((((At.mk_new g6 h46 (.lst ([x4, x5].map V.str))).new hsv (u := .lst (names.map V.str))).new h57 (u := .lst ([x5, x6].map V.str)))).put d9 (.dK (mergeK [] [(.inr "mark", .ref s46), (.inr "kind", .ref kp), (.inr "mood", .ref mp), (.inr "service", .ref sv), (.inr "sign", .ref s57)]))
  have pK := ((((aK5.new hpd (u := .dK [])).new h46 (u := .lst ([x4, x5].map V.str))).new hsv (u := .lst (names.map V.str))).new h57 (u := .lst ([x5, x6].map V.str))).put d9 (.dK (mergeK [] [(.inr "mark", .ref s46), (.inr "kind", .ref kp), (.inr "mood", .ref mp), (.inr "service", .ref sv), (.inr "sign", .ref s57)]))
  have pM := ((((aM.new hpd (u := .dK [])).new h46 (u := .lst ([x4, x5].map V.str))).new hsv (u := .lst (names.map V.str))).new h57 (u := .lst ([x5, x6].map V.str))).put d9 (.dK (mergeK [] [(.inr "mark", .ref s46), (.inr "kind", .ref kp), (.inr "mood", .ref mp), (.inr "service", .ref sv), (.inr "sign", .ref s57)]))
  have pS := ((At.mk_new g7 hsv (.lst (names.map V.str))).new h57 (u := .lst ([x5, x6].map V.str))).put d9 (.dK (mergeK [] [(.inr "mark", .ref s46), (.inr "kind", .ref kp), (.inr "mood", .ref mp), (.inr "service", .ref sv), (.inr "sign", .ref s57)]))
  have p57 := (At.mk_new g8 h57 (.lst ([x5, x6].map V.str))).put d9 (.dK (mergeK [] [(.inr "mark", .ref s46), (.inr "kind", .ref kp), (.inr "mood", .ref mp), (.inr "service", .ref sv), (.inr "sign", .ref s57)]))
  have pools := pools_of pdb upd_same p46 pK pM pS p57 nmW nmN sK n0 n12
  refine ⟨_, rfl, b, 6, rfl, ⟨fun _ _ _ e => e, g10.box⟩, by decide, by decide, fun n H11 n0' n1 g11 => ⟨n, rfl, by omega, by omega, fun D hD => ?_⟩⟩
  have pools11 := pools.gr g11
  have pK11 := pK.gr g11
  have G11 := g10.trans g11
  clear p46 pM pS p57 pools pK d9 hpd h46 hsv h57 hc1 hc2 hmp aM aK5 g6 g7 g8 g9 g3 g4 g5
  have r11 : Gr b H11 H11 := ⟨fun _ _ _ e => e, g11.box⟩
  clear g11 g10
  have nDb : D ≠ b := r11.ne_new hD
  refine lc_range (lo := 0) (n := n.toNat) (fun i H' => Gr b H11 H' ∧ ∃ ss : List Str, H' D = some (.lst (ss.map V.str)) ∧ ss.length = i ∧ ∀ s ∈ ss, s ∈ SORTS) ⟨r11.new hD _, [], upd_same, rfl, fun _ h => nomatch h⟩ ?_ ?_
  · rintro i H' hi ⟨g, ss, hD', ln, hss⟩
    refine ⟨rfl, ?_⟩
    refine ⟨_, rfl, by show 4 ≤ sizeLine; decide, fun l hl => ?_⟩
    have gl := g.new hl (.lst (SORTL.map V.str))
    refine ⟨b, l, _, rfl, ⟨fun _ _ _ e => e, gl.box⟩, .mk_new g hl (.lst (SORTL.map V.str)), by simp [SORTL], by show 4 ≤ 1000; decide, fun x H2' hx g2' => ?_⟩
    obtain ⟨so, hso, rfl⟩ := List.mem_map.mp hx
    have hD2 : H2' D = some (.lst (ss.map V.str)) := g2'.keep _ _ nDb (by rw [upd_ne (ne_of_none hD' hl)]; exact hD')
    refine ⟨ss.map V.str, hD2, small1000 (by rw [List.length_map]; omega), (gl.trans g2').mut hD nDb _, ss ++ [so], by rw [upd_same, List.map_append]; rfl, by rw [List.length_append, ln]; rfl, fun y hy => ?_⟩
    rcases List.mem_append.mp hy with hy | hy
    · exact hss y hy
    · rw [List.mem_singleton.mp hy]; exact hso
  · rintro H12 ⟨g12', ss, hD12, ln, hss⟩
    have r12 : Gr b H12 H12 := ⟨fun _ _ _ e => e, g12'.box⟩
    have n5 : ss.length ≤ 5 := by omega
    refine ⟨_, rfl, D, rfl, ⟨_, SqL.of hD12⟩, fun D2 hD2 => ?_⟩
    have nD2b : D2 ≠ b := r12.ne_new hD2
    refine lc_list (K := K) (a := D) (xs := ss.map V.str) (fun i H' => Gr b H12 H' ∧ ∃ (rl : List Addr) (rs : List (Str × List Str)), H' D2 = some (.lst (rl.map V.ref)) ∧ rl.length = i ∧ Paired (fun a r => At b H' a (.tup (.str r.1 :: r.2.map V.str))) rl rs ∧ ∀ r ∈ rs, r.1 ∈ SORTS ∧ Paired fitW r.2 (wsOf r.1))
      ⟨r12.new hD2 _, [], [], upd_same, rfl, .nil, fun _ h => nomatch h⟩ (fun i H' _ h => SqL.of (h.1.keep _ _ nDb hD12)) ?_ ?_
    · rintro i x H13 hx ⟨g13, rl, rs, h13, rn, prs, good⟩
      rw [List.getElem?_map] at hx
      obtain ⟨so, hso1, rfl⟩ : ∃ so, ss[i]? = some so ∧ V.str so = x := by
        cases e : ss[i]? with
        | none => rw [e] at hx; cases hx
        | some z => rw [e] at hx; cases hx; exact ⟨z, rfl, rfl⟩
      have i5 : i < 5 := by have := (List.getElem?_eq_some_iff.mp hso1).1; omega
      have hso := hss so (List.mem_of_getElem? hso1)
      refine ⟨rfl, ?_⟩
      refine ⟨_, rfl, _, rfl, _, rfl, b, pd, so, _, rfl, ⟨fun _ _ _ e => e, g13.box⟩, hso, (pools11.gr g12').gr g13, fun rp ws H14 g14 hrp aP pr => ?_⟩
      have h14 := g14.keep _ _ nD2b h13
      have put : ∀ {a : Addr} {r : Str × List Str}, At b H14 a (.tup (.str r.1 :: r.2.map V.str)) → At b (upd H14 D2 (.lst (rl.map V.ref ++ [.ref rp]))) a (.tup (.str r.1 :: r.2.map V.str)) := fun {a r} h => ⟨h.ne, by
        rw [upd_ne (fun z => by have e := h.at_; rw [z, h14] at e; cases e)]
        exact h.at_⟩
      refine ⟨rl.map V.ref, h14, small1000 (by rw [List.length_map]; omega), (g13.trans g14).mut hD2 nD2b _, rl ++ [rp], rs ++ [(so, ws)], by rw [upd_same, List.map_append]; rfl, by rw [List.length_append, rn]; rfl, paired_snoc (paired_imp' (fun a r h => put (h.gr g14)) prs) (put (r := (so, ws)) aP), fun r hr' => ?_⟩
      rcases List.mem_append.mp hr' with hy | hy
      · exact good r hy
      · rw [List.mem_singleton.mp hy]; exact ⟨hso, pr⟩
    · rintro H13 ⟨g13, rl, rs, h13, rn, prs, good⟩
      have G13 := (G11.trans g12').trans g13
      have aR : At b H13 D2 (.lst (rl.map V.ref)) := ⟨nD2b, h13⟩
      intro fp hfp
      dsimp only [tPairs]
      have g20 := G13.new hfp (.dK [])
      refine ⟨_, rfl, _, rfl, _, rfl, upd_same, [(.inr "name", .str nm), (.inr "kinds", .ref kp), (.inr "rows", .ref D2)], rfl, by simp, ?_⟩
      have fpb : fp ≠ b := G13.ne_new hfp
      have fp0 : H fp = none := G13.free hfp
      have g21 := g20.mut fp0 fpb (.dK (mergeK [] [(.inr "name", .str nm), (.inr "kinds", .ref kp), (.inr "rows", .ref D2)]))
      have k13 := (pK11.gr g12').gr g13
      have k21 := (k13.new hfp (u := .dK [])).put upd_same (.dK (mergeK [] [(.inr "name", .str nm), (.inr "kinds", .ref kp), (.inr "rows", .ref D2)]))
      have r21 := (aR.new hfp (u := .dK [])).put upd_same (.dK (mergeK [] [(.inr "name", .str nm), (.inr "kinds", .ref kp), (.inr "rows", .ref D2)]))
      have t21 := paired_imp' (S := fun a (r : Str × List Str) => At b (upd (upd H13 fp (.dK [])) fp (.dK (mergeK [] [(.inr "name", .str nm), (.inr "kinds", .ref kp), (.inr "rows", .ref D2)]))) a (.tup (.str r.1 :: r.2.map V.str))) (fun a r h => ⟨h.ne, by
        have ne := ne_of_none h.at_ hfp
        rw [upd_ne ne, upd_ne ne]
        exact h.at_⟩) prs
      have f21 : upd (upd H13 fp (.dK [])) fp (.dK (mergeK [] [(.inr "name", .str nm), (.inr "kinds", .ref kp), (.inr "rows", .ref D2)])) fp = some (.dK (mergeK [] [(.inr "name", .str nm), (.inr "kinds", .ref kp), (.inr "rows", .ref D2)])) := upd_same
      generalize upd (upd H13 fp (.dK [])) fp (.dK (mergeK [] [(.inr "name", .str nm), (.inr "kinds", .ref kp), (.inr "rows", .ref D2)])) = H21 at *
      refine ⟨_, rfl, .inr (.inr (.inl ⟨rfl, .inl ⟨_, f21⟩⟩)), ?_⟩
      intro ep hep
      dsimp only [tPairs]
      have g22 := g21.new hep (.dK [])
      refine ⟨_, rfl, _, rfl, b, na, names, 0, rfl, ⟨fun _ _ _ e => e, g22.box⟩, hna.gr g22, Nat.zero_le _, by omega, fun wp ws H23 g23 hwp aW sW => ?_⟩
      have g24 := g22.trans g23
      refine ⟨_, rfl, _, rfl, b, na, names, 0, rfl, ⟨fun _ _ _ e => e, g24.box⟩, hna.gr g24, Nat.zero_le _, by omega, fun lp ls H25 g25 hlp aL sL => ?_⟩
      have epb : ep ≠ b := g21.ne_new hep
      have nfe : fp ≠ ep := ne_of_none f21 hep
      have e25 : H25 ep = some (.dK []) := (g23.trans g25).keep _ _ epb upd_same
      have f25 : H25 fp = some (.dK (mergeK [] [(.inr "name", .str nm), (.inr "kinds", .ref kp), (.inr "rows", .ref D2)])) := (g23.trans g25).keep _ _ fpb (by rw [upd_ne nfe]; exact f21)
      have gg := g23.trans g25
      have k25 := (k21.new hep (u := .dK [])).gr gg
      have r25 := (r21.new hep (u := .dK [])).gr gg
      have w25 := aW.gr g25
      refine ⟨e25, [(.inr "waits", .ref wp), (.inr "leaves", .ref lp)], rfl, by simp, fp, ep, _, _, rfl, rfl, by rw [upd_ne nfe]; exact f25, upd_same, nfe, small_ (Nat.le_trans (Nat.add_le_add (length_mergeK _ _) (length_mergeK _ _)) (by simp)), ?_⟩
      have f26 : upd H25 ep (.dK (mergeK [] [(.inr "waits", .ref wp), (.inr "leaves", .ref lp)])) fp = some (.dK (mergeK [] [(.inr "name", .str nm), (.inr "kinds", .ref kp), (.inr "rows", .ref D2)])) := by rw [upd_ne nfe]; exact f25
      refine ⟨_, rfl, q fp ks ws ls rs _ (((g24.trans g25).mut (g21.free hep) epb _).mut fp0 fpb _) fp0 ⟨kp, wp, lp, D2, rl, ⟨⟨fpb, upd_same⟩, (k25.put e25 _).put f26 _, (w25.put e25 _).put f26 _, (aL.put e25 _).put f26 _, (r25.put e25 _).put f26 _, paired_imp' (fun a r h => (((h.new hep).gr gg).putT e25 _).putT f26 _) t21⟩, fp0, g1.free hkp, g22.free hwp, g24.free hlp, (G11.trans g12').free hD2⟩ sK sW sL (by rw [← paired_len' t21, rn, List.length_map]; exact n5) good⟩
end
end My

/-! ## Sets of texts -/
namespace My
open PySem PySem.Spec PyProof.Rows L2
theorem is_txt0 {P : Program} {w : World} (k : Str) (u : Tok) : (PySem.strKind P w).is k (.str k u) = true := by
  show Value.isStrOf k (.str k u) = true
  unfold Value.isStrOf
  exact beq_self_eq_true _
/-- the text of an entry of a set -/
def txtOf (e : Int × Value) : Str := match e.2 with
  | .str k _ => k
  | _ => Str.empty
/-- at a: a set whose members are the texts l, each once; it can be walked -/
structure TSet (P : Program) (w : World) (h : Heap) (a : Addr) (l : List Str) : Prop where
  ob : ∃ (o : Obj) (es : Array (Int × Value)) (ep : Nat) (t : SetTable), h.get? a = some o ∧ o.ExactSet ∧ o.data = .set es ep t ∧ ElemsOf (PySem.strKind P w) es.toList ∧ (es.toList.map txtOf).Perm l ∧
    es.size < scanBound ∧ t.fits es.size = true ∧ Ris t.place.toList ∧ (w.params.followText "set-order" = true ∨ t.led = true)
  nd : l.Nodup
section
variable {P : Program} {w : World} {h h' : Heap} {a : Addr} {l : List Str}
theorem TSet.at (R : TSet P w h a l) (k : ∀ o, h.get? a = some o → h'.get? a = some o) : TSet P w h' a l := by
  obtain ⟨⟨o, es, ep, t, ho, r⟩, nd⟩ := R
  exact ⟨⟨o, es, ep, t, k o ho, r⟩, nd⟩
theorem TSet.there (R : TSet P w h a l) : ∃ o, h.get? a = some o := by
  obtain ⟨⟨o, _, _, _, ho, _⟩, _⟩ := R
  exact ⟨o, ho⟩
theorem is_txt {k : Str} {e : Int × Value} (el : (∃ k, (PySem.strKind P w).is k e.2 = true ∧ e.1 = (PySem.strKind P w).hash k) ∧ e.2.scannable = true) : (PySem.strKind P w).is k e.2 = true ↔ txtOf e = k := by
  obtain ⟨⟨k2, h1, _⟩, _⟩ := el
  obtain ⟨t, e2⟩ := Value.isStrOf_shape h1
  have e3 : txtOf e = k2 := by unfold txtOf; rw [e2]
  rw [e3]
  constructor
  · intro z
    exact (PySem.strKind P w).inj _ _ _ h1 z
  · intro z
    rw [← z]
    exact h1
theorem mem_txt {es : List (Int × Value)} (el : ElemsOf (PySem.strKind P w) es) (k : Str) : k ∈ es.map txtOf ↔ ∃ e ∈ es, (PySem.strKind P w).is k e.2 = true := by
  rw [List.mem_map]
  exact ⟨fun ⟨e, he, z⟩ => ⟨e, he, (is_txt (el e he)).mpr z⟩, fun ⟨e, he, z⟩ => ⟨e, he, (is_txt (el e he)).mp z⟩⟩
variable {A : Around} {E : Value → Shared → Prop} {s : Shared}
set_option maxHeartbeats 400000 in
/-- the table grows, or stays -/
theorem tset_tail {g : Bool → Sem Unit} (hg : ∀ (b : Bool) (s₁ : Shared) (Q' : Unit → Shared → Prop), Q' () s₁ → wpAny (model P w) A (g b) Q' E s₁) {o : Obj} {es es1 : Array (Int × Value)} {ep : Nat} {t t2 : SetTable} {l1 : List Str} (ho : s.heap.get? a = some o) (ex : o.ExactSet) (hd : o.data = .set es ep t)
    (el : ElemsOf (PySem.strKind P w) es1.toList) (pm : (es1.toList.map txtOf).Perm l1) (nd : l1.Nodup) (few : es1.size < scanBound) (fit : t2.fits es1.size = true) (ri : Ris t2.place.toList) (le : w.params.followText "set-order" = true ∨ t2.led = true)
    {old : Bool} {R : Option Bool → Shared → Prop} (q : ∀ h', Heap.SameBut a s.heap h' → TSet P w h' a l1 → R (some true) { s with heap := h' }) :
    wpAny (model P w) A (do
        storeSet a es1 t2
        if (!old && t2.tooFull) = true then do
            g (relayAll t2 es1 (SetTable.grown es1.size)).2.2
            storeSet a (relayAll t2 es1 (SetTable.grown es1.size)).1 (relayAll t2 es1 (SetTable.grown es1.size)).2.1
            pure (some true)
          else pure (some true)) R E s := by
  have first := PpSet.storeB_at (es' := es1) (t' := t2) ho hd
  have same := Heap.SameBut.update s.heap a (Obj.putSet es1 t2)
  refine wpAny_bind (wpAny_storeSet_of ho hd ?_ (fits_of_scanBound few))
  split
  · have p3 := relayAll_perm t2 es1 (SetTable.grown es1.size)
    have f3 := relayAll_fits t2 es1 (SetTable.grown es1.size)
    have r3 := relayAll_ris t2 es1 (SetTable.grown es1.size)
    have l3 := relayAll_led t2 es1 (SetTable.grown es1.size)
    generalize relayAll t2 es1 (SetTable.grown es1.size) = Z at p3 f3 r3 l3 ⊢
    obtain ⟨es3, t3, gave⟩ := Z
    dsimp only at p3 f3 r3 l3 ⊢
    have n3 : es3.size = es1.size := by rw [← Array.length_toList, p3.length_eq, Array.length_toList]
    refine wpAny_bind (hg _ _ _ (wpAny_bind (wpAny_storeSet_of first rfl ?_ (fits_of_scanBound (by rw [n3]; exact few)))))
    refine wpAny_pure (q _ (same.trans (Heap.SameBut.update _ a _)) ⟨⟨_, es3, _, t3, PpSet.storeB_at first rfl, ex, rfl, fun e he => el e (p3.mem_iff.mp he), (p3.map txtOf).trans pm, by rw [n3]; exact few, f3, r3, le.imp id fun z => by rw [l3]; exact z⟩, nd⟩)
  · exact wpAny_pure (q _ same ⟨⟨_, es1, _, t2, first, ex, rfl, el, pm, few, fit, ri, le⟩, nd⟩)
set_option maxHeartbeats 400000 in
theorem tset_put {k : Str} {tk : Tok} {Q : Bool → Shared → Prop} (R : TSet P w s.heap a l) (room : l.length + 1 < scanBound)
    (q : ∀ h', Heap.SameBut a s.heap h' → TSet P w h' a (if k ∈ l then l else k :: l) → Q (!decide (k ∈ l)) { s with heap := h' }) :
    wpAny (model P w) A (setAddHashed a (.str k tk) ((PySem.strKind P w).hash k)) Q E s := by
  obtain ⟨⟨o, es, ep, t, ho, ex, hd, el, pm, few, fit, ri, le⟩, nd⟩ := R
  have key : (PySem.strKind P w).is k (.str k tk) = true := is_txt0 k tk
  have sc : (Value.str k tk).scannable = true := rfl
  have cnt : es.size = l.length := by
    have e := pm.length_eq
    rwa [List.length_map, Array.length_toList] at e
  unfold setAddHashed setAddHashedIn
  refine wpAny_holding (wpAny_bind (wpAny_setState_of ho hd fit ?_))
  dsimp only
  rw [byScan_of sc few el]
  simp only [↓reduceIte]
  unfold setAddByScan
  refine wpAny_bind (wpAny_bind (wpAny_rule (wpAny_bind (wpAny_setScan_of key ho hd fit el ?_))))
  cases fi : List.findIdx? (fun e => (PySem.strKind P w).is k e.2) es.toList with
  | some j =>
    dsimp only
    obtain ⟨hj, pj, _⟩ := List.findIdx?_eq_some_iff_getElem.mp fi
    have inl : k ∈ l := pm.mem_iff.mp ((mem_txt el k).mpr ⟨_, List.getElem_mem hj, pj⟩)
    refine wpAny_pure (wpAny_pure ?_)
    have z := q s.heap (Heap.SameBut.refl a s.heap) (by
      rw [if_pos inl]
      exact ⟨⟨o, es, ep, t, ho, ex, hd, el, pm, few, fit, ri, le⟩, nd⟩)
    rw [decide_eq_true inl] at z
    exact z
  | none =>
    dsimp only
    have out : k ∉ l := fun z => by
      obtain ⟨e, he, c⟩ := (mem_txt el k).mp (pm.mem_iff.mpr z)
      have c2 := List.findIdx?_eq_none_iff.mp fi e he
      rw [c] at c2
      cases c2
    have gave : ∀ (b : Bool) {s₁ : Shared} {Q' : Unit → Shared → Prop}, Q' () s₁ → wpAny (model P w) A (match b with | true => rule "set.scan.the-table-gave-way" | false => pure ()) Q' E s₁ := fun b s₁ Q' z => by
      cases b
      · exact wpAny_pure z
      · exact wpAny_rule z
    have p1 := layNew_perm t es ((PySem.strKind P w).hash k) (.str k tk)
    have f1 := layNew_fits t es ((PySem.strKind P w).hash k) (.str k tk)
    have r1 := layNew_ris t es ((PySem.strKind P w).hash k) (.str k tk) ri
    have l1 := layNew_led t es ((PySem.strKind P w).hash k) (.str k tk)
    generalize layNew t es ((PySem.strKind P w).hash k) (.str k tk) = Z at p1 f1 r1 l1 ⊢
    obtain ⟨es1, t1, old, way⟩ := Z
    dsimp only at p1 f1 r1 l1 ⊢
    rw [Array.toList_push] at p1
    have pc := p1.trans (List.perm_append_singleton _ _)
    have el1 : ElemsOf (PySem.strKind P w) es1.toList := fun e he => by
      rcases List.mem_cons.mp (pc.mem_iff.mp he) with z | z
      · rw [z]
        exact ⟨⟨k, key, rfl⟩, rfl⟩
      · exact el e z
    have pm1 : (es1.toList.map txtOf).Perm (k :: l) := (pc.map txtOf).trans (pm.cons k)
    have n1 : es1.size = l.length + 1 := by
      have e := pm1.length_eq
      rwa [List.length_map, Array.length_toList, List.length_cons] at e
    have few1 : es1.size < scanBound := by rw [n1]; exact room
    have le1 : w.params.followText "set-order" = true ∨ t1.led = true := le.imp id fun z => by rw [l1]; exact z
    have nd1 : (k :: l).Nodup := List.nodup_cons.mpr ⟨out, nd⟩
    have fin : ∀ h', Heap.SameBut a s.heap h' → TSet P w h' a (k :: l) → Q true { s with heap := h' } := fun h' sb r => by
      have z := q h' sb (by rw [if_neg out]; exact r)
      rw [decide_eq_false out] at z
      exact z
    refine wpAny_bind (gave _ ?_)
    split
    · refine wpAny_bind ?_
      rw [hashByValue_scannable 8 sc]
      refine wpAny_pure ?_
      refine tset_tail (fun b s₁ Q' z => by cases b <;> first | exact wpAny_pure z | exact wpAny_rule z) ho ex hd el1 pm1 nd1 few1 ?_ ?_ ?_ ?_
      · first | (split <;> first | exact f1 | exact SetTable.fits_plain_off f1) | exact f1
      · first | (split <;> exact r1) | exact r1
      · first | (split <;> exact le1) | exact le1
      · intro h' sb r
        dsimp only
        exact wpAny_pure (fin h' sb r)
    · refine wpAny_bind (wpAny_pure ?_)
      simp only [↓reduceIte]
      refine tset_tail (fun b s₁ Q' z => by cases b <;> first | exact wpAny_pure z | exact wpAny_rule z) ho ex hd el1 pm1 nd1 few1 f1 r1 le1 ?_
      intro h' sb r
      dsimp only
      exact wpAny_pure (fin h' sb r)
set_option maxHeartbeats 400000 in
/-- found.add(text) -/
theorem tset_add {k : Str} {tk : Tok} {Q : Value → Shared → Prop} (R : TSet P w s.heap a l) (room : l.length + 1 < scanBound)
    (q : ∀ h', Heap.SameBut a s.heap h' → TSet P w h' a (if k ∈ l then l else k :: l) → Q .none { s with heap := h', toks := s.toks + 1 }) : wpAny (model P w) A (call (.builtin "set.add") [.ref a, .str k tk]) Q E s := by
  have ty : s.TypeIs (.ref a) "set" := by
    obtain ⟨⟨o, es, ep, t, ho, ex, _⟩, _⟩ := R
    exact ⟨o, ho, ex.1⟩
  refine wpAny_call_entry F.slot_set_add ty F.entry_set_add ?_ (F.args_set_add_2 _ _)
  unfold Builtin.«set.add» Builtin.Frozenset.oneOther
  simp only [List.isEmpty_nil, bind_assoc]
  unfold Builtin.Frozenset.addrOf setAdd
  refine wpAny_bind (wpAny_pure ?_)
  try dsimp only
  refine wpAny_bind (wpAny_pure ?_)
  try dsimp only
  refine wpAny_bind (wpAny_holding (wpAny_bind ((PySem.strKind P w).pyHash (is_txt0 k tk) ?_)))
  refine tset_put (s := { s with toks := s.toks + 1 }) R room fun h' sb r => ?_
  exact wpAny_pure ⟨_, rfl, q h' sb r⟩
/-- an empty one -/
theorem tset_new {h : Heap} : TSet P w (h.push { cls := .type "set", dict := none, data := .set #[] 0 (.fresh 0 0 (!w.params.followText "set-order")) }) h.objs.size [] := by
  refine ⟨⟨_, #[], 0, _, Heap.get?_push_size _ rfl, ⟨rfl, rfl, rfl⟩, rfl, (fun e he => by simp at he), .refl _, by decide, by rfl, List.Pairwise.nil, ?_⟩, List.nodup_nil⟩
  show _ ∨ (!w.params.followText "set-order") = true
  cases w.params.followText "set-order"
  · exact .inr rfl
  · exact .inl rfl
def tx : Value → Str
  | .str k _ => k
  | _ => Str.empty
theorem strs_are : ∀ vs : List Value, (∀ v ∈ vs, ∃ k t, v = .str k t) → StrsAre vs (vs.map tx)
  | [], _ => .nil
  | v :: vs, h => by
    obtain ⟨k, t, e⟩ := h v List.mem_cons_self
    have r := strs_are vs fun u hu => h u (List.mem_cons_of_mem _ hu)
    subst e
    exact .cons k t r
set_option maxHeartbeats 400000 in
theorem tset_sorted {Q : Value → Shared → Prop} (R : TSet P w s.heap a l) (hh : A.handled = none) (few : l.length < 64)
    (q : ∀ (s' : Shared) (p : Addr) (out : Array Value) (c : Nat) (ys : List Str), (∀ b o, s.heap.get? b = some o → s'.heap.get? b = some o) → s'.gens = s.gens → s'.os = s.os → s.heap.objs.size ≤ p → s'.heap.get? p = some (seqObj "list" out c) → StrsAre out.toList ys → ys.Perm l → sortedS ys = true → Q (.ref p) s') :
    wpAny (model P w) A (call (.builtin "sorted") [.ref a]) Q E s := by
  obtain ⟨⟨o, es, ep, t, ho, ex, hd, el, pm, fw, fit, ri, le⟩, nd⟩ := R
  refine Calls.call_function_entry kind_sorted plain_sorted entry_sorted (args_sorted1 _) ?_
  unfold Builtin.«sorted»
  refine wpAny_bind (m := checkCount "sorted" 1 1 _) (wpAny_pure (wpAny_bind (collect_set (A := A.in1) hh ⟨o, ho, ex.1, hd⟩ fit fw ri le fun s1 vs k1 sz g1 o1 p1 => ?_)))
  have e1 : es.toList.map txtOf = (es.toList.map (·.2)).map tx := by rw [List.map_map]; rfl
  have p2 : (vs.map tx).Perm l := (p1.map tx).trans (e1 ▸ pm)
  have all : StrsAre vs (vs.map tx) := strs_are vs fun v hv => by
    obtain ⟨e, he, z⟩ := List.mem_map.mp (p1.mem_iff.mp hv)
    obtain ⟨⟨k, i1, _⟩, _⟩ := el e he
    obtain ⟨tk, i2⟩ := Value.isStrOf_shape i1
    exact ⟨k, tk, by rw [← z]; exact i2⟩
  have n1 : vs.length = l.length := by
    have z := p2.length_eq
    rwa [List.length_map] at z
  refine wpAny_bind (wpAny_newList ?_ (by rw [n1, sizeLine_eq]; omega))
  have hoL : (s1.heap.push (seqObj "list" vs.toArray 0)).get? s1.heap.objs.size = some (seqObj "list" vs.toArray 0) := Heap.get?_push_size _ rfl
  refine wpAny_bind (wpAny_holding (wpAny_call_entry PyProof.Rows.slot_list_sort ⟨_, hoL, rfl⟩ PyProof.Rows.entry_list_sort
    (list_sort_treeK strKind_oneLt hoL all.keysOf (fun v₁ v₂ rest e => keyKind_strs (by rw [← e]; exact all)) (by rw [n1]; exact few) fun st' hp hs => ?_) (PyProof.Rows.args_list_sort _)))
  obtain ⟨ys, y1, y2, y3⟩ := sorted_out_str all hp hs
  obtain ⟨c, hc⟩ := PyProof.Rows.sortedHeap_at (vs := vs) (out := (arrOf st').map (·.2)) hoL
  refine ⟨_, rfl, wpAny_pure ⟨_, rfl, q _ s1.heap.objs.size _ c ys (fun b u e => ?_) g1 o1 sz hc y1 (y2.trans p2) y3⟩⟩
  have z := k1 b u e
  have lt := Heap.lt_size z
  show (PyProof.Rows.sortedHeap (s1.heap.push (seqObj "list" vs.toArray 0)) s1.heap.objs.size vs _).get? b = some u
  rw [PyProof.Rows.sortedHeap_old (Nat.ne_of_lt lt) (by rw [size_push']; exact Nat.lt_succ_of_lt lt)]
  exact Heap.get?_push_of_some _ z
/-- a set of texts, tracked -/
def TSetO (P : Program) (w : World) (a : Addr) (l : List Str) : HO := .ext fun h => TSet P w h a l
theorem tsetO_ok {H : Hp} {h : Heap} (R : TSet P w h a l) : ObjOk P w H h a (TSetO P w a l) := ⟨R, R.there, fun _ _ z k => TSet.at z k⟩
end
section
variable {X : Cx}
theorem tset_get {pins : List (Addr × Obj)} {σ : L2.St} {H : Hp} {s : Shared} {a : Addr} {l : List Str} (I : Inv X pins σ H s) (ha : H a = some (TSetO X.prog X.w a l)) : TSet X.prog X.w s.heap a l := (I.hok a _ ha).1
def rSortedTS (P : Program) (w : World) : List V → Hp → VK → Prop := fun xs H Q => ∃ (a : Addr) (l : List Str), xs = [.ref a] ∧ H a = some (TSetO P w a l) ∧ l.length < 64 ∧
  ∀ (ys : List Str) (p : Addr), ys.Perm l → l.Nodup → sortedS ys = true → H p = none → Q (.ref p) (upd H p (.lst (ys.map V.str)))
set_option maxHeartbeats 400000 in
/-- sorted(a set of texts) -/
theorem cr_sortedTS (hc : X.calm = true) : CallR X (.builtin "sorted") (rSortedTS X.prog X.w) := by
  intro pins s σ H xs us Q I r h
  obtain ⟨a, l, rfl, ha, few, q⟩ := h
  have R := tset_get I ha
  rw [Vals.ref1 r]
  refine tset_sorted R (I.ok.hd hc) few fun s' p out c ys keep gens os hp hp2 st pm so => ?_
  have fr : H p = none := I.hok.fresh hp
  have ln : (ys.map V.str).length ≤ sizeLine := by rw [List.length_map, pm.length_eq, sizeLine_eq]; omega
  have J : Inv X pins σ (upd H p (.lst (ys.map V.str))) { s with heap := s'.heap, gens := s'.gens, drawn := s'.drawn, toks := s'.toks } :=
    I.call (ch := []) (Un.laid keep hp fr) (I.hok.laid keep hp ⟨ln, out.toList, c, vals_of_strs st, hp2⟩) (by rw [gens]; exact I.bare) (fun _ z => nomatch z)
  have e : s' = { s with heap := s'.heap, gens := s'.gens, drawn := s'.drawn, toks := s'.toks } := by
    cases s'
    cases s
    cases os
    rfl
  rw [e]
  exact ⟨.ref p, _, J, rfl, q ys p pm R.nd so fr⟩
end
end My

/-! ## set(xs) of texts, however many; len of it -/
namespace My
open PySem PySem.Spec PyProof.Rows L2
section
variable {P : Program} {w : World} {A : Around} {s : Shared}
/-- the loop of set.update over texts: l the members so far -/
theorem texts_loop {R : Result → Shared → Prop} {I S : Addr} {fp wr : List Addr} {G : Array GenState → Array GenState → Prop} {n : Nat} {Pv : Nat → Value → Prop} {St : Nat → Shared → Prop} {xs : List Str} (W : WalksS P w A.in1 I fp wr G n Pv St) (out : S ∉ fp) (ln : xs.length = n) (few : n ≤ 1000)
    (are : ∀ i v, Pv i v → ∃ k t, xs[i]? = some k ∧ v = .str k t) : ∀ (m i : Nat) (s : Shared) (l : List Str), m + i = n → St i s → TSet P w s.heap S l → l.length ≤ i → (∀ y, y ∈ l ↔ y ∈ xs.take i) →
      (∀ (s' : Shared) (l' : List Str), Moved (S :: wr) G s s' → TSet P w s'.heap S l' → l'.length ≤ n → (∀ y, y ∈ l' ↔ y ∈ xs) → R (.ok (.ret .none)) s') →
      codeAny (model P w) A (.builtin "set.update.loop" ⟨[.ref S, .ref I], []⟩) R s := by
  have outw : S ∉ wr := fun z => out (W.sub _ z)
  have into : ∀ b ∈ wr, b ∈ S :: wr := fun b hb => List.mem_cons_of_mem _ hb
  intro m
  induction m with
  | zero =>
    intro i s l e st R0 few_ mem q
    obtain rfl : i = n := by omega
    refine codeAny_builtin PyProof.Rows.F.entry_set_update_loop ?_
    rw [Around.under_plainId PyProof.Rows.F.plain_set_update_loop _]
    refine wpAny_bind (m := pyNext (.ref I)) (W.done s _ _ st fun s1 mv => ?_)
    refine wpAny_pure (q s1 l (mv.mono into) (R0.at fun o e => mv.heap S o outw e) few_ fun y => ?_)
    rw [mem, List.take_of_length_le (Nat.le_of_eq ln)]
  | succ m ih =>
    intro i s l e st R0 few_ mem q
    have lt : i < n := by omega
    refine codeAny_builtin PyProof.Rows.F.entry_set_update_loop ?_
    rw [Around.under_plainId PyProof.Rows.F.plain_set_update_loop _]
    refine wpAny_bind (m := pyNext (.ref I)) (W.item i s _ _ lt st fun v s1 hv st1 mv => ?_)
    obtain ⟨k, t, hk, rfl⟩ := are i v hv
    have R1 : TSet P w s1.heap S l := R0.at fun o e => mv.heap S o outw e
    refine wpAny_bind (m := holding [Value.str k t] (setAdd S (.str k t))) (wpAny_holding ?_)
    unfold setAdd
    refine wpAny_holding (wpAny_bind ((PySem.strKind P w).pyHash (is_txt0 k t) ?_))
    refine tset_put (s := { s1 with toks := s1.toks + 1 }) R1 (by show l.length + 1 < 4096; omega) fun h2 sb R2 => ?_
    have apart : ∀ b, b ∈ fp → b ≠ S := fun b hb z => out (z ▸ hb)
    refine wpAny_pure ⟨plainId_quiet PyProof.Rows.F.plain_set_update_loop _, ih (i + 1) _ _ (by omega) (W.frame _ s1 _ _ st1 (Nat.le_succ _) fun b hb o e => (sb.2 b (apart b hb)).trans e) R2 ?_ ?_ fun s3 l3 mv3 => q s3 l3 (Moved.trans W.gtrans ((mv.mono into).then_heap (Nat.le_succ _) fun b o nb e => (sb.2 b fun z => nb (z ▸ List.mem_cons_self)).trans e) mv3)⟩
    · split
      · omega
      · simp only [List.length_cons]
        omega
    · intro y
      have tk : y ∈ xs.take (i + 1) ↔ y ∈ xs.take i ∨ y = k := by
        rw [List.take_add_one, hk, List.mem_append]
        simp
      rw [tk, ← mem]
      split
      · rename_i inl
        exact ⟨.inl, fun z => z.elim id fun e => e ▸ inl⟩
      · rw [List.mem_cons]
        exact Or.comm
/-- the empty set as it is made; an iterator over what stands at l -/
abbrev eSet (w : World) : Obj := { cls := .type "set", dict := none, data := .set #[] 0 (.fresh 0 0 (!w.params.followText "set-order")) }
abbrev eIter (T : String) (l : Addr) : Obj := { cls := .type T, data := .fields #[.ref l, .int 0 0] }
/-- what is asked of a list or a tuple at l -/
structure Seqs (P : Program) (w : World) (h : Heap) (l : Addr) (T it : String) (items : Array Value) : Prop where
  ob : ∃ (d : Option Addr) (n : Nat) (sl : Array (Option Value)), h.get? l = some { cls := .type T, dict := d, data := .seq items n, slots := sl }
  n1 : isSubtype (.type T) (.type "set") = pure false
  n2 : isSubtype (.type T) (.type "frozenset") = pure false
  n3 : (Value.type T == Value.type "dict") = false
  start : ∀ (A' : Around) (s1 : Shared) (Q : Value → Shared → Prop) (E : Value → Shared → Prop), (∃ (d : Option Addr) (n : Nat) (sl : Array (Option Value)), s1.heap.get? l = some { cls := .type T, dict := d, data := .seq items n, slots := sl }) →
    Q (.ref s1.heap.objs.size) { s1 with heap := s1.heap.push (eIter it l) } → wpAny (model P w) A' (pyIter (.ref l)) Q E s1
  walk : ∀ (A' : Around) (I : Addr), A'.handled = none → l ≠ I → ∃ St : Nat → Heap → Prop, Walks P w A' I [I, l] [I] items.size (fun i v => items[i]? = some v) St ∧
    ∀ h2 : Heap, h2.get? I = some (eIter it l) → (∃ (d : Option Addr) (n : Nat) (sl : Array (Option Value)), h2.get? l = some { cls := .type T, dict := d, data := .seq items n, slots := sl }) → St 0 h2
set_option maxHeartbeats 3200000 in
theorem set_of {l : Addr} {T it : String} {items : Array Value} {xs : List Str} {Q : Value → Shared → Prop} {E : Value → Shared → Prop} (hh : A.handled = none) (sq : Seqs P w s.heap l T it items) (hi : StrsAre items.toList xs) (few : xs.length ≤ 1000)
    (q : ∀ (h' : Heap) (tk : Nat) (m : List Str), TSet P w h' s.heap.objs.size m → m.length ≤ xs.length → (∀ y, y ∈ m ↔ y ∈ xs) → (∀ b o, s.heap.get? b = some o → h'.get? b = some o) → Q (.ref s.heap.objs.size) { s with heap := h', toks := tk }) :
    wpAny (model P w) A (call (.type "set") [.ref l]) Q E s := by
  obtain ⟨⟨od, nl, osl, hol⟩, hs1, hs2, hs3, start, walk⟩ := sq
  have size : items.size = xs.length := by rw [← Array.length_toList]; exact StrsAre.len_eq hi
  obtain ⟨c, tl, hmro⟩ := PySem.F.called_set.mro
  have made := PySem.F.called_set.made
  have subs := PySem.F.called_set.sub
  refine wpAny_call (codeAny_of_tree ?_)
  show wpAny _ _ (callAny (.type "set") ⟨[.ref l], []⟩) _ _ _
  refine wpAny_pure ⟨Code.quiet_builtin _ (by decide +kernel), codeAny_builtin PySem.F.entry_type_call ?_⟩
  rw [Around.under_plain (weight_type_call_type "set" [.ref l] []) rfl]
  have a1 := PySem.F.called_set.notType
  have a2 := PySem.F.called_set.canCreate
  have a3 := PySem.F.typeCall_set_1 (.ref l)
  repeat (any_goals (first | assumption | wp_step))
  let Done : Value → Shared → Prop := fun r s2 => r = .none ∧ ∃ (h' : Heap) (tk : Nat) (m : List Str), s2 = { s with heap := h', toks := tk } ∧ TSet P w h' s.heap.objs.size m ∧ m.length ≤ xs.length ∧ (∀ y, y ∈ m ↔ y ∈ xs) ∧ ∀ b o, s.heap.get? b = some o → h'.get? b = some o
  refine codeAny_mono (code_set_led1 (.ref l) (E := E) (Q₁ := fun obj s1 => obj = .ref s.heap.objs.size ∧ s1 = { s with heap := s.heap.push (eSet w) }) ⟨rfl, rfl⟩) fun r s1 hr => ?_
  match r, hr with
  | .error e, hr => exact hr
  | .ok .next, hr => exact False.elim hr
  | .ok .brk, hr => exact False.elim hr
  | .ok .cont, hr => exact False.elim hr
  | .ok (.ret obj), hr =>
    obtain ⟨rfl, rfl⟩ := hr
    have atS : (s.heap.push (eSet w)).get? s.heap.objs.size = some (eSet w) := Heap.get?_push_size _ rfl
    have tyS : Shared.TypeIs { s with heap := s.heap.push (eSet w) } (.ref s.heap.objs.size) "set" := ⟨_, atS, rfl⟩
    have b1 := PySem.F.called_set.init.lookup
    have b2 := PySem.F.called_set.init.bind (.ref s.heap.objs.size)
    repeat (any_goals (first | assumption | wp_step))
    refine codeAny_mono (codeAny_call_builtin (R := wants Done E) PySem.F.called_set.init.plain PySem.F.entry_set_init (check_set_init_1 tyS ?_)) fun r2 s2 hr2 => ?_
    · have hol' : (s.heap.push (eSet w)).get? l = some { cls := .type T, dict := od, data := .seq items nl, slots := osl } := Heap.get?_push_of_some _ hol
      unfold Builtin.«set.__init__» noKeywords Builtin.Frozenset.updateFrom
      generalize iters : pyIter = PI
      wp_walk
      subst iters
      refine start _ _ _ _ ⟨_, _, _, hol'⟩ ?_
      refine wpAny_bind (wpAny_runValue ?_)
      have lS : l < s.heap.objs.size := Heap.lt_size hol
      have sz1 : (s.heap.push (eSet w)).objs.size = s.heap.objs.size + 1 := Heap.size_push ..
      have lI : l ≠ (s.heap.push (eSet w)).objs.size := by rw [sz1]; exact Nat.ne_of_lt (Nat.lt_succ_of_lt lS)
      have free : s.heap.objs.size ∉ [(s.heap.push (eSet w)).objs.size, l] := by
        rw [sz1]
        intro z
        rcases List.mem_cons.mp z with z | z
        · exact Nat.ne_of_lt (Nat.lt_succ_self _) z
        · exact Nat.ne_of_gt lS (List.mem_singleton.mp z)
      obtain ⟨St, W, st0⟩ := walk A.in1.in1.in1 (s.heap.push (eSet w)).objs.size (by simp [hh]) lI
      have are : ∀ (i : Nat) (v : Value), items[i]? = some v → ∃ k t, xs[i]? = some k ∧ v = .str k t := fun i v hv => by
        obtain ⟨t, e⟩ := SS.strs_at hi i v (by rw [Array.getElem?_toList]; exact hv)
        have il : i < xs.length := by rw [← size]; exact (Array.getElem?_eq_some_iff.mp hv).1
        refine ⟨xs[i], t, List.getElem?_eq_getElem il, ?_⟩
        rw [e, List.getD_eq_getElem?_getD, List.getElem?_eq_getElem il]
        rfl
      have hol2 : ((s.heap.push (eSet w)).push (eIter it l)).get? l = some { cls := .type T, dict := od, data := .seq items nl, slots := osl } := Heap.get?_push_of_some _ hol'
      refine texts_loop W.toS free size.symm (by omega) are items.size 0 _ [] (by omega) (st0 _ (Heap.get?_push_size _ rfl) ⟨_, _, _, hol2⟩) ((tset_new (h := s.heap)).at fun o e => Heap.get?_push_of_some _ e) (Nat.le_refl _) (fun y => by simp) ?_
      rintro ⟨h', g', d', tk', os'⟩ m mv R few' mem
      obtain rfl : g' = s.gens := mv.gens
      obtain rfl : d' = s.drawn := mv.drawn
      obtain rfl : os' = s.os := mv.os
      refine wpAny_pure (wpAny_pure ⟨rfl, h', tk', m, rfl, R, by omega, mem, fun b o e => ?_⟩)
      have bs := Heap.lt_size e
      refine mv.heap b o (fun z => ?_) (Heap.get?_push_of_some _ (Heap.get?_push_of_some _ e))
      rcases List.mem_cons.mp z with z | z
      · exact Nat.ne_of_lt bs z
      · rw [List.mem_singleton.mp z, sz1] at bs
        exact absurd bs (Nat.not_lt.mpr (Nat.le_succ _))
    · match r2, hr2 with
      | .error e, hr2 => exact hr2
      | .ok .next, hr2 => exact False.elim hr2
      | .ok .brk, hr2 => exact False.elim hr2
      | .ok .cont, hr2 => exact False.elim hr2
      | .ok (.ret r3), hr2 =>
        obtain ⟨rfl, h', tk, m, rfl, R, few', mem, keep⟩ := hr2
        repeat (any_goals (first | assumption | wp_step))
        exact q h' tk m R few' mem keep
end
end My

/-! ## A set of words made by a comprehension: what goes in, one turn, all turns, the whole -/
namespace My
open PySem PySem.Spec PyProof.Rows L2
/-- one word more -/
def more (l : List Str) (k : Str) : List Str := if k ∈ l then l else k :: l
/-- the parts of a comprehension's clause, by what they are asked -/
structure Clause where
  g : TG
  tt : TT
  te : TE
  own : List Nat
/-- a turn over x: the target takes it, the test tells b, and if so its word goes into the set at D -/
def Clause.turn (c : Clause) (P : Program) (w : World) (D : Addr) (σ : L2.St) (x : V) (H : Hp) (Z : Hp → Prop) : Prop :=
  c.g x (wipe σ c.own) H fun τ H2 => wipe τ c.own = wipe σ c.own ∧ c.tt τ H2 fun b H3 =>
    (b = false → Z H3) ∧ (b = true → c.te τ H3 fun y H4 => ∃ (k : Str) (l : List Str), y = .str k ∧ H4 D = some (TSetO P w D l) ∧ l.length ≤ 900 ∧ Z (upd H4 D (TSetO P w D (more l k))))
/-- n turns: Z i H holds ahead of turn i -/
def Clause.all (c : Clause) (P : Program) (w : World) (wi : TI) : TE := fun σ H Q => wi σ H fun J H1 => ∀ D, H1 D = none → ∃ (n : Nat) (Z : Nat → Hp → Prop),
  Z 0 (upd H1 D (TSetO P w D [])) ∧ (∀ H', Z n H' → J.stop n H' ∧ Q (.ref D) H') ∧ ∀ i H', i < n → Z i H' → J.go i H' ∧ ∀ x H2, J.yld i H' x H2 → c.turn P w D σ x H2 (Z (i + 1))
section
variable {X : Cx} {pins : List (Addr × Obj)} {σ : L2.St} {H : Hp} {s : Shared}
theorem word_in {E : Value → Shared → Prop} {D : Addr} {l : List Str} {k : Str} {t : Tok} {Q : Value → Shared → Prop} (I : Inv X pins σ H s) (at_ : H D = some (TSetO X.prog X.w D l)) (few : l.length ≤ 900)
    (q : ∀ s', Inv X pins σ (upd H D (TSetO X.prog X.w D (more l k))) s' → Q .none s') : wpAny (model X.prog X.w) X.A (call (.builtin "set.add") [.ref D, .str k t]) Q E s :=
  tset_add (tset_get I at_) (by show l.length + 1 < 4096; omega) fun h' sb new =>
    q _ (I.write (x := D) (e := D) (o := TSetO X.prog X.w D (more l k)) (t' := s.toks + 1) (by rw [at_]; trivial) (.inl rfl) (fun b u nb e => (sb.2 b nb).trans e) new.there (tsetO_ok new))
/-- within the block the iterator's objects stand free -/
theorem blk_free {s3 : Shared} {H3 H' : Hp} {sc : Scope} {ce : Env} {fp : List Addr} {τ : L2.St} {s' : Shared} (I : Inv (X.blk s3 H3 sc ce fp) [] τ H' s') (n : ∀ b ∈ fp, H' b = none) (b : Addr) (hb : b ∈ fp) : FpOk (X.blk s3 H3 sc ce fp) [] H' b := by
  have e := I.ok.exf b hb
  refine ⟨n b hb, e.1, I.ok.exfs b hb, Or.inl hb, fun y c => e.2 y c, fun p hp => ?_⟩
  have hp' : p ∈ ([] : List (Addr × Obj)) := hp
  cases hp'
/-- a turn's end: the block's own names are forgotten -/
theorem blk_turned {it : Addr} {tg : Expr} {J : It} {tn : Nat → Heap → Prop} {s3 s7 s' : Shared} {H3 H' : Hp} {sc : Scope} {ce : Env} {fp : List Addr} {τ : L2.St} {vs : List Nat} {i : Nat} (T : Turn X.prog X.w X.K tg J fp it tn) (st : tn i s7.heap)
    (I : Inv (X.blk s3 H3 sc ce fp) ([] ++ pinsAt fp s7.heap) τ H' s') (same : wipe τ vs = wipe σ vs) : Inv (X.blk s3 H3 sc ce fp) [] (wipe σ vs) H' s' ∧ tn i s'.heap ∧ ∀ b ∈ fp, H' b = none := by
  have pin : ∀ {b o}, b ∈ fp → s7.heap.get? b = some o → s'.heap.get? b = some o ∧ H' b = none := fun {b o} hb e => by
    have z := I.pin (b, o) (List.mem_append_right _ (List.mem_append_right _ (mem_pinsAt hb e)))
    exact ⟨z.1, z.2.1⟩
  refine ⟨?_, T.keep i _ _ st fun b hb o e => (pin hb e).1, fun b hb => ?_⟩
  · rw [← same]
    exact (Inv.unpinned (pins := []) I).weak (wipe_length τ vs) fun j v e => (wipe_some e).1
  · obtain ⟨o, e, _⟩ := T.obj i _ st b hb
    exact (pin hb e).2
/-- all turns -/
theorem turns_set {c : Clause} {it D : Addr} {elt tg iter : Expr} {ifs : List Expr} {sc : Scope} {pos : Pos} {J : It} {tn : Nat → Heap → Prop} {s3 s4 : Shared} {H3 : Hp} {ce : Env} {fp : List Addr} {R : Result → Shared → Prop} {n : Nat} {Z : Nat → Hp → Prop}
    (calm : X.calm = true) (T : Turn X.prog X.w X.K tg J fp it tn) (pg : PG (X.blk s3 H3 sc ce fp) tg c.g) (pt : PTs (X.blk s3 H3 sc ce fp) ifs c.tt) (pe : PE (X.blk s3 H3 sc ce fp) elt c.te)
    (I : Inv (X.blk s3 H3 sc ce fp) [] (wipe σ c.own) H3 s4) (st : tn 0 s4.heap) (free : ∀ b ∈ fp, H3 b = none) (z0 : Z 0 H3) (stop : ∀ H', Z n H' → J.stop n H' ∧ ∀ s', Inv (X.blk s3 H3 sc ce fp) [] (wipe σ c.own) H' s' → R (.ok .next) s')
    (go : ∀ i H', i < n → Z i H' → J.go i H' ∧ ∀ x H2, J.yld i H' x H2 → c.turn X.prog X.w D σ x H2 (Z (i + 1))) :
    codeAny (model X.prog X.w) X.A (.compLoop (.SetComp elt [⟨tg, iter, ifs, 0⟩] sc pos) 0 (.ref it) (.ref D) ce) R s4 := by
  refine PpSet.compLoopS_any (fun m s' => ∃ (i : Nat) (H' : Hp), m + i = n ∧ Z i H' ∧ Inv (X.blk s3 H3 sc ce fp) [] (wipe σ c.own) H' s' ∧ tn i s'.heap ∧ ∀ b ∈ fp, H' b = none) ?_ n ⟨0, H3, rfl, z0, I, st, free⟩
  rintro m s5 ⟨i, H5, mi, z5, I5, st5, n5⟩
  by_cases last : i < n
  · obtain ⟨jgo, step⟩ := go i H5 last z5
    refine thnF (T.item (X.blk s3 H3 sc ce fp) rfl rfl rfl calm i [] s5 _ H5 (fun _ _ => False) I5 (blk_free I5 n5) st5 jgo) ?_
    rintro _ s6 ⟨u, rfl, h6⟩
    refine thnF h6 ?_
    rintro _ s7 ⟨x, H7, I7, r7, y7, st7, n7⟩
    refine thnF (pg.run _ s7 _ H7 x u _ (I7.pinned (blk_free I7 n7) (T.obj _ _ st7)) r7 (step x H7 y7)) ?_
    rintro _ s8 ⟨τ, H8, I8, same, q8⟩
    refine thnF (pt.run _ s8 τ H8 _ I8 q8) ?_
    rintro b s9 ⟨H9, I9, no, yes⟩
    have next : ∀ (s' : Shared) (H' : Hp), Inv (X.blk s3 H3 sc ce fp) ([] ++ pinsAt fp s7.heap) τ H' s' → Z (i + 1) H' → ∃ m', m' < m ∧ ∃ (i : Nat) (H' : Hp), m' + i = n ∧ Z i H' ∧ Inv (X.blk s3 H3 sc ce fp) [] (wipe σ c.own) H' s' ∧ tn i s'.heap ∧ ∀ b ∈ fp, H' b = none := by
      intro s' H' I' z'
      exact ⟨m - 1, by omega, i + 1, H', by omega, z', blk_turned T st7 I' same⟩
    cases b with
    | false =>
      rw [if_neg Bool.false_ne_true]
      exact next _ _ I9 (no rfl)
    | true =>
      rw [if_pos rfl]
      refine thnF (pe.run _ s9 τ H9 _ I9 (yes rfl)) ?_
      rintro v s10 ⟨y, H10, I10, r10, k, l, rfl, at_, few, z10⟩
      obtain ⟨t, rfl⟩ := r10
      exact word_in (X := X.blk s3 H3 sc ce fp) I10 at_ few fun s11 I11 => next s11 _ I11 z10
  · have e : i = n := by omega
    subst e
    obtain ⟨jstop, fin⟩ := stop H5 z5
    refine thnF (T.done (X.blk s3 H3 sc ce fp) rfl rfl rfl calm i [] s5 _ H5 (fun _ _ => False) I5 (blk_free I5 n5) st5 jstop) ?_
    rintro _ s6 ⟨rfl, I6⟩
    exact fin s6 I6
end
section
variable {X : Cx}
/-- {elt for tg in iter if ..}, elt a text -/
theorem pe_setT (c : Clause) {elt tg iter : Expr} {ifs : List Expr} {sc : Scope} {own : List (PySem.Str × Nat)} {pos : Pos} {wi : TI} (calm : X.calm = true) (hN : X.N.Nodup) (hi : PI X tg iter wi) (ok : BlkOk X.N X.env.scope sc own) (ho : own.map (·.2) = c.own)
    (hg : ∀ (s : Shared) (H : Hp) (C : Addr) (cl : List (PySem.Str × Addr)) (fp : List Addr), PG (X.blk s H sc (compEnvC sc cl C X.env) fp) tg c.g)
    (ht : ∀ (s : Shared) (H : Hp) (C : Addr) (cl : List (PySem.Str × Addr)) (fp : List Addr), PTs (X.blk s H sc (compEnvC sc cl C X.env) fp) ifs c.tt)
    (he : ∀ (s : Shared) (H : Hp) (C : Addr) (cl : List (PySem.Str × Addr)) (fp : List Addr), PE (X.blk s H sc (compEnvC sc cl C X.env) fp) elt c.te)
    (plain : ∀ x, foldedSetIterable iter X.env x = pure x := by intro _; rfl) : PE X (.SetComp elt [⟨tg, iter, ifs, 0⟩] sc pos) (c.all X.prog X.w wi) := by
  constructor
  intro pins s σ H Q I h
  have cells : ∀ y ∈ sc.names, y.2 = .free → ∃ a, X.env.cells.lookup y.1 = some a := fun y hy e => I.ok.has _ (ok.free y hy e)
  rw [PpSet.eval_SetComp]
  refine wpAny_comprehension_free (use := none) rfl plain (closure_ok cells) ok.kind (fun y hy e => (ok.uniq y hy).trans (by rw [e])) (thn (hi.run pins s σ H _ I h) ?_)
  intro xv s1 h1
  refine thn h1 ?_
  rintro itv s2 ⟨it, fp, tn, J, H2, rfl, I2, T, st2, f2, q⟩
  refine PpSet.newSet_ok (newEnv_comp ?_)
  have fresh : H2 s2.heap.objs.size = none := I2.hok.fresh (Nat.le_refl _)
  obtain ⟨n, Z, z0, fin, go⟩ := q _ fresh
  -- the heap with the new set
  have grown : ∀ b o, s2.heap.get? b = some o → (s2.heap.push { cls := .type "set", dict := none, data := .set #[] 0 (.fresh 0 0 (!X.w.params.followText "set-order")) }).get? b = some o := fun b o e => Heap.get?_push_of_some _ e
  have I3 := I2.laid (t' := s2.toks) grown (Nat.le_refl _) (tsetO_ok (P := X.prog) (w := X.w) (H := upd H2 s2.heap.objs.size (TSetO X.prog X.w s2.heap.objs.size [])) (tset_new (h := s2.heap)))
  generalize hD : s2.heap.objs.size = D at *
  generalize hh3 : s2.heap.push { cls := .type "set", dict := none, data := .set #[] 0 (.fresh 0 0 (!X.w.params.followText "set-order")) } = h3 at *
  have sz3 : h3.objs.size = D + 1 := by rw [← hh3, Heap.size_push, hD]
  have below : ∀ b ∈ fp, b < D := fun b hb => by
    obtain ⟨o, e, _⟩ := T.obj _ _ st2 b hb
    rw [← hD]
    exact Heap.lt_size e
  have f3 : ∀ b ∈ fp, FpOk X pins (upd H2 D (TSetO X.prog X.w D [])) b ∧ b < h3.objs.size := fun b hb => by
    have lt := below b hb
    have fb := f2 b hb
    exact ⟨⟨(upd_ne (Nat.ne_of_lt lt)).trans fb.1, fb.2⟩, by rw [sz3]; exact Nat.lt_succ_of_lt lt⟩
  have I4 := block_start I3 ok hN f3
  rw [ho] at I4
  have st4 : tn 0 (pushCells (h3.push { cls := .type "dict", data := .dict #[] }) sc.names) := T.keep _ _ _ st2 fun b _ o e => pushCells_keeps _ _ _ _ (Heap.get?_push_of_some _ (grown b o e))
  refine PpSet.codeAny_compStart_set ?loop (T.self X.A 0 _ _ _ st4 ?loop)
  refine turns_set calm T (hg _ _ _ _ _) (ht _ _ _ _ _) (he _ _ _ _ _) I4 st4 (fun b hb => (f3 b hb).1.1) z0 (fun H' z => ⟨(fin H' z).1, fun s' I' => ?_⟩) go
  have out : Inv X pins σ H' s' := I3.call' (ch := fp) I'.os I'.base I'.hok I'.bare fun b hb => by
    obtain ⟨_, a1, _, a3, a4, a5⟩ := (f3 b hb).1
    exact ⟨a3, a1, a4, a5⟩
  have none_ : H' h3.objs.size = none := I'.free
  obtain ⟨b0, b1, b2, b3, b4, b5⟩ := I3.fpOk (Nat.le_refl _) none_
  obtain ⟨m, hn, _⟩ := I'.loc
  refine ⟨m, hn, fun h'' sb => ⟨.ref D, H', out.turned (t' := s'.toks) (fun b o nb e => (sb.2 b nb).trans e) b0 b1 b3 b4 b5, rfl, (fin H' z).2⟩⟩
end
end My

/-! ## A list or a tuple walked alike -/
namespace My
open PySem PySem.Spec PyProof.Rows L2
/-- a list or a tuple of xs at a -/
def SqA (K : PySem.W.Frag) (H : Hp) (a : Addr) (xs : List V) : Prop := SqL K H a xs ∨ SqT K H a xs
theorem SqA.same {K : PySem.W.Frag} {H H' : Hp} {a : Addr} {xs : List V} (h : SqA K H a xs) (e : Same H H') : SqA K H' a xs := h.elim (fun z => .inl (seqL_same e z)) (fun z => .inr (seqT_same e z))
/-- what is walked is a list or a tuple: J its turns, while G stands -/
def iSeq (K : PySem.W.Frag) (tl : TE) : TI := fun σ H R => tl σ H fun x H1 => ∃ (a : Addr) (xs : List V), x = .ref a ∧ SqA K H1 a xs ∧
  ∀ (J : It) (G : Hp → Prop), G H1 → (∀ H H', Same H H' → G H → G H') → Walk J xs.length G (YAt xs) → R J H1
section
variable {X : Cx} {tg : Expr}
theorem pi_seq {l : Expr} {tl : TE} (hl : PE X l tl) : PI X tg l (iSeq X.K tl) := by
  constructor
  intro pins s σ H R I h
  refine thn (hl.run pins s σ H _ I h) ?_
  rintro v s1 ⟨x, H1, I1, r1, a, xs, rfl, hq, k⟩
  cases r1
  have new : ∀ {o : Obj} (b : Addr), b ∈ [s1.heap.objs.size] → FpOk X pins H1 b := fun {o} b hb => by
    rw [List.mem_singleton.mp hb]
    exact I1.fpOk (Nat.le_refl _) (I1.hok.fresh (Nat.le_refl _))
  rcases hq with hq | hq
  · obtain ⟨its, rv, p, _⟩ := I1.list hq
    refine wpAny_pyIter_list p.isList ⟨s1.heap.objs.size, [s1.heap.objs.size], _, Itl X.K a, H1, rfl, ?_, turn_list a _, ?_, new (o := default), ?_⟩
    · exact I1.kept (t' := s1.toks) fun b o e => Heap.get?_push_of_some _ e
    · exact ⟨_, Heap.get?_push_size _ rfl, rfl, rfl⟩
    · exact k _ (fun H => SqL X.K H a xs) hq (fun H H' e z => seqL_same e z) walk_list
  · obtain ⟨its, rv, p, _⟩ := I1.tuple hq
    have p' : s1.heap.IsTuple a its.toArray := p
    refine wpAny_pyIter_tuple p' ⟨s1.heap.objs.size, [s1.heap.objs.size], _, Itt X.K a, H1, rfl, ?_, turn_tuple a _, ?_, new (o := default), ?_⟩
    · exact I1.kept (t' := s1.toks) fun b o e => Heap.get?_push_of_some _ e
    · exact ⟨_, Heap.get?_push_size _ rfl, rfl, rfl⟩
    · exact k _ (fun H => SqT X.K H a xs) hq (fun H H' e z => seqT_same e z) walk_tup
theorem pi_seqK (K : PySem.W.Frag) {l : Expr} {tl : TE} (hl : PE X l tl) (hK : X.K = K := by rfl) : PI X tg l (iSeq K tl) := hK ▸ pi_seq hl
end
end My

/-! settext2 wants seqwalk (or seqs) ahead -/
/-! ## set(xs), len(a set of texts) as calls of the layer -/
namespace My
open PySem PySem.Spec PyProof.Rows L2
theorem seqs_list {P : Program} {w : World} {h : Heap} {l : Addr} {items : Array Value} (hl : h.IsList l items) : Seqs P w h l "list" "list_iterator" items := by
  have back : ∀ {h : Heap}, (∃ (d : Option Addr) (n : Nat) (sl : Array (Option Value)), h.get? l = some { cls := .type "list", dict := d, data := .seq items n, slots := sl }) → h.IsList l items := fun ⟨_, n, _, e⟩ => ⟨_, e, rfl, n, rfl⟩
  refine ⟨?_, PySem.F.sub_list_set, PySem.F.sub_list_frozenset, by decide, fun A' s1 Q E e q => wpAny_pyIter_list (back e) q, fun A' I hh ne => ⟨_, Walks.list hh I l ne items, fun h2 e1 e2 => ⟨⟨_, e1, rfl, rfl⟩, back e2⟩⟩⟩
  obtain ⟨⟨c, d, dt, sl⟩, e, hc, n, hd⟩ := hl
  cases hc
  cases hd
  exact ⟨d, n, sl, e⟩
theorem seqs_tuple {P : Program} {w : World} {h : Heap} {l : Addr} {items : Array Value} (hl : h.IsTuple l items) : Seqs P w h l "tuple" "tuple_iterator" items := by
  have back : ∀ {h : Heap}, (∃ (d : Option Addr) (n : Nat) (sl : Array (Option Value)), h.get? l = some { cls := .type "tuple", dict := d, data := .seq items n, slots := sl }) → h.IsTuple l items := fun ⟨_, n, _, e⟩ => ⟨_, e, rfl, n, rfl⟩
  refine ⟨?_, PySem.F.sub_tuple_set, PySem.F.sub_tuple_frozenset, by decide, fun A' s1 Q E e q => wpAny_pyIter_tuple (back e) q, fun A' I hh ne => ⟨_, Walks.tuple hh I l ne items, fun h2 e1 e2 => ⟨⟨_, e1, rfl, rfl⟩, back e2⟩⟩⟩
  obtain ⟨⟨c, d, dt, sl⟩, e, hc, n, hd⟩ := hl
  cases hc
  cases hd
  exact ⟨d, n, sl, e⟩
theorem texts_are : ∀ {ys : List Str} {us : List Value}, Vals (ys.map V.str) us → StrsAre us ys
  | [], _, .nil => .nil
  | y :: ys, _, .cons r t => by
    obtain ⟨k, rfl⟩ := r
    exact .cons y k (texts_are t)
/-- set(xs) -/
def rSetT (P : Program) (w : World) (K : PySem.W.Frag) : List V → Hp → VK → Prop := fun vs H Q => ∃ (a : Addr) (xs : List Str), vs = [.ref a] ∧ SqA K H a (xs.map V.str) ∧ xs.length ≤ 1000 ∧
  ∀ (p : Addr) (m : List Str), H p = none → m.Nodup → (∀ y, y ∈ m ↔ y ∈ xs) → Q (.ref p) (upd H p (TSetO P w p m))
/-- len(a set of texts) -/
def rLenT (P : Program) (w : World) : List V → Hp → VK → Prop := fun vs H Q => ∃ (a : Addr) (m : List Str), vs = [.ref a] ∧ H a = some (TSetO P w a m) ∧ Q (.int m.length) H
section
variable {X : Cx}
theorem call_setT (K : PySem.W.Frag) (calm : X.calm = true) (hK : X.K = K := by rfl) : CallR X (.type "set") (rSetT X.prog X.w K) := by
  subst hK
  intro pins s σ H vs us Q I r h
  obtain ⟨a, xs, rfl, hq, few, q⟩ := h
  rw [Vals.ref1 r]
  have fin : ∀ (h' : Heap) (tk : Nat) (m : List Str), TSet X.prog X.w h' s.heap.objs.size m → m.length ≤ xs.length → (∀ y, y ∈ m ↔ y ∈ xs) → (∀ b o, s.heap.get? b = some o → h'.get? b = some o) → EP X pins σ Q (.ref s.heap.objs.size) { s with heap := h', toks := tk } := fun h' tk m R _ mem keep =>
    ⟨.ref s.heap.objs.size, _, I.laid keep (Nat.le_refl _) (tsetO_ok R), rfl, q _ m (I.hok.fresh (Nat.le_refl _)) R.nd mem⟩
  rcases hq with hq | hq
  · obtain ⟨its, rv, pl, _⟩ := I.list hq
    exact set_of (I.ok.hd calm) (seqs_list pl.isList) (by simpa using texts_are rv) few fin
  · obtain ⟨its, rv, pl, _⟩ := I.tuple hq
    exact set_of (I.ok.hd calm) (seqs_tuple (show s.heap.IsTuple a its.toArray from pl)) (by simpa using texts_are rv) few fin
theorem call_lenT : CallR X (.builtin "len") (rLenT X.prog X.w) := by
  intro pins s σ H vs us Q I r h
  obtain ⟨a, m, rfl, at_, q⟩ := h
  rw [Vals.ref1 r]
  obtain ⟨⟨o, es, ep, t, ho, ex, hd, el, pm, few, fit, ri, le⟩, nd⟩ := tset_get I at_
  have n1 : es.size = m.length := by
    have z := pm.length_eq
    rwa [List.length_map, Array.length_toList] at z
  refine call_len_set ho ex hd fit (by have : es.size < 4096 := few; omega) ?_
  exact ⟨.int m.length, H, I.tok _, ⟨_, by rw [n1]⟩, q⟩
end
theorem sub_len : ∀ {xs m : List Str}, m.Nodup → (∀ y ∈ m, y ∈ xs) → m.length ≤ xs.length
  | [], [], _, _ => Nat.le_refl _
  | [], y :: m, _, h => nomatch h y List.mem_cons_self
  | x :: xs, m, nd, h => by
    have h2 : ∀ y ∈ m.erase x, y ∈ xs := fun y hy => by
      have z := nd.mem_erase_iff.mp hy
      exact (List.mem_cons.mp (h y z.2)).resolve_left z.1
    have ih := sub_len (nd.erase x) h2
    have e := List.length_erase (a := x) (l := m)
    rw [List.length_cons]
    split at e <;> omega
/-- a list has as many different members as members just where none stands twice -/
theorem nodup_of_len : ∀ {xs m : List Str}, m.Nodup → (∀ y, y ∈ m ↔ y ∈ xs) → m.length = xs.length → xs.Nodup
  | [], _, _, _, _ => List.nodup_nil
  | x :: xs, m, nd, mem, e => by
    by_cases hx : x ∈ xs
    · have le := sub_len nd (xs := xs) fun y hy => (List.mem_cons.mp ((mem y).mp hy)).elim (fun z => z ▸ hx) id
      rw [e, List.length_cons] at le
      omega
    · have xm : x ∈ m := (mem x).mpr List.mem_cons_self
      have mem2 : ∀ y, y ∈ m.erase x ↔ y ∈ xs := fun y => by
        rw [nd.mem_erase_iff, mem, List.mem_cons]
        constructor
        · rintro ⟨n, z⟩
          exact z.resolve_left n
        · intro z
          exact ⟨fun e => hx (e ▸ z), .inr z⟩
      have e2 : (m.erase x).length = xs.length := by
        rw [List.length_erase_of_mem xm, e, List.length_cons]
        rfl
      exact List.nodup_cons.mpr ⟨hx, nodup_of_len (nd.erase x) mem2 e2⟩
theorem len_nodup {xs m : List Str} (nd : m.Nodup) (mem : ∀ y, y ∈ m ↔ y ∈ xs) : m.length = xs.length ↔ xs.Nodup :=
  ⟨nodup_of_len nd mem, fun nx => Nat.le_antisymm (sub_len nd fun y hy => (mem y).mp hy) (sub_len nx fun y hy => (mem y).mpr hy)⟩
end My

/-! ## What is a sequence of names: any values -/
namespace My
open PySem PySem.Spec PyProof.Rows L2
abbrev s_is_sequence : Stmt := top 6
abbrev N_is_sequence : List Str := ["value"]
abbrev P_is_sequence : List Str := ["value"]
theorem sc_is_sequence : FnScope N_is_sequence P_is_sequence (defScope s_is_sequence) := ⟨rfl, rfl, rfl, by decide +kernel, rfl, by decide +kernel, by decide +kernel⟩
abbrev s_are_names : Stmt := top 7
abbrev N_are_names : List Str := ["value", "name"]
abbrev P_are_names : List Str := ["value"]
theorem sc_are_names : FnScope N_are_names P_are_names (defScope s_are_names) := ⟨rfl, rfl, rfl, by decide +kernel, rfl, by decide +kernel, by decide +kernel⟩
abbrev s_are_some_names : Stmt := top 8
abbrev N_are_some_names : List Str := ["value"]
abbrev P_are_some_names : List Str := ["value"]
theorem sc_are_some_names : FnScope N_are_some_names P_are_some_names (defScope s_are_some_names) := ⟨rfl, rfl, rfl, by decide +kernel, rfl, by decide +kernel, by decide +kernel⟩
structure TxSeq (K : PySem.W.Frag) (mg : Str → Option Value) extends TxCheck K mg where
  z_list : mg "list" = none
  z_tuple : mg "tuple" = none
  z_set : mg "set" = none
  f_is_sequence : Addr
  d_is_sequence : FuncData
  F_is_sequence : Fun K "is_sequence" "is_sequence" s_is_sequence f_is_sequence d_is_sequence
  m_is_sequence : mg "is_sequence" = some (.ref f_is_sequence)
  b_is_sequence : Binds K d_is_sequence P_is_sequence []
  f_are_names : Addr
  d_are_names : FuncData
  F_are_names : Fun K "are_names" "are_names" s_are_names f_are_names d_are_names
  m_are_names : mg "are_names" = some (.ref f_are_names)
  b_are_names : Binds K d_are_names P_are_names []
  f_are_some_names : Addr
  d_are_some_names : FuncData
  F_are_some_names : Fun K "are_some_names" "are_some_names" s_are_some_names f_are_some_names d_are_some_names
  m_are_some_names : mg "are_some_names" = some (.ref f_are_some_names)
  b_are_some_names : Binds K d_are_some_names P_are_some_names []
/-- what isinstance(v, (list, tuple)) answers -/
def SeqV (K : PySem.W.Frag) (H : Hp) (v : V) (b : Bool) : Prop := ∃ t, TyX K H v t ∧ PySem.W.kitAny K t [.type "list", .type "tuple"] = some b
def spIsSeq (K : PySem.W.Frag) : Sp := fun vs H Q _ => ∃ (v : V) (b : Bool), vs = [v] ∧ SeqV K H v b ∧ ∀ H', Same H H' → Q (.bl b) H'
def txV : V → Str
  | .str x => x
  | _ => Str.empty
/-- names, each once -/
def namesB (xs : List V) : Bool := xs.all nmV && decide (xs.map txV).Nodup
/-- what are_names answers -/
inductive NamesV (K : PySem.W.Frag) (H : Hp) : V → Bool → Prop where
  | no {v : V} (h : SeqV K H v false) : NamesV K H v false
  | seq {a : Addr} {xs : List V} (h : SqA K H a xs) (e : ∀ x ∈ xs, AnyV K H x) (n : xs.length ≤ 1000) : NamesV K H (.ref a) (namesB xs)
/-- what are_some_names answers -/
inductive SomeV (K : PySem.W.Frag) (H : Hp) : V → Bool → Prop where
  | no {v : V} (h : SeqV K H v false) : SomeV K H v false
  | seq {a : Addr} {xs : List V} (h : SqA K H a xs) (e : ∀ x ∈ xs, AnyV K H x) (n : xs.length ≤ 1000) : SomeV K H (.ref a) (namesB xs && decide (0 < xs.length))
theorem tyx_keep {K : PySem.W.Frag} {H H' : Hp} (e : Same H H') {v : V} {t : Value} (h : TyX K H v t) : TyX K H' v t := by
  cases h with
  | base b =>
    cases b with
    | non => exact .base .non
    | bl x => exact .base (.bl x)
    | int i => exact .base (.int i)
    | str x => exact .base (.str x)
    | flt x => exact .base (.flt x)
    | lst h => exact .base (.lst (e _ _ h))
    | frz h => exact .base (.frz (e _ _ h))
    | tup h => exact .base (.tup (e _ _ h))
    | dK h => exact .base (.dK (e _ _ h))
    | dT h => exact .base (.dT (e _ _ h))
    | ins h c1 c2 c3 c4 c5 => exact .base (.ins (e _ _ h) c1 c2 c3 c4 c5)
  | byt b => exact .byt b
  | set h => exact .set (e _ _ h)
  | kList h c => exact .kList h c
  | kTuple h c => exact .kTuple h c
  | kDict h c => exact .kDict h c
  | fTuple h => exact .fTuple (e _ _ h)
  | fDict h => exact .fDict (e _ _ h)
theorem SeqV.same {K : PySem.W.Frag} {H H' : Hp} {v : V} {b : Bool} (h : SeqV K H v b) (e : Same H H') : SeqV K H' v b := by
  obtain ⟨t, ty, k⟩ := h
  exact ⟨t, tyx_keep e ty, k⟩
theorem AnyV.same {K : PySem.W.Frag} {H H' : Hp} {v : V} (h : AnyV K H v) (e : Same H H') : AnyV K H' v := by
  cases h with
  | str x hx => exact .str x hx
  | oth n ty k => exact .oth n (tyx_keep e ty) k
theorem NamesV.same {K : PySem.W.Frag} {H H' : Hp} {v : V} {b : Bool} (h : NamesV K H v b) (e : Same H H') : NamesV K H' v b := by
  cases h with
  | no h => exact .no (h.same e)
  | seq h a n => exact .seq (h.same e) (fun x hx => (a x hx).same e) n
theorem SomeV.same {K : PySem.W.Frag} {H H' : Hp} {v : V} {b : Bool} (h : SomeV K H v b) (e : Same H H') : SomeV K H' v b := by
  cases h with
  | no h => exact .no (h.same e)
  | seq h a n => exact .seq (h.same e) (fun x hx => (a x hx).same e) n
theorem kit_lt {K : PySem.W.Frag} : PySem.W.kitAny K (.type "list") [.type "list", .type "tuple"] = some true := kitAny_cons (b := true) (kit_ty (show kitB "list" "list" = some true by decide +kernel)) (fun z => nomatch z) (fun _ => rfl)
theorem kit_tt {K : PySem.W.Frag} : PySem.W.kitAny K (.type "tuple") [.type "list", .type "tuple"] = some true :=
  kitAny_cons (b := false) (kit_ty (show kitB "tuple" "list" = some false by decide +kernel)) (fun _ => kitAny_cons (b := true) (kit_ty (show kitB "tuple" "tuple" = some true by decide +kernel)) (fun z => nomatch z) (fun _ => rfl)) (fun z => nomatch z)
theorem SqA.seqV {K : PySem.W.Frag} {H : Hp} {a : Addr} {xs : List V} (h : SqA K H a xs) : SeqV K H (.ref a) true := by
  rcases h with h | h
  · exact ⟨_, tyL h, kit_lt⟩
  · exact ⟨_, tyT h, kit_tt⟩
/-- values that are names all are texts -/
theorem strs_of_nm : ∀ {xs : List V}, xs.all nmV = true → xs = (xs.map txV).map V.str
  | [], _ => rfl
  | x :: xs, h => by
    rw [List.all_cons, Bool.and_eq_true] at h
    have ih := strs_of_nm h.2
    cases x with
    | str y => rw [List.map_cons, List.map_cons, ← ih]; rfl
    | _ => cases h.1
def spAreNames (K : PySem.W.Frag) : Sp := fun vs H Q _ => ∃ (v : V) (b : Bool), vs = [v] ∧ NamesV K H v b ∧ ∀ H', Same H H' → Q (.bl b) H'
def spSomeNames (K : PySem.W.Frag) : Sp := fun vs H Q _ => ∃ (v : V) (b : Bool), vs = [v] ∧ SomeV K H v b ∧ ∀ H', Same H H' → Q (.bl b) H'
section
variable {P : Program} {w : World} {K : PySem.W.Frag} {mg : Str → Option Value} {base : Heap}
theorem ok_is_sequence (T : TxSeq K mg) : FnOk P w K mg base CX0 1 T.f_is_sequence T.d_is_sequence P_is_sequence (spIsSeq K) := by
  refine T.F_is_sequence.ok sc_is_sequence (fun vs H Q E h => ?_) (fun cdv A outer s H vs Q E hr h => ?_)
  · obtain ⟨v, b, rfl, _⟩ := h
    rfl
  obtain ⟨v, b, rfl, hS, q⟩ := h
  refine ⟨_, (pss_one (ps_ret (pe_callB (call_isiTV K) (by rfl) T.z_isinstance (by decide +kernel) (pa_cons (pv 0) (pa_cons (pe_tup (pa_cons (pe_bltn (v := .ty "list") (by rfl) T.z_list (by decide +kernel) rfl) (pa_cons (pe_bltn (v := .ty "tuple") (by rfl) T.z_tuple (by decide +kernel) rfl) pa_nil))) pa_nil))))), ?_⟩
  refine ⟨_, rfl, by show 2 ≤ sizeLine; decide, fun tp htp => ?_⟩
  have y := same_upd htp (.tup [.ty "list", .ty "tuple"])
  obtain ⟨t, ty, k⟩ := hS.same y
  exact ⟨v, tp, _, t, _, b, rfl, upd_same, .cons (.ty _) (.cons (.ty _) .nil), ty, k, q _ y⟩
theorem ok_are_names (T : TxSeq K mg) : FnOk P w K mg base CX0 2 T.f_are_names T.d_are_names P_are_names (spAreNames K) := by
  have G_is_name := ok_is_name (P := P) (w := w) (base := base) T.toTxCheck
  have G_is_sequence := ok_is_sequence (P := P) (w := w) (base := base) T
  refine T.F_are_names.ok sc_are_names (fun vs H Q E h => ?_) (fun cdv A outer s H vs Q E hr h => ?_)
  · obtain ⟨v, b, rfl, _⟩ := h
    rfl
  obtain ⟨v, b, rfl, hv, q⟩ := h
  refine ⟨_, (pss_cons (ps_if (PW.pt (pw_or (pt_not (pt_val (pe_call G_is_sequence (hr.mono (by decide)) (by rfl) T.m_is_sequence T.F_is_sequence.kp T.b_is_sequence .nil pass0 (pa_cons (pv 0) pa_nil)))) (pw_or1 (pt_not (pt_val (pe_callB (cr_allK K rfl) (by rfl) T.z_all (by decide +kernel) (pa_cons (pe_lc (own := [("name", 1)]) (g := gName 1) (by rfl) sc_are_names.nd (pi_seqK K (pv 0)) (blkOk_by (own := [("name", 1)]) (N := N_are_names) (sc := defScope s_are_names) (by decide +kernel)) (fun _ _ _ _ _ => (pg_name (i := 1) sc_are_names.nd rfl (Or.inl rfl))) (fun _ _ _ _ _ => pts_nil) (fun _ _ _ _ _ => (pe_call G_is_name (hr.mono (by decide)) (by rfl) T.m_is_name T.F_is_name.kp T.b_is_name .nil pass0 (pa_cons (pv 1) pa_nil)))) pa_nil))))))) (pss_one (ps_ret pe_bl)) pss_nil)
      (pss_one (ps_ret (pe_cmpR op_eq (pe_callB call_lenT (by rfl) T.z_len (by decide +kernel) (pa_cons (pe_callTy (call_setT K rfl) (by rfl) T.z_set (by decide +kernel) (pa_cons (pv 0) pa_nil)) pa_nil)) (pe_callB (call_lenK K) (by rfl) T.z_len (by decide +kernel) (pa_cons (pv 0) pa_nil)) (nomark _))))), ?_⟩
  cases hv with
  | no h =>
    refine ⟨_, rfl, v, false, rfl, h, fun H1 s1 => ⟨_, rfl, ?_⟩⟩
    exact q H1 s1
  | @seq a xs h hx hn =>
    refine ⟨_, rfl, .ref a, true, rfl, h.seqV, fun H1 s1 => ⟨_, rfl, ?_⟩⟩
    refine ⟨_, rfl, a, _, rfl, h.same s1, fun J G g0 gs wk D hD => ?_⟩
    refine lc_it wk (fun i H' => Same H1 H' ∧ H' D = some (.lst ((xs.take i).map fun y => V.bl (nmV y)))) ⟨same_upd hD _, upd_same⟩ (fun i H' _ h => gs _ _ h.1 g0) ?_ ?_
    · rintro i x H2 H3 hi ⟨s2, hD2⟩ ⟨rfl, hx2⟩
      have ax := (hx x (List.mem_of_getElem? hx2)).same (s1.trans s2)
      refine ⟨rfl, ?_⟩
      refine ⟨_, rfl, x, rfl, ax, fun H4 s4 => ?_⟩
      refine ⟨_, s4 _ _ hD2, small1000 (by rw [List.length_map, List.length_take]; omega), ?_, ?_⟩
      · intro b o e
        rw [upd_ne (ne_of_none e hD)]
        exact s4 _ _ (s2 b o e)
      · rw [upd_same, List.take_add_one, hx2, List.map_append]
        rfl
    · rintro H2 ⟨s2, hD2⟩
      have full : (xs.take xs.length).map (fun y => V.bl (nmV y)) = (xs.map nmV).map V.bl := by
        rw [List.take_length, List.map_map]
        rfl
      rw [full] at hD2
      refine ⟨D, _, rfl, SqL.of hD2, _, rfl, ?_⟩
      have e : (xs.map nmV).all id = xs.all nmV := by rw [List.all_map]; rfl
      rw [e]
      have r := q H2 (s1.trans s2)
      cases c : xs.all nmV with
      | false =>
        refine iteT ?_
        unfold namesB at r
        rw [c, Bool.false_and] at r
        exact r
      | true =>
        refine iteF ?_
        have ex := strs_of_nm c
        have h2 := (h.same s1).same s2
        unfold namesB at r
        rw [c, Bool.true_and] at r
        refine ⟨_, rfl, a, xs.map txV, rfl, by rw [← ex]; exact h2, by rw [List.length_map]; exact hn, fun p m np nd mem => ?_⟩
        have s3 := same_upd np (TSetO P w p m)
        refine ⟨p, m, rfl, upd_same, _, rfl, _, _, rfl, h2.same s3, ?_⟩
        have ed : decide (V.int (m.length : Int) = V.int (xs.length : Int)) = decide (xs.map txV).Nodup := by
          have z := len_nodup nd mem
          rw [List.length_map] at z
          by_cases w : (xs.map txV).Nodup
          · rw [decide_eq_true w, z.mpr w]
            exact decide_eq_true rfl
          · rw [decide_eq_false w]
            refine decide_eq_false fun y => w (z.mp ?_)
            injection y with y
            omega
        refine ⟨rfl, ?_⟩
        rw [ed]
        have r' := q _ ((s1.trans s2).trans s3)
        unfold namesB at r'
        rw [c, Bool.true_and] at r'
        exact r'
theorem ok_are_some_names (T : TxSeq K mg) : FnOk P w K mg base CX0 3 T.f_are_some_names T.d_are_some_names P_are_some_names (spSomeNames K) := by
  have G_are_names := ok_are_names (P := P) (w := w) (base := base) T
  refine T.F_are_some_names.ok sc_are_some_names (fun vs H Q E h => ?_) (fun cdv A outer s H vs Q E hr h => ?_)
  · obtain ⟨v, b, rfl, _⟩ := h
    rfl
  obtain ⟨v, b, rfl, hv, q⟩ := h
  refine ⟨_, (pss_one (ps_ret (pe_and (pe_call G_are_names (hr.mono (by decide)) (by rfl) T.m_are_names T.F_are_names.kp T.b_are_names .nil pass0 (pa_cons (pv 0) pa_nil)) (pe_one (pe_cmpR op_gt (pe_callB (call_lenK K) (by rfl) T.z_len (by decide +kernel) (pa_cons (pv 0) pa_nil)) pe_int (nomark _)))))), ?_⟩
  cases hv with
  | no h =>
    refine ⟨_, rfl, v, false, rfl, .no h, fun H1 s1 => ⟨_, rfl, ?_⟩⟩
    exact q H1 s1
  | @seq a xs h hx hn =>
    refine ⟨_, rfl, .ref a, namesB xs, rfl, .seq h hx hn, fun H1 s1 => ⟨_, rfl, ?_⟩⟩
    have r := q H1 s1
    cases c : namesB xs with
    | false =>
      rw [c, Bool.false_and] at r
      exact r
    | true =>
      rw [c, Bool.true_and] at r
      refine ⟨_, rfl, _, _, rfl, h.same s1, _, _, rfl, rfl, ?_⟩
      have e : decide ((0 : Int) < (xs.length : Int)) = decide (0 < xs.length) := by
        by_cases z : 0 < xs.length
        · rw [decide_eq_true z]; exact decide_eq_true (by omega)
        · rw [decide_eq_false z]; exact decide_eq_false (by omega)
      rw [← e] at r
      exact r
end
end My

/-! ## Services made: words ascending, rows, the arguments kept -/
namespace My
open PySem PySem.Spec PyProof.Rows L2
abbrev s_ascending : Stmt := top 32
abbrev N_ascending : List Str := ["words", "word"]
abbrev P_ascending : List Str := ["words"]
theorem sc_ascending : FnScope N_ascending P_ascending (defScope s_ascending) := ⟨rfl, rfl, rfl, by decide +kernel, rfl, by decide +kernel, by decide +kernel⟩
abbrev s_are_rows : Stmt := top 33
abbrev N_are_rows : List Str := ["value", "row"]
abbrev P_are_rows : List Str := ["value"]
theorem sc_are_rows : FnScope N_are_rows P_are_rows (defScope s_are_rows) := ⟨rfl, rfl, rfl, by decide +kernel, rfl, by decide +kernel, by decide +kernel⟩
abbrev s_InvalidService_init : Stmt := inClass (top 12) 0
abbrev N_InvalidService_init : List Str := ["self", "word"]
abbrev P_InvalidService_init : List Str := ["self", "word"]
theorem sc_InvalidService_init : FnScope N_InvalidService_init P_InvalidService_init (defScope s_InvalidService_init) := ⟨rfl, rfl, rfl, by decide +kernel, rfl, by decide +kernel, by decide +kernel⟩
abbrev s_Service_init : Stmt := inClass (top 37) 0
abbrev N_Service_init : List Str := ["self", "name", "kinds", "waits", "leaves", "rows", "led_to", "row"]
abbrev P_Service_init : List Str := ["self", "name", "kinds", "waits", "leaves", "rows"]
theorem sc_Service_init : FnScope N_Service_init P_Service_init (defScope s_Service_init) := ⟨rfl, rfl, rfl, by decide +kernel, rfl, by decide +kernel, by decide +kernel⟩
structure TxSvc (K : PySem.W.Frag) (mg : Str → Option Value) extends TxSeq K mg, TxRows K mg where
  z_sorted : mg "sorted" = none
  f_ascending : Addr
  d_ascending : FuncData
  F_ascending : Fun K "ascending" "ascending" s_ascending f_ascending d_ascending
  m_ascending : mg "ascending" = some (.ref f_ascending)
  b_ascending : Binds K d_ascending P_ascending []
  f_are_rows : Addr
  d_are_rows : FuncData
  F_are_rows : Fun K "are_rows" "are_rows" s_are_rows f_are_rows d_are_rows
  m_are_rows : mg "are_rows" = some (.ref f_are_rows)
  b_are_rows : Binds K d_are_rows P_are_rows []
  C_Row : Addr
  m_Row : mg "Row" = some (.ref C_Row)
  ty_Begin : ∀ (H : Hp) (a dx : Addr) (fs : List (Str × V)), H a = some (.ins C_Begin dx fs) → TyX K H (.ref a) (.ref C_Begin)
  ty_Send : ∀ (H : Hp) (a dx : Addr) (fs : List (Str × V)), H a = some (.ins C_Send dx fs) → TyX K H (.ref a) (.ref C_Send)
  ty_Back : ∀ (H : Hp) (a dx : Addr) (fs : List (Str × V)), H a = some (.ins C_Back dx fs) → TyX K H (.ref a) (.ref C_Back)
  ty_End : ∀ (H : Hp) (a dx : Addr) (fs : List (Str × V)), H a = some (.ins C_End dx fs) → TyX K H (.ref a) (.ref C_End)
  kr_Begin : PySem.W.kitOne K (.ref C_Begin) (.ref C_Row) = some true
  kr_Send : PySem.W.kitOne K (.ref C_Send) (.ref C_Row) = some true
  kr_Back : PySem.W.kitOne K (.ref C_Back) (.ref C_Row) = some true
  kr_End : PySem.W.kitOne K (.ref C_End) (.ref C_Row) = some true
  kb_Begin : PySem.W.kitOne K (.ref C_Begin) (.ref C_Back) = some false
  kb_Send : PySem.W.kitOne K (.ref C_Send) (.ref C_Back) = some false
  kb_Back : PySem.W.kitOne K (.ref C_Back) (.ref C_Back) = some true
  kb_End : PySem.W.kitOne K (.ref C_End) (.ref C_Back) = some false
  C_InvalidService : Addr
  m_InvalidService : mg "InvalidService" = some (.ref C_InvalidService)
  oxSvc : OexC K C_InvalidService
  nwSvc : PySem.W.findIn K (.ref C_InvalidService) "word" = some none
  f_InvalidService_init : Addr
  d_InvalidService_init : FuncData
  iSvc : PySem.W.findIn K (.ref C_InvalidService) "__init__" = some (some (.ref f_InvalidService_init))
  tSvc : PySem.W.typeIn K (.ref f_InvalidService_init) = some (.type "function")
  F_InvalidService_init : Fun K "__init__" "InvalidService.__init__" s_InvalidService_init f_InvalidService_init d_InvalidService_init
  b_InvalidService_init : Binds K d_InvalidService_init P_InvalidService_init []
  C_Service : Addr
  m_Service : mg "Service" = some (.ref C_Service)
  c_Service : Cls K C_Service
  f_Service_init : Addr
  d_Service_init : FuncData
  mk_Service : Mk K C_Service f_Service_init
  e_waits : Addr
  e_leaves : Addr
  e_rows : Addr
  t_waits : ∀ H : Hp, SqT K H e_waits []
  t_leaves : ∀ H : Hp, SqT K H e_leaves []
  t_rows : ∀ H : Hp, SqT K H e_rows []
  F_Service_init : FunD K "__init__" "Service.__init__" (defArgs s_Service_init) (defBody s_Service_init) (defScope s_Service_init) [.ref e_waits, .ref e_leaves, .ref e_rows] [] f_Service_init d_Service_init
  n_Service_name : NoAttr K C_Service "name"
  n_Service_kinds : NoAttr K C_Service "kinds"
  n_Service_waits : NoAttr K C_Service "waits"
  n_Service_leaves : NoAttr K C_Service "leaves"
  n_Service_rows : NoAttr K C_Service "rows"
  n_Service_moods : NoAttr K C_Service "moods"
/-- words that stand for others -/
def ODDW2 : List Str := ["any", "same"]
def spAsc (K : PySem.W.Frag) : Sp := fun vs H Q _ => ∃ (a : Addr) (l : List Str), vs = [.ref a] ∧ SqA K H a (l.map V.str) ∧ l.length ≤ 60 ∧
  ∀ (ys : List Str) (p : Addr) (H' : Hp), Same H H' → H p = none → H' p = some (.tup (ys.map V.str)) → ys.Nodup → sortedS ys = true → (∀ y, y ∈ ys ↔ y ∈ l ∧ ODDW2.contains y = false) → Q (.ref p) H'
/-- a row: its mood, and where it leads to -/
inductive RwAt {K : PySem.W.Frag} {mg : Str → Option Value} (T : TxSvc K mg) (H : Hp) : V → Str × Option Str → Prop
  | beg {a dx : Addr} {fs : List (Str × V)} {m : Str} (ha : H a = some (.ins T.C_Begin dx fs)) (hm : fs.lookup ("mood" : Str) = some (.str m)) : RwAt T H (.ref a) (m, none)
  | snd {a dx : Addr} {fs : List (Str × V)} {m : Str} (ha : H a = some (.ins T.C_Send dx fs)) (hm : fs.lookup ("mood" : Str) = some (.str m)) : RwAt T H (.ref a) (m, none)
  | bck {a dx : Addr} {fs : List (Str × V)} {m t : Str} (ha : H a = some (.ins T.C_Back dx fs)) (hm : fs.lookup ("mood" : Str) = some (.str m)) (ht : fs.lookup ("then" : Str) = some (.str t)) : RwAt T H (.ref a) (m, some t)
  | end_ {a dx : Addr} {fs : List (Str × V)} {m : Str} (ha : H a = some (.ins T.C_End dx fs)) (hm : fs.lookup ("mood" : Str) = some (.str m)) : RwAt T H (.ref a) (m, none)
theorem RwAt.same {K : PySem.W.Frag} {mg : Str → Option Value} {T : TxSvc K mg} {H H' : Hp} {v : V} {r : Str × Option Str} (h : RwAt T H v r) (e : Same H H') : RwAt T H' v r := by
  cases h with
  | beg ha hm => exact .beg (e _ _ ha) hm
  | snd ha hm => exact .snd (e _ _ ha) hm
  | bck ha hm ht => exact .bck (e _ _ ha) hm ht
  | end_ ha hm => exact .end_ (e _ _ ha) hm
/-- all but what stands at p stays -/
def Kp (p : Addr) (H H' : Hp) : Prop := ∀ b u, b ≠ p → H b = some u → H' b = some u
theorem Kp.refl {p : Addr} {H : Hp} : Kp p H H := fun _ _ _ e => e
theorem Kp.same {p : Addr} {H H1 H2 : Hp} (k : Kp p H H1) (e : Same H1 H2) : Kp p H H2 := fun b u n z => e _ _ (k b u n z)
theorem Kp.put {p : Addr} {H H1 : Hp} (k : Kp p H H1) (o : HO) : Kp p H (upd H1 p o) := fun b u n z => by rw [upd_ne n]; exact k b u n z
theorem Kp.trans {p : Addr} {H H1 H2 : Hp} (x : Kp p H H1) (y : Kp p H1 H2) : Kp p H H2 := fun b u n z => y b u n (x b u n z)
theorem ins_ne {p b : Addr} {H : Hp} {C dx : Addr} {fs : List (Str × V)} {o : HO} (hp : H p = some (.ins C dx fs)) (hb : H b = some o) (n : ∀ C dx fs, o ≠ .ins C dx fs) : b ≠ p := fun e => by
  rw [e, hp] at hb
  exact n _ _ _ (Option.some.inj hb).symm
theorem SqA.kp {K : PySem.W.Frag} {p a : Addr} {H H' : Hp} {C dx : Addr} {fs : List (Str × V)} {xs : List V} (h : SqA K H a xs) (hp : H p = some (.ins C dx fs)) (k : Kp p H H') : SqA K H' a xs := by
  rcases h with ((h | ⟨o, h⟩) | h) | ((h | ⟨o, h⟩) | h)
  · exact .inl (.inl (.inl (k _ _ (ins_ne hp h (fun _ _ _ z => by cases z)) h)))
  · exact .inl (.inl (.inr ⟨o, k _ _ (ins_ne hp h (fun _ _ _ z => by cases z)) h⟩))
  · exact .inl (.inr h)
  · exact .inr (.inl (.inl (k _ _ (ins_ne hp h (fun _ _ _ z => by cases z)) h)))
  · exact .inr (.inl (.inr ⟨o, k _ _ (ins_ne hp h (fun _ _ _ z => by cases z)) h⟩))
  · exact .inr (.inr h)
theorem sqT_kp {K : PySem.W.Frag} {p a : Addr} {H H' : Hp} {C dx : Addr} {fs : List (Str × V)} {xs : List V} (h : SqT K H a xs) (hp : H p = some (.ins C dx fs)) (k : Kp p H H') : SqT K H' a xs := by
  rcases h with (h | ⟨o, h⟩) | h
  · exact .inl (.inl (k _ _ (ins_ne hp h (fun _ _ _ z => by cases z)) h))
  · exact .inl (.inr ⟨o, k _ _ (ins_ne hp h (fun _ _ _ z => by cases z)) h⟩)
  · exact .inr h
/-- a row is no service that is being made -/
theorem RwAt.kp {K : PySem.W.Frag} {mg : Str → Option Value} {T : TxSvc K mg} {H H' : Hp} {p C dx : Addr} {v : V} {r : Str × Option Str} (h : RwAt T H v r) (hp : H p = some (.ins C dx [])) (k : Kp p H H') : RwAt T H' v r := by
  have ne : ∀ {a C2 dx2 : Addr} {fs : List (Str × V)} {m : Str}, H a = some (.ins C2 dx2 fs) → fs.lookup ("mood" : Str) = some (.str m) → a ≠ p := fun {a C2 dx2 fs m} ha hm e => by
    rw [e, hp] at ha
    cases ha
    cases hm
  cases h with
  | beg ha hm => exact .beg (k _ _ (ne ha hm) ha) hm
  | snd ha hm => exact .snd (k _ _ (ne ha hm) ha) hm
  | bck ha hm ht => exact .bck (k _ _ (ne ha hm) ha) hm ht
  | end_ ha hm => exact .end_ (k _ _ (ne ha hm) ha) hm
theorem tuple_of {K : PySem.W.Frag} {H : Hp} {a : Addr} {xs : List V} {Q : VK} (h : SqA K H a xs) (q : ∀ t H', Same H H' → SqT K H' t xs → Q (.ref t) H') : rTupO K [.ref a] H Q := by
  rcases h with h | h
  · exact ⟨a, xs, rfl, .inl ⟨h, fun l hl => q l _ (same_upd hl _) (SqT.of upd_same)⟩⟩
  · exact ⟨a, xs, rfl, .inr ⟨h, q a H (Same.refl H) h⟩⟩
theorem pair_len {α β : Type} {R : α → β → Prop} : ∀ {xs : List α} {ys : List β}, Paired R xs ys → xs.length = ys.length
  | _, _, .nil => rfl
  | _, _, .cons _ t => by rw [List.length_cons, List.length_cons, pair_len t]
/-- what are_rows answers -/
inductive RowsV (K : PySem.W.Frag) (CR : Addr) (H : Hp) : V → Bool → Prop where
  | no {v : V} (h : SeqV K H v false) : RowsV K CR H v false
  | seq {a : Addr} {xs : List V} {bs : List Bool} (h : SqA K H a xs) (e : Paired (fun x b => ∃ t, TyX K H x t ∧ PySem.W.kitOne K t (.ref CR) = some b) xs bs) (n : xs.length ≤ 900) : RowsV K CR H (.ref a) (bs.all id)
theorem RowsV.same {K : PySem.W.Frag} {CR : Addr} {H H' : Hp} {v : V} {b : Bool} (h : RowsV K CR H v b) (s : Same H H') : RowsV K CR H' v b := by
  have mono : ∀ {xs : List V} {bs : List Bool}, Paired (fun x b => ∃ t, TyX K H x t ∧ PySem.W.kitOne K t (.ref CR) = some b) xs bs → Paired (fun x b => ∃ t, TyX K H' x t ∧ PySem.W.kitOne K t (.ref CR) = some b) xs bs := by
    intro xs bs p
    induction p with
    | nil => exact .nil
    | cons r _ ih =>
      obtain ⟨t, ty, k⟩ := r
      exact .cons ⟨t, tyx_keep s ty, k⟩ ih
  cases h with
  | no h => exact .no (h.same s)
  | seq h e n => exact .seq (h.same s) (mono e) n
def spAreRows {K : PySem.W.Frag} {mg : Str → Option Value} (T : TxSvc K mg) : Sp := fun vs H Q _ => ∃ (v : V) (b : Bool), vs = [v] ∧ RowsV K T.C_Row H v b ∧ ∀ H', Same H H' → Q (.bl b) H'
/-- a service that is made: the moods of its rows -/
def moodsOf (ms : List (Str × Option Str)) : List Str := "calm" :: (ms.map (·.1) ++ ms.filterMap (·.2))
/-- the word of the first wrong argument -/
def wrSvc (b0 b1 b2 b3 b4 : Bool) : Option Str := if b0 = false then some "name" else if b1 = false then some "kinds" else if b2 = false then some "waits" else if b3 = false then some "leaves" else if b4 = false then some "rows" else none
def spSvcInit {K : PySem.W.Frag} {mg : Str → Option Value} (T : TxSvc K mg) : Sp := fun vs H Q E => ∃ (p dx : Addr) (n k wt lv rw : V) (b1 b2 b3 b4 : Bool), vs = [.ref p, n, k, wt, lv, rw] ∧ H p = some (.ins T.C_Service dx []) ∧
  AnyV K H n ∧ SomeV K H k b1 ∧ NamesV K H wt b2 ∧ NamesV K H lv b3 ∧ RowsV K T.C_Row H rw b4 ∧
  (wrSvc (nmV n) b1 b2 b3 b4 = none → ∃ (y : Str) (ka wa la ra : Addr) (lk lw ll : List Str) (xs : List V) (ms : List (Str × Option Str)), n = .str y ∧ k = .ref ka ∧ wt = .ref wa ∧ lv = .ref la ∧ rw = .ref ra ∧
    SqA K H ka (lk.map V.str) ∧ SqA K H wa (lw.map V.str) ∧ SqA K H la (ll.map V.str) ∧ SqA K H ra xs ∧ Paired (RwAt T H) xs ms ∧ ms.length ≤ 28 ∧
    ∀ (H' : Hp) (k2 w2 l2 r2 m2 : Addr) (ys : List Str), Kp p H H' → H' p = some (.ins T.C_Service dx [("name", .str y), ("kinds", .ref k2), ("waits", .ref w2), ("leaves", .ref l2), ("rows", .ref r2), ("moods", .ref m2)]) →
      SqT K H' k2 (lk.map V.str) → SqT K H' w2 (lw.map V.str) → SqT K H' l2 (ll.map V.str) → SqT K H' r2 xs → SqT K H' m2 (ys.map V.str) → ys.Nodup → sortedS ys = true → (∀ z, z ∈ ys ↔ z ∈ moodsOf ms ∧ ODDW2.contains z = false) → Q .non H') ∧
  (∀ wd d H', wrSvc (nmV n) b1 b2 b3 b4 = some wd → Same H H' → H d = none → H' d = some (.xd [("word", .str wd)]) → E (.ref T.C_InvalidService) (some d) H')
/-- what tuple(xs) asks -/
structure TupQ (K : PySem.W.Frag) (vs : List V) (H : Hp) (Q : VK) : Prop where
  ex : ∃ (a : Addr) (xs : List V), vs = [.ref a] ∧ SqA K H a xs ∧ ∀ t H', Same H H' → SqT K H' t xs → Q (.ref t) H'
theorem call_tupQ {X : Cx} (K : PySem.W.Frag) (hK : X.K = K := by rfl) : CallR X (.type "tuple") (TupQ K) := by
  subst hK
  intro pins s σ H xs us Q I r h
  obtain ⟨a, ys, rfl, hq, q⟩ := h.ex
  exact call_tuple_of pins s σ H _ us Q I r (tuple_of hq q)
section
variable {X : Cx}
theorem pa_starK (K : PySem.W.Frag) {e : Expr} {es : List Expr} {te : TE} {t : TA} {p : Pos} (he : PE X e te) (hr : PA X es t) (hK : X.K = K := by rfl) (hs : starEach (.Starred e p :: es) X.env = (true, eval e X.env) :: starEach es X.env := by rfl) : PA X (.Starred e p :: es) (StX.tStar K te t) := hK ▸ StX.pa_star he hr hs
end
section
variable {P : Program} {w : World} {K : PySem.W.Frag} {mg : Str → Option Value} {base : Heap}
theorem ok_ascending (T : TxSvc K mg) : FnOk P w K mg base CX0 1 T.f_ascending T.d_ascending P_ascending (spAsc K) := by
  refine T.F_ascending.ok sc_ascending (fun vs H Q E h => ?_) (fun cdv A outer s H vs Q E hr h => ?_)
  · obtain ⟨a, l, rfl, _⟩ := h
    rfl
  obtain ⟨a, l, rfl, hS, hl, q⟩ := h
  refine ⟨_, (pss_one (ps_ret (pe_callTy (call_tupleK K) (by rfl) T.z_tuple (by decide +kernel) (pa_cons (pe_callB (cr_sortedTS rfl) (by rfl) T.z_sorted (by decide +kernel) (pa_cons (pe_setT ⟨gName 1, _, _, _⟩ (by rfl) sc_ascending.nd (pi_seqK K (pv 0)) (blkOk_by (own := [("word", 1)]) (N := N_ascending) (sc := defScope s_ascending) (by decide +kernel)) rfl (fun _ _ _ _ _ => (pg_name (i := 1) sc_ascending.nd rfl (Or.inl rfl))) (fun _ _ _ _ _ => pts_one (pt_cmpR (op_notInK K) (pv 1) (pe_tup (pa_cons pe_str (pa_cons pe_str pa_nil))) (by rfl))) (fun _ _ _ _ _ => (pv 1))) pa_nil)) pa_nil)))), ?_⟩
  refine ⟨_, rfl, a, _, rfl, hS, fun J G g0 gs wk D hD => ⟨(l.map V.str).length, fun i H' => Same H H' ∧ ∃ z : List Str, H' D = some (TSetO P w D z) ∧ z.length ≤ i ∧ ∀ y, y ∈ z ↔ y ∈ l.take i ∧ ODDW2.contains y = false, ?_, ?_, ?_⟩⟩
  · exact ⟨same_upd hD _, [], upd_same, Nat.le_refl _, fun y => by simp⟩
  · rintro H1 ⟨s1, z, hD1, zl, zm⟩
    rw [List.length_map] at zl
    refine ⟨wk.stops _ (gs _ _ s1 g0), D, z, rfl, hD1, by omega, fun ys sp pm nd so hsp => ?_⟩
    refine ⟨sp, _, rfl, .inl ⟨SqL.of upd_same, fun t ht => ?_⟩⟩
    have s2 := (s1.trans (same_upd hsp (.lst (ys.map V.str)))).trans (same_upd ht (.tup (ys.map V.str)))
    refine q ys t _ s2 ((s1.trans (same_upd hsp (.lst (ys.map V.str)))).free ht) upd_same (pm.nodup_iff.mpr nd) so fun y => ?_
    rw [pm.mem_iff, zm, List.length_map, List.take_length]
  · rintro i H1 hi ⟨s1, z, hD1, zl, zm⟩
    refine ⟨wk.goes i _ hi (gs _ _ s1 g0), fun x H2 hyy => ?_⟩
    obtain ⟨rfl, hx⟩ := wk.yields i _ _ _ hi (gs _ _ s1 g0) hyy
    rw [List.getElem?_map] at hx
    obtain ⟨y, hy, rfl⟩ : ∃ y, l[i]? = some y ∧ V.str y = x := by
      cases e : l[i]? with
      | none => rw [e] at hx; cases hx
      | some z => rw [e] at hx; cases hx; exact ⟨z, rfl, rfl⟩
    rw [List.length_map] at hi
    refine ⟨rfl, ?_⟩
    refine ⟨_, rfl, by show 2 ≤ sizeLine; decide, fun t ht => ⟨t, ODDW2.map V.str, rfl, .inr (SqT.of upd_same), rfl, by decide +kernel, _, rfl, ?_⟩⟩
    have s2 := s1.trans (same_upd ht (.tup [.str "any", .str "same"]))
    have hD2 := same_upd ht (.tup [.str "any", .str "same"]) _ _ hD1
    rw [inV_strs]
    have tk : ∀ v, v ∈ l.take (i + 1) ↔ v ∈ l.take i ∨ v = y := fun v => by
      rw [List.take_add_one, hy, List.mem_append]
      simp
    refine ⟨fun c => ?_, fun c => ⟨_, rfl, y, z, rfl, hD2, by omega, ?_⟩⟩
    · have c' : ODDW2.contains y = true := by simpa using c
      refine ⟨s2, z, hD2, by omega, fun v => ?_⟩
      rw [zm, tk]
      constructor
      · exact fun h => ⟨.inl h.1, h.2⟩
      · rintro ⟨h1 | h1, h2⟩
        · exact ⟨h1, h2⟩
        · rw [h1, c'] at h2
          cases h2
    · have c' : ODDW2.contains y = false := by simpa using c
      refine ⟨fun b o e => ?_, more z y, upd_same, ?_, fun v => ?_⟩
      · rw [upd_ne (ne_of_none e hD)]
        exact s2 b o e
      · unfold more
        split
        · omega
        · simp only [List.length_cons]
          omega
      · have mm : v ∈ more z y ↔ v ∈ z ∨ v = y := by
          unfold more
          split
          · rename_i h1
            exact ⟨.inl, fun h2 => h2.elim id fun e => e ▸ h1⟩
          · rw [List.mem_cons]
            exact Or.comm
        rw [mm, zm, tk]
        constructor
        · rintro (h1 | h1)
          · exact ⟨.inl h1.1, h1.2⟩
          · exact ⟨.inr h1, h1 ▸ c'⟩
        · rintro ⟨h1 | h1, h2⟩
          · exact .inl ⟨h1, h2⟩
          · exact .inr h1
theorem row_ty (T : TxSvc K mg) {H : Hp} {v : V} {r : Str × Option Str} (h : RwAt T H v r) : ∃ C, TyX K H v (.ref C) ∧ PySem.W.kitOne K (.ref C) (.ref T.C_Row) = some true ∧ PySem.W.kitOne K (.ref C) (.ref T.C_Back) = some r.2.isSome := by
  cases h with
  | beg ha _ => exact ⟨_, T.ty_Begin _ _ _ _ ha, T.kr_Begin, T.kb_Begin⟩
  | snd ha _ => exact ⟨_, T.ty_Send _ _ _ _ ha, T.kr_Send, T.kb_Send⟩
  | bck ha _ _ => exact ⟨_, T.ty_Back _ _ _ _ ha, T.kr_Back, T.kb_Back⟩
  | end_ ha _ => exact ⟨_, T.ty_End _ _ _ _ ha, T.kr_End, T.kb_End⟩
theorem ok_are_rows (T : TxSvc K mg) : FnOk P w K mg base CX0 2 T.f_are_rows T.d_are_rows P_are_rows (spAreRows T) := by
  have G_is_sequence := ok_is_sequence (P := P) (w := w) (base := base) T.toTxSeq
  refine T.F_are_rows.ok sc_are_rows (fun vs H Q E h => ?_) (fun cdv A outer s H vs Q E hr h => ?_)
  · obtain ⟨v, b, rfl, _⟩ := h
    rfl
  obtain ⟨v, b, rfl, hR, q⟩ := h
  refine ⟨_, (pss_one (ps_ret (pe_and (pe_call G_is_sequence (hr.mono (by decide)) (by rfl) T.m_is_sequence T.F_is_sequence.kp T.b_is_sequence .nil pass0 (pa_cons (pv 0) pa_nil)) (pe_one (pe_callB (cr_allK K rfl) (by rfl) T.z_all (by decide +kernel) (pa_cons (pe_lc (own := [("row", 1)]) (g := gName 1) (by rfl) sc_are_rows.nd (pi_seqK K (pv 0)) (blkOk_by (own := [("row", 1)]) (N := N_are_rows) (sc := defScope s_are_rows) (by decide +kernel)) (fun _ _ _ _ _ => (pg_name (i := 1) sc_are_rows.nd rfl (Or.inl rfl))) (fun _ _ _ _ _ => pts_nil) (fun _ _ _ _ _ => (pe_callB (call_isiV K) (by rfl) T.z_isinstance (by decide +kernel) (pa_cons (pv 1) (pa_cons (pe_glob (v := .ref T.C_Row) (by rfl) T.m_Row rfl) pa_nil))))) pa_nil)))))), ?_⟩
  cases hR with
  | no h =>
    refine ⟨_, rfl, v, false, rfl, h, fun H1 s1 => ⟨_, rfl, ?_⟩⟩
    exact q H1 s1
  | @seq a xs bs h e n =>
    refine ⟨_, rfl, .ref a, true, rfl, h.seqV, fun H1 s1 => ⟨_, rfl, ?_⟩⟩
    refine ⟨_, rfl, a, xs, rfl, h.same s1, fun J G g0 gs wk D hD => ?_⟩
    refine lc_it wk (fun i H' => Same H1 H' ∧ H' D = some (.lst ((bs.take i).map V.bl))) ⟨same_upd hD _, upd_same⟩ (fun i H' _ h => gs _ _ h.1 g0) ?_ ?_
    · rintro i x H2 H3 hi ⟨s2, hD2⟩ ⟨rfl, hx⟩
      obtain ⟨bb, hb, t, ty, kr⟩ := paired_get e hx
      refine ⟨rfl, ?_⟩
      refine ⟨_, rfl, x, .ref T.C_Row, t, _, bb, rfl, .own _, tyx_keep (s1.trans s2) ty, kr, ?_⟩
      refine ⟨_, hD2, small1000 (by rw [List.length_map, List.length_take]; omega), ?_, ?_⟩
      · intro b o e
        rw [upd_ne (ne_of_none e hD)]
        exact s2 b o e
      · rw [upd_same, List.take_add_one, hb, List.map_append]
        rfl
    · rintro H2 ⟨s2, hD2⟩
      have ln : xs.length = bs.length := pair_len e
      rw [ln, List.take_length] at hD2
      refine ⟨D, _, rfl, SqL.of hD2, ?_⟩
      exact q H2 (s1.trans s2)
theorem ok_xsvc (T : TxSvc K mg) : FnOk P w K mg base CX0 1 T.f_InvalidService_init T.d_InvalidService_init P_InvalidService_init (spXInit K T.C_InvalidService) := by
  refine T.F_InvalidService_init.ok sc_InvalidService_init (fun vs H Q E h => ?_) (fun cdv A outer s H vs Q E hr h => ?_)
  · obtain ⟨a, y, rfl, _⟩ := h
    rfl
  obtain ⟨a, y, rfl, ha, q⟩ := h
  refine ⟨_, (pss_one (ps_ost (pv 0) (pv 1))), ?_⟩
  exact ⟨_, rfl, _, rfl, a, T.C_InvalidService, rfl, T.oxSvc, T.nwSvc, .inl ⟨ha, fun dx h1 h2 => q dx h1 h2⟩⟩
theorem paired_rw (T : TxSvc K mg) {H H' : Hp} {p C dx : Addr} (hp : H p = some (.ins C dx [])) (k : Kp p H H') : ∀ {xs : List V} {ms : List (Str × Option Str)}, Paired (RwAt T H) xs ms → Paired (RwAt T H') xs ms
  | _, _, .nil => .nil
  | _, _, .cons r t => .cons (r.kp hp k) (paired_rw T hp k t)
theorem paired_rwS (T : TxSvc K mg) {H H' : Hp} (k : Same H H') : ∀ {xs : List V} {ms : List (Str × Option Str)}, Paired (RwAt T H) xs ms → Paired (RwAt T H') xs ms
  | _, _, .nil => .nil
  | _, _, .cons r t => .cons (r.same k) (paired_rwS T k t)
end
end My

/-! ## A service is made, or refused -/
namespace My
open PySem PySem.Spec PyProof.Rows L2
section
variable {P : Program} {w : World} {K : PySem.W.Frag} {mg : Str → Option Value} {base : Heap}
theorem row_mood (T : TxSvc K mg) {H : Hp} {v : V} {r : Str × Option Str} (h : RwAt T H v r) : ∃ (a C dx : Addr) (fs : List (Str × V)), v = .ref a ∧ H a = some (.ins C dx fs) ∧ Cls K C ∧ NoAttr K C "mood" ∧ fs.lookup ("mood" : Str) = some (.str r.1) := by
  cases h with
  | beg ha hm => exact ⟨_, _, _, _, rfl, ha, T.c_Begin, T.n_Begin_mood, hm⟩
  | snd ha hm => exact ⟨_, _, _, _, rfl, ha, T.c_Send, T.n_Send_mood, hm⟩
  | bck ha hm _ => exact ⟨_, _, _, _, rfl, ha, T.c_Back, T.n_Back_mood, hm⟩
  | end_ ha hm => exact ⟨_, _, _, _, rfl, ha, T.c_End, T.n_End_mood, hm⟩
theorem row_then (T : TxSvc K mg) {H : Hp} {v : V} {m t : Str} (h : RwAt T H v (m, some t)) : ∃ (a dx : Addr) (fs : List (Str × V)), v = .ref a ∧ H a = some (.ins T.C_Back dx fs) ∧ fs.lookup ("then" : Str) = some (.str t) := by
  cases h with
  | bck ha _ ht => exact ⟨_, _, _, rfl, ha, ht⟩
theorem paired_len2 {α β : Type} {R : α → β → Prop} : ∀ {xs : List α} {ys : List β}, Paired R xs ys → xs.length = ys.length
  | _, _, .nil => rfl
  | _, _, .cons _ t => by rw [List.length_cons, List.length_cons, paired_len2 t]
theorem ok_Service_init (T : TxSvc K mg) : FnOk P w K mg base (L2.CX P w) 5 T.f_Service_init T.d_Service_init P_Service_init (spSvcInit T) := by
  have G_is_name := ok_is_name (P := P) (w := w) (base := base) T.toTxCheck
  have G_are_names := ok_are_names (P := P) (w := w) (base := base) T.toTxSeq
  have G_are_some_names := ok_are_some_names (P := P) (w := w) (base := base) T.toTxSeq
  have G_are_rows := ok_are_rows (P := P) (w := w) (base := base) T
  have G_ascending := ok_ascending (P := P) (w := w) (base := base) T
  have G_InvalidService_init := ok_xsvc (P := P) (w := w) (base := base) T
  refine T.F_Service_init.ok sc_Service_init (fun vs H Q E h => ?_) (fun cdv A outer s H vs Q E hr h => ?_)
  · obtain ⟨p, dx, n, k, wt, lv, rw, b1, b2, b3, b4, rfl, _⟩ := h
    rfl
  obtain ⟨p, dx, n, k, wt, lv, rw, b1, b2, b3, b4, rfl, hp, hn, hk, hw, hl, hr5, q, qe⟩ := h
  refine ⟨_, (pss_cons (ps_if (pt_not (pt_val (pe_call G_is_name (hr.mono (by decide)) (by rfl) T.m_is_name T.F_is_name.kp T.b_is_name .nil pass0 (pa_cons (pv 1) pa_nil)))) (pss_one (ps_raise rfl (takes_of rfl rfl rfl rfl) (pmk_oex T.oxSvc T.iSvc T.tSvc G_InvalidService_init (hr.mono (by decide)) T.b_InvalidService_init .nil pass0 (by rfl) T.m_InvalidService (pa_cons pe_str pa_nil)))) pss_nil)
      (pss_cons (ps_if (pt_not (pt_val (pe_call G_are_some_names (hr.mono (by decide)) (by rfl) T.m_are_some_names T.F_are_some_names.kp T.b_are_some_names .nil pass0 (pa_cons (pv 2) pa_nil)))) (pss_one (ps_raise rfl (takes_of rfl rfl rfl rfl) (pmk_oex T.oxSvc T.iSvc T.tSvc G_InvalidService_init (hr.mono (by decide)) T.b_InvalidService_init .nil pass0 (by rfl) T.m_InvalidService (pa_cons pe_str pa_nil)))) pss_nil)
      (pss_cons (ps_if (pt_not (pt_val (pe_call G_are_names (hr.mono (by decide)) (by rfl) T.m_are_names T.F_are_names.kp T.b_are_names .nil pass0 (pa_cons (pv 3) pa_nil)))) (pss_one (ps_raise rfl (takes_of rfl rfl rfl rfl) (pmk_oex T.oxSvc T.iSvc T.tSvc G_InvalidService_init (hr.mono (by decide)) T.b_InvalidService_init .nil pass0 (by rfl) T.m_InvalidService (pa_cons pe_str pa_nil)))) pss_nil)
      (pss_cons (ps_if (pt_not (pt_val (pe_call G_are_names (hr.mono (by decide)) (by rfl) T.m_are_names T.F_are_names.kp T.b_are_names .nil pass0 (pa_cons (pv 4) pa_nil)))) (pss_one (ps_raise rfl (takes_of rfl rfl rfl rfl) (pmk_oex T.oxSvc T.iSvc T.tSvc G_InvalidService_init (hr.mono (by decide)) T.b_InvalidService_init .nil pass0 (by rfl) T.m_InvalidService (pa_cons pe_str pa_nil)))) pss_nil)
      (pss_cons (ps_if (pt_not (pt_val (pe_call G_are_rows (hr.mono (by decide)) (by rfl) T.m_are_rows T.F_are_rows.kp T.b_are_rows .nil pass0 (pa_cons (pv 5) pa_nil)))) (pss_one (ps_raise rfl (takes_of rfl rfl rfl rfl) (pmk_oex T.oxSvc T.iSvc T.tSvc G_InvalidService_init (hr.mono (by decide)) T.b_InvalidService_init .nil pass0 (by rfl) T.m_InvalidService (pa_cons pe_str pa_nil)))) pss_nil)
      (pss_cons (ps_fld (pv 0) (pv 1) rfl)
      (pss_cons (ps_fld (pv 0) (pe_callTy (call_tupQ K) (by rfl) T.z_tuple (by decide +kernel) (pa_cons (pv 2) pa_nil)) rfl)
      (pss_cons (ps_fld (pv 0) (pe_callTy (call_tupQ K) (by rfl) T.z_tuple (by decide +kernel) (pa_cons (pv 3) pa_nil)) rfl)
      (pss_cons (ps_fld (pv 0) (pe_callTy (call_tupQ K) (by rfl) T.z_tuple (by decide +kernel) (pa_cons (pv 4) pa_nil)) rfl)
      (pss_cons (ps_fld (pv 0) (pe_callTy (call_tupQ K) (by rfl) T.z_tuple (by decide +kernel) (pa_cons (pv 5) pa_nil)) rfl)
      (pss_cons (ps_setLc (i := 6) (own := [("row", 7)]) (g := gName 7) (by rfl) sc_Service_init.nd rfl rfl (sw_true rfl rfl rfl (by decide +kernel)) (pi_seqK K (pv 5)) (blkOk_by (own := [("row", 7)]) (N := N_Service_init) (sc := defScope s_Service_init) (by decide +kernel)) (fun _ _ _ _ _ => (pg_name (i := 7) sc_Service_init.nd rfl (Or.inl rfl))) (fun _ _ _ _ _ => pts_one (by exact (pt_val (pe_callB (call_isiV K) (by rfl) T.z_isinstance (by decide +kernel) (pa_cons (pv 7) (pa_cons (pe_glob (v := .ref T.C_Back) (by rfl) T.m_Back rfl) pa_nil)))))) (fun _ _ _ _ _ => (pe_fldK K (pv 7))))
      (pss_one (ps_fld (pv 0) (pe_call G_ascending (hr.mono (by decide)) (by rfl) T.m_ascending T.F_ascending.kp T.b_ascending .nil pass0 (pa_cons (pe_lst (pa_cons pe_str (pa_starK K (pe_lc (own := [("row", 7)]) (g := gName 7) (by rfl) sc_Service_init.nd (pi_seqK K (pv 5)) (blkOk_by (own := [("row", 7)]) (N := N_Service_init) (sc := defScope s_Service_init) (by decide +kernel)) (fun _ _ _ _ _ => (pg_name (i := 7) sc_Service_init.nd rfl (Or.inl rfl))) (fun _ _ _ _ _ => pts_nil) (fun _ _ _ _ _ => (pe_fldK K (pv 7)))) (pa_starK K (pv 6) pa_nil)))) pa_nil)) rfl))))))))))))), ?_⟩
  have bad : ∀ {b : Bool} {α : Prop}, b = false → b = true → α := fun h1 h2 => by rw [h1] at h2; cases h2
  refine ⟨_, rfl, n, rfl, hn, fun H1 s1 => ⟨_, rfl, ?_⟩⟩
  refine ite2 (fun c => ?_) (fun c0 => ?_)
  · exact mk_word fun d H' s' n' e' => qe "name" d H' (by unfold wrSvc; rw [if_pos (bnot_eq c)]) (s1.trans s') (s1.free n') e'
  have w0 : ¬ nmV n = false := fun z => bad z (bnot_ne c0)
  refine ⟨_, rfl, k, b1, rfl, hk.same s1, fun H2 s2 => ⟨_, rfl, ?_⟩⟩
  have t2 := s1.trans s2
  refine ite2 (fun c => ?_) (fun c1 => ?_)
  · exact mk_word fun d H' s' n' e' => qe "kinds" d H' (by unfold wrSvc; rw [if_neg w0, if_pos (bnot_eq c)]) (t2.trans s') (t2.free n') e'
  have w1 : ¬ b1 = false := fun z => bad z (bnot_ne c1)
  refine ⟨_, rfl, wt, b2, rfl, hw.same t2, fun H3 s3 => ⟨_, rfl, ?_⟩⟩
  have t3 := t2.trans s3
  refine ite2 (fun c => ?_) (fun c2 => ?_)
  · exact mk_word fun d H' s' n' e' => qe "waits" d H' (by unfold wrSvc; rw [if_neg w0, if_neg w1, if_pos (bnot_eq c)]) (t3.trans s') (t3.free n') e'
  have w2 : ¬ b2 = false := fun z => bad z (bnot_ne c2)
  refine ⟨_, rfl, lv, b3, rfl, hl.same t3, fun H4 s4 => ⟨_, rfl, ?_⟩⟩
  have t4 := t3.trans s4
  refine ite2 (fun c => ?_) (fun c3 => ?_)
  · exact mk_word fun d H' s' n' e' => qe "leaves" d H' (by unfold wrSvc; rw [if_neg w0, if_neg w1, if_neg w2, if_pos (bnot_eq c)]) (t4.trans s') (t4.free n') e'
  have w3 : ¬ b3 = false := fun z => bad z (bnot_ne c3)
  refine ⟨_, rfl, rw, b4, rfl, hr5.same t4, fun H5 s5 => ⟨_, rfl, ?_⟩⟩
  have t5 := t4.trans s5
  refine ite2 (fun c => ?_) (fun c4 => ?_)
  · exact mk_word fun d H' s' n' e' => qe "rows" d H' (by unfold wrSvc; rw [if_neg w0, if_neg w1, if_neg w2, if_neg w3, if_pos (bnot_eq c)]) (t5.trans s') (t5.free n') e'
  have w4 : ¬ b4 = false := fun z => bad z (bnot_ne c4)
  obtain ⟨y, ka, wa, la, ra, lk, lw, ll, xs, ms, rfl, rfl, rfl, rfl, rfl, hK, hW, hL, hR, hrows, hms, fin⟩ := q (by unfold wrSvc; rw [if_neg w0, if_neg w1, if_neg w2, if_neg w3, if_neg w4])
  have lxs := paired_len2 hrows
  · skip
    have hp5 := t5 _ _ hp
    have k5 : Kp p H5 H5 := Kp.refl
    -- the fields, one by one
    refine ⟨_, rfl, _, rfl, p, T.C_Service, dx, _, rfl, hp5, T.c_Service, T.n_Service_name, (by show 0 < 1000; decide), ?_⟩
    have k6 := k5.put (.ins T.C_Service dx [("name", .str y)])
    refine ⟨_, rfl, ⟨ka, _, rfl, (hK.same t5).kp hp5 k6, fun k2 H7 s7 c7 => ?_⟩⟩
    have p7 := s7 _ _ (upd_same (H := H5) (a := p) (o := .ins T.C_Service dx [("name", .str y)]))
    have k7 := k6.same s7
    refine ⟨_, rfl, p, T.C_Service, dx, _, rfl, p7, T.c_Service, T.n_Service_kinds, (by show 1 < 1000; decide), ?_⟩
    have k8 := k7.put (.ins T.C_Service dx [("name", .str y), ("kinds", .ref k2)])
    have j8 : Kp p H7 _ := Kp.refl.put (.ins T.C_Service dx [("name", .str y), ("kinds", .ref k2)])
    refine ⟨_, rfl, ⟨wa, _, rfl, (hW.same t5).kp hp5 k8, fun w2 H9 s9 c9 => ?_⟩⟩
    have p9 := s9 _ _ (upd_same (H := H7) (a := p) (o := .ins T.C_Service dx [("name", .str y), ("kinds", .ref k2)]))
    have k9 := k8.same s9
    have j9 := j8.same s9
    refine ⟨_, rfl, p, T.C_Service, dx, _, rfl, p9, T.c_Service, T.n_Service_waits, (by show 2 < 1000; decide), ?_⟩
    have k10 := k9.put (.ins T.C_Service dx [("name", .str y), ("kinds", .ref k2), ("waits", .ref w2)])
    have j10 : Kp p H9 _ := Kp.refl.put (.ins T.C_Service dx [("name", .str y), ("kinds", .ref k2), ("waits", .ref w2)])
    refine ⟨_, rfl, ⟨la, _, rfl, (hL.same t5).kp hp5 k10, fun e2 H11 s11 c11 => ?_⟩⟩
    have p11 := s11 _ _ (upd_same (H := H9) (a := p) (o := .ins T.C_Service dx [("name", .str y), ("kinds", .ref k2), ("waits", .ref w2)]))
    have k11 := k10.same s11
    have j11 := j10.same s11
    refine ⟨_, rfl, p, T.C_Service, dx, _, rfl, p11, T.c_Service, T.n_Service_leaves, (by show 3 < 1000; decide), ?_⟩
    have k12 := k11.put (.ins T.C_Service dx [("name", .str y), ("kinds", .ref k2), ("waits", .ref w2), ("leaves", .ref e2)])
    have j12 : Kp p H11 _ := Kp.refl.put (.ins T.C_Service dx [("name", .str y), ("kinds", .ref k2), ("waits", .ref w2), ("leaves", .ref e2)])
    refine ⟨_, rfl, ⟨ra, _, rfl, (hR.same t5).kp hp5 k12, fun r2 H13 s13 c13 => ?_⟩⟩
    have p13 := s13 _ _ (upd_same (H := H11) (a := p) (o := .ins T.C_Service dx [("name", .str y), ("kinds", .ref k2), ("waits", .ref w2), ("leaves", .ref e2)]))
    have k13 := k12.same s13
    have j13 := j12.same s13
    refine ⟨_, rfl, p, T.C_Service, dx, _, rfl, p13, T.c_Service, T.n_Service_rows, (by show 4 < 1000; decide), ?_⟩
    have k14 := k13.put (.ins T.C_Service dx [("name", .str y), ("kinds", .ref k2), ("waits", .ref w2), ("leaves", .ref e2), ("rows", .ref r2)])
    have j14 : Kp p H13 _ := Kp.refl.put (.ins T.C_Service dx [("name", .str y), ("kinds", .ref k2), ("waits", .ref w2), ("leaves", .ref e2), ("rows", .ref r2)])
    have p14 : upd H13 p (.ins T.C_Service dx [("name", .str y), ("kinds", .ref k2), ("waits", .ref w2), ("leaves", .ref e2), ("rows", .ref r2)]) p = some (.ins T.C_Service dx [("name", .str y), ("kinds", .ref k2), ("waits", .ref w2), ("leaves", .ref e2), ("rows", .ref r2)]) := upd_same
    have rows14 := paired_rw T hp5 k14 (paired_rwS T t5 hrows)
    have sq14 := (hR.same t5).kp hp5 k14
    have cK := sqT_kp (sqT_kp (sqT_kp (sqT_kp c7 p7 j9) p9 j11) p11 j13) p13 j14
    have cW := sqT_kp (sqT_kp (sqT_kp c9 p9 j11) p11 j13) p13 j14
    have cL := sqT_kp (sqT_kp c11 p11 j13) p13 j14
    have cR := sqT_kp c13 p13 j14
    have kAll : Kp p H (upd H13 p (.ins T.C_Service dx [("name", .str y), ("kinds", .ref k2), ("waits", .ref w2), ("leaves", .ref e2), ("rows", .ref r2)])) := fun b u n e => k14 b u n (t5 b u e)
    generalize hH14 : upd H13 p (.ins T.C_Service dx (putF "rows" (.ref r2) [("name", .str y), ("kinds", .ref k2), ("waits", .ref w2), ("leaves", .ref e2)])) = H14
    have e14 : upd H13 p (.ins T.C_Service dx [("name", .str y), ("kinds", .ref k2), ("waits", .ref w2), ("leaves", .ref e2), ("rows", .ref r2)]) = H14 := hH14
    rw [e14] at p14 rows14 sq14 cK cW cL cR kAll
    clear k14 j14 k13 j13 k12 j12 k11 j11 k10 j10 k9 j9 k8 j8 k7 k6 k5
    refine ⟨_, rfl, ra, xs, rfl, sq14, fun J G g0 gs wk D hD => ?_⟩
    refine lc_it wk (fun i H' => Same H14 H' ∧ H' D = some (.lst (((ms.take i).filterMap (·.2)).map V.str))) ⟨same_upd hD _, upd_same⟩ (fun i H' _ h => gs _ _ h.1 g0) ?_ ?_
    · rintro i x H2 H3 hi ⟨s2, hD2⟩ ⟨rfl, hx⟩
      obtain ⟨r, hr1, hrw⟩ := paired_get rows14 hx
      have hrw2 := hrw.same s2
      obtain ⟨C, ty, _, kb⟩ := row_ty T hrw2
      have tk : (ms.take (i + 1)).filterMap (·.2) = (ms.take i).filterMap (·.2) ++ r.2.toList := by
        rw [List.take_add_one, hr1, List.filterMap_append]
        obtain ⟨m, t⟩ := r
        cases t <;> rfl
      refine ⟨rfl, ?_⟩
      refine ⟨_, rfl, x, .ref T.C_Back, _, _, r.2.isSome, rfl, .own _, ty, kb, _, rfl, ?_⟩
      obtain ⟨m, t⟩ := r
      cases t with
      | none =>
        refine iteF ⟨s2, ?_⟩
        rw [tk, hD2]
        simp
      | some t =>
        refine iteT ?_
        obtain ⟨a, dx2, fs, rfl, ha, ht⟩ := row_then T hrw2
        have few : ((ms.take i).filterMap (·.2)).length ≤ ms.length := Nat.le_trans (List.length_filterMap_le _ _) (List.length_take_le' _ _)
        refine ⟨_, rfl, a, T.C_Back, dx2, fs, _, rfl, ha, T.c_Back, T.n_Back_then, ht, _, hD2, small1000 (by rw [List.length_map]; omega), fun b o e => ?_, ?_⟩
        · rw [upd_ne (ne_of_none e hD)]
          exact s2 b o e
        · rw [upd_same, tk, List.map_append]
          rfl
    · rintro H2 ⟨s2, hD2⟩
      have lms : xs.length = ms.length := lxs
      rw [lms, List.take_length] at hD2
      refine ⟨_, rfl, ra, xs, rfl, sq14.same s2, fun J2 G2 g2 gs2 wk2 D2 hD3 => ?_⟩
      refine lc_it wk2 (fun i H' => Same H2 H' ∧ H' D2 = some (.lst (((ms.take i).map (·.1)).map V.str))) ⟨same_upd hD3 _, upd_same⟩ (fun i H' _ h => gs2 _ _ h.1 g2) ?_ ?_
      · rintro i x H3 H4 hi ⟨s3, hD4⟩ ⟨rfl, hx⟩
        obtain ⟨r, hr1, hrw⟩ := paired_get rows14 hx
        obtain ⟨a, C, dx2, fs, rfl, ha, cl, na, hm⟩ := row_mood T (hrw.same (s2.trans s3))
        have few : ((ms.take i).map (·.1)).length ≤ ms.length := by rw [List.length_map]; exact List.length_take_le' _ _
        refine ⟨rfl, ?_⟩
        refine ⟨_, rfl, a, C, dx2, fs, _, rfl, ha, cl, na, hm, _, hD4, small1000 (by rw [List.length_map]; omega), fun b o e => ?_, ?_⟩
        · rw [upd_ne (ne_of_none e hD3)]
          exact s3 b o e
        · rw [upd_same, List.take_add_one, hr1, List.map_append, List.map_append]
          rfl
      · rintro H3 ⟨s3, hD4⟩
        rw [lms, List.take_length] at hD4
        have s23 := s2.trans s3
        have fl : (ms.filterMap (·.2)).length ≤ ms.length := List.length_filterMap_le _ _
        refine ⟨D2, _, rfl, .inr (SqL.of hD4), _, rfl, D, _, rfl, .inr (SqL.of (s3 _ _ hD2)), ?_, fun ll hll => ?_⟩
        · simp only [List.length_cons, List.length_append, List.length_map, List.length_nil]
          rw [sizeLine_eq]
          omega
        have s4 := s23.trans (same_upd hll (.lst (V.str "calm" :: (((ms.map (·.1)).map V.str) ++ (((ms.filterMap (·.2)).map V.str) ++ [])))))
        have eL : (V.str "calm" :: (((ms.map (·.1)).map V.str) ++ (((ms.filterMap (·.2)).map V.str) ++ []))) = (moodsOf ms).map V.str := by
          unfold moodsOf
          rw [List.append_nil, List.map_cons, List.map_append]
        refine ⟨ll, moodsOf ms, rfl, .inl (SqL.of (by rw [← eL]; exact upd_same)), ?_, fun ys m2 H5 s5 nm2 hm2 nd so mem => ?_⟩
        · unfold moodsOf
          simp only [List.length_cons, List.length_append, List.length_map]
          omega
        have s6 := s4.trans s5
        have p6 := s6 _ _ p14
        refine ⟨_, rfl, p, T.C_Service, dx, _, rfl, p6, T.c_Service, T.n_Service_moods, (by show 5 < 1000; decide), ?_⟩
        have j6 : Kp p H5 (upd H5 p (.ins T.C_Service dx [("name", .str y), ("kinds", .ref k2), ("waits", .ref w2), ("leaves", .ref e2), ("rows", .ref r2), ("moods", .ref m2)])) := Kp.refl.put _
        exact fin _ k2 w2 e2 r2 m2 ys ((kAll.same s6).put _) upd_same (sqT_kp (seqT_same s6 cK) p6 j6) (sqT_kp (seqT_same s6 cW) p6 j6) (sqT_kp (seqT_same s6 cL) p6 j6) (sqT_kp (seqT_same s6 cR) p6 j6) (sqT_kp (SqT.of hm2) p6 j6) nd so mem
end
end My

/-! ## The law makes a row of its words -/
namespace My
open PySem L2
abbrev s_row : Stmt := top 46
abbrev N_row : List Str := ["_law_row_here"]
abbrev P_row : List Str := ["_law_row_here"]
theorem sc_row : FnScope N_row P_row (defScope s_row) := ⟨rfl, rfl, rfl, by decide +kernel, rfl, by decide +kernel, by decide +kernel⟩
structure TxLawRow (K : PySem.W.Frag) (mg : Str → Option Value) extends TxRows K mg where
  f_row : Addr
  d_row : FuncData
  F_row : Fun K "_law_row" "_law_row" s_row f_row d_row
  m_row : mg "_law_row" = some (.ref f_row)
  b_row : Binds K d_row P_row []
/-- a sort's class, names of its fields, the word of the first wrong argument -/
def clsOf {K : PySem.W.Frag} {mg : Str → Option Value} (T : TxRows K mg) (s : Str) : Addr := if s = "begin" then T.C_Begin else if s = "send" then T.C_Send else if s = "back" then T.C_Back else T.C_End
def fnOf (s : Str) : List Str := if s = "begin" then ["mark", "kind", "mood"] else if s = "send" then ["mood", "service", "mark"] else if s = "back" then ["mood", "service", "sign", "then"] else ["mood", "outcome", "sign", "part"]
def wrOf (s : Str) : List PyData → Option Str := if s = "begin" then wBegin else if s = "send" then wSend else if s = "back" then wBack else wEnd
def spLawRow {K : PySem.W.Frag} {mg : Str → Option Value} (T : TxRows K mg) : Sp := fun vs H Q E => ∃ (a : Addr) (s : Str) (as : List V) (ds : List PyData), vs = [.ref a] ∧ (SqL K H a (.str s :: as) ∨ SqT K H a (.str s :: as)) ∧ as.length = (fnOf s).length ∧ Paired (Dv K H) as ds ∧
  (∀ p dx H', wrOf s ds = none → Same H H' → H p = none → H' p = some (.ins (clsOf T s) dx ((fnOf s).zip as)) → Q (.ref p) H') ∧
  (∀ wd d H', wrOf s ds = some wd → Same H H' → H d = none → H' d = some (.xd [("word", .str wd)]) → E (.ref T.C_InvalidRow) (some d) H')
theorem rIx_at {K : PySem.W.Frag} {H : Hp} {a : Addr} {xs : List V} {j : Nat} {v : V} {Q : VK} (h : SqL K H a xs ∨ SqT K H a xs) (e : xs[j]? = some v) (q : Q v H) : rIx K (.ref a) (.int (j : Int)) H Q := by
  rcases h with h | h
  · exact .inl ⟨a, _, _, _, rfl, rfl, h, atI_nat e, q⟩
  · exact .inr (.inl ⟨a, _, _, _, rfl, rfl, h, atI_nat e, q⟩)
theorem paired_dv {K : PySem.W.Frag} {H H' : Hp} (e : Same H H') : ∀ {as : List V} {ds : List PyData}, Paired (Dv K H) as ds → Paired (Dv K H') as ds
  | _, _, .nil => .nil
  | _, _, .cons h t => .cons (h.same e) (paired_dv e t)
section
variable {P : Program} {w : World} {K : PySem.W.Frag} {mg : Str → Option Value} {base : Heap}
/-- what C(..) asks where C's __init__ is a row's -/
theorem row_made {C CX : Addr} {names : List Str} {wr : List PyData → Option Str} {H : Hp} {as : List V} {ds : List PyData} {Q : VK} {E : XK} (hl : as.length = names.length) (hd : Paired (Dv K H) as ds)
    (q : ∀ p dx H', wr ds = none → Same H H' → H p = none → H' p = some (.ins C dx (names.zip as)) → Q (.ref p) H') (qe : ∀ wd d H', wr ds = some wd → Same H H' → H d = none → H' d = some (.xd [("word", .str wd)]) → E (.ref CX) (some d) H') :
    ∀ x dx, H x = none → H dx = none → dx ≠ x → spRow K C CX names wr (.ref x :: as) (upd (upd H dx (.own x)) x (.ins C dx [])) (fun v H2 => v = .non ∧ Q (.ref x) H2) E := by
  intro x dx nx nd ne
  have s0 : Same H (upd (upd H dx (.own x)) x (.ins C dx [])) := fun b o e => by rw [upd_ne (ne_of_none e nx), upd_ne (ne_of_none e nd)]; exact e
  refine ⟨x, dx, as, ds, rfl, hl, paired_dv s0 hd, upd_same, fun H' e1 e2 k => ⟨rfl, q x dx H' e1 (Same.made nx nd k) nx e2⟩, fun wd d H' e1 s1 n1 e2 => qe wd d H' e1 (s0.trans s1) (s0.free n1) e2⟩
theorem ok_row (T : TxLawRow K mg) : FnOk P w K mg base (L2.CX P w) 5 T.f_row T.d_row P_row (spLawRow T.toTxRows) := by
  have G_Begin_init := ok_Begin_init (P := P) (w := w) (base := base) T.toTxRows
  have G_Send_init := ok_Send_init (P := P) (w := w) (base := base) T.toTxRows
  have G_Back_init := ok_Back_init (P := P) (w := w) (base := base) T.toTxRows
  have G_End_init := ok_End_init (P := P) (w := w) (base := base) T.toTxRows
  refine T.F_row.okX sc_row (fun vs H Q E h => ?_) (fun cdv A outer s H vs Q E hr h => ?_)
  · obtain ⟨a, so, as, ds, rfl, _⟩ := h
    rfl
  obtain ⟨a, so, as, ds, rfl, hS, hl, hd, q, qe⟩ := h
  refine ⟨_, (pss_cons (ps_if (pt_cmpR op_eq (pe_ix ix_seq (pv 0) pe_int (fun _ _ => rfl)) pe_str (nomark _)) (pss_one (ps_ret (pe_make T.mk_Begin G_Begin_init (hr.mono (by decide)) (by rfl) T.m_Begin T.b_Begin_init .nil (passes_call (W := fun cls d _ H => E cls d H) (takes_of rfl rfl rfl rfl) (fun _ _ _ _ h => h)) (pa_cons (pe_ix ix_seq (pv 0) pe_int (fun _ _ => rfl)) (pa_cons (pe_ix ix_seq (pv 0) pe_int (fun _ _ => rfl)) (pa_cons (pe_ix ix_seq (pv 0) pe_int (fun _ _ => rfl)) pa_nil)))))) pss_nil)
      (pss_cons (ps_if (pt_cmpR op_eq (pe_ix ix_seq (pv 0) pe_int (fun _ _ => rfl)) pe_str (nomark _)) (pss_one (ps_ret (pe_make T.mk_Send G_Send_init (hr.mono (by decide)) (by rfl) T.m_Send T.b_Send_init .nil (passes_call (W := fun cls d _ H => E cls d H) (takes_of rfl rfl rfl rfl) (fun _ _ _ _ h => h)) (pa_cons (pe_ix ix_seq (pv 0) pe_int (fun _ _ => rfl)) (pa_cons (pe_ix ix_seq (pv 0) pe_int (fun _ _ => rfl)) (pa_cons (pe_ix ix_seq (pv 0) pe_int (fun _ _ => rfl)) pa_nil)))))) pss_nil)
      (pss_cons (ps_if (pt_cmpR op_eq (pe_ix ix_seq (pv 0) pe_int (fun _ _ => rfl)) pe_str (nomark _)) (pss_one (ps_ret (pe_make T.mk_Back G_Back_init (hr.mono (by decide)) (by rfl) T.m_Back T.b_Back_init .nil (passes_call (W := fun cls d _ H => E cls d H) (takes_of rfl rfl rfl rfl) (fun _ _ _ _ h => h)) (pa_cons (pe_ix ix_seq (pv 0) pe_int (fun _ _ => rfl)) (pa_cons (pe_ix ix_seq (pv 0) pe_int (fun _ _ => rfl)) (pa_cons (pe_ix ix_seq (pv 0) pe_int (fun _ _ => rfl)) (pa_cons (pe_ix ix_seq (pv 0) pe_int (fun _ _ => rfl)) pa_nil))))))) pss_nil)
      (pss_one (ps_ret (pe_make T.mk_End G_End_init (hr.mono (by decide)) (by rfl) T.m_End T.b_End_init .nil (passes_call (W := fun cls d _ H => E cls d H) (takes_of rfl rfl rfl rfl) (fun _ _ _ _ h => h)) (pa_cons (pe_ix ix_seq (pv 0) pe_int (fun _ _ => rfl)) (pa_cons (pe_ix ix_seq (pv 0) pe_int (fun _ _ => rfl)) (pa_cons (pe_ix ix_seq (pv 0) pe_int (fun _ _ => rfl)) (pa_cons (pe_ix ix_seq (pv 0) pe_int (fun _ _ => rfl)) pa_nil)))))))))), ?_⟩
  refine ⟨_, rfl, rIx_at (j := 0) hS rfl ⟨rfl, _, rfl, ?_⟩⟩
  refine ite2 (fun c => ?_) (fun c => ?_)
  · have e := str_eq_of c
    subst e
    obtain ⟨x0, x1, x2, rfl⟩ : ∃ x0 x1 x2, as = [x0, x1, x2] := by
      match as, hl with
      | [x0, x1, x2], _ => exact ⟨x0, x1, x2, rfl⟩
    exact ⟨_, rfl, rIx_at (j := 1) hS rfl ⟨_, rfl, rIx_at (j := 2) hS rfl ⟨_, rfl, rIx_at (j := 3) hS rfl (row_made rfl hd q qe)⟩⟩⟩
  refine ⟨_, rfl, rIx_at (j := 0) hS rfl ⟨rfl, _, rfl, ?_⟩⟩
  refine ite2 (fun c2 => ?_) (fun c2 => ?_)
  · have e := str_eq_of c2
    subst e
    obtain ⟨x0, x1, x2, rfl⟩ : ∃ x0 x1 x2, as = [x0, x1, x2] := by
      match as, hl with
      | [x0, x1, x2], _ => exact ⟨x0, x1, x2, rfl⟩
    exact ⟨_, rfl, rIx_at (j := 1) hS rfl ⟨_, rfl, rIx_at (j := 2) hS rfl ⟨_, rfl, rIx_at (j := 3) hS rfl (row_made rfl hd q qe)⟩⟩⟩
  refine ⟨_, rfl, rIx_at (j := 0) hS rfl ⟨rfl, _, rfl, ?_⟩⟩
  refine ite2 (fun c3 => ?_) (fun c3 => ?_)
  · have e := str_eq_of c3
    subst e
    obtain ⟨x0, x1, x2, x3, rfl⟩ : ∃ x0 x1 x2 x3, as = [x0, x1, x2, x3] := by
      match as, hl with
      | [x0, x1, x2, x3], _ => exact ⟨x0, x1, x2, x3, rfl⟩
    exact ⟨_, rfl, rIx_at (j := 1) hS rfl ⟨_, rfl, rIx_at (j := 2) hS rfl ⟨_, rfl, rIx_at (j := 3) hS rfl ⟨_, rfl, rIx_at (j := 4) hS rfl (row_made rfl hd q qe)⟩⟩⟩⟩
  have e1 : fnOf so = (["mood", "outcome", "sign", "part"] : List Str) := by unfold fnOf; rw [if_neg (str_ne_of c), if_neg (str_ne_of c2), if_neg (str_ne_of c3)]
  have e2 : wrOf so = wEnd := by unfold wrOf; rw [if_neg (str_ne_of c), if_neg (str_ne_of c2), if_neg (str_ne_of c3)]
  have e3 : clsOf T.toTxRows so = T.C_End := by unfold clsOf; rw [if_neg (str_ne_of c), if_neg (str_ne_of c2), if_neg (str_ne_of c3)]
  rw [e1] at hl
  rw [e1, e2, e3] at q
  rw [e2] at qe
  obtain ⟨x0, x1, x2, x3, rfl⟩ : ∃ x0 x1 x2 x3, as = [x0, x1, x2, x3] := by
    match as, hl with
    | [x0, x1, x2, x3], _ => exact ⟨x0, x1, x2, x3, rfl⟩
  exact ⟨_, rfl, rIx_at (j := 1) hS rfl ⟨_, rfl, rIx_at (j := 2) hS rfl ⟨_, rfl, rIx_at (j := 3) hS rfl ⟨_, rfl, rIx_at (j := 4) hS rfl (row_made rfl hd q qe)⟩⟩⟩⟩
end
end My

/-! ## Drawn rows are no wrong ones; what the loops share -/
namespace My
open PySem L2
/-- the first word whose value is none that may stand -/
def lw : List (Str × List Str) → List PyData → Option Str
  | (w, ls) :: ws, d :: ds => if txD ls d = false ∧ ((w = "outcome" ∨ w = "part") ∨ nmD d = false) then some w else lw ws ds
  | _, _ => none
theorem gr_same {b : Addr} {H H1 H2 : Hp} {o : HO} (s : Same H H1) (n : H1 b = none) (g : Gr b (upd H1 b o) H2) : Same H H2 := fun a u e => by
  have na : a ≠ b := fun z => by
    have z1 := s a u e
    rw [z, n] at z1
    cases z1
  exact g.keep a u na (by rw [upd_ne na]; exact s a u e)
theorem gr_box {b : Addr} {H1 : Hp} {w s c : Int} : Gr b (upd H1 b (bx w s c)) (upd H1 b (bx w s c)) := ⟨fun _ _ _ e => e, w, s, c, upd_same⟩
theorem gr_self {b : Addr} {H H' : Hp} (g : Gr b H H') : Gr b H' H' := ⟨fun _ _ _ e => e, g.box⟩
/-- max(1, min(n, len)) -/
theorem many_turns {n : Int} {l : Nat} (h : 1 ≤ n) (hn : n ≤ 10) : let m : Int := if (l : Int) < n then (l : Int) else n
    let t : Int := if m > 1 then m else 1
    1 ≤ t ∧ t ≤ n := by
  intro m t
  constructor
  · show 1 ≤ (if m > 1 then m else 1)
    split <;> omega
  · show (if m > 1 then m else 1) ≤ n
    have : m ≤ n := by
      show (if (l : Int) < n then (l : Int) else n) ≤ n
      split <;> omega
    split <;> omega
/-- the two readings of a row agree -/
theorem lw_wr {s : Str} (hs : s ∈ SORTS) {ds : List PyData} (hl : ds.length = (wsOf s).length) : lw (wsOf s) ds = wrOf s ds := by
  have t0 : ∀ d, txD [] d = false := fun d => by cases d <;> rfl
  simp only [SORTS, List.mem_cons, List.not_mem_nil, or_false] at hs
  rcases hs with rfl | rfl | rfl | rfl
  · match ds, hl with
    | [a, b, c], _ =>
      show lw ws_begin [a, b, c] = wBegin [a, b, c]
      simp only [ws_begin, lw, wBegin, t0]
      cases nmD a <;> cases txD ["none", "any"] a <;> cases nmD b <;> cases txD ["any"] b <;> cases nmD c <;> first | rfl | decide +kernel
  · match ds, hl with
    | [a, b, c], _ =>
      show lw ws_send [a, b, c] = wSend [a, b, c]
      simp only [ws_send, lw, wSend]
      cases nmD a <;> cases txD ["any"] a <;> cases nmD b <;> cases txD ["any"] b <;> cases nmD c <;> cases txD ["none", "same"] c <;> first | rfl | decide +kernel
  · match ds, hl with
    | [a, b, c, d], _ =>
      show lw ws_back [a, b, c, d] = wBack [a, b, c, d]
      simp only [ws_back, lw, wBack]
      cases nmD a <;> cases txD ["any"] a <;> cases nmD b <;> cases txD ["any"] b <;> cases nmD c <;> cases txD ["none", "any"] c <;> cases nmD d <;> cases txD ["same"] d <;> first | rfl | decide +kernel
  · match ds, hl with
    | [a, b, c, d], _ =>
      show lw ws_end [a, b, c, d] = wEnd [a, b, c, d]
      simp only [ws_end, lw, wEnd]
      cases nmD a <;> cases txD ["any"] a <;> cases nmD b <;> cases txD ["good", "bad", "any"] b <;> cases nmD c <;> cases txD ["none"] c <;> cases nmD d <;> cases txD ["keep", "drop"] d <;> first | rfl | decide +kernel
theorem fn_ws : ∀ s ∈ SORTS, (fnOf s).length = (wsOf s).length := by decide +kernel
theorem abc_lt : ∀ c ∈ ABC.cps.toList, c < 0x110000 ∧ c ≠ 32 := by decide +kernel
/-- a short word of code points without a blank -/
def okW (x : Str) : Bool := okS x && decide (x.length ≤ 10) && x.cps.toList.all fun c => decide (c ≠ 32)
theorem isNm_okW {x : Str} (h : isNm x = true) : okW x = true := by
  have l := (isNm_len h).2
  unfold isNm at h
  have h4 := (Bool.and_eq_true_iff.mp h).2
  have h5 := List.all_eq_true.mp h4
  unfold okW okS
  rw [Bool.and_eq_true_iff, Bool.and_eq_true_iff, Bool.and_eq_true_iff]
  refine ⟨⟨⟨decide_eq_true (by omega), ?_⟩, decide_eq_true (by omega)⟩, List.all_eq_true.mpr fun c hc => decide_eq_true (abc_lt c (of_decide_eq_true (h5 c hc))).2⟩
  unfold PyData.strOk
  rw [← Array.all_toList, List.all_eq_true]
  exact fun c hc => decide_eq_true (abc_lt c (of_decide_eq_true (h5 c hc))).1
theorem ws_okW : ∀ s ∈ SORTS, ∀ w ∈ wsOf s, w.2.all okW = true := by decide +kernel
theorem ws_len : ∀ s ∈ SORTS, 3 ≤ (wsOf s).length := by decide +kernel
theorem so_okW : ∀ s ∈ SORTS, okW s = true := by decide +kernel
theorem paired_mem {α β : Type} {R : α → β → Prop} {x : α} : ∀ {xs : List α} {ys : List β}, Paired R xs ys → x ∈ xs → ∃ y ∈ ys, R x y
  | _, _, .nil, h => nomatch h
  | _, _, .cons r t, h => by
    rcases List.mem_cons.mp h with h | h
    · subst h
      exact ⟨_, List.mem_cons_self, r⟩
    · obtain ⟨y, h1, h2⟩ := paired_mem t h
      exact ⟨y, List.mem_cons_of_mem _ h1, h2⟩
theorem paired_len {α β : Type} {R : α → β → Prop} : ∀ {xs : List α} {ys : List β}, Paired R xs ys → xs.length = ys.length
  | _, _, .nil => rfl
  | _, _, .cons _ t => by rw [List.length_cons, List.length_cons, paired_len t]
theorem paired_imp {α β : Type} {R S : α → β → Prop} (h : ∀ x y, R x y → S x y) : ∀ {xs : List α} {ys : List β}, Paired R xs ys → Paired S xs ys
  | _, _, .nil => .nil
  | _, _, .cons r t => .cons (h _ _ r) (paired_imp h t)
theorem paired_map {α β γ : Type} {R : α → β → Prop} {S : α → γ → Prop} {f : β → γ} (h : ∀ x y, R x y → S x (f y)) : ∀ {xs : List α} {ys : List β}, Paired R xs ys → Paired S xs (ys.map f)
  | _, _, .nil => .nil
  | _, _, .cons r t => .cons (h _ _ r) (paired_map h t)
/-- a drawn row: its sort, its words -/
structure GoodR (r : Str × List Str) : Prop where
  so : r.1 ∈ SORTS
  fit : Paired fitW r.2 (wsOf r.1)
theorem GoodR.len {r : Str × List Str} (g : GoodR r) : r.2.length = (wsOf r.1).length := paired_len g.fit
theorem GoodR.len2 {r : Str × List Str} (g : GoodR r) : r.2.length = (fnOf r.1).length := g.len.trans (fn_ws _ g.so).symm
theorem GoodR.okW {r : Str × List Str} (g : GoodR r) : ∀ y ∈ r.2, okW y = true := fun y hy => by
  obtain ⟨w, hw, f⟩ := paired_mem g.fit hy
  rcases f with f | f
  · exact List.all_eq_true.mp (ws_okW _ g.so w hw) y f
  · exact isNm_okW f.2.2
theorem lw_fit : ∀ {ys : List Str} {ws : List (Str × List Str)}, Paired fitW ys ws → lw ws (ys.map PyData.str) = none
  | _, _, .nil => rfl
  | _, _, .cons (a := y) (b := w) f t => by
    show (if txD w.2 (.str y) = false ∧ ((w.1 = "outcome" ∨ w.1 = "part") ∨ nmD (.str y) = false) then some w.1 else lw _ _) = none
    rw [if_neg, lw_fit t]
    rintro ⟨h1, h2⟩
    rcases f with f | f
    · have : w.2.contains y = true := List.contains_iff_mem.mpr f
      have h1' : w.2.contains y = false := h1
      rw [this] at h1'
      cases h1'
    · rcases h2 with (h2 | h2) | h2
      · exact f.1 h2
      · exact f.2.1 h2
      · have h2' : isNm y = false := h2
        rw [f.2.2] at h2'
        cases h2'
theorem GoodR.wr {r : Str × List Str} (g : GoodR r) : wrOf r.1 (r.2.map PyData.str) = none := by
  rw [← lw_wr g.so (by rw [List.length_map]; exact g.len)]
  exact lw_fit g.fit
theorem okW_S {x : Str} (h : okW x = true) : okS x = true := (Bool.and_eq_true_iff.mp (Bool.and_eq_true_iff.mp h).1).1
theorem okW_l {x : Str} (h : okW x = true) : x.length ≤ 10 := of_decide_eq_true (Bool.and_eq_true_iff.mp (Bool.and_eq_true_iff.mp h).1).2
theorem okW_b {x : Str} (h : okW x = true) : 32 ∉ x.cps.toList := fun z => of_decide_eq_true (List.all_eq_true.mp (Bool.and_eq_true_iff.mp h).2 32 z) rfl
theorem dvs_strs {K : PySem.W.Frag} {H : Hp} : ∀ {ys : List Str}, (∀ y ∈ ys, okW y = true) → Paired (Dv K H) (ys.map V.str) (ys.map PyData.str)
  | [], _ => .nil
  | y :: ys, h => .cons (Dv.str (okW_S (h y List.mem_cons_self))) (dvs_strs fun z hz => h z (List.mem_cons_of_mem _ hz))
end My

/-! ## The law's service of a dict of arguments -/
namespace My
open PySem PySem.Spec PyProof.Rows L2
abbrev s_service_of : Stmt := top 49
abbrev N_service_of : List Str := ["_law_one", "_law_rows", "_law_row_here"]
abbrev P_service_of : List Str := ["_law_one"]
theorem sc_service_of : FnScope N_service_of P_service_of (defScope s_service_of) := ⟨rfl, rfl, rfl, by decide +kernel, rfl, by decide +kernel, by decide +kernel⟩
structure TxSvcOf (K : PySem.W.Frag) (mg : Str → Option Value) extends TxSvc K mg, TxLawRow K mg where
  f_service_of : Addr
  d_service_of : FuncData
  F_service_of : Fun K "_law_service_of" "_law_service_of" s_service_of f_service_of d_service_of
  m_service_of : mg "_law_service_of" = some (.ref f_service_of)
  b_service_of : Binds K d_service_of P_service_of []
/-- a row of these words at v -/
def RowIs {K : PySem.W.Frag} {mg : Str → Option Value} (T : TxSvc K mg) (H : Hp) (v : V) (r : Str × List Str) : Prop := ∃ (p dx : Addr), v = .ref p ∧ H p = some (.ins (clsOf T.toTxRows r.1) dx ((fnOf r.1).zip (r.2.map V.str)))
/-- the service of these arguments at p -/
structure SvcIs {K : PySem.W.Frag} {mg : Str → Option Value} (T : TxSvc K mg) (H : Hp) (p : Addr) (nm : Str) (ks ws ls : List Str) (rs : List (Str × List Str)) : Prop where
  ex : ∃ (dx k2 w2 l2 r2 m2 : Addr) (xs : List V) (ms : List (Str × Option Str)) (ys : List Str), H p = some (.ins T.C_Service dx [("name", .str nm), ("kinds", .ref k2), ("waits", .ref w2), ("leaves", .ref l2), ("rows", .ref r2), ("moods", .ref m2)]) ∧
    SqT K H k2 (ks.map V.str) ∧ SqT K H w2 (ws.map V.str) ∧ SqT K H l2 (ls.map V.str) ∧ SqT K H r2 xs ∧ Paired (RowIs T H) xs rs ∧ Paired (RwAt T H) xs ms ∧ SqT K H m2 (ys.map V.str) ∧ ys.Nodup ∧ sortedS ys = true ∧ (∀ z, z ∈ ys ↔ z ∈ moodsOf ms ∧ ODDW2.contains z = false)
theorem rw_is {K : PySem.W.Frag} {mg : Str → Option Value} (T : TxSvc K mg) {so : Str} (hso : so ∈ SORTS) {ws : List Str} (hl : ws.length = (fnOf so).length) {H : Hp} {p dx : Addr} (h : H p = some (.ins (clsOf T.toTxRows so) dx ((fnOf so).zip (ws.map V.str)))) : ∃ m, RwAt T H (.ref p) m := by
  simp only [SORTS, List.mem_cons, List.not_mem_nil, or_false] at hso
  rcases hso with rfl | rfl | rfl | rfl
  · rw [show clsOf T.toTxRows "begin" = T.C_Begin by unfold clsOf; rw [if_pos rfl]] at h
    match ws, hl with
    | [x, y, z], _ => exact ⟨_, .beg h rfl⟩
  · rw [show clsOf T.toTxRows "send" = T.C_Send by unfold clsOf; rw [if_neg (by decide), if_pos rfl]] at h
    match ws, hl with
    | [x, y, z], _ => exact ⟨_, .snd h rfl⟩
  · rw [show clsOf T.toTxRows "back" = T.C_Back by unfold clsOf; rw [if_neg (by decide), if_neg (by decide), if_pos rfl]] at h
    match ws, hl with
    | [x, y, z, t], _ => exact ⟨_, .bck h rfl rfl⟩
  · rw [show clsOf T.toTxRows "end" = T.C_End by unfold clsOf; rw [if_neg (by decide), if_neg (by decide), if_neg (by decide)]] at h
    match ws, hl with
    | [x, y, z, t], _ => exact ⟨_, .end_ h rfl⟩
def spSvcOf {K : PySem.W.Frag} {mg : Str → Option Value} (T : TxSvc K mg) : Sp := fun vs H Q _ => ∃ (b p : Addr) (nm : Str) (ks ws ls : List Str) (rs : List (Str × List Str)), vs = [.ref p] ∧ SvcD b H p nm ks ws ls rs ∧ isNm nm = true ∧
  (∀ y ∈ ks ++ ws ++ ls, isNm y = true) ∧ ks ≠ [] ∧ ks.Nodup ∧ ws.Nodup ∧ ls.Nodup ∧ ks.length ≤ 100 ∧ ws.length ≤ 100 ∧ ls.length ≤ 100 ∧ rs.length ≤ 28 ∧ (∀ r ∈ rs, GoodR r) ∧
  ∀ (q : Addr) (H' : Hp), Same H H' → H q = none → SvcIs T H' q nm ks ws ls rs → Q (.ref q) H'
theorem namesB_strs {l : List Str} (h : ∀ y ∈ l, isNm y = true) (n : l.Nodup) : namesB (l.map V.str) = true := by
  have e : (l.map V.str).map txV = l := by
    rw [List.map_map]
    exact List.map_id' l
  unfold namesB
  rw [e, decide_eq_true n, Bool.and_true, List.all_map]
  exact List.all_eq_true.mpr h
theorem rws_kit2 {K : PySem.W.Frag} {mg : Str → Option Value} {H : Hp} (T : TxSvc K mg) : ∀ {xs : List V} {ms : List (Str × Option Str)}, Paired (RwAt T H) xs ms → Paired (fun x b => ∃ t, TyX K H x t ∧ PySem.W.kitOne K t (.ref T.C_Row) = some b) xs (xs.map fun _ => true)
  | _, _, .nil => .nil
  | _, _, .cons r t => .cons (by obtain ⟨C, h1, h2, _⟩ := row_ty T r; exact ⟨_, h1, h2⟩) (rws_kit2 T t)
theorem all_true2 : ∀ xs : List V, (xs.map fun _ => true).all id = true
  | [] => rfl
  | _ :: xs => by rw [List.map_cons, List.all_cons, all_true2 xs]; rfl
theorem RowIs.keep {K : PySem.W.Frag} {mg : Str → Option Value} {T : TxSvc K mg} {H H' : Hp} {v : V} {r : Str × List Str} (h : RowIs T H v r) (k : ∀ a C dx fs, H a = some (.ins C dx fs) → H' a = some (.ins C dx fs)) : RowIs T H' v r := by
  obtain ⟨p, dx, e, h⟩ := h
  exact ⟨p, dx, e, k _ _ _ _ h⟩
theorem RwAt.keep2 {K : PySem.W.Frag} {mg : Str → Option Value} {T : TxSvc K mg} {H H' : Hp} {v : V} {r : Str × Option Str} (h : RwAt T H v r) (k : ∀ a C dx fs, H a = some (.ins C dx fs) → H' a = some (.ins C dx fs)) : RwAt T H' v r := by
  cases h with
  | beg ha hm => exact .beg (k _ _ _ _ ha) hm
  | snd ha hm => exact .snd (k _ _ _ _ ha) hm
  | bck ha hm ht => exact .bck (k _ _ _ _ ha) hm ht
  | end_ ha hm => exact .end_ (k _ _ _ _ ha) hm
section
variable {P : Program} {w : World} {K : PySem.W.Frag} {mg : Str → Option Value} {base : Heap}
theorem ok_service_of (T : TxSvcOf K mg) : FnOk P w K mg base CX0 7 T.f_service_of T.d_service_of P_service_of (spSvcOf T.toTxSvc) := by
  have G_row : FnOk P w K mg base (L2.CX P w) 5 T.f_row T.d_row P_row (spLawRow T.toTxRows) := ok_row T.toTxLawRow
  have G_Service_init := ok_Service_init (P := P) (w := w) (base := base) T.toTxSvc
  obtain ⟨dsS, hv6, hb6⟩ := T.F_Service_init.binds1 (ps := P_Service_init) 6 3 (by simp) rfl (fun TT kV doc pm an cdv ct us its h1 h2 => by
    match us, h1, its, h2 with
    | [_, _, _, _, _, _], _, [_, _, _], _ => exact ⟨_, rfl, rfl⟩)
  refine T.F_service_of.ok sc_service_of (fun vs H Q E h => ?_) (fun cdv A outer s H vs Q E hr h => ?_)
  · obtain ⟨b, p, nm, ks, ws, ls, rs, rfl, _⟩ := h
    rfl
  obtain ⟨b, p, nm, ks, ws, ls, rs, rfl, D, hnm, hall, k0, kn, wn, ln, kl, wl, ll, rl28, good, q⟩ := h
  refine ⟨_, (pss_cons (ps_setLc (i := 1) (own := [("_law_row_here", 2)]) (g := gName 2) (by rfl) sc_service_of.nd rfl rfl (sw_true rfl rfl rfl (by decide +kernel)) (pi_listK K (pe_dget (hu_of hr) (pv 0) pe_str (fun _ _ => rfl))) (blkOk_by (own := [("_law_row_here", 2)]) (N := N_service_of) (sc := defScope s_service_of) (by decide +kernel)) (fun _ _ _ _ _ => (pg_name (i := 2) sc_service_of.nd rfl (Or.inl rfl))) (fun _ _ _ _ _ => pts_nil) (fun _ _ _ _ _ => (pe_call G_row (hr.mono (by decide)) (by rfl) T.m_row T.F_row.kp T.b_row .nil passL (pa_cons (pv 2) pa_nil))))
      (pss_one (ps_ret (pe_make T.mk_Service G_Service_init (hr.mono (by decide)) (by rfl) T.m_Service hb6 hv6 passL (pa_cons (pe_dget (hu_of hr) (pv 0) pe_str (fun _ _ => rfl)) (pa_cons (pe_dget (hu_of hr) (pv 0) pe_str (fun _ _ => rfl)) (pa_cons (pe_dget (hu_of hr) (pv 0) pe_str (fun _ _ => rfl)) (pa_cons (pe_callTy (call_tupleK K) (by rfl) T.z_tuple (by decide +kernel) (pa_cons (pe_dget (hu_of hr) (pv 0) pe_str (fun _ _ => rfl)) pa_nil)) (pa_cons (pv 1) pa_nil))))))))), ?_⟩
  obtain ⟨ka, wa, la, ra, rl, ap, ak, aw, al, ar, prs⟩ := D.at_
  have get : ∀ (H' : Hp) (k : Str) (v : V), Same H H' → valV ([(.inr "name", .str nm), (.inr "kinds", .ref ka), (.inr "rows", .ref ra), (.inr "waits", .ref wa), (.inr "leaves", .ref la)] : List (Key × V)) (.inr k) = some v → DGet H' p (kV (.inr k)) (some v) := fun H' k v s e => by
    have z := DGet.k (k := .inr k) (s _ _ ap.at_)
    rw [e] at z
    exact z
  refine ⟨_, rfl, p, _, rfl, get H "rows" (.ref ra) (Same.refl H) rfl, ra, rfl, ⟨_, SqL.of ar.at_⟩, fun D2 hD2 => ?_⟩
  have len : rl.length = rs.length := paired_len prs
  refine lc_list (K := K) (a := ra) (xs := rl.map V.ref) (fun i H' => Same H H' ∧ ∃ (xs : List V) (ms : List (Str × Option Str)), H' D2 = some (.lst xs) ∧ Paired (RowIs T.toTxSvc H') xs (rs.take i) ∧ Paired (RwAt T.toTxSvc H') xs ms) ⟨same_upd hD2 _, [], [], upd_same, .nil, .nil⟩ (fun i H' _ h => SqL.of (h.1 _ _ ar.at_)) ?_ ?_
  · rintro i x H3 hx ⟨s3, xs, ms, h3, pr1, pr2⟩
    rw [List.getElem?_map] at hx
    obtain ⟨rp, hrp, rfl⟩ : ∃ rp, rl[i]? = some rp ∧ V.ref rp = x := by
      cases e : rl[i]? with
      | none => rw [e] at hx; cases hx
      | some z => rw [e] at hx; cases hx; exact ⟨z, rfl, rfl⟩
    obtain ⟨⟨so, wds⟩, hr', hat⟩ := paired_get prs hrp
    have gd := good _ (List.mem_of_getElem? hr')
    have i28 : i < 28 := by have := (List.getElem?_eq_some_iff.mp hr').1; omega
    have xl : xs.length ≤ i := by rw [paired_len pr1, List.length_take]; omega
    refine ⟨rfl, ?_⟩
    refine ⟨_, rfl, rp, so, wds.map V.str, wds.map PyData.str, rfl, .inr (SqT.of (s3 _ _ hat.at_)), by rw [List.length_map]; exact gd.len2, dvs_strs gd.okW, fun pp dx H11 e11 s11 n11 h11 => ?_, fun wd d H' e _ _ _ => by rw [show wrOf so (wds.map PyData.str) = none from gd.wr] at e; cases e⟩
    obtain ⟨m, hm⟩ := rw_is T.toTxSvc gd.so gd.len2 h11
    have hl11 := s11 _ _ h3
    have kj : ∀ (a : Addr) (C dx : Addr) (fs : List (Str × V)), H11 a = some (.ins C dx fs) → upd H11 D2 (.lst (xs ++ [.ref pp])) a = some (.ins C dx fs) := fun a C dx fs e => by
      rw [upd_ne (fun z => by rw [z, hl11] at e; cases e)]
      exact e
    refine ⟨xs, hl11, small1000 (by omega), fun c o e => ?_, xs ++ [.ref pp], ms ++ [m], upd_same, ?_, paired_snoc (paired_imp (fun _ _ z => RwAt.keep2 z fun a C dx fs e => kj _ _ _ _ (s11 _ _ e)) pr2) (hm.keep2 kj)⟩
    · rw [upd_ne (ne_of_none e hD2)]
      exact s11 _ _ (s3 _ _ e)
    · rw [List.take_add_one, hr']
      exact paired_snoc (paired_imp (fun _ _ z => RowIs.keep z fun a C dx fs e => kj _ _ _ _ (s11 _ _ e)) pr1) (RowIs.keep ⟨pp, dx, rfl, h11⟩ kj)
  · rintro H3 ⟨s3, xs, ms, h3, pr1, pr2⟩
    rw [List.length_map, len, List.take_length] at pr1
    refine ⟨_, rfl, p, _, rfl, get H3 "name" (.str nm) s3 rfl, ?_⟩
    refine ⟨_, rfl, p, _, rfl, get H3 "kinds" (.ref ka) s3 rfl, ?_⟩
    refine ⟨_, rfl, p, _, rfl, get H3 "waits" (.ref wa) s3 rfl, ?_⟩
    refine ⟨_, rfl, p, _, rfl, get H3 "leaves" (.ref la) s3 rfl, ?_⟩
    refine ⟨la, _, rfl, .inl ⟨SqL.of (s3 _ _ al.at_), fun tl htl => ?_⟩⟩
    have s4 := s3.trans (same_upd htl (.tup (ls.map V.str)))
    refine ⟨_, rfl, ?_⟩
    intro x dx nx nd ne
    have s5 : Same H (upd (upd (upd H3 tl (.tup (ls.map V.str))) dx (.own x)) x (.ins T.C_Service dx [])) := fun b o e => by
      have e4 := s4 b o e
      rw [upd_ne (ne_of_none e4 nx), upd_ne (ne_of_none e4 nd)]
      exact e4
    have y5 : Same (upd H3 tl (.tup (ls.map V.str))) (upd (upd (upd H3 tl (.tup (ls.map V.str))) dx (.own x)) x (.ins T.C_Service dx [])) := fun b o e => by
      rw [upd_ne (ne_of_none e nx), upd_ne (ne_of_none e nd)]
      exact e
    have f3 := ((same_upd htl (.tup (ls.map V.str))).trans y5) _ _ h3
    have ft := y5 _ _ (upd_same (a := tl))
    have t35 := (same_upd htl (.tup (ls.map V.str))).trans y5
    have h5 := upd_same (H := upd (upd H3 tl (.tup (ls.map V.str))) dx (.own x)) (a := x) (o := .ins T.C_Service dx [])
    have nx0 : H x = none := s4.free nx
    generalize upd (upd (upd H3 tl (.tup (ls.map V.str))) dx (.own x)) x (.ins T.C_Service dx []) = H5 at *
    have q1 : Paired (RowIs T.toTxSvc H5) xs rs := paired_imp (fun _ _ z => RowIs.keep z fun a C dx fs e => t35 _ _ e) pr1
    have q2 : Paired (RwAt T.toTxSvc H5) xs ms := paired_imp (fun _ _ z => z.same t35) pr2
    have an : ∀ l : List Str, (∀ y ∈ l, isNm y = true) → ∀ v ∈ l.map V.str, AnyV K H5 v := fun l hl v hv => by
      obtain ⟨y, hy, rfl⟩ := List.mem_map.mp hv
      exact .str y (by have := isNm_len (hl y hy); omega)
    have hk : ∀ y ∈ ks, isNm y = true := fun y hy => hall y (by simp [hy])
    have hw : ∀ y ∈ ws, isNm y = true := fun y hy => hall y (by simp [hy])
    have hl : ∀ y ∈ ls, isNm y = true := fun y hy => hall y (by simp [hy])
    have xl : xs.length ≤ 28 := by rw [paired_len q1]; exact rl28
    have kS : SqA K H5 ka (ks.map V.str) := .inl (SqL.of (s5 _ _ ak.at_))
    have wS : SqA K H5 wa (ws.map V.str) := .inl (SqL.of (s5 _ _ aw.at_))
    have lS : SqA K H5 tl (ls.map V.str) := .inr (SqT.of ft)
    have rS : SqA K H5 D2 xs := .inl (SqL.of f3)
    have v1 := SomeV.seq kS (an ks hk) (by rw [List.length_map]; omega)
    rw [namesB_strs hk kn, decide_eq_true (show 0 < (ks.map V.str).length by rw [List.length_map]; exact List.length_pos_iff.mpr k0)] at v1
    have v2 := NamesV.seq wS (an ws hw) (by rw [List.length_map]; omega)
    rw [namesB_strs hw wn] at v2
    have v3 := NamesV.seq lS (an ls hl) (by rw [List.length_map]; omega)
    rw [namesB_strs hl ln] at v3
    have v4 := RowsV.seq (CR := T.C_Row) rS (rws_kit2 T.toTxSvc q2) (by omega)
    rw [all_true2] at v4
    have wn : wrSvc (nmV (.str nm)) (true && true) true true true = none := by
      show wrSvc (isNm nm) true true true true = none
      rw [hnm]
      rfl
    refine ⟨x, dx, .str nm, .ref ka, .ref wa, .ref tl, .ref D2, true && true, true, true, true, rfl, h5, .str nm (by have := isNm_len hnm; omega), v1, v2, v3, v4, fun _ => ?_, fun wd d H' e => by rw [wn] at e; cases e⟩
    refine ⟨nm, ka, wa, tl, D2, ks, ws, ls, xs, ms, rfl, rfl, rfl, rfl, rfl, kS, wS, lS, rS, q2, by rw [← paired_len q2]; exact xl, fun H' k2 w2 l2 r2 m2 ys kp hp t1 t2 t3 t4 t5 nd so mem => ⟨rfl, ?_⟩⟩
    have ki : ∀ (a : Addr) (C dx2 : Addr) (fs : List (Str × V)), a ≠ x → H5 a = some (.ins C dx2 fs) → H' a = some (.ins C dx2 fs) := fun a C dx2 fs n e => kp a _ n e
    have q3 : Paired (RwAt T.toTxSvc H') xs ms := paired_imp (fun _ _ z => z.kp h5 kp) q2
    have q4 : Paired (RowIs T.toTxSvc H') xs rs := by
      refine paired_imp (fun v r z => ?_) pr1
      obtain ⟨p0, dx0, e0, h0⟩ := z
      exact ⟨p0, dx0, e0, kp p0 _ (ne_of_none ((same_upd htl (.tup (ls.map V.str))) _ _ h0) nx) (t35 _ _ h0)⟩
    exact q x H' (fun b o e => kp b o (ne_of_none e nx0) (s5 b o e)) nx0 ⟨dx, k2, w2, l2, r2, m2, xs, ms, ys, hp, t1, t2, t3, t4, q4, q3, t5, nd, so, mem⟩
end
end My

/-! ## What is no list stays: services stay -/
namespace My
open PySem PySem.Spec PyProof.Rows L2
/-- what is no list stays -/
def KL (H H' : Hp) : Prop := ∀ a o, H a = some o → (∀ xs, o ≠ .lst xs) → H' a = some o
theorem KL.refl (H : Hp) : KL H H := fun _ _ e _ => e
theorem KL.trans {H1 H2 H3 : Hp} (x : KL H1 H2) (y : KL H2 H3) : KL H1 H3 := fun a o e n => y a o (x a o e n) n
theorem KL.of_same {H H' : Hp} (s : Same H H') : KL H H' := fun a o e _ => s a o e
theorem KL.of_gr {b : Addr} {H H' : Hp} {w s c : Int} (hb : H b = some (bx w s c)) (g : Gr b H H') : KL H H' := fun a o e n => g.keep a o (fun z => by
  rw [z, hb] at e
  exact n _ (Option.some.inj e).symm) e
theorem KL.put {H : Hp} {p : Addr} {xs : List V} (h : H p = some (.lst xs)) (o' : HO) : KL H (upd H p o') := fun a o e n => by
  rw [upd_ne (fun z => by rw [z, h] at e; exact n _ (Option.some.inj e).symm)]
  exact e
theorem KL.ins {H H' : Hp} (k : KL H H') {a C dx : Addr} {fs : List (Str × V)} (h : H a = some (.ins C dx fs)) : H' a = some (.ins C dx fs) := k _ _ h fun _ z => nomatch z
theorem KL.seqT {K : PySem.W.Frag} {H H' : Hp} (k : KL H H') {a : Addr} {xs : List V} (hs : SqT K H a xs) : SqT K H' a xs := by
  rcases hs with (hs | ⟨o, hs⟩) | hs
  · exact .inl (.inl (k _ _ hs fun _ z => nomatch z))
  · exact .inl (.inr ⟨o, k _ _ hs fun _ z => nomatch z⟩)
  · exact .inr hs
section
variable {K : PySem.W.Frag} {mg : Str → Option Value}
theorem SvcIs.kl {T : TxSvc K mg} {H H' : Hp} {p : Addr} {nm : Str} {ks ws ls : List Str} {rs : List (Str × List Str)} (h : SvcIs T H p nm ks ws ls rs) (k : KL H H') : SvcIs T H' p nm ks ws ls rs := by
  obtain ⟨dx, k2, w2, l2, r2, m2, xs, ms, ys, hp, t1, t2, t3, t4, q1, q2, t5, nd, so, mem⟩ := h.ex
  exact ⟨dx, k2, w2, l2, r2, m2, xs, ms, ys, k.ins hp, k.seqT t1, k.seqT t2, k.seqT t3, k.seqT t4, paired_imp (fun _ _ z => RowIs.keep z fun a C dx fs e => k.ins e) q1, paired_imp (fun _ _ z => RwAt.keep2 z fun a C dx fs e => k.ins e) q2, k.seqT t5, nd, so, mem⟩
theorem RwAt.not_bare {T : TxSvc K mg} {H : Hp} {x C dx : Addr} {m : Str × Option Str} (h : RwAt T H (.ref x) m) (hx : H x = some (.ins C dx [])) : False := by
  cases h with
  | beg ha hm => rw [hx] at ha; cases ha; cases hm
  | snd ha hm => rw [hx] at ha; cases ha; cases hm
  | bck ha hm _ => rw [hx] at ha; cases ha; cases hm
  | end_ ha hm => rw [hx] at ha; cases ha; cases hm
theorem both_kp {T : TxSvc K mg} {H H' : Hp} {p C dx : Addr} (hp : H p = some (.ins C dx [])) (k : Kp p H H') : ∀ {xs : List V} {rs : List (Str × List Str)} {ms : List (Str × Option Str)}, Paired (RowIs T H) xs rs → Paired (RwAt T H) xs ms → Paired (RowIs T H') xs rs
  | _, _, _, .nil, .nil => .nil
  | _, _, _, .cons r t, .cons r2 t2 => by
    obtain ⟨p0, dx0, e0, h0⟩ := r
    subst e0
    exact .cons ⟨p0, dx0, rfl, k p0 _ (fun z => by subst z; exact r2.not_bare hp) h0⟩ (both_kp hp k t t2)
/-- a service is none that is being made -/
theorem SvcIs.kp {T : TxSvc K mg} {H H' : Hp} {a p C dx : Addr} {nm : Str} {ks ws ls : List Str} {rs : List (Str × List Str)} (h : SvcIs T H a nm ks ws ls rs) (hp : H p = some (.ins C dx [])) (k : Kp p H H') : SvcIs T H' a nm ks ws ls rs := by
  obtain ⟨dx0, k2, w2, l2, r2, m2, xs, ms, ys, h1, t1, t2, t3, t4, q1, q2, t5, nd, so, mem⟩ := h.ex
  have ne : a ≠ p := fun z => by
    rw [z, hp] at h1
    cases h1
  exact ⟨dx0, k2, w2, l2, r2, m2, xs, ms, ys, k a _ ne h1, sqT_kp t1 hp k, sqT_kp t2 hp k, sqT_kp t3 hp k, sqT_kp t4 hp k, both_kp hp k q1 q2, paired_imp (fun _ _ z => z.kp hp k) q2, sqT_kp t5 hp k, nd, so, mem⟩
end
end My

/-! ## A service of arguments is made -/
namespace My
open PySem PySem.Spec PyProof.Rows L2
section
variable {K : PySem.W.Frag} {mg : Str → Option Value}
theorem rows_rw (T : TxSvc K mg) {H : Hp} : ∀ {xs : List V} {rs : List (Str × List Str)}, Paired (RowIs T H) xs rs → (∀ r ∈ rs, GoodR r) → ∃ ms, Paired (RwAt T H) xs ms
  | _, _, .nil, _ => ⟨[], .nil⟩
  | _, _, .cons (a := x) (b := r) h t, g => by
    obtain ⟨p, dx, e, h⟩ := h
    have gd := g _ List.mem_cons_self
    obtain ⟨m, hm⟩ := rw_is T gd.so gd.len2 h
    obtain ⟨ms, hms⟩ := rows_rw T t fun r hr => g r (List.mem_cons_of_mem _ hr)
    subst e
    exact ⟨m :: ms, .cons hm hms⟩
/-- what Service(..) asks where all its arguments are right -/
theorem svcInit_is (T : TxSvc K mg) {H5 : Hp} {x dx ka wa la ra : Addr} {nm : Str} {ks ws ls : List Str} {rs : List (Str × List Str)} {xs : List V} {Q : VK} {E : XK} (h5 : H5 x = some (.ins T.C_Service dx []))
    (hnm : isNm nm = true) (hk : ∀ y ∈ ks, isNm y = true) (hw : ∀ y ∈ ws, isNm y = true) (hl : ∀ y ∈ ls, isNm y = true) (k0 : ks ≠ []) (kn : ks.Nodup) (wn : ws.Nodup) (ln : ls.Nodup) (kl : ks.length ≤ 100) (wl : ws.length ≤ 100) (ll : ls.length ≤ 100) (rl28 : rs.length ≤ 28) (good : ∀ r ∈ rs, GoodR r)
    (kS : SqA K H5 ka (ks.map V.str)) (wS : SqA K H5 wa (ws.map V.str)) (lS : SqA K H5 la (ls.map V.str)) (rS : SqA K H5 ra xs) (q1 : Paired (RowIs T H5) xs rs)
    (q : ∀ H', Kp x H5 H' → SvcIs T H' x nm ks ws ls rs → Q .non H') : spSvcInit T [.ref x, .str nm, .ref ka, .ref wa, .ref la, .ref ra] H5 Q E := by
  obtain ⟨ms, q2⟩ := rows_rw T q1 good
  have an : ∀ l : List Str, (∀ y ∈ l, isNm y = true) → ∀ v ∈ l.map V.str, AnyV K H5 v := fun l hl v hv => by
    obtain ⟨y, hy, rfl⟩ := List.mem_map.mp hv
    exact .str y (by have := isNm_len (hl y hy); omega)
  have xl : xs.length ≤ 28 := by rw [paired_len q1]; exact rl28
  have v1 := SomeV.seq kS (an ks hk) (by rw [List.length_map]; omega)
  rw [namesB_strs hk kn, decide_eq_true (show 0 < (ks.map V.str).length by rw [List.length_map]; exact List.length_pos_iff.mpr k0)] at v1
  have v2 := NamesV.seq wS (an ws hw) (by rw [List.length_map]; omega)
  rw [namesB_strs hw wn] at v2
  have v3 := NamesV.seq lS (an ls hl) (by rw [List.length_map]; omega)
  rw [namesB_strs hl ln] at v3
  have v4 := RowsV.seq (CR := T.C_Row) rS (rws_kit2 T q2) (by omega)
  rw [all_true2] at v4
  have wn : wrSvc (nmV (.str nm)) (true && true) true true true = none := by
    show wrSvc (isNm nm) true true true true = none
    rw [hnm]
    rfl
  refine ⟨x, dx, .str nm, .ref ka, .ref wa, .ref la, .ref ra, true && true, true, true, true, rfl, h5, .str nm (by have := isNm_len hnm; omega), v1, v2, v3, v4, fun _ => ?_, fun wd d H' e => by rw [wn] at e; cases e⟩
  refine ⟨nm, ka, wa, la, ra, ks, ws, ls, xs, ms, rfl, rfl, rfl, rfl, rfl, kS, wS, lS, rS, q2, by rw [← paired_len q2]; exact xl, fun H' k2 w2 l2 r2 m2 ys kp hp t1 t2 t3 t4 t5 nd so mem => ?_⟩
  have q3 : Paired (RwAt T H') xs ms := paired_imp (fun _ _ z => z.kp h5 kp) q2
  have q4 : Paired (RowIs T H') xs rs := by
    have both : ∀ {xs : List V} {rs : List (Str × List Str)} {ms : List (Str × Option Str)}, Paired (RowIs T H5) xs rs → Paired (RwAt T H5) xs ms → Paired (RowIs T H') xs rs := by
      intro xs rs ms h1
      induction h1 generalizing ms with
      | nil => exact fun _ => .nil
      | cons r t ih =>
        intro h2
        cases h2 with
        | cons r2 t2 =>
          obtain ⟨p0, dx0, e0, h0⟩ := r
          subst e0
          exact .cons ⟨p0, dx0, rfl, kp p0 _ (fun z => by subst z; exact r2.not_bare h5) h0⟩ (ih t2)
    exact both q1 q2
  exact q H' kp ⟨dx, k2, w2, l2, r2, m2, xs, ms, ys, hp, t1, t2, t3, t4, q4, q3, t5, nd, so, mem⟩
end
end My

/-! ## Words of a drawn service -/
namespace My
open PySem PySem.Spec PyProof.Rows L2
/-- words of a service that is drawn -/
structure GoodV (nm : Str) (ks ws ls : List Str) (rs : List (Str × List Str)) : Prop where
  nm : isNm nm = true
  all : ∀ y ∈ ks ++ ws ++ ls, isNm y = true
  k0 : ks ≠ []
  kn : ks.Nodup
  wn : ws.Nodup
  ln : ls.Nodup
  kl : ks.length ≤ 10
  wl : ws.length ≤ 10
  ll : ls.length ≤ 10
  rl : rs.length ≤ 28
  good : ∀ r ∈ rs, GoodR r
theorem GoodV.hk {nm : Str} {ks ws ls : List Str} {rs : List (Str × List Str)} (g : GoodV nm ks ws ls rs) : ∀ y ∈ ks, isNm y = true := fun y hy => g.all y (by simp [hy])
theorem GoodV.hw {nm : Str} {ks ws ls : List Str} {rs : List (Str × List Str)} (g : GoodV nm ks ws ls rs) : ∀ y ∈ ws, isNm y = true := fun y hy => g.all y (by simp [hy])
theorem GoodV.hl {nm : Str} {ks ws ls : List Str} {rs : List (Str × List Str)} (g : GoodV nm ks ws ls rs) : ∀ y ∈ ls, isNm y = true := fun y hy => g.all y (by simp [hy])
theorem GoodV.n10 {l : List Str} (h : ∀ y ∈ l, isNm y = true) (n : l.length ≤ 10) : l.length ≤ 10 ∧ ∀ y ∈ l, y.length ≤ 10 := ⟨n, fun y hy => by have := (isNm_len (h y hy)).2; omega⟩
theorem GoodV.nm10 {nm : Str} {ks ws ls : List Str} {rs : List (Str × List Str)} (g : GoodV nm ks ws ls rs) : nm.length ≤ 10 := by have := (isNm_len g.nm).2; omega
/-- what a draw of a service's arguments tells -/
theorem GoodV.drawn {nm : Str} {names words ks ws ls : List Str} {rs : List (Str × List Str)} (hn : isNm nm = true) (nn : names.Nodup) (nl : names.length ≤ 10) (hN : ∀ y ∈ names, isNm y = true) (wn : words.Nodup) (hW : ∀ y ∈ words, isNm y = true) (sK : SomeOf 1 (words.take 2) ks) (sW : SomeOf 0 names ws) (sL : SomeOf 0 names ls) (r5 : rs.length ≤ 28) (good : ∀ r ∈ rs, GoodR r) : GoodV nm ks ws ls rs := by
  refine ⟨hn, fun y hy => ?_, fun z => ?_, sK.nd (wn.sublist (List.take_sublist _ _)), sW.nd nn, sL.nd nn, ?_, Nat.le_trans sW.len nl, Nat.le_trans sL.len nl, r5, good⟩
  · rcases List.mem_append.mp hy with h | h
    · rcases List.mem_append.mp h with h | h
      · exact hW y (List.mem_of_mem_take (sK.sub y h))
      · exact hN y (sW.sub y h)
    · exact hN y (sL.sub y h)
  · have := sK.few
    rw [z] at this
    exact absurd this (by decide)
  · have := sK.len
    rw [List.length_take] at this
    omega
/-- a service by its words -/
structure SvW where
  nm : Str
  kinds : List Str
  waits : List Str
  leaves : List Str
  rows : List (Str × List Str)
def SvW.good (v : SvW) : Prop := GoodV v.nm v.kinds v.waits v.leaves v.rows
end My

/-! ## A row is of one of the four sorts -/
namespace My
open PySem PySem.Spec PyProof.Rows L2
/-- a row is of one of the four sorts -/
inductive RowK {K : PySem.W.Frag} {mg : Str → Option Value} (T : TxSvc K mg) (H : Hp) : V → Str × List Str → Prop
  | beg {o dx : Addr} {x y z : Str} (h : H o = some (.ins T.C_Begin dx [("mark", .str x), ("kind", .str y), ("mood", .str z)])) : RowK T H (.ref o) ("begin", [x, y, z])
  | snd {o dx : Addr} {x y z : Str} (h : H o = some (.ins T.C_Send dx [("mood", .str x), ("service", .str y), ("mark", .str z)])) : RowK T H (.ref o) ("send", [x, y, z])
  | bck {o dx : Addr} {x y z t : Str} (h : H o = some (.ins T.C_Back dx [("mood", .str x), ("service", .str y), ("sign", .str z), ("then", .str t)])) : RowK T H (.ref o) ("back", [x, y, z, t])
  | end_ {o dx : Addr} {x y z t : Str} (h : H o = some (.ins T.C_End dx [("mood", .str x), ("outcome", .str y), ("sign", .str z), ("part", .str t)])) : RowK T H (.ref o) ("end", [x, y, z, t])
theorem RowIs.kind {K : PySem.W.Frag} {mg : Str → Option Value} {T : TxSvc K mg} {H : Hp} {v : V} {r : Str × List Str} (g : GoodR r) (h : RowIs T H v r) : RowK T H v r := by
  obtain ⟨so, ws⟩ := r
  obtain ⟨o, dx, rfl, h⟩ := h
  have hso := g.so
  have hl := g.len2
  simp only [SORTS, List.mem_cons, List.not_mem_nil, or_false] at hso
  rcases hso with rfl | rfl | rfl | rfl
  · rw [show clsOf T.toTxRows "begin" = T.C_Begin by unfold clsOf; rw [if_pos rfl]] at h
    match ws, hl with
    | [x, y, z], _ => exact .beg h
  · rw [show clsOf T.toTxRows "send" = T.C_Send by unfold clsOf; rw [if_neg (by decide), if_pos rfl]] at h
    match ws, hl with
    | [x, y, z], _ => exact .snd h
  · rw [show clsOf T.toTxRows "back" = T.C_Back by unfold clsOf; rw [if_neg (by decide), if_neg (by decide), if_pos rfl]] at h
    match ws, hl with
    | [x, y, z, t], _ => exact .bck h
  · rw [show clsOf T.toTxRows "end" = T.C_End by unfold clsOf; rw [if_neg (by decide), if_neg (by decide), if_neg (by decide)]] at h
    match ws, hl with
    | [x, y, z, t], _ => exact .end_ h
end My

/-! ## [e for a in xs for b in ys]: its two walks -/
namespace My
open PySem PySem.Spec PyProof.Rows L2
section
variable {J J1 : It} {n m : Nat} {G G1 : Hp → Prop} {Y Y1 : Nat → Hp → V → Hp → Prop}
theorem two_out (w : Walk J n G Y) {B : V → Hp → (Hp → Prop) → Prop} {H0 : Hp} {Qd : Hp → Prop} (Pv : Nat → Hp → Prop) (h0 : Pv 0 H0) (hG : ∀ i H, i ≤ n → Pv i H → G H) (hs : ∀ i x H H', i < n → Pv i H → Y i H x H' → B x H' (Pv (i + 1))) (hd : ∀ H, Pv n H → Qd H) :
    ∃ W : Nat → Nat → Hp → Prop, (∃ k, W 0 k H0) ∧ ∀ i k H, W i k H → (J.stop i H ∧ Qd H) ∨ (J.go i H ∧ ∃ Nx : Hp → Prop, (∀ H', Nx H' → ∃ k', k' < k ∧ W (i + 1) k' H') ∧ ∀ x H', J.yld i H x H' → B x H' Nx) := by
  refine ⟨fun i k H => k + i = n ∧ Pv i H, ⟨n, Nat.add_zero n, h0⟩, fun i k H h => ?_⟩
  obtain ⟨hk, hp⟩ := h
  have hi : i ≤ n := by omega
  have hg := hG i H hi hp
  cases k with
  | zero =>
    obtain rfl : i = n := by omega
    exact .inl ⟨w.stops H hg, hd H hp⟩
  | succ k =>
    have lt : i < n := by omega
    exact .inr ⟨w.goes i H lt hg, Pv (i + 1), fun H' h' => ⟨k, Nat.lt_succ_self k, by omega, h'⟩, fun x H' y => hs i x H H' lt hp (w.yields i H x H' lt hg y)⟩
end
end My

/-! ## Books: what is looked at before one is made -/
namespace My
open PySem PySem.Spec PyProof.Rows L2
abbrev s_are_some_services : Stmt := top 34
abbrev N_are_some_services : List Str := ["value", "service"]
abbrev P_are_some_services : List Str := ["value"]
theorem sc_are_some_services : FnScope N_are_some_services P_are_some_services (defScope s_are_some_services) := ⟨rfl, rfl, rfl, by decide +kernel, rfl, by decide +kernel, by decide +kernel⟩
abbrev s_all_among : Stmt := top 35
abbrev N_all_among : List Str := ["words", "names", "word"]
abbrev P_all_among : List Str := ["words", "names"]
theorem sc_all_among : FnScope N_all_among P_all_among (defScope s_all_among) := ⟨rfl, rfl, rfl, by decide +kernel, rfl, by decide +kernel, by decide +kernel⟩
abbrev s_InvalidBook_init : Stmt := inClass (top 13) 0
abbrev N_InvalidBook_init : List Str := ["self", "word"]
abbrev P_InvalidBook_init : List Str := ["self", "word"]
theorem sc_InvalidBook_init : FnScope N_InvalidBook_init P_InvalidBook_init (defScope s_InvalidBook_init) := ⟨rfl, rfl, rfl, by decide +kernel, rfl, by decide +kernel, by decide +kernel⟩
structure TxBkChk (K : PySem.W.Frag) (mg : Str → Option Value) extends TxSvc K mg where
  f_are_some_services : Addr
  d_are_some_services : FuncData
  F_are_some_services : Fun K "are_some_services" "are_some_services" s_are_some_services f_are_some_services d_are_some_services
  m_are_some_services : mg "are_some_services" = some (.ref f_are_some_services)
  b_are_some_services : Binds K d_are_some_services P_are_some_services []
  f_all_among : Addr
  d_all_among : FuncData
  F_all_among : Fun K "all_among" "all_among" s_all_among f_all_among d_all_among
  m_all_among : mg "all_among" = some (.ref f_all_among)
  b_all_among : Binds K d_all_among P_all_among []
  C_InvalidBook : Addr
  m_InvalidBook : mg "InvalidBook" = some (.ref C_InvalidBook)
  oxBk : OexC K C_InvalidBook
  nwBk : PySem.W.findIn K (.ref C_InvalidBook) "word" = some none
  f_InvalidBook_init : Addr
  d_InvalidBook_init : FuncData
  iBk : PySem.W.findIn K (.ref C_InvalidBook) "__init__" = some (some (.ref f_InvalidBook_init))
  tBk : PySem.W.typeIn K (.ref f_InvalidBook_init) = some (.type "function")
  F_InvalidBook_init : Fun K "__init__" "InvalidBook.__init__" s_InvalidBook_init f_InvalidBook_init d_InvalidBook_init
  b_InvalidBook_init : Binds K d_InvalidBook_init P_InvalidBook_init []
/-- what are_some_services answers -/
inductive SvcsV (K : PySem.W.Frag) (CS : Addr) (H : Hp) : V → Bool → Prop where
  | no {v : V} (h : SeqV K H v false) : SvcsV K CS H v false
  | seq {a : Addr} {xs : List V} {bs : List Bool} (h : SqA K H a xs) (e : Paired (fun x b => ∃ t, TyX K H x t ∧ PySem.W.kitOne K t (.ref CS) = some b) xs bs) (n : xs.length ≤ 900) : SvcsV K CS H (.ref a) (!xs.isEmpty && bs.all id)
theorem SvcsV.same {K : PySem.W.Frag} {CS : Addr} {H H' : Hp} {v : V} {b : Bool} (h : SvcsV K CS H v b) (s : Same H H') : SvcsV K CS H' v b := by
  have mono : ∀ {xs : List V} {bs : List Bool}, Paired (fun x b => ∃ t, TyX K H x t ∧ PySem.W.kitOne K t (.ref CS) = some b) xs bs → Paired (fun x b => ∃ t, TyX K H' x t ∧ PySem.W.kitOne K t (.ref CS) = some b) xs bs := by
    intro xs bs p
    induction p with
    | nil => exact .nil
    | cons r _ ih =>
      obtain ⟨t, ty, k⟩ := r
      exact .cons ⟨t, tyx_keep s ty, k⟩ ih
  cases h with
  | no h => exact .no (h.same s)
  | seq h e n => exact .seq (h.same s) (mono e) n
def spSvcs {K : PySem.W.Frag} {mg : Str → Option Value} (T : TxBkChk K mg) : Sp := fun vs H Q _ => ∃ (v : V) (b : Bool), vs = [v] ∧ SvcsV K T.C_Service H v b ∧ ∀ H', Same H H' → Q (.bl b) H'
def spAmong (K : PySem.W.Frag) : Sp := fun vs H Q _ => ∃ (a c : Addr) (l ns : List Str), vs = [.ref a, .ref c] ∧ SqA K H a (l.map V.str) ∧ SqA K H c (ns.map V.str) ∧ l.length ≤ 900 ∧ ∀ H', Same H H' → Q (.bl (l.all fun y => ns.contains y)) H'
section
variable {P : Program} {w : World} {K : PySem.W.Frag} {mg : Str → Option Value} {base : Heap}
theorem ok_xbk (T : TxBkChk K mg) : FnOk P w K mg base CX0 1 T.f_InvalidBook_init T.d_InvalidBook_init P_InvalidBook_init (spXInit K T.C_InvalidBook) := by
  refine T.F_InvalidBook_init.ok sc_InvalidBook_init (fun vs H Q E h => ?_) (fun cdv A outer s H vs Q E hr h => ?_)
  · obtain ⟨a, y, rfl, _⟩ := h
    rfl
  obtain ⟨a, y, rfl, ha, q⟩ := h
  refine ⟨_, (pss_one (ps_ost (pv 0) (pv 1))), ?_⟩
  exact ⟨_, rfl, _, rfl, a, T.C_InvalidBook, rfl, T.oxBk, T.nwBk, .inl ⟨ha, fun dx h1 h2 => q dx h1 h2⟩⟩
theorem flat_strs : ∀ l : List Str, (l.map V.str).all flatV = true
  | [] => rfl
  | _ :: l => by
    rw [List.map_cons, List.all_cons, flat_strs l]
    rfl
theorem ok_all_among (T : TxBkChk K mg) : FnOk P w K mg base CX0 1 T.f_all_among T.d_all_among P_all_among (spAmong K) := by
  refine T.F_all_among.ok sc_all_among (fun vs H Q E h => ?_) (fun cdv A outer s H vs Q E hr h => ?_)
  · obtain ⟨a, c, l, ns, rfl, _⟩ := h
    rfl
  obtain ⟨a, c, l, ns, rfl, hl, hn, n9, q⟩ := h
  refine ⟨_, (pss_one (ps_ret (pe_callB (cr_allK K rfl) (by rfl) T.z_all (by decide +kernel) (pa_cons (pe_lc (own := [("word", 2)]) (g := gName 2) (by rfl) sc_all_among.nd (pi_seqK K (pv 0)) (blkOk_by (own := [("word", 2)]) (N := N_all_among) (sc := defScope s_all_among) (by decide +kernel)) (fun _ _ _ _ _ => (pg_name (i := 2) sc_all_among.nd rfl (Or.inl rfl))) (fun _ _ _ _ _ => pts_nil) (fun _ _ _ _ _ => (pe_cmpR (op_inK K) (pv 2) (pv 1) (by rfl)))) pa_nil)))), ?_⟩
  refine ⟨_, rfl, a, _, rfl, hl, fun J G g0 gs wk D hD => ?_⟩
  refine lc_it wk (fun i H' => Same H H' ∧ H' D = some (.lst (((l.take i).map fun y => ns.contains y).map V.bl))) ⟨same_upd hD _, upd_same⟩ (fun i H' _ h => gs _ _ h.1 g0) ?_ ?_
  · rintro i x H2 H3 hi ⟨s2, hD2⟩ ⟨rfl, hx⟩
    rw [List.getElem?_map] at hx
    obtain ⟨y, hy, rfl⟩ : ∃ y, l[i]? = some y ∧ V.str y = x := by
      cases e : l[i]? with
      | none => rw [e] at hx; cases hx
      | some z => rw [e] at hx; cases hx; exact ⟨z, rfl, rfl⟩
    refine ⟨rfl, ?_⟩
    refine ⟨_, rfl, _, rfl, c, ns.map V.str, rfl, hn.same s2, rfl, flat_strs ns, ?_⟩
    rw [if_neg Bool.false_ne_true, inV_strs]
    refine ⟨_, hD2, small1000 (by rw [List.length_map, List.length_map, List.length_take]; omega), fun b o e => ?_, ?_⟩
    · rw [upd_ne (ne_of_none e hD)]
      exact s2 b o e
    · rw [upd_same, List.take_add_one, hy, List.map_append, List.map_append]
      rfl
  rintro H2 ⟨s2, hD2⟩
  rw [List.length_map, List.take_length] at hD2
  refine ⟨D, _, rfl, SqL.of hD2, ?_⟩
  have z := q H2 s2
  have e : ((l.map fun y => ns.contains y).all id) = l.all fun y => ns.contains y := by rw [List.all_map]; rfl
  rw [← e] at z
  exact z
theorem ok_are_some_services (T : TxBkChk K mg) : FnOk P w K mg base CX0 2 T.f_are_some_services T.d_are_some_services P_are_some_services (spSvcs T) := by
  have G_is_sequence := ok_is_sequence (P := P) (w := w) (base := base) T.toTxSeq
  refine T.F_are_some_services.ok sc_are_some_services (fun vs H Q E h => ?_) (fun cdv A outer s H vs Q E hr h => ?_)
  · obtain ⟨v, b, rfl, _⟩ := h
    rfl
  obtain ⟨v, b, rfl, hS, q⟩ := h
  refine ⟨_, (pss_cons (ps_if (PW.pt (pw_or (pt_not (pt_val (pe_call G_is_sequence (hr.mono (by decide)) (by rfl) T.m_is_sequence T.F_is_sequence.kp T.b_is_sequence .nil pass0 (pa_cons (pv 0) pa_nil)))) (pw_or1 (pt_cmpR op_eq (pe_callB (call_lenK K) (by rfl) T.z_len (by decide +kernel) (pa_cons (pv 0) pa_nil)) pe_int (nomark _))))) (pss_one (ps_ret pe_bl)) pss_nil)
      (pss_one (ps_ret (pe_callB (cr_allK K rfl) (by rfl) T.z_all (by decide +kernel) (pa_cons (pe_lc (own := [("service", 1)]) (g := gName 1) (by rfl) sc_are_some_services.nd (pi_seqK K (pv 0)) (blkOk_by (own := [("service", 1)]) (N := N_are_some_services) (sc := defScope s_are_some_services) (by decide +kernel)) (fun _ _ _ _ _ => (pg_name (i := 1) sc_are_some_services.nd rfl (Or.inl rfl))) (fun _ _ _ _ _ => pts_nil) (fun _ _ _ _ _ => (pe_callB (call_isiV K) (by rfl) T.z_isinstance (by decide +kernel) (pa_cons (pv 1) (pa_cons (pe_glob (v := .ref T.C_Service) (by rfl) T.m_Service rfl) pa_nil))))) pa_nil))))), ?_⟩
  cases hS with
  | no h =>
    refine ⟨_, rfl, v, false, rfl, h, fun H1 s1 => ⟨_, rfl, ?_⟩⟩
    refine ite2 (fun _ => ?_) (fun z => absurd rfl z)
    refine ite2 (fun _ => ?_) (fun z => absurd rfl z)
    exact q H1 s1
  | @seq a xs bs h e n =>
    refine ⟨_, rfl, .ref a, true, rfl, h.seqV, fun H1 s1 => ⟨_, rfl, ?_⟩⟩
    refine ite2 (fun z => nomatch z) (fun _ => ?_)
    have h1 := h.same s1
    refine ⟨_, rfl, a, xs, rfl, h1, rfl, _, rfl, ?_⟩
    cases xs with
    | nil => exact ite2 (fun _ => q H1 s1) (fun z => absurd (by simp) z)
    | cons x0 xt =>
      refine ite2 (fun z => absurd z (by simp; omega)) (fun _ => ?_)
      refine ⟨_, rfl, a, x0 :: xt, rfl, h1, fun J G g0 gs wk D hD => ?_⟩
      refine lc_it wk (fun i H' => Same H1 H' ∧ H' D = some (.lst ((bs.take i).map V.bl))) ⟨same_upd hD _, upd_same⟩ (fun i H' _ h => gs _ _ h.1 g0) ?_ ?_
      · rintro i x H2 H3 hi ⟨s2, hD2⟩ ⟨rfl, hx⟩
        obtain ⟨bb, hb, t, ty, kr⟩ := paired_get e hx
        refine ⟨rfl, ?_⟩
        refine ⟨_, rfl, x, .ref T.C_Service, t, _, bb, rfl, .own _, tyx_keep (s1.trans s2) ty, kr, ?_⟩
        refine ⟨_, hD2, small1000 (by rw [List.length_map, List.length_take]; omega), ?_, ?_⟩
        · intro b o e
          rw [upd_ne (ne_of_none e hD)]
          exact s2 b o e
        · rw [upd_same, List.take_add_one, hb, List.map_append]
          rfl
      · rintro H2 ⟨s2, hD2⟩
        have ln : (x0 :: xt).length = bs.length := pair_len e
        rw [ln, List.take_length] at hD2
        refine ⟨D, _, rfl, SqL.of hD2, ?_⟩
        exact q H2 (s1.trans s2)
end
end My

/-! ## A book is made, or refused -/
namespace My
open PySem PySem.Spec PyProof.Rows L2
abbrev s_Book_init : Stmt := inClass (top 38) 0
abbrev N_Book_init : List Str := ["self", "services", "roots", "names", "service", "rows", "row", "marks", "signs"]
abbrev P_Book_init : List Str := ["self", "services", "roots"]
theorem sc_Book_init : FnScope N_Book_init P_Book_init (defScope s_Book_init) := ⟨rfl, rfl, rfl, by decide +kernel, rfl, by decide +kernel, by decide +kernel⟩
structure TxBook (K : PySem.W.Frag) (mg : Str → Option Value) extends TxBkChk K mg where
  kk_Begin_Begin : PySem.W.kitOne K (.ref C_Begin) (.ref C_Begin) = some true
  kk_Begin_Send : PySem.W.kitOne K (.ref C_Begin) (.ref C_Send) = some false
  kk_Begin_End : PySem.W.kitOne K (.ref C_Begin) (.ref C_End) = some false
  kk_Send_Begin : PySem.W.kitOne K (.ref C_Send) (.ref C_Begin) = some false
  kk_Send_Send : PySem.W.kitOne K (.ref C_Send) (.ref C_Send) = some true
  kk_Send_End : PySem.W.kitOne K (.ref C_Send) (.ref C_End) = some false
  kk_Back_Begin : PySem.W.kitOne K (.ref C_Back) (.ref C_Begin) = some false
  kk_Back_Send : PySem.W.kitOne K (.ref C_Back) (.ref C_Send) = some false
  kk_Back_End : PySem.W.kitOne K (.ref C_Back) (.ref C_End) = some false
  kk_End_Begin : PySem.W.kitOne K (.ref C_End) (.ref C_Begin) = some false
  kk_End_Send : PySem.W.kitOne K (.ref C_End) (.ref C_Send) = some false
  kk_End_End : PySem.W.kitOne K (.ref C_End) (.ref C_End) = some true
  ty_Service : ∀ (H : Hp) (a dx : Addr) (fs : List (Str × V)), H a = some (.ins C_Service dx fs) → TyX K H (.ref a) (.ref C_Service)
  kk_Service : PySem.W.kitOne K (.ref C_Service) (.ref C_Service) = some true
  C_Book : Addr
  m_Book : mg "Book" = some (.ref C_Book)
  c_Book : Cls K C_Book
  f_Book_init : Addr
  d_Book_init : FuncData
  mk_Book : Mk K C_Book f_Book_init
  F_Book_init : Fun K "__init__" "Book.__init__" s_Book_init f_Book_init d_Book_init
  b_Book_init : Binds K d_Book_init P_Book_init []
  n_Book_services : NoAttr K C_Book "services"
  n_Book_roots : NoAttr K C_Book "roots"
  n_Book_names : NoAttr K C_Book "names"
  n_Book_marks : NoAttr K C_Book "marks"
  n_Book_signs : NoAttr K C_Book "signs"
  n_Book__rows : NoAttr K C_Book "_rows"
def SvcRef {K : PySem.W.Frag} {mg : Str → Option Value} (T : TxSvc K mg) (H : Hp) (x : V) (v : SvW) : Prop := ∃ a, x = .ref a ∧ SvcIs T H a v.nm v.kinds v.waits v.leaves v.rows
/-- ascending, without words that stand for others -/
def Asc (ys l : List Str) : Prop := ys.Nodup ∧ sortedS ys = true ∧ ∀ y, y ∈ ys ↔ y ∈ l ∧ ODDW2.contains y = false
def markOf : Str × List Str → Option Str
  | (s, ws) => if s = "begin" then some (ws.getD 0 Str.empty) else if s = "send" then some (ws.getD 2 Str.empty) else none
def signOf : Str × List Str → Option Str
  | (s, ws) => if s = "back" then some (ws.getD 2 Str.empty) else if s = "end" then some (ws.getD 2 Str.empty) else none
def rowsOf (vs : List SvW) : List (Str × List Str) := vs.flatMap (·.rows)
/-- the book of these services and roots stands at p -/
structure BkIs {K : PySem.W.Frag} {mg : Str → Option Value} (T : TxBook K mg) (H : Hp) (p : Addr) (vs : List SvW) (roots : List Str) : Prop where
  ex : ∃ (dx s2 r2 n2 m2 g2 w2 : Addr) (xs ws : List V) (ns ms gs : List Str), H p = some (.ins T.C_Book dx [("services", .ref s2), ("roots", .ref r2), ("names", .ref n2), ("marks", .ref m2), ("signs", .ref g2), ("_rows", .ref w2)]) ∧
    SqT K H s2 xs ∧ Paired (SvcRef T.toTxSvc H) xs vs ∧ SqT K H r2 (roots.map V.str) ∧ SqT K H n2 (ns.map V.str) ∧ Asc ns (vs.map (·.nm)) ∧ SqT K H m2 (ms.map V.str) ∧ Asc ms ("none" :: (rowsOf vs).filterMap markOf) ∧
    SqT K H g2 (gs.map V.str) ∧ Asc gs ("none" :: (rowsOf vs).filterMap signOf) ∧ SqT K H w2 ws ∧ Paired (RowIs T.toTxSvc H) ws (rowsOf vs)
def wrRo (ns : List Str) : Option (List Str) → Option Str
  | none => some "roots"
  | some l => if (l.all fun y => ns.contains y) = false then some "roots" else none
/-- the word of the first thing that is not as it must be; ro: the roots, where they are some names -/
def wrBk (vs : List SvW) (ro : Option (List Str)) : Option Str :=
  if ¬ (vs.map (·.nm)).Nodup then some "name" else if (vs.all fun v => v.waits.all fun y => (vs.map (·.nm)).contains y) = false then some "waits" else if (vs.all fun v => v.leaves.all fun y => (vs.map (·.nm)).contains y) = false then some "leaves"
  else wrRo (vs.map (·.nm)) ro
def spBookInit {K : PySem.W.Frag} {mg : Str → Option Value} (T : TxBook K mg) : Sp := fun us H Q E => ∃ (p dx : Addr) (sv rt : V) (b1 b5 : Bool), us = [.ref p, sv, rt] ∧ H p = some (.ins T.C_Book dx []) ∧ SvcsV K T.C_Service H sv b1 ∧ SomeV K H rt b5 ∧
  (b1 = false → ∀ d H', Same H H' → H d = none → H' d = some (.xd [("word", .str "services")]) → E (.ref T.C_InvalidBook) (some d) H') ∧
  (b1 = true → ∃ (sa : Addr) (xs : List V) (vs : List SvW) (ro : Option (List Str)), sv = .ref sa ∧ SqA K H sa xs ∧ Paired (SvcRef T.toTxSvc H) xs vs ∧ (∀ v ∈ vs, v.good) ∧ vs.length ≤ 10 ∧ (rowsOf vs).length ≤ 50 ∧ (b5 = ro.isSome) ∧
    (∀ l, ro = some l → ∃ ra, rt = .ref ra ∧ SqA K H ra (l.map V.str) ∧ l.length ≤ 100) ∧
    (∀ wd d H', wrBk vs ro = some wd → Same H H' → H d = none → H' d = some (.xd [("word", .str wd)]) → E (.ref T.C_InvalidBook) (some d) H') ∧
    (∀ l H', ro = some l → wrBk vs ro = none → Kp p H H' → BkIs T H' p vs l → Q .non H'))
theorem paired_app {α β : Type} {R : α → β → Prop} : ∀ {xs xs2 : List α} {ys ys2 : List β}, Paired R xs ys → Paired R xs2 ys2 → Paired R (xs ++ xs2) (ys ++ ys2)
  | _, _, _, _, .nil, h => h
  | _, _, _, _, .cons r t, h => .cons r (paired_app t h)
theorem row_mark {K : PySem.W.Frag} {mg : Str → Option Value} (T : TxBook K mg) {H : Hp} {x : V} {r : Str × List Str} (h : RowK T.toTxSvc H x r) : ∃ C, TyX K H x (.ref C) ∧ PySem.W.kitAny K (.ref C) [.ref T.C_Begin, .ref T.C_Send] = some (markOf r).isSome ∧
    ∀ m, markOf r = some m → ∃ (a dx : Addr) (fs : List (Str × V)), x = .ref a ∧ H a = some (.ins C dx fs) ∧ Cls K C ∧ NoAttr K C "mark" ∧ fs.lookup ("mark" : Str) = some (.str m) := by
  cases h with
  | beg h => exact ⟨_, T.ty_Begin _ _ _ _ h, kitAny_cons (b := true) T.kk_Begin_Begin (fun z => nomatch z) (fun _ => rfl), (fun m e => by cases e; exact ⟨_, _, _, rfl, h, T.c_Begin, T.n_Begin_mark, rfl⟩)⟩
  | snd h => exact ⟨_, T.ty_Send _ _ _ _ h, kitAny_cons (b := false) T.kk_Send_Begin (fun _ => kitAny_cons (b := true) T.kk_Send_Send (fun z => nomatch z) (fun _ => rfl)) (fun z => nomatch z), (fun m e => by cases e; exact ⟨_, _, _, rfl, h, T.c_Send, T.n_Send_mark, rfl⟩)⟩
  | bck h => exact ⟨_, T.ty_Back _ _ _ _ h, kitAny_cons (b := false) T.kk_Back_Begin (fun _ => kitAny_cons (b := false) T.kk_Back_Send (fun _ => rfl) (fun z => nomatch z)) (fun z => nomatch z), (fun m e => nomatch e)⟩
  | end_ h => exact ⟨_, T.ty_End _ _ _ _ h, kitAny_cons (b := false) T.kk_End_Begin (fun _ => kitAny_cons (b := false) T.kk_End_Send (fun _ => rfl) (fun z => nomatch z)) (fun z => nomatch z), (fun m e => nomatch e)⟩
theorem row_sign {K : PySem.W.Frag} {mg : Str → Option Value} (T : TxBook K mg) {H : Hp} {x : V} {r : Str × List Str} (h : RowK T.toTxSvc H x r) : ∃ C, TyX K H x (.ref C) ∧ PySem.W.kitAny K (.ref C) [.ref T.C_Back, .ref T.C_End] = some (signOf r).isSome ∧
    ∀ m, signOf r = some m → ∃ (a dx : Addr) (fs : List (Str × V)), x = .ref a ∧ H a = some (.ins C dx fs) ∧ Cls K C ∧ NoAttr K C "sign" ∧ fs.lookup ("sign" : Str) = some (.str m) := by
  cases h with
  | beg h => exact ⟨_, T.ty_Begin _ _ _ _ h, kitAny_cons (b := false) T.kb_Begin (fun _ => kitAny_cons (b := false) T.kk_Begin_End (fun _ => rfl) (fun z => nomatch z)) (fun z => nomatch z), (fun m e => nomatch e)⟩
  | snd h => exact ⟨_, T.ty_Send _ _ _ _ h, kitAny_cons (b := false) T.kb_Send (fun _ => kitAny_cons (b := false) T.kk_Send_End (fun _ => rfl) (fun z => nomatch z)) (fun z => nomatch z), (fun m e => nomatch e)⟩
  | bck h => exact ⟨_, T.ty_Back _ _ _ _ h, kitAny_cons (b := true) T.kb_Back (fun z => nomatch z) (fun _ => rfl), (fun m e => by cases e; exact ⟨_, _, _, rfl, h, T.c_Back, T.n_Back_sign, rfl⟩)⟩
  | end_ h => exact ⟨_, T.ty_End _ _ _ _ h, kitAny_cons (b := false) T.kb_End (fun _ => kitAny_cons (b := true) T.kk_End_End (fun z => nomatch z) (fun _ => rfl)) (fun z => nomatch z), (fun m e => by cases e; exact ⟨_, _, _, rfl, h, T.c_End, T.n_End_sign, rfl⟩)⟩
theorem rowis_kp {K : PySem.W.Frag} {mg : Str → Option Value} {T : TxSvc K mg} {H H' : Hp} {p C dx : Addr} (hp : H p = some (.ins C dx [])) (k : Kp p H H') : ∀ {xs : List V} {rs : List (Str × List Str)}, Paired (RowIs T H) xs rs → (∀ r ∈ rs, GoodR r) → Paired (RowIs T H') xs rs
  | _, _, .nil, _ => .nil
  | _, _, .cons (b := r) h t, g => by
    obtain ⟨a, dx0, e, h⟩ := h
    have gd := g _ List.mem_cons_self
    obtain ⟨m, hm⟩ := rw_is T gd.so gd.len2 h
    subst e
    exact .cons ⟨a, dx0, rfl, k a _ (fun z => by subst z; exact hm.not_bare hp) h⟩ (rowis_kp hp k t fun r hr => g r (List.mem_cons_of_mem _ hr))
theorem SvcRef.same {K : PySem.W.Frag} {mg : Str → Option Value} {T : TxSvc K mg} {H H' : Hp} {x : V} {v : SvW} (h : SvcRef T H x v) (s : Same H H') : SvcRef T H' x v := by
  obtain ⟨a, e, h⟩ := h
  exact ⟨a, e, h.kl (KL.of_same s)⟩
theorem namesB_dec {l : List Str} (h : ∀ y ∈ l, isNm y = true) : namesB (l.map V.str) = decide l.Nodup := by
  have e : (l.map V.str).map txV = l := by
    rw [List.map_map]
    exact List.map_id' l
  unfold namesB
  rw [e, List.all_map]
  have a : (l.all (nmV ∘ V.str)) = true := List.all_eq_true.mpr h
  rw [a, Bool.true_and]
section
variable {P : Program} {w : World} {K : PySem.W.Frag} {mg : Str → Option Value} {base : Heap}
theorem ok_Book_init (T : TxBook K mg) : FnOk P w K mg base (L2.CX P w) 5 T.f_Book_init T.d_Book_init P_Book_init (spBookInit T) := by
  have G_are_names := ok_are_names (P := P) (w := w) (base := base) T.toTxSeq
  have G_are_some_names := ok_are_some_names (P := P) (w := w) (base := base) T.toTxSeq
  have G_are_some_services := ok_are_some_services (P := P) (w := w) (base := base) T.toTxBkChk
  have G_all_among := ok_all_among (P := P) (w := w) (base := base) T.toTxBkChk
  have G_ascending := ok_ascending (P := P) (w := w) (base := base) T.toTxSvc
  have G_InvalidBook_init := ok_xbk (P := P) (w := w) (base := base) T.toTxBkChk
  refine T.F_Book_init.okX sc_Book_init (fun vs H Q E h => ?_) (fun cdv A outer s H vs Q E hr h => ?_)
  · obtain ⟨p, dx, sv, rt, b1, b5, rfl, _⟩ := h
    rfl
  obtain ⟨p, dx, sv, rt, b1, b5, rfl, hp, hs1, hrt, qe1, rest⟩ := h
  refine ⟨_, (pss_cons (ps_if (pt_not (pt_val (pe_call G_are_some_services (hr.mono (by decide)) (by rfl) T.m_are_some_services T.F_are_some_services.kp T.b_are_some_services .nil pass0 (pa_cons (pv 1) pa_nil)))) (pss_one (ps_raise rfl (takes_of rfl rfl rfl rfl) (pmk_oex T.oxBk T.iBk T.tBk G_InvalidBook_init (hr.mono (by decide)) T.b_InvalidBook_init .nil pass0 (by rfl) T.m_InvalidBook (pa_cons pe_str pa_nil)))) pss_nil)
      (pss_cons (ps_set (i := 3) sc_Book_init.nd rfl (Or.inr rfl) (pe_lc (own := [("service", 4)]) (g := gName 4) (by rfl) sc_Book_init.nd (pi_seqK K (pv 1)) (blkOk_by (own := [("service", 4)]) (N := N_Book_init) (sc := defScope s_Book_init) (by decide +kernel)) (fun _ _ _ _ _ => (pg_name (i := 4) sc_Book_init.nd rfl (Or.inl rfl))) (fun _ _ _ _ _ => pts_nil) (fun _ _ _ _ _ => (pe_fldK K (pv 4)))))
      (pss_cons (ps_if (pt_not (pt_val (pe_call G_are_names (hr.mono (by decide)) (by rfl) T.m_are_names T.F_are_names.kp T.b_are_names .nil pass0 (pa_cons (pv 3) pa_nil)))) (pss_one (ps_raise rfl (takes_of rfl rfl rfl rfl) (pmk_oex T.oxBk T.iBk T.tBk G_InvalidBook_init (hr.mono (by decide)) T.b_InvalidBook_init .nil pass0 (by rfl) T.m_InvalidBook (pa_cons pe_str pa_nil)))) pss_nil)
      (pss_cons (ps_if (pt_not (pt_val (pe_callB (cr_allK K rfl) (by rfl) T.z_all (by decide +kernel) (pa_cons (pe_lc (own := [("service", 4)]) (g := gName 4) (by rfl) sc_Book_init.nd (pi_seqK K (pv 1)) (blkOk_by (own := [("service", 4)]) (N := N_Book_init) (sc := defScope s_Book_init) (by decide +kernel)) (fun _ _ _ _ _ => (pg_name (i := 4) sc_Book_init.nd rfl (Or.inl rfl))) (fun _ _ _ _ _ => pts_nil) (fun _ _ _ _ _ => (pe_call G_all_among (hr.mono (by decide)) (by rfl) T.m_all_among T.F_all_among.kp T.b_all_among .nil pass0 (pa_cons (pe_fldK K (pv 4)) (pa_cons (pv 3) pa_nil))))) pa_nil)))) (pss_one (ps_raise rfl (takes_of rfl rfl rfl rfl) (pmk_oex T.oxBk T.iBk T.tBk G_InvalidBook_init (hr.mono (by decide)) T.b_InvalidBook_init .nil pass0 (by rfl) T.m_InvalidBook (pa_cons pe_str pa_nil)))) pss_nil)
      (pss_cons (ps_if (pt_not (pt_val (pe_callB (cr_allK K rfl) (by rfl) T.z_all (by decide +kernel) (pa_cons (pe_lc (own := [("service", 4)]) (g := gName 4) (by rfl) sc_Book_init.nd (pi_seqK K (pv 1)) (blkOk_by (own := [("service", 4)]) (N := N_Book_init) (sc := defScope s_Book_init) (by decide +kernel)) (fun _ _ _ _ _ => (pg_name (i := 4) sc_Book_init.nd rfl (Or.inl rfl))) (fun _ _ _ _ _ => pts_nil) (fun _ _ _ _ _ => (pe_call G_all_among (hr.mono (by decide)) (by rfl) T.m_all_among T.F_all_among.kp T.b_all_among .nil pass0 (pa_cons (pe_fldK K (pv 4)) (pa_cons (pv 3) pa_nil))))) pa_nil)))) (pss_one (ps_raise rfl (takes_of rfl rfl rfl rfl) (pmk_oex T.oxBk T.iBk T.tBk G_InvalidBook_init (hr.mono (by decide)) T.b_InvalidBook_init .nil pass0 (by rfl) T.m_InvalidBook (pa_cons pe_str pa_nil)))) pss_nil)
      (pss_cons (ps_if (PW.pt (pw_or (pt_not (pt_val (pe_call G_are_some_names (hr.mono (by decide)) (by rfl) T.m_are_some_names T.F_are_some_names.kp T.b_are_some_names .nil pass0 (pa_cons (pv 2) pa_nil)))) (pw_or1 (pt_not (pt_val (pe_call G_all_among (hr.mono (by decide)) (by rfl) T.m_all_among T.F_all_among.kp T.b_all_among .nil pass0 (pa_cons (pv 2) (pa_cons (pv 3) pa_nil)))))))) (pss_one (ps_raise rfl (takes_of rfl rfl rfl rfl) (pmk_oex T.oxBk T.iBk T.tBk G_InvalidBook_init (hr.mono (by decide)) T.b_InvalidBook_init .nil pass0 (by rfl) T.m_InvalidBook (pa_cons pe_str pa_nil)))) pss_nil)
      (pss_cons (ps_setLc2 (i := 5) (own := [("service", 4), ("row", 6)]) (vs1 := [6]) (g := gName 4) (g1 := gName 6) (by rfl) sc_Book_init.nd rfl rfl (sw_true rfl rfl rfl (by decide +kernel)) (pi_seqK K (pv 1)) (blkOk_by (own := [("service", 4), ("row", 6)]) (N := N_Book_init) (sc := defScope s_Book_init) (by decide +kernel)) (by decide) (fun _ _ _ _ _ => (pg_name (i := 4) sc_Book_init.nd rfl (Or.inl rfl))) (fun _ _ _ _ _ => pts_nil) (fun _ _ _ _ _ => (pi_tupK K (pe_fldK K (pv 4)))) (fun _ _ _ _ _ => (pg_name (i := 6) sc_Book_init.nd rfl (Or.inl rfl))) (fun _ _ _ _ _ => pts_nil) (fun _ _ _ _ _ => (pv 6)))
      (pss_cons (ps_setLc (i := 7) (own := [("row", 6)]) (g := gName 6) (by rfl) sc_Book_init.nd rfl rfl (sw_true rfl rfl rfl (by decide +kernel)) (pi_listK K (pv 5)) (blkOk_by (own := [("row", 6)]) (N := N_Book_init) (sc := defScope s_Book_init) (by decide +kernel)) (fun _ _ _ _ _ => (pg_name (i := 6) sc_Book_init.nd rfl (Or.inl rfl))) (fun _ _ _ _ _ => pts_one (by exact (pt_val (pe_callB (call_isiTV K) (by rfl) T.z_isinstance (by decide +kernel) (pa_cons (pv 6) (pa_cons (pe_tup (pa_cons (pe_glob (v := .ref T.C_Begin) (by rfl) T.m_Begin rfl) (pa_cons (pe_glob (v := .ref T.C_Send) (by rfl) T.m_Send rfl) pa_nil))) pa_nil)))))) (fun _ _ _ _ _ => (pe_fldK K (pv 6))))
      (pss_cons (ps_setLc (i := 8) (own := [("row", 6)]) (g := gName 6) (by rfl) sc_Book_init.nd rfl rfl (sw_true rfl rfl rfl (by decide +kernel)) (pi_listK K (pv 5)) (blkOk_by (own := [("row", 6)]) (N := N_Book_init) (sc := defScope s_Book_init) (by decide +kernel)) (fun _ _ _ _ _ => (pg_name (i := 6) sc_Book_init.nd rfl (Or.inl rfl))) (fun _ _ _ _ _ => pts_one (by exact (pt_val (pe_callB (call_isiTV K) (by rfl) T.z_isinstance (by decide +kernel) (pa_cons (pv 6) (pa_cons (pe_tup (pa_cons (pe_glob (v := .ref T.C_Back) (by rfl) T.m_Back rfl) (pa_cons (pe_glob (v := .ref T.C_End) (by rfl) T.m_End rfl) pa_nil))) pa_nil)))))) (fun _ _ _ _ _ => (pe_fldK K (pv 6))))
      (pss_cons (ps_fld (pv 0) (pe_callTy (call_tupQ K) (by rfl) T.z_tuple (by decide +kernel) (pa_cons (pv 1) pa_nil)) rfl)
      (pss_cons (ps_fld (pv 0) (pe_callTy (call_tupQ K) (by rfl) T.z_tuple (by decide +kernel) (pa_cons (pv 2) pa_nil)) rfl)
      (pss_cons (ps_fld (pv 0) (pe_call G_ascending (hr.mono (by decide)) (by rfl) T.m_ascending T.F_ascending.kp T.b_ascending .nil pass0 (pa_cons (pv 3) pa_nil)) rfl)
      (pss_cons (ps_fld (pv 0) (pe_call G_ascending (hr.mono (by decide)) (by rfl) T.m_ascending T.F_ascending.kp T.b_ascending .nil pass0 (pa_cons (pe_lst (pa_cons pe_str (pa_starK K (pv 7) pa_nil))) pa_nil)) rfl)
      (pss_cons (ps_fld (pv 0) (pe_call G_ascending (hr.mono (by decide)) (by rfl) T.m_ascending T.F_ascending.kp T.b_ascending .nil pass0 (pa_cons (pe_lst (pa_cons pe_str (pa_starK K (pv 8) pa_nil))) pa_nil)) rfl)
      (pss_one (ps_fld (pv 0) (pe_callTy (call_tupQ K) (by rfl) T.z_tuple (by decide +kernel) (pa_cons (pv 5) pa_nil)) rfl)))))))))))))))), ?_⟩
  have bad : ∀ {b : Bool} {α : Prop}, b = false → b = true → α := fun h1 h2 => by rw [h1] at h2; cases h2
  refine ⟨_, rfl, sv, b1, rfl, hs1, fun H1 s1 => ⟨_, rfl, ?_⟩⟩
  refine ite2 (fun c => ?_) (fun c0 => ?_)
  · exact mk_word fun d H' s' n' e' => qe1 (bnot_eq c) d H' (s1.trans s') (s1.free n') e'
  obtain ⟨sa, xs, vs, ro, rfl, hS, prs, good, v10, r50, eb5, hro, qe, fin⟩ := rest (bnot_ne c0)
  subst eb5
  have lxs : xs.length = vs.length := paired_len prs
  have hp1 := s1 _ _ hp
  -- names
  refine ⟨_, rfl, sa, xs, rfl, hS.same s1, fun J G g0 gs wk D hD => ?_⟩
  refine lc_it wk (fun i H' => Same H1 H' ∧ H' D = some (.lst (((vs.take i).map (·.nm)).map V.str))) ⟨same_upd hD _, upd_same⟩ (fun i H' _ h => gs _ _ h.1 g0) ?_ ?_
  · rintro i x H2 H3 hi ⟨s2, hD2⟩ ⟨rfl, hx⟩
    obtain ⟨v, hv, a, rfl, S⟩ := paired_get prs hx
    obtain ⟨dx0, _, _, _, _, _, _, _, _, ha, _⟩ := S.ex
    refine ⟨rfl, ?_⟩
    refine ⟨_, rfl, a, T.C_Service, dx0, _, _, rfl, (s1.trans s2) _ _ ha, T.c_Service, T.n_Service_name, rfl, _, hD2, small1000 (by rw [List.length_map, List.length_map, List.length_take]; omega), fun b o e => ?_, ?_⟩
    · rw [upd_ne (ne_of_none e hD)]
      exact s2 b o e
    · rw [upd_same, List.take_add_one, hv, List.map_append, List.map_append]
      rfl
  rintro H2 ⟨s2, hD2⟩
  rw [lxs, List.take_length] at hD2
  have t2 := s1.trans s2
  have nms : ∀ y ∈ vs.map (·.nm), isNm y = true := fun y hy => by
    obtain ⟨v, hv, rfl⟩ := List.mem_map.mp hy
    exact (good v hv).nm
  have an : ∀ (H' : Hp), ∀ v ∈ (vs.map (·.nm)).map V.str, AnyV K H' v := fun H' v hv => by
    obtain ⟨y, hy, rfl⟩ := List.mem_map.mp hv
    exact .str y (by have := isNm_len (nms y hy); omega)
  have nv := NamesV.seq (K := K) (H := H2) (a := D) (.inl (SqL.of hD2)) (an H2) (by rw [List.length_map, List.length_map]; omega)
  rw [namesB_dec nms] at nv
  refine ⟨_, rfl, .ref D, _, rfl, nv, fun H3 s3 => ⟨_, rfl, ?_⟩⟩
  have t3 := t2.trans s3
  refine ite2 (fun c => ?_) (fun c1 => ?_)
  · refine mk_word fun d H' s' n' e' => qe "name" d H' ?_ (t3.trans s') (t3.free n') e'
    unfold wrBk
    rw [if_pos (of_decide_eq_false (bnot_eq c))]
  have nd : (vs.map (·.nm)).Nodup := of_decide_eq_true (bnot_ne c1)
  have hD3 := s3 _ _ hD2
  -- waits
  refine ⟨_, rfl, sa, xs, rfl, hS.same t3, fun Jw Gw g0w gsw wkw Dw hDw => ?_⟩
  refine lc_it wkw (fun i H' => Same H3 H' ∧ H' Dw = some (.lst (((vs.take i).map fun v => v.waits.all fun y => (vs.map (·.nm)).contains y).map V.bl))) ⟨same_upd hDw _, upd_same⟩ (fun i H' _ h => gsw _ _ h.1 g0w) ?_ ?_
  · rintro i x H4 H5 hi ⟨s4, hD4⟩ ⟨rfl, hx⟩
    obtain ⟨v, hv, a, rfl, S⟩ := paired_get prs hx
    have gv := good v (List.mem_of_getElem? hv)
    have t4 := t3.trans s4
    obtain ⟨dx0, k2, w2, l2, r2, m2, _, _, _, ha, hk2, hw2, hl2, _⟩ := (S.kl (KL.of_same t4)).ex
    refine ⟨rfl, ?_⟩
    refine ⟨_, rfl, a, T.C_Service, dx0, _, _, rfl, ha, T.c_Service, T.n_Service_waits, rfl, _, rfl, w2, D, v.waits, vs.map (·.nm), rfl, .inr hw2, .inl (SqL.of (s4 _ _ hD3)), by have := gv.wl; omega, fun H6 s6 => ?_⟩
    refine ⟨_, s6 _ _ hD4, small1000 (by rw [List.length_map, List.length_map, List.length_take]; omega), fun b o e => ?_, ?_⟩
    · rw [upd_ne (ne_of_none e hDw)]
      exact (s4.trans s6) b o e
    · rw [upd_same, List.take_add_one, hv, List.map_append, List.map_append]
      rfl
  rintro H4w ⟨s4w, hD4w⟩
  rw [lxs, List.take_length] at hD4w
  refine ⟨Dw, _, rfl, SqL.of hD4w, _, rfl, ?_⟩
  have t4w := t3.trans s4w
  have e4w : ((vs.map fun v => v.waits.all fun y => (vs.map (·.nm)).contains y).all id) = vs.all fun v => v.waits.all fun y => (vs.map (·.nm)).contains y := by rw [List.all_map]; rfl
  rw [e4w]
  refine ite2 (fun c => ?_) (fun c2 => ?_)
  · refine mk_word fun d H' s' n' e' => qe "waits" d H' ?_ (t4w.trans s') (t4w.free n') e'
    unfold wrBk
    rw [if_neg (fun z => z nd), if_pos (bnot_eq c)]
  have wk0 : ¬ (vs.all fun v => v.waits.all fun y => (vs.map (·.nm)).contains y) = false := fun z => bad z (bnot_ne c2)
  have hD4n := s4w _ _ hD3
  -- leaves
  refine ⟨_, rfl, sa, xs, rfl, hS.same t4w, fun Jl Gl g0l gsl wkl Dl hDl => ?_⟩
  refine lc_it wkl (fun i H' => Same H4w H' ∧ H' Dl = some (.lst (((vs.take i).map fun v => v.leaves.all fun y => (vs.map (·.nm)).contains y).map V.bl))) ⟨same_upd hDl _, upd_same⟩ (fun i H' _ h => gsl _ _ h.1 g0l) ?_ ?_
  · rintro i x H4 H5 hi ⟨s4, hD4⟩ ⟨rfl, hx⟩
    obtain ⟨v, hv, a, rfl, S⟩ := paired_get prs hx
    have gv := good v (List.mem_of_getElem? hv)
    have t4 := t4w.trans s4
    obtain ⟨dx0, k2, w2, l2, r2, m2, _, _, _, ha, hk2, hw2, hl2, _⟩ := (S.kl (KL.of_same t4)).ex
    refine ⟨rfl, ?_⟩
    refine ⟨_, rfl, a, T.C_Service, dx0, _, _, rfl, ha, T.c_Service, T.n_Service_leaves, rfl, _, rfl, l2, D, v.leaves, vs.map (·.nm), rfl, .inr hl2, .inl (SqL.of (s4 _ _ hD4n)), by have := gv.ll; omega, fun H6 s6 => ?_⟩
    refine ⟨_, s6 _ _ hD4, small1000 (by rw [List.length_map, List.length_map, List.length_take]; omega), fun b o e => ?_, ?_⟩
    · rw [upd_ne (ne_of_none e hDl)]
      exact (s4.trans s6) b o e
    · rw [upd_same, List.take_add_one, hv, List.map_append, List.map_append]
      rfl
  rintro H4l ⟨s4l, hD4l⟩
  rw [lxs, List.take_length] at hD4l
  refine ⟨Dl, _, rfl, SqL.of hD4l, _, rfl, ?_⟩
  have t4l := t4w.trans s4l
  have e4l : ((vs.map fun v => v.leaves.all fun y => (vs.map (·.nm)).contains y).all id) = vs.all fun v => v.leaves.all fun y => (vs.map (·.nm)).contains y := by rw [List.all_map]; rfl
  rw [e4l]
  refine ite2 (fun c => ?_) (fun c3 => ?_)
  · refine mk_word fun d H' s' n' e' => qe "leaves" d H' ?_ (t4l.trans s') (t4l.free n') e'
    unfold wrBk
    rw [if_neg (fun z => z nd), if_neg wk0, if_pos (bnot_eq c)]
  have lk0 : ¬ (vs.all fun v => v.leaves.all fun y => (vs.map (·.nm)).contains y) = false := fun z => bad z (bnot_ne c3)
  have hD5 := s4l _ _ hD4n
  have wro : wrBk vs ro = wrRo (vs.map (·.nm)) ro := by
    unfold wrBk
    rw [if_neg (fun z => z nd), if_neg wk0, if_neg lk0]
  -- roots
  refine ⟨_, rfl, rt, ro.isSome, rfl, hrt.same t4l, fun H6 s6 => ⟨_, rfl, ?_⟩⟩
  have t6 := t4l.trans s6
  cases ro with
  | none =>
    refine ite2 (fun _ => ?_) (fun z => absurd rfl z)
    refine ite2 (fun _ => ?_) (fun z => absurd rfl z)
    exact mk_word fun d H' s' n' e' => qe "roots" d H' wro (t6.trans s') (t6.free n') e'
  | some l =>
    obtain ⟨ra, rfl, hR, l100⟩ := hro l rfl
    refine ite2 (fun z => nomatch z) (fun _ => ?_)
    have hD6 := s6 _ _ hD5
    refine ⟨_, rfl, _, rfl, ra, D, l, vs.map (·.nm), rfl, hR.same t6, .inl (SqL.of hD6), by omega, fun H7 s7 => ⟨_, rfl, ?_⟩⟩
    have t7 := t6.trans s7
    refine ite2 (fun c => ?_) (fun c => ?_)
    · refine mk_word fun d H' s' n' e' => qe "roots" d H' ?_ (t7.trans s') (t7.free n') e'
      rw [wro]
      exact if_pos (bnot_eq c)
    have wn : wrBk vs (some l) = none := by
      rw [wro]
      exact if_neg fun z => bad z (bnot_ne c)
    have hD7 := s7 _ _ hD6
    clear hD2 hD3 hD4n hD4w hD4l hD5 hD6 c1 c2 c3 nv qe qe1 rest hro
    -- rows
    refine ⟨_, rfl, sa, xs, rfl, hS.same t7, fun J2 G2 g2 gs2 wk2 D2 hD2 => ?_⟩
    have rl : ∀ i, (rowsOf (vs.take i)).length ≤ 50 := fun i => by
      refine Nat.le_trans ?_ r50
      have e : rowsOf vs = rowsOf (vs.take i) ++ rowsOf (vs.drop i) := by
        unfold rowsOf
        rw [← List.flatMap_append, List.take_append_drop]
      rw [e, List.length_append]
      exact Nat.le_add_right _ _
    refine two_out wk2 (fun i H' => Same H7 H' ∧ ∃ ws, H' D2 = some (.lst ws) ∧ Paired (RowIs T.toTxSvc H) ws (rowsOf (vs.take i))) ⟨same_upd hD2 _, [], upd_same, .nil⟩ (fun i H' _ h => gs2 _ _ h.1 g2) ?_ ?_
    · rintro i x H8 H9 hi ⟨s8, ws, hw8, prw⟩ ⟨rfl, hx⟩
      obtain ⟨v, hv, a, rfl, S⟩ := paired_get prs hx
      obtain ⟨dx0, k2, w2, l2, r2, m2, xr, _, _, ha, _, _, _, hr2, q1, _⟩ := S.ex
      have t8 := t7.trans s8
      have step : rowsOf (vs.take (i + 1)) = rowsOf (vs.take i) ++ v.rows := by
        unfold rowsOf
        rw [List.take_add_one, hv, List.flatMap_append]
        simp
      have le1 := rl (i + 1)
      rw [step, List.length_append] at le1
      have lw : ws.length = (rowsOf (vs.take i)).length := paired_len prw
      have lr : xr.length = v.rows.length := paired_len q1
      refine ⟨rfl, ?_⟩
      refine ⟨_, rfl, a, T.C_Service, dx0, _, _, rfl, t8 _ _ ha, T.c_Service, T.n_Service_rows, rfl, r2, rfl, ⟨_, seqT_same t8 hr2⟩, ?_⟩
      refine two_out (walk_tup (K := K) (a := r2) (xs := xr)) (fun j H' => Same H7 H' ∧ H' D2 = some (.lst (ws ++ xr.take j))) ⟨s8, by rw [List.take_zero, List.append_nil]; exact hw8⟩ (fun j H' _ h => seqT_same (t7.trans h.1) hr2) ?_ ?_
      · rintro j y H10 H11 hj ⟨s10, h10⟩ ⟨rfl, hy⟩
        refine ⟨rfl, ?_⟩
        refine ⟨_, rfl, _, h10, small1000 (by rw [List.length_append, List.length_take]; omega), fun b o e => ?_, ?_⟩
        · rw [upd_ne (ne_of_none e hD2)]
          exact s10 b o e
        · rw [upd_same, List.take_add_one, hy, List.append_assoc]
          rfl
      · rintro H10 ⟨s10, h10⟩
        rw [List.take_length] at h10
        refine ⟨s10, _, h10, ?_⟩
        rw [step]
        exact paired_app prw q1
    rintro H8 ⟨s8, ws, hw8, prw⟩
    rw [lxs, List.take_length] at prw
    have t8 := t7.trans s8
    have goodRows : ∀ r ∈ rowsOf vs, GoodR r := fun r hr => by
      obtain ⟨v, hv, hr⟩ := List.mem_flatMap.mp hr
      exact (good v hv).good r hr
    -- marks
    refine ⟨_, rfl, D2, rfl, ⟨_, SqL.of hw8⟩, fun D3 hD3 => ?_⟩
    refine lc_list (K := K) (a := D2) (xs := ws) (fun i H' => Same H8 H' ∧ H' D3 = some (.lst ((((rowsOf vs).take i).filterMap markOf).map V.str))) ⟨same_upd hD3 _, upd_same⟩ (fun i H' _ h => SqL.of (h.1 _ _ hw8)) ?_ ?_
    · rintro i x H9 hx ⟨s9, d9⟩
      obtain ⟨r, hr1, R⟩ := paired_get prw hx
      have gd := goodRows r (List.mem_of_getElem? hr1)
      have t9 := t8.trans s9
      have few : (((rowsOf vs).take i).filterMap markOf).length ≤ 50 := Nat.le_trans (List.length_filterMap_le _ _) (Nat.le_trans (by rw [List.length_take]; exact Nat.min_le_right _ _) r50)
      have stp : ((rowsOf vs).take (i + 1)).filterMap markOf = ((rowsOf vs).take i).filterMap markOf ++ (markOf r).toList := by
        rw [List.take_add_one, hr1, List.filterMap_append]
        show _ ++ List.filterMap markOf [r] = _
        rw [List.filterMap_cons]
        cases markOf r <;> rfl
      obtain ⟨C, ty, ka, at_⟩ := row_mark T (RowIs.kind gd R)
      refine ⟨rfl, ?_⟩
      refine ⟨_, rfl, by show 2 ≤ sizeLine; decide, fun t ht => ?_⟩
      have y9 := same_upd ht (.tup [.ref T.C_Begin, .ref T.C_Send])
      refine ⟨x, t, [.ref T.C_Begin, .ref T.C_Send], _, [.ref T.C_Begin, .ref T.C_Send], _, rfl, upd_same, .cons (.own _) (.cons (.own _) .nil), tyx_keep (t9.trans y9) ty, ka, _, rfl, ?_⟩
      cases em : markOf r with
      | none =>
        rw [em] at stp
        exact iteF ⟨s9.trans y9, by rw [stp]; simpa using y9 _ _ d9⟩
      | some m =>
        rw [em] at stp
        obtain ⟨a, dx0, fs, rfl, ha, cl, na, lk⟩ := at_ m em
        refine iteT ?_
        refine ⟨_, rfl, a, C, dx0, fs, _, rfl, (t9.trans y9) _ _ ha, cl, na, lk, _, y9 _ _ d9, small1000 (by rw [List.length_map]; omega), fun b o e => ?_, ?_⟩
        · rw [upd_ne (ne_of_none e hD3)]
          exact (s9.trans y9) _ _ e
        · rw [upd_same, stp, List.map_append]
          rfl
    rintro HM ⟨sM, dHM⟩
    rw [paired_len prw, List.take_length] at dHM
    have tM := t8.trans sM
    have hwM := sM _ _ hw8
    -- signs
    refine ⟨_, rfl, D2, rfl, ⟨_, SqL.of hwM⟩, fun D4 hD4 => ?_⟩
    refine lc_list (K := K) (a := D2) (xs := ws) (fun i H' => Same HM H' ∧ H' D4 = some (.lst ((((rowsOf vs).take i).filterMap signOf).map V.str))) ⟨same_upd hD4 _, upd_same⟩ (fun i H' _ h => SqL.of (h.1 _ _ hwM)) ?_ ?_
    · rintro i x H9 hx ⟨s9, d9⟩
      obtain ⟨r, hr1, R⟩ := paired_get prw hx
      have gd := goodRows r (List.mem_of_getElem? hr1)
      have t9 := tM.trans s9
      have few : (((rowsOf vs).take i).filterMap signOf).length ≤ 50 := Nat.le_trans (List.length_filterMap_le _ _) (Nat.le_trans (by rw [List.length_take]; exact Nat.min_le_right _ _) r50)
      have stp : ((rowsOf vs).take (i + 1)).filterMap signOf = ((rowsOf vs).take i).filterMap signOf ++ (signOf r).toList := by
        rw [List.take_add_one, hr1, List.filterMap_append]
        show _ ++ List.filterMap signOf [r] = _
        rw [List.filterMap_cons]
        cases signOf r <;> rfl
      obtain ⟨C, ty, ka, at_⟩ := row_sign T (RowIs.kind gd R)
      refine ⟨rfl, ?_⟩
      refine ⟨_, rfl, by show 2 ≤ sizeLine; decide, fun t ht => ?_⟩
      have y9 := same_upd ht (.tup [.ref T.C_Back, .ref T.C_End])
      refine ⟨x, t, [.ref T.C_Back, .ref T.C_End], _, [.ref T.C_Back, .ref T.C_End], _, rfl, upd_same, .cons (.own _) (.cons (.own _) .nil), tyx_keep (t9.trans y9) ty, ka, _, rfl, ?_⟩
      cases em : signOf r with
      | none =>
        rw [em] at stp
        exact iteF ⟨s9.trans y9, by rw [stp]; simpa using y9 _ _ d9⟩
      | some m =>
        rw [em] at stp
        obtain ⟨a, dx0, fs, rfl, ha, cl, na, lk⟩ := at_ m em
        refine iteT ?_
        refine ⟨_, rfl, a, C, dx0, fs, _, rfl, (t9.trans y9) _ _ ha, cl, na, lk, _, y9 _ _ d9, small1000 (by rw [List.length_map]; omega), fun b o e => ?_, ?_⟩
        · rw [upd_ne (ne_of_none e hD4)]
          exact (s9.trans y9) _ _ e
        · rw [upd_same, stp, List.map_append]
          rfl
    rintro HS ⟨sS, dHS⟩
    rw [paired_len prw, List.take_length] at dHS
    have tS := tM.trans sS
    have dM := sS _ _ dHM
    have hwS := sS _ _ hwM
    have hDS := ((s8.trans sM).trans sS) _ _ hD7
    have pS := tS _ _ hp
    have kHS : Kp p H HS := Kp.refl.same tS
    have lne : ∀ {c : Addr} {ys : List V}, HS c = some (.lst ys) → c ≠ p := fun h => ins_ne pS h fun _ _ _ z => nomatch z
    -- the fields
    refine ⟨_, rfl, ⟨sa, xs, rfl, hS.same tS, fun s2 A1 sA cA => ?_⟩⟩
    have pA := sA _ _ pS
    refine ⟨_, rfl, p, T.C_Book, dx, _, rfl, pA, T.c_Book, T.n_Book_services, (by show 0 < 1000; decide), ?_⟩
    have kSA : Kp p HS A1 := Kp.refl.same sA
    have jA := (Kp.refl (p := p) (H := A1)).put (.ins T.C_Book dx [("services", .ref s2)])
    refine ⟨_, rfl, ⟨ra, _, rfl, hR.kp hp ((kHS.trans kSA).trans jA), fun r2 B1 sB cB => ?_⟩⟩
    have pB := sB _ _ (upd_same (H := A1) (a := p) (o := .ins T.C_Book dx [("services", .ref s2)]))
    have kAB : Kp p A1 B1 := jA.same sB
    refine ⟨_, rfl, p, T.C_Book, dx, _, rfl, pB, T.c_Book, T.n_Book_roots, (by show 1 < 1000; decide), ?_⟩
    have jB := (Kp.refl (p := p) (H := B1)).put (.ins T.C_Book dx [("services", .ref s2), ("roots", .ref r2)])
    have kSB := (kSA.trans kAB).trans jB
    refine ⟨_, rfl, D, vs.map (·.nm), rfl, .inl (SqL.of (kSB _ _ (lne hDS) hDS)), by rw [List.length_map]; omega, fun ns n2 C1 sC nn hn nd1 so1 mem1 => ?_⟩
    have pC := sC _ _ (upd_same (H := B1) (a := p) (o := .ins T.C_Book dx [("services", .ref s2), ("roots", .ref r2)]))
    have kBC : Kp p B1 C1 := jB.same sC
    refine ⟨_, rfl, p, T.C_Book, dx, _, rfl, pC, T.c_Book, T.n_Book_names, (by show 2 < 1000; decide), ?_⟩
    have jC := (Kp.refl (p := p) (H := C1)).put (.ins T.C_Book dx [("services", .ref s2), ("roots", .ref r2), ("names", .ref n2)])
    have kSC := ((kSA.trans kAB).trans kBC).trans jC
    refine ⟨_, rfl, ?_⟩
    -- marks
    refine ⟨D3, _, rfl, .inr (SqL.of (kSC _ _ (lne dM) dM)), ?_, fun lE hlE => ?_⟩
    · simp only [List.length_cons, List.length_append, List.length_map, List.length_nil]
      rw [sizeLine_eq]
      have := Nat.le_trans (List.length_filterMap_le markOf (rowsOf vs)) r50
      omega
    have eE : (V.str "none" :: ((((rowsOf vs).filterMap markOf).map V.str) ++ [])) = (("none" : Str) :: (rowsOf vs).filterMap markOf).map V.str := by rw [List.append_nil, List.map_cons]
    refine ⟨lE, ("none" : Str) :: (rowsOf vs).filterMap markOf, rfl, .inl (SqL.of (by rw [← eE]; exact upd_same)), ?_, fun m2s m2 E1 sE nE hE ndE soE memE => ?_⟩
    · have := Nat.le_trans (List.length_filterMap_le markOf (rowsOf vs)) r50
      simp only [List.length_cons]
      omega
    have sE' := (same_upd hlE _).trans sE
    have pE := sE' _ _ (upd_same (H := C1) (a := p) (o := .ins T.C_Book dx [("services", .ref s2), ("roots", .ref r2), ("names", .ref n2)]))
    have kCE : Kp p C1 E1 := jC.same sE'
    refine ⟨_, rfl, p, T.C_Book, dx, _, rfl, pE, T.c_Book, T.n_Book_marks, (by show 3 < 1000; decide), ?_⟩
    have jE := (Kp.refl (p := p) (H := E1)).put (.ins T.C_Book dx [("services", .ref s2), ("roots", .ref r2), ("names", .ref n2), ("marks", .ref m2)])
    have kSE := (((kSA.trans kAB).trans kBC).trans kCE).trans jE
    refine ⟨_, rfl, ?_⟩
    -- signs
    refine ⟨D4, _, rfl, .inr (SqL.of (kSE _ _ (lne dHS) dHS)), ?_, fun lF hlF => ?_⟩
    · simp only [List.length_cons, List.length_append, List.length_map, List.length_nil]
      rw [sizeLine_eq]
      have := Nat.le_trans (List.length_filterMap_le signOf (rowsOf vs)) r50
      omega
    have eF : (V.str "none" :: ((((rowsOf vs).filterMap signOf).map V.str) ++ [])) = (("none" : Str) :: (rowsOf vs).filterMap signOf).map V.str := by rw [List.append_nil, List.map_cons]
    refine ⟨lF, ("none" : Str) :: (rowsOf vs).filterMap signOf, rfl, .inl (SqL.of (by rw [← eF]; exact upd_same)), ?_, fun g2s g2 F1 sF nF hF ndF soF memF => ?_⟩
    · have := Nat.le_trans (List.length_filterMap_le signOf (rowsOf vs)) r50
      simp only [List.length_cons]
      omega
    have sF' := (same_upd hlF _).trans sF
    have pF := sF' _ _ (upd_same (H := E1) (a := p) (o := .ins T.C_Book dx [("services", .ref s2), ("roots", .ref r2), ("names", .ref n2), ("marks", .ref m2)]))
    have kEF : Kp p E1 F1 := jE.same sF'
    refine ⟨_, rfl, p, T.C_Book, dx, _, rfl, pF, T.c_Book, T.n_Book_signs, (by show 4 < 1000; decide), ?_⟩
    have jF := (Kp.refl (p := p) (H := F1)).put (.ins T.C_Book dx [("services", .ref s2), ("roots", .ref r2), ("names", .ref n2), ("marks", .ref m2), ("signs", .ref g2)])
    have kSF := ((((kSA.trans kAB).trans kBC).trans kCE).trans kEF).trans jF
    refine ⟨_, rfl, ⟨D2, ws, rfl, .inl (SqL.of (kSF _ _ (lne hwS) hwS)), fun w2 G1 sG cG => ?_⟩⟩
    have pG := sG _ _ (upd_same (H := F1) (a := p) (o := .ins T.C_Book dx [("services", .ref s2), ("roots", .ref r2), ("names", .ref n2), ("marks", .ref m2), ("signs", .ref g2)]))
    have kFG : Kp p F1 G1 := jF.same sG
    refine ⟨_, rfl, p, T.C_Book, dx, _, rfl, pG, T.c_Book, T.n_Book__rows, (by show 5 < 1000; decide), ?_⟩
    have jG := (Kp.refl (p := p) (H := G1)).put (.ins T.C_Book dx [("services", .ref s2), ("roots", .ref r2), ("names", .ref n2), ("marks", .ref m2), ("signs", .ref g2), ("_rows", .ref w2)])
    have zF := kFG.trans jG
    have zE := kEF.trans zF
    have zC := kCE.trans zE
    have zB := kBC.trans zC
    have zA := kAB.trans zB
    have zS := kSA.trans zA
    refine fin l _ rfl wn (kHS.trans zS) ⟨dx, s2, r2, n2, m2, g2, w2, xs, ws, ns, m2s, g2s, upd_same, sqT_kp cA pA zA, paired_imp (fun x v hx => ?_) prs, sqT_kp cB pB zB, sqT_kp (SqT.of hn) pC zC, ⟨nd1, so1, mem1⟩, sqT_kp (SqT.of hE) pE zE, ⟨ndE, soE, memE⟩, sqT_kp (SqT.of hF) pF zF, ⟨ndF, soF, memF⟩, sqT_kp cG pG jG, ?_⟩
    · obtain ⟨a, e, S⟩ := hx
      exact ⟨a, e, S.kp hp (kHS.trans zS)⟩
    · exact rowis_kp hp (kHS.trans zS) prw goodRows
end
end My

/-! ## A book's arguments drawn -/
namespace My
open PySem L2
abbrev s_any_book : Stmt := top 55
abbrev N_any_book : List Str := ["_law_box_here", "_law_most", "_law_names_here", "_law_words_here", "_law_services", "_law_name"]
abbrev P_any_book : List Str := ["_law_box_here", "_law_most"]
theorem sc_any_book : FnScope N_any_book P_any_book (defScope s_any_book) := ⟨rfl, rfl, rfl, by decide +kernel, rfl, by decide +kernel, by decide +kernel⟩
structure TxAnyBook (K : PySem.W.Frag) (mg : Str → Option Value) extends TxAnySvc K mg where
  f_any_book : Addr
  d_any_book : FuncData
  F_any_book : Fun K "_law_any_book" "_law_any_book" s_any_book f_any_book d_any_book
  m_any_book : mg "_law_any_book" = some (.ref f_any_book)
  b_any_book : Binds K d_any_book P_any_book []
/-- the arguments of these services in dicts -/
def SvcsN (N : Addr → Prop) (b : Addr) (H : Hp) (al : List Addr) (vs : List SvW) : Prop := Paired (fun a (v : SvW) => SvcN N b H a v.nm v.kinds v.waits v.leaves v.rows) al vs
structure BkD (N : Addr → Prop) (b : Addr) (H : Hp) (p : Addr) (vs : List SvW) (roots : List Str) : Prop where
  at_ : ∃ (sl rl : Addr) (al : List Addr), (At b H p (.dK [(.inr "services", .ref sl), (.inr "roots", .ref rl)]) ∧ At b H sl (.lst (al.map V.ref)) ∧ At b H rl (.lst (roots.map V.str)) ∧ SvcsN N b H al vs) ∧ N p ∧ N sl ∧ N rl
theorem SvcsN.gr {N : Addr → Prop} {b : Addr} {H H' : Hp} {al : List Addr} {vs : List SvW} (h : SvcsN N b H al vs) (g : Gr b H H') : SvcsN N b H' al vs := paired_imp' (fun _ _ z => z.gr g) h
theorem BkD.gr {N : Addr → Prop} {b : Addr} {H H' : Hp} {p : Addr} {vs : List SvW} {roots : List Str} (h : BkD N b H p vs roots) (g : Gr b H H') : BkD N b H' p vs roots := by
  obtain ⟨sl, rl, al, ⟨h1, h2, h3, h4⟩, n⟩ := h.at_
  exact ⟨sl, rl, al, ⟨h1.gr g, h2.gr g, h3.gr g, h4.gr g⟩, n⟩
/-- what is drawn: services of these names, which name these -/
structure DrawnB (most : Int) (vs : List SvW) (roots : List Str) : Prop where
  few : 1 ≤ vs.length ∧ (vs.length : Int) ≤ most
  nd : (vs.map (·.nm)).Nodup
  good : ∀ v ∈ vs, v.good
  zx : ∀ v ∈ vs, v.nm ≠ "zx"
  r5 : ∀ v ∈ vs, v.rows.length ≤ 5
  ws : ∀ v ∈ vs, ∀ y ∈ v.waits, y ∈ vs.map (·.nm)
  ls : ∀ v ∈ vs, ∀ y ∈ v.leaves, y ∈ vs.map (·.nm)
  rt : SomeOf 1 (vs.map (·.nm)) roots
  wl : ∀ v ∈ vs, v.waits.length ≤ vs.length ∧ v.leaves.length ≤ vs.length
def spAnyBook : Sp := fun vs H Q _ => ∃ (b : Addr) (most : Int), vs = [.ref b, .int most] ∧ Gr b H H ∧ 1 ≤ most ∧ most ≤ 10 ∧
  ∀ (p : Addr) (vs : List SvW) (roots : List Str) (H' : Hp), Gr b H H' → H p = none → BkD (fun a => H a = none) b H' p vs roots → DrawnB most vs roots → Q (.ref p) H'
section
variable {P : Program} {w : World} {K : PySem.W.Frag} {mg : Str → Option Value} {base : Heap}
theorem ok_any_book (T : TxAnyBook K mg) : FnOk P w K mg base CX0 5 T.f_any_book T.d_any_book P_any_book spAnyBook := by
  have G_take : FnOk P w K mg base CX0 1 T.f_take T.d_take P_take spTakeG := ok_takeG T.toTxDraw
  have G_names : FnOk P w K mg base CX0 3 T.f_names T.d_names P_names spNamesZ := ok_namesZ T.toTxNames
  have G_some : FnOk P w K mg base CX0 3 T.f_some T.d_some P_some spSome := ok_some T.toTxSome
  have G_any_service : FnOk P w K mg base CX0 4 T.f_any_service T.d_any_service P_any_service spAnySvc := ok_any_service T.toTxAnySvc
  refine T.F_any_book.ok sc_any_book (fun vs H Q E h => ?_) (fun cdv A outer s H vs Q E hr h => ?_)
  · obtain ⟨b, most, rfl, _⟩ := h
    rfl
  obtain ⟨b, most, rfl, g0, m1, m10, q⟩ := h
  refine ⟨_, (pss_cons (ps_asg (pe_tup (pa_cons (pe_call G_names (hr.mono (by decide)) (by rfl) T.m_names T.F_names.kp T.b_names .nil pass0 (pa_cons (pv 0) (pa_cons (pe_op op_add pe_int (pe_call G_take (hr.mono (by decide)) (by rfl) T.m_take T.F_take.kp T.b_take .nil pass0 (pa_cons (pv 0) (pa_cons (pv 1) pa_nil)))) pa_nil))) (pa_cons (pe_call G_names (hr.mono (by decide)) (by rfl) T.m_names T.F_names.kp T.b_names .nil pass0 (pa_cons (pv 0) (pa_cons pe_int pa_nil))) pa_nil))) (pg_tup rfl (pgs_cons (pg_name (i := 2) sc_any_book.nd rfl (Or.inr rfl)) (pgs_cons (pg_name (i := 3) sc_any_book.nd rfl (Or.inr rfl)) pgs_nil))))
      (pss_cons (ps_setLc (i := 4) (own := [("_law_name", 5)]) (g := gName 5) (by rfl) sc_any_book.nd rfl rfl (sw_true rfl rfl rfl (by decide +kernel)) (pi_listK K (pv 2)) (blkOk_by (own := [("_law_name", 5)]) (N := N_any_book) (sc := defScope s_any_book) (by decide +kernel)) (fun _ _ _ _ _ => (pg_name (i := 5) sc_any_book.nd rfl (Or.inl rfl))) (fun _ _ _ _ _ => pts_nil) (fun _ _ _ _ _ => (pe_call G_any_service (hr.mono (by decide)) (by rfl) T.m_any_service T.F_any_service.kp T.b_any_service .nil pass0 (pa_cons (pv 0) (pa_cons (pv 5) (pa_cons (pv 2) (pa_cons (pv 3) pa_nil)))))))
      (pss_one (ps_ret (pe_disp (pps_cons pe_str (pv 4) (pps_cons pe_str (pe_call G_some (hr.mono (by decide)) (by rfl) T.m_some T.F_some.kp T.b_some .nil pass0 (pa_cons (pv 0) (pa_cons (pv 2) (pa_cons pe_int pa_nil)))) pps_nil)) rfl rfl (fun h => nomatch h) (Nat.le_of_ble_eq_true rfl)))))), ?_⟩
  refine ⟨_, rfl, _, rfl, _, rfl, b, most, rfl, g0, by omega, by omega, fun d H3 d0 d1 g3 => ?_⟩
  refine ⟨_, _, rfl, rfl, b, 1 + d, rfl, gr_self g3, by omega, by omega, fun nl names H4 g4 nl0 aN ylen ynd ynz => ?_⟩
  have g04 := g3.trans g4
  refine ⟨_, rfl, b, 7, rfl, gr_self g04, by decide, by decide, fun wl words H5 g5 wl0 aW wlen wnd wnz => ?_⟩
  have g05 := g04.trans g5
  refine ⟨by show 2 ≤ sizeLine; decide, fun tp htp => ?_⟩
  have g06 := g05.new htp (.tup [.ref nl, .ref wl])
  have aN6 := (aN.gr g5).new htp (u := .tup [.ref nl, .ref wl])
  have aW6 := aW.new htp (u := .tup [.ref nl, .ref wl])
  have tp6 : upd H5 tp (.tup [.ref nl, .ref wl]) tp = some (.tup [.ref nl, .ref wl]) := upd_same
  generalize upd H5 tp (.tup [.ref nl, .ref wl]) = H6 at g06 aN6 aW6 tp6
  refine ⟨tp, _, rfl, SqT.of tp6, rfl, _, _, rfl, _, _, rfl, rfl, ?_⟩
  have r06 := gr_self g06
  have nlen : names.length ≤ 10 := by omega
  have nlen1 : 1 ≤ names.length := by omega
  have wlen7 : words.length = 7 := by omega
  have ynm : ∀ y ∈ names, isNm y = true := fun y hy => (ynz y hy).1
  have wnm : ∀ y ∈ words, isNm y = true := fun y hy => (wnz y hy).1
  clear aN aW
  refine ⟨_, rfl, nl, rfl, ⟨_, aN6.l⟩, fun D hD => ?_⟩
  have nDb : D ≠ b := r06.ne_new hD
  have D0 : H D = none := g06.free hD
  refine lc_list (K := K) (a := nl) (xs := names.map V.str) (fun i H' => Gr b H6 H' ∧ ∃ (al : List Addr) (vs : List SvW), H' D = some (.lst (al.map V.ref)) ∧ vs.length = i ∧ vs.map (·.nm) = names.take i ∧ SvcsN (fun a => H a = none ∧ a ≠ D) b H' al vs ∧ ∀ v ∈ vs, v.good ∧ v.rows.length ≤ 5 ∧ (∀ y ∈ v.waits, y ∈ names) ∧ (∀ y ∈ v.leaves, y ∈ names) ∧ v.waits.length ≤ names.length ∧ v.leaves.length ≤ names.length)
    ⟨r06.new hD _, [], [], upd_same, rfl, rfl, .nil, fun _ h => nomatch h⟩ (fun i H' _ h => (aN6.gr h.1).l) ?_ ?_
  · rintro i x H7 hx ⟨g7, al, vs, hD7, vl, vn, prs, good⟩
    rw [List.getElem?_map] at hx
    obtain ⟨nm, hnm, rfl⟩ : ∃ nm, names[i]? = some nm ∧ V.str nm = x := by
      cases e : names[i]? with
      | none => rw [e] at hx; cases hx
      | some z => rw [e] at hx; cases hx; exact ⟨z, rfl, rfl⟩
    have hnmm : nm ∈ names := List.mem_of_getElem? hnm
    have i10 : i < 10 := by have := (List.getElem?_eq_some_iff.mp hnm).1; omega
    refine ⟨rfl, ?_⟩
    refine ⟨_, rfl, _, rfl, _, rfl, _, rfl, ?_⟩
    refine ⟨b, nl, wl, nm, names, words, rfl, gr_self g7, aN6.gr g7, aW6.gr g7, wlen7, (fun z => by rw [z] at nlen1; exact absurd nlen1 (by decide)), by omega, ynm, wnm, fun p ks ws ls rs H8 g8 hp0 S sK sW sL r5 gr => ?_⟩
    have hD8 := g8.keep _ _ nDb hD7
    have al10 : al.length ≤ 10 := by rw [paired_len' prs]; omega
    have S2 : SvcN (fun a => H a = none ∧ a ≠ D) b H8 p nm ks ws ls rs := S.imp fun a ha => ⟨(g06.trans g7).free ha, fun z => by rw [z, hD7] at ha; cases ha⟩
    refine ⟨al.map V.ref, hD8, small1000 (by rw [List.length_map]; omega), (g7.trans g8).mut hD nDb _, al ++ [p], vs ++ [⟨nm, ks, ws, ls, rs⟩], by rw [upd_same, List.map_append]; rfl, by rw [List.length_append, vl]; rfl, ?_, ?_, fun v hv => ?_⟩
    · rw [List.map_append, vn, List.take_succ, hnm]; rfl
    · exact paired_snoc (paired_imp' (fun a (v : SvW) z => (z.gr g8).put hD8 (fun _ n => n.2) _) prs) (S2.put hD8 (fun _ n => n.2) _)
    · rcases List.mem_append.mp hv with z | z
      · exact good v z
      · rw [List.mem_singleton.mp z]
        exact ⟨GoodV.drawn (ynm _ hnmm) ynd nlen ynm wnd wnm sK sW sL (Nat.le_trans r5 (by decide)) fun r hr => ⟨(gr r hr).1, (gr r hr).2⟩, r5, sW.sub, sL.sub, sW.len, sL.len⟩
  rintro H7 ⟨g7, al, vs, hD7, vl, vn, prs, good⟩
  rw [List.length_map] at vl vn
  rw [List.take_length] at vn
  have g07 := g06.trans g7
  intro p hp
  dsimp only [tPairs]
  have g08 := g07.new hp (.dK [])
  have hp0 : H p = none := g07.free hp
  have pb : p ≠ b := g07.ne_new hp
  have aN8 := (aN6.gr g7).new hp (u := .dK [])
  refine ⟨_, rfl, _, rfl, _, rfl, b, nl, names, 1, rfl, gr_self g08, aN8, nlen1, by omega, fun rl roots H9 g9 rl0 aR sR => ?_⟩
  have p9 : H9 p = some (.dK []) := g9.keep _ _ pb upd_same
  refine ⟨p9, [(.inr "services", .ref D), (.inr "roots", .ref rl)], rfl, by simp, ?_⟩
  have gZ : Gr b H7 (upd H9 p (.dK (mergeK [] [(.inr "services", .ref D), (.inr "roots", .ref rl)]))) := (((gr_self g07).new hp _).trans g9).mut hp pb _
  have aRZ := aR.put p9 (.dK (mergeK [] [(.inr "services", .ref D), (.inr "roots", .ref rl)]))
  have rlH : H rl = none := g08.free rl0
  have pZ : upd H9 p (.dK (mergeK [] [(.inr "services", .ref D), (.inr "roots", .ref rl)])) p = some (.dK [(.inr "services", .ref D), (.inr "roots", .ref rl)]) := upd_same
  generalize upd H9 p (.dK (mergeK [] [(.inr "services", .ref D), (.inr "roots", .ref rl)])) = HZ at gZ aRZ pZ
  refine q p vs roots HZ (g07.trans gZ) hp0 ⟨D, rl, al, ⟨⟨pb, pZ⟩, ⟨nDb, gZ.keep _ _ nDb hD7⟩, aRZ, paired_imp' (fun a (v : SvW) z => (z.imp fun a ha => ha.1).gr gZ) prs⟩, hp0, D0, rlH⟩ ?_
  exact ⟨⟨by omega, by omega⟩, by rw [vn]; exact ynd, fun v hv => (good v hv).1, fun v hv => (ynz _ (by rw [← vn]; exact List.mem_map_of_mem hv)).2, fun v hv => (good v hv).2.1, fun v hv y hy => by rw [vn]; exact (good v hv).2.2.1 y hy, fun v hv y hy => by rw [vn]; exact (good v hv).2.2.2.1 y hy, by rw [vn]; exact sR, fun v hv => by rw [vl]; exact (good v hv).2.2.2.2⟩
end
end My

/-! ## isinstance of a caught error that has a dict of its own -/
namespace PySem.W
open PySem PySem.Spec PySem.Calls PyProof.Rows
section
variable {prog : Program} {w : World} {A : Around} {E : Value → Shared → Prop} {s : Shared} {K : Frag} {x D : Addr} {ox dd : Obj}
theorem my_classD {Q : Option Value → Shared → Prop} (c1 : findIn K (.ref D) "__getattribute__" = some (some (.builtin "BaseException.__getattribute__"))) (c2 : findIn K (.ref D) "__getattr__" = some none)
    (c3 : subIn K (.ref D) (.type "BaseException") = some true) (c4 : hasDictIn K D = true) (c5 : findIn K (.ref D) "__class__" = some (some (.builtin "object.__class__")))
    (c6 : specialIn K (.builtin "object.__class__") "__get__" = some (some (.builtin "getset_descriptor.__get__"))) (c7 : takesIn K (.builtin "object.__class__") = some true) (c8 : mroIn K D (.type "object") = some true)
    (Y : K.In s.heap) (J : InstAt s.heap x ox D (some dd)) (q : Q (some (.ref D)) { s with toks := s.toks + 1 }) : wpAny (model prog w) A (getAttr? (.ref x) "__class__") Q E s := by
  have fo : findObj K D (some dd) "__class__" = some (.bind (.builtin "getset_descriptor.__get__") (.builtin "object.__class__")) := findObj_data (by obtain ⟨cd, e, _⟩ := any_some c4; rw [e]; rfl) c5 c6 c7
  obtain ⟨hh, gg, dr, tt, oo⟩ := s
  have M0 := J.type (M := model prog w); have M1 := looks_findIn (M := model prog w) Y c1; have M2 := looks_findIn (M := model prog w) Y c2; have M3 := looks_find (M := model prog w) Y J fo
  have isb : Looks (model prog w) hh (isInstance (.ref x) (.type "BaseException")) true := M0.andThen (looks_subIn Y c3)
  have n2 : (Value.builtin "BaseException.__getattribute__" == Value.builtin "object.__getattribute__") = false := by decide +kernel
  have n1 : (onTheHeap (Value.ref D) && Value.builtin "BaseException.__getattribute__" == Value.builtin "object.__getattribute__") = false := by rw [n2]; rfl
  unfold getAttr? getAttrBy? getAttrBy; refine wpAny_bind (wpAny_mkText (wpAny_bind (wpAny_attempt (wpAny_holding (wpAny_bind (M0.at (wpAny_bind (M1.at ?_))))))))
  show wpAny _ _ (if (onTheHeap (Value.ref D) && Value.builtin "BaseException.__getattribute__" == Value.builtin "object.__getattribute__") = true then _ else _) _ _ _; rw [n1, if_neg Bool.false_ne_true]
  unfold getAttrByItsOwn hookBefore; refine wpAny_bind ?_; rw [if_pos (show onTheHeap (Value.ref D) = true from rfl)]; refine M2.at ?_
  refine wpAny_bind (wpAny_attempt (wpAny_holding ?_)); unfold callGetattribute; rw [show (false && onTheHeap (Value.builtin "BaseException.__getattribute__")) = false from rfl, if_neg Bool.false_ne_true]
  unfold boundAndCalled; rw [PySem.F.excAttr_ValueError.ga.bind (.ref x)]; refine wpAny_bind (wpAny_pure ?_)
  show wpAny _ _ (call (.builtin "BaseException.__getattribute__") [.ref x, .str "__class__" tt]) _ _ _
  refine wpAny_call (codeAny_call_builtin PySem.F.excAttr_ValueError.ga.plain PySem.F.entry_bexc_ga (@check_slot (model prog w) _ _ ⟨hh, gg, dr, tt + 1, oo⟩ "BaseException.__getattribute__" "BaseException" "__getattribute__" (.ref x) [.str "__class__" tt] [] _ (by decide +kernel) (by decide +kernel) isb (PySem.F.args_bexc_ga (.ref x) (.str "__class__" tt)) ?_))
  unfold Builtin.«object.__getattribute__»; refine wpAny_bind (wpAny_of_eq (a := ((Value.ref x : Value), [Value.str "__class__" tt])) (by first | rfl | (simp only [slotArgs]; rfl)) (wpAny_bind (wpAny_pure (wpAny_bind (M0.at (wpAny_bind (M3.at ?_)))))))
  show wpAny _ _ (holding [Value.builtin "object.__class__"] (call (.builtin "getset_descriptor.__get__") [.builtin "object.__class__", .ref x, .ref D]) >>= ret) _ _ _
  refine wpAny_bind (wpAny_holding (wpAny_call (class_get (s := ⟨hh, gg, dr, tt + 1, oo⟩) (ox := ox) (od := some dd) Y J c8 (wpAny_pure ?_))))
  show wpAny _ _ (handedOut (.ref D)) _ _ _; rw [handedOut_of (v := .ref D) rfl]
  first | exact wpAny_pure (wpAny_pure q) | exact wpAny_pure q | exact wpAny_pure (wpAny_bind (wpAny_pure (wpAny_pure q)))
theorem my_kitD (c1 : findIn K (.ref D) "__getattribute__" = some (some (.builtin "BaseException.__getattribute__"))) (c2 : findIn K (.ref D) "__getattr__" = some none)
    (c3 : subIn K (.ref D) (.type "BaseException") = some true) (c4 : hasDictIn K D = true) (c5 : findIn K (.ref D) "__class__" = some (some (.builtin "object.__class__")))
    (c6 : specialIn K (.builtin "object.__class__") "__get__" = some (some (.builtin "getset_descriptor.__get__"))) (c7 : takesIn K (.builtin "object.__class__") = some true) (c8 : mroIn K D (.type "object") = some true) :
    KitX K (.ref x) (.ref D) (fun h => InstAt h x ox D (some dd)) where
  ty := fun _ _ _ J => J.type
  it := fun _ _ Y _ => by
    obtain ⟨cd, e, _⟩ := any_some c4; unfold clsIn at e
    split at e
    · rename_i a1 a2 a3 a4 e2
      intro A2 Q2 E2 s2 k q; unfold isType loadHead; exact wpAny_bind (wpAny_loadPart (k _ _ (Y _ _ e2)) (wpAny_pure q))
    · cases e
  ne := (handS_kitx_exc (x := x) (ox := ox) c1 c2 c3 c4 c5 c6 c7 c8).ne
  ca := fun Y J k => my_classD c1 c2 c3 c4 c5 c6 c7 c8 Y J k
end
end PySem.W
namespace My
open PySem L2
/-- isinstance(e, c), e the error that the suite holds, with its own dict -/
def rIsD (K : PySem.W.Frag) (a : Addr) (cls : Value) (d : Option Addr) : List V → Hp → VK → Prop := fun xs H Q => ∃ (D dd : Addr) (fs : List (Str × V)) (c : V) (cv : Value) (b : Bool), xs = [.ref a, c] ∧ cls = .ref D ∧ d = some dd ∧ H dd = some (.xd fs) ∧ ExcC K D ∧ (∀ u, RelV c u → u = cv) ∧
  PySem.W.kitOne K (.ref D) cv = some b ∧ Q (.bl b) H
theorem call_isD {X : Cx} {a : Addr} {cls : Value} {d : Option Addr} {oe : Obj} {pn : List (Addr × Obj)} (hz : Zc cls d oe) (hf : ∃ vs, oe.data = .fields vs) : CallR (X.suite a ((a, oe) :: pn)) (.builtin "isinstance") (rIsD X.K a cls d) := by
  intro pins s σ H xs us Q I r h
  obtain ⟨D, dd, fs, c, cv, b, rfl, e1, e2, hd, C, hcv, e, q⟩ := h
  subst e1 e2
  cases r with
  | cons rx rr =>
  cases rr with
  | cons rt rr =>
  cases rr
  cases rx
  have ec := hcv _ rt
  subst ec
  obtain ⟨hget, _⟩ := I.pin (a, oe) (List.mem_append_left _ List.mem_cons_self)
  obtain ⟨mA, hns, hr⟩ := I.hok dd _ hd
  obtain ⟨od, ho, hl⟩ := lookIn_ns hns
  obtain ⟨vs, hv⟩ := hf
  have J : PySem.W.InstAt s.heap a oe D (some od) := ⟨hget, hz.1, by unfold PySem.W.notCls; rw [hv] <;> rfl, by rw [hz.2]; exact ho⟩
  exact PySem.W.kia_one (PySem.W.my_kitD C.hg C.hk C.hs C.hd C.ha C.hn C.ht C.hm) I.kIn J e (fun z => nomatch z) fun tk => ⟨.bl b, H, I.tok tk, rfl, q⟩
end My

/-! ## C(e, ..) within try, where the suite's words may hang on the slots -/
namespace My
open PySem PySem.Spec PyProof.Rows L2
def tMakeS (C : Addr) (sp : Sp) (dvs : List V) (E : L2.St → XK) (t : TA) : TE := fun σ H Q => t σ H fun vs H1 => ∀ x dx, H1 x = none → H1 dx = none → dx ≠ x →
  sp (.ref x :: (vs ++ dvs)) (upd (upd H1 dx (.own x)) x (.ins C dx [])) (fun v H2 => v = .non ∧ Q (.ref x) H2) (E σ)
section
variable {X : Cx} {CX : CXT} {k : Nat} {f C : Addr} {fd : FuncData} {ps : List Str} {sp : Sp} {E : L2.St → XK} {x : Str} {p pos : Pos} {e : Expr} {es : List Expr} {t : TA} {ds : List Value} {dvs : List V}
set_option maxHeartbeats 400000 in
theorem make_at {pins : List (Addr × Obj)} {σ : L2.St} {H : Hp} {s : Shared} {Q : VK} {us : List Value} {vs : List V} (M : Mk X.K C f) (F : FnOk X.prog X.w X.K X.mg X.base CX k f fd ps sp) (room : Room (k + 1) X.A) (bd : Binds X.K fd ps ds) (dv : Vals dvs ds) (out : PassesAt CX X σ (E σ)) (I : Inv X pins σ H s) (r : Vals vs us)
    (h : ∀ x dx, H x = none → H dx = none → dx ≠ x → sp (.ref x :: (vs ++ dvs)) (upd (upd H dx (.own x)) x (.ins C dx [])) (fun v H2 => v = .non ∧ Q (.ref x) H2) (E σ)) : wpAny (model X.prog X.w) X.A (call (.ref C) us) (EP X pins σ Q) X.xe s := by
  have todo := h (s.heap.objs.size + 1) s.heap.objs.size (I.hok.fresh (Nat.le_succ _)) (I.hok.fresh (Nat.le_refl _)) (Nat.ne_of_lt (Nat.lt_succ_self _))
  have J := Inv.made (C := C) I
  have rs : Vals (V.ref (s.heap.objs.size + 1) :: (vs ++ dvs)) (Value.ref (s.heap.objs.size + 1) :: (us ++ ds)) := .cons rfl (r.append dv)
  have many : (Value.ref (s.heap.objs.size + 1) :: us ++ ds).length = ps.length := rs.length ▸ F.len _ _ _ _ todo
  have body := F.run _ X.stack _ _ ⟨Value.ref (s.heap.objs.size + 1) :: us, []⟩ (Value.ref (s.heap.objs.size + 1) :: (us ++ ds)) _ _ (E σ) (room.make C us []) (J.env0.make C us []) (bd _ (Value.ref (s.heap.objs.size + 1) :: us) J.kIn many) rs todo
  refine wpAny_call (make_map (f := f) I.kIn M.makes M.init (beq_iff_eq.mp M.fn) (codeAny_mono body fun q s' hq => ?_))
  match q, hq with
  | .error e, hq => exact out pins _ _ e s' J hq
  | .ok (.ret u), hq =>
    obtain ⟨v, H2, J2, rv, ev, z⟩ := J.after hq
    rw [ev] at rv
    exact ⟨rv, V.ref (s.heap.objs.size + 1), H2, J2, rfl, z⟩
theorem pe_makeS (M : Mk X.K C f) (F : FnOk X.prog X.w X.K X.mg X.base CX k f fd ps sp) (room : Room (k + 1) X.A) (gl : Gl X x) (gm : X.mg x = some (.ref C)) (bd : Binds X.K fd ps ds) (dv : Vals dvs ds) (out : ∀ σ, PassesAt CX X σ (E σ)) (ha : PA X (e :: es) t)
    (db : (x == ("__debug__" : Str)) = false := by decide) (e1 : starEach (e :: es) X.env = (false, eval e X.env) :: starEach es X.env := by rfl) (e2 : (backTo pos (starEach es X.env)).any (·.1) = false := by rfl) : PE X (.Call (.Name x p) (e :: es) [] pos) (tMakeS C sp dvs E t) :=
  ⟨fun pins s σ H Q I h => wpAny_Call_Name_kw (ld_glob I gl gm (PySem.W.callWith_K (h₀ := X.base) I.ok.mod.kin M.kp (thn (ha.run pos pins s σ H _ I h) fun us s1 ⟨vs, H1, I1, r, q⟩ => ⟨I1.kIn, make_at M F room bd dv (out σ) I1 r q⟩) e1 e2) db)⟩
end
end My

/-! ## A book refused: the law's look -/
namespace My
open PySem PySem.Spec PyProof.Rows L2
abbrev s_word : Stmt := top 56
abbrev N_word : List Str := ["_law_services", "_law_roots", "_law_found", "e"]
abbrev P_word : List Str := ["_law_services", "_law_roots"]
theorem sc_word : FnScope N_word P_word (defScope s_word) := ⟨rfl, rfl, rfl, by decide +kernel, rfl, by decide +kernel, by decide +kernel⟩
structure TxWord (K : PySem.W.Frag) (mg : Str → Option Value) extends TxBook K mg where
  C_TraceError : Addr
  m_TraceError : mg "TraceError" = some (.ref C_TraceError)
  ke_BT : PySem.W.kitOne K (.ref C_InvalidBook) (.ref C_TraceError) = some true
  ke_BS : PySem.W.kitOne K (.ref C_InvalidBook) (.ref C_InvalidService) = some false
  exBk : ExcC K C_InvalidBook
  xfBk : XfC K C_InvalidBook
  teBk : PySem.W.exmOne K (.ref C_InvalidBook) (.ref C_InvalidBook) = some true
  f_word : Addr
  d_word : FuncData
  F_word : Fun K "_law_word" "_law_word" s_word f_word d_word
  m_word : mg "_law_word" = some (.ref f_word)
  b_word : Binds K d_word P_word []
/-- what is asked of a book's arguments -/
structure BkArgs {K : PySem.W.Frag} {mg : Str → Option Value} (T : TxBook K mg) (H : Hp) (sv rt : V) (b1 b5 : Bool) (vs : List SvW) (ro : Option (List Str)) : Prop where
  s : SvcsV K T.C_Service H sv b1
  r : SomeV K H rt b5
  k : b1 = true → ∃ (sa : Addr) (xs : List V), sv = .ref sa ∧ SqA K H sa xs ∧ Paired (SvcRef T.toTxSvc H) xs vs ∧ (∀ v ∈ vs, v.good) ∧ vs.length ≤ 10 ∧ (rowsOf vs).length ≤ 50
  e : b5 = ro.isSome
  l : ∀ l, ro = some l → ∃ ra, rt = .ref ra ∧ SqA K H ra (l.map V.str) ∧ l.length ≤ 100
theorem BkArgs.same {K : PySem.W.Frag} {mg : Str → Option Value} {T : TxBook K mg} {H H' : Hp} {sv rt : V} {b1 b5 : Bool} {vs : List SvW} {ro : Option (List Str)} (h : BkArgs T H sv rt b1 b5 vs ro) (e : Same H H') : BkArgs T H' sv rt b1 b5 vs ro :=
  ⟨h.s.same e, h.r.same e, fun z => by
    obtain ⟨sa, xs, e1, e2, e3, e4⟩ := h.k z
    exact ⟨sa, xs, e1, e2.same e, paired_imp' (fun _ _ z => z.same e) e3, e4⟩, h.e, fun l z => by
    obtain ⟨ra, e1, e2, e3⟩ := h.l l z
    exact ⟨ra, e1, e2.same e, e3⟩⟩
/-- the word of the first thing that is not as it must be -/
def wordBk (b1 : Bool) (vs : List SvW) (ro : Option (List Str)) : Option Str := if b1 = false then some "services" else wrBk vs ro
def optV : Option Str → V
  | none => .non
  | some x => .str x
def spWord {K : PySem.W.Frag} {mg : Str → Option Value} (T : TxBook K mg) : Sp := fun us H Q _ => ∃ (sv rt : V) (b1 b5 : Bool) (vs : List SvW) (ro : Option (List Str)), us = [sv, rt] ∧ BkArgs T H sv rt b1 b5 vs ro ∧ ∀ H', Same H H' → Q (optV (wordBk b1 vs ro)) H'
section
variable {P : Program} {w : World} {K : PySem.W.Frag} {mg : Str → Option Value} {base : Heap}
theorem ro_of_none {vs : List SvW} {ro : Option (List Str)} (h : wrBk vs ro = none) : ∃ l, ro = some l := by
  cases ro with
  | some l => exact ⟨l, rfl⟩
  | none =>
    unfold wrBk at h
    split at h
    · cases h
    split at h
    · cases h
    split at h
    · cases h
    cases h
/-- what Book(..) asks -/
theorem book_asked (T : TxBook K mg) {H : Hp} {sv rt : V} {b1 b5 : Bool} {vs : List SvW} {ro : Option (List Str)} {Q : Hp → Prop} {E : XK} {x dx : Addr} (nx : H x = none) (nd : H dx = none) (ne : dx ≠ x) (h : BkArgs T H sv rt b1 b5 vs ro)
    (q : ∀ H', wordBk b1 vs ro = none → Same H H' → Q H') (qe : ∀ wd d H', wordBk b1 vs ro = some wd → Same H H' → H d = none → H' d = some (.xd [("word", .str wd)]) → E (.ref T.C_InvalidBook) (some d) H') :
    spBookInit T [.ref x, sv, rt] (upd (upd H dx (.own x)) x (.ins T.C_Book dx [])) (fun v H2 => v = .non ∧ Q H2) E := by
  have s0 : Same H (upd (upd H dx (.own x)) x (.ins T.C_Book dx [])) := fun b o e => by rw [upd_ne (ne_of_none e nx), upd_ne (ne_of_none e nd)]; exact e
  have h' := h.same s0
  refine ⟨x, dx, sv, rt, b1, b5, rfl, upd_same, h'.s, h'.r, fun e d H' s1 n1 e2 => ?_, fun e => ?_⟩
  · refine qe "services" d H' ?_ (s0.trans s1) (s0.free n1) e2
    unfold wordBk
    rw [if_pos e]
  obtain ⟨sa, xs, e1, e2, e3, e4, e5, e6⟩ := h'.k e
  have we : wordBk b1 vs ro = wrBk vs ro := by
    unfold wordBk
    rw [if_neg (by rw [e]; exact Bool.noConfusion)]
  refine ⟨sa, xs, vs, ro, e1, e2, e3, e4, e5, e6, h'.e, h'.l, fun wd d H' z s1 n1 e7 => qe wd d H' (we.trans z) (s0.trans s1) (s0.free n1) e7, fun l H' _ z kp _ => ⟨rfl, q H' (we.trans z) fun b o eb => ?_⟩⟩
  exact kp b o (ne_of_none eb nx) (s0 b o eb)
set_option maxHeartbeats 400000 in
theorem ok_word (T : TxWord K mg) (zi : mg "isinstance" = none) : FnOk P w K mg base CX0 7 T.f_word T.d_word P_word (spWord T.toTxBook) := by
  have G_Book_init := ok_Book_init (P := P) (w := w) (base := base) T.toTxBook
  refine T.F_word.ok sc_word (fun vs H Q E h => ?_) (fun cdv A outer s H vs Q E hr h => ?_)
  · obtain ⟨sv, rt, b1, b5, vs, ro, rfl, _⟩ := h
    rfl
  obtain ⟨sv, rt, b1, b5, vs, ro, rfl, hA, q⟩ := h
  refine ⟨_, (pss_cons (ps_set (i := 2) sc_word.nd rfl (Or.inl rfl) pe_non)
      (pss_cons (ps_try_as (i := 3) rfl rfl sc_word.nd rfl rfl ⟨rfl, by decide, .inl T.m_InvalidBook⟩ takes0 (fun W pn xe tk _ => (pss_cons (ps_set (i := 2) sc_word.nd rfl (Or.inl rfl) (pe_makeS T.mk_Book G_Book_init (hr.mono (by decide)) (by rfl) T.m_Book T.b_Book_init .nil (fun σ => passAt tk σ) (pa_cons (pv 0) (pa_cons (pv 1) pa_nil))))
      (pss_one (ps_set (i := 2) sc_word.nd rfl (Or.inl rfl) pe_non)))) (fun a oe cls d pn hz hf => (pss_one (ps_set (i := 2) sc_word.nd rfl (Or.inl rfl) (pe_ifExp (PW.pt (pw_and (pt_val (pe_callB (call_isD hz hf) (by rfl) T.z_isinstance (by decide +kernel) (pa_cons (pv 3) (pa_cons (pe_glob (v := .ref T.C_TraceError) (by rfl) T.m_TraceError rfl) pa_nil)))) (pw_and1 (pt_not (pt_val (pe_callB (call_isD hz hf) (by rfl) T.z_isinstance (by decide +kernel) (pa_cons (pv 3) (pa_cons (pe_glob (v := .ref T.C_InvalidService) (by rfl) T.m_InvalidService rfl) pa_nil)))))))) (pe_xf T.xfBk T.nwBk hz hf (pv 3)) pe_str)))))
      (pss_one (ps_ret (pv 2))))), ?_⟩
  refine ⟨_, rfl, _, rfl, ?_⟩
  intro x dx nx nd ne
  refine book_asked T.toTxBook nx nd ne hA (fun H1 e1 s1 => ?_) (fun wd d H1 e1 s1 n1 hx => ?_)
  · have r := q H1 s1
    rw [e1] at r
    exact ⟨_, rfl, r⟩
  · refine ⟨true, T.teBk, fun _ a0 na => ?_, fun z => nomatch z⟩
    have r := q H1 s1
    rw [e1] at r
    refine ⟨_, rfl, T.C_InvalidBook, d, _, .ref T.C_TraceError, _, true, rfl, rfl, rfl, hx, T.exBk, fun u h => h, T.ke_BT, _, rfl, ?_⟩
    refine ⟨_, rfl, T.C_InvalidBook, d, _, .ref T.C_InvalidService, _, false, rfl, rfl, rfl, hx, T.exBk, fun u h => h, T.ke_BS, _, rfl, ?_⟩
    exact ⟨_, rfl, rfl, rfl, d, _, _, rfl, hx, rfl, _, rfl, r⟩
end
end My

/-! ## What is no services, or no roots -/
namespace My
open PySem PySem.Spec PyProof.Rows L2
abbrev s_odd : Stmt := top 57
abbrev N_odd : List Str := ["_law_box_here", "_law_services", "_law_names_here", "_law_at", "_law_some_here"]
abbrev P_odd : List Str := ["_law_box_here", "_law_services", "_law_names_here", "_law_at"]
theorem sc_odd : FnScope N_odd P_odd (defScope s_odd) := ⟨rfl, rfl, rfl, by decide +kernel, rfl, by decide +kernel, by decide +kernel⟩
structure TxOdd (K : PySem.W.Frag) (mg : Str → Option Value) extends TxBook K mg, TxDraw K mg where
  f_odd : Addr
  d_odd : FuncData
  F_odd : Fun K "_law_odd" "_law_odd" s_odd f_odd d_odd
  m_odd : mg "_law_odd" = some (.ref f_odd)
  b_odd : Binds K d_odd P_odd []
  kv_str : PySem.W.kitOne K (.type "str") (.ref C_Service) = some false
  kv_non : PySem.W.kitOne K (.type "NoneType") (.ref C_Service) = some false
  kv_list : PySem.W.kitOne K (.type "list") (.ref C_Service) = some false
  kv_L : PySem.W.kitOne K (.ref C_Service) (.type "list") = some false
  kv_T : PySem.W.kitOne K (.ref C_Service) (.type "tuple") = some false
theorem od_non {K : PySem.W.Frag} : PySem.W.kitAny K (.type "NoneType") [.type "list", .type "tuple"] = some false := kitAny_cons (b := false) (kit_ty (show kitB "NoneType" "list" = some false by decide +kernel)) (fun _ => kitAny_cons (b := false) (kit_ty (show kitB "NoneType" "tuple" = some false by decide +kernel)) (fun _ => rfl) (fun z => nomatch z)) (fun z => nomatch z)
theorem od_int {K : PySem.W.Frag} : PySem.W.kitAny K (.type "int") [.type "list", .type "tuple"] = some false := kitAny_cons (b := false) (kit_ty (show kitB "int" "list" = some false by decide +kernel)) (fun _ => kitAny_cons (b := false) (kit_ty (show kitB "int" "tuple" = some false by decide +kernel)) (fun _ => rfl) (fun z => nomatch z)) (fun z => nomatch z)
theorem od_str {K : PySem.W.Frag} : PySem.W.kitAny K (.type "str") [.type "list", .type "tuple"] = some false := kitAny_cons (b := false) (kit_ty (show kitB "str" "list" = some false by decide +kernel)) (fun _ => kitAny_cons (b := false) (kit_ty (show kitB "str" "tuple" = some false by decide +kernel)) (fun _ => rfl) (fun z => nomatch z)) (fun z => nomatch z)
section
variable {K : PySem.W.Frag} {mg : Str → Option Value} {H : Hp}
theorem svcs_kit (T : TxBook K mg) : ∀ {xs : List V} {vs : List SvW}, Paired (SvcRef T.toTxSvc H) xs vs → Paired (fun x b => ∃ t, TyX K H x t ∧ PySem.W.kitOne K t (.ref T.C_Service) = some b) xs (xs.map fun _ => true)
  | _, _, .nil => .nil
  | _, _, .cons r t => .cons (by
    obtain ⟨a, rfl, S⟩ := r
    obtain ⟨dx, k2, w2, l2, r2, m2, xs, ms, ys, hp, _⟩ := S.ex
    exact ⟨_, T.ty_Service _ _ _ _ hp, T.kk_Service⟩) (svcs_kit T t)
theorem strs_kit (T : TxOdd K mg) : ∀ l : List Str, Paired (fun x b => ∃ t, TyX K H x t ∧ PySem.W.kitOne K t (.ref T.C_Service) = some b) (l.map V.str) (l.map fun _ => false)
  | [] => .nil
  | y :: l => .cons ⟨_, .base (.str y), T.kv_str⟩ (strs_kit T l)
theorem svcs_no (T : TxOdd K mg) {x : V} {xs : List V} {vs : List SvW} {a : Addr} (h : SqA K H a (xs ++ [x])) (p : Paired (SvcRef T.toTxSvc H) xs vs) (n : xs.length ≤ 800) (k : ∃ t, TyX K H x t ∧ PySem.W.kitOne K t (.ref T.C_Service) = some false) : SvcsV K T.C_Service H (.ref a) false := by
  have r := SvcsV.seq h (paired_snoc (svcs_kit T.toTxBook p) k) (by rw [List.length_append, List.length_singleton]; omega)
  have e : (!(xs ++ [x]).isEmpty && ((xs.map fun _ => true) ++ [false]).all id) = false := by
    rw [List.all_append]
    simp
  rw [e] at r
  exact r
/-- roots that are none: no names, or a stranger among them -/
def RtOdd (K : PySem.W.Frag) (H : Hp) (names : List Str) (v : V) : Prop := SomeV K H v false ∨ ∃ ra, v = .ref ra ∧ SqA K H ra ((names ++ [("zx" : Str)]).map V.str) ∧ SomeV K H v true
end
def spOdd {K : PySem.W.Frag} {mg : Str → Option Value} (T : TxBook K mg) : Sp := fun us H Q _ => ∃ (b sa na : Addr) (at_ : Int) (xs : List V) (vs : List SvW) (names : List Str), us = [.ref b, .ref sa, .ref na, .int at_] ∧ Gr b H H ∧ At b H sa (.lst xs) ∧ Paired (SvcRef T.toTxSvc H) xs vs ∧ xs ≠ [] ∧ xs.length ≤ 20 ∧
  At b H na (.lst (names.map V.str)) ∧ names ≠ [] ∧ names.length ≤ 10 ∧ names.Nodup ∧ (∀ y ∈ names, isNm y = true ∧ y ≠ "zx") ∧
  (at_ = 0 → ∀ v H', Gr b H H' → (∀ H'', Gr b H' H'' → SvcsV K T.C_Service H'' v false) → Q v H') ∧ (at_ ≠ 0 → ∀ v H', Gr b H H' → (∀ H'', Gr b H' H'' → RtOdd K H'' names v) → Q v H')
section
variable {P : Program} {w : World} {K : PySem.W.Frag} {mg : Str → Option Value} {base : Heap}
theorem ok_odd (T : TxOdd K mg) : FnOk P w K mg base CX0 3 T.f_odd T.d_odd P_odd (spOdd T.toTxBook) := by
  have G_pick : FnOk P w K mg base CX0 2 T.f_pick T.d_pick P_pick spPickG := ok_pickG T.toTxDraw
  refine T.F_odd.ok sc_odd (fun vs H Q E h => ?_) (fun cdv A outer s H vs Q E hr h => ?_)
  · obtain ⟨b, sa, na, at_, xs, vs, names, rfl, _⟩ := h
    rfl
  obtain ⟨b, sa, na, at_, xs, vs, names, rfl, g0, aS, prs, xn, xl, aN, nn, nl, nd, nms, q0, q4⟩ := h
  refine ⟨_, (pss_cons (ps_if (pt_cmpR op_eq (pv 3) pe_int (nomark _)) (pss_cons (ps_set (i := 4) sc_odd.nd rfl (Or.inl rfl) (pe_lst (pa_cons pe_non (pa_cons (pe_lst pa_nil) (pa_cons (pe_tup pa_nil) (pa_cons (pe_ix (ix_listK K) (pv 1) pe_int (fun _ _ => rfl)) (pa_cons (pv 2) (pa_cons (pe_op op_cat (pv 1) (pe_lst (pa_cons pe_non pa_nil))) (pa_cons (pe_lst (pa_cons (pv 1) pa_nil)) (pa_cons (pe_op op_cat (pv 1) (pe_lst (pa_cons pe_str pa_nil))) (pa_cons pe_int (pa_cons pe_str pa_nil))))))))))))
      (pss_one (ps_ret (pe_call G_pick (hr.mono (by decide)) (by rfl) T.m_pick T.F_pick.kp T.b_pick .nil pass0 (pa_cons (pv 0) (pa_cons (pv 4) pa_nil)))))) pss_nil)
      (pss_cons (ps_set (i := 4) sc_odd.nd rfl (Or.inl rfl) (pe_lst (pa_cons pe_non (pa_cons (pe_lst pa_nil) (pa_cons (pe_tup pa_nil) (pa_cons (pe_ix (ix_listK K) (pv 2) pe_int (fun _ _ => rfl)) (pa_cons (pe_lst (pa_cons (pe_ix (ix_listK K) (pv 2) pe_int (fun _ _ => rfl)) (pa_cons (pe_ix (ix_listK K) (pv 2) pe_int (fun _ _ => rfl)) pa_nil))) (pa_cons (pe_op op_cat (pv 2) (pe_lst (pa_cons pe_str pa_nil))) (pa_cons (pe_lst (pa_cons pe_non pa_nil)) (pa_cons (pe_lst (pa_cons pe_str pa_nil)) (pa_cons (pe_tup (pa_cons (pe_callTy (call_tupleK K) (by rfl) T.z_tuple (by decide +kernel) (pa_cons (pv 2) pa_nil)) pa_nil)) (pa_cons pe_int pa_nil))))))))))))
      (pss_one (ps_ret (pe_call G_pick (hr.mono (by decide)) (by rfl) T.m_pick T.F_pick.kp T.b_pick .nil pass0 (pa_cons (pv 0) (pa_cons (pv 4) pa_nil))))))), ?_⟩
  obtain ⟨x0, xt, rfl⟩ : ∃ x0 xt, xs = x0 :: xt := by
    cases xs with
    | nil => exact absurd rfl xn
    | cons a l => exact ⟨a, l, rfl⟩
  obtain ⟨n0, nt, rfl⟩ : ∃ n0 nt, names = n0 :: nt := by
    cases names with
    | nil => exact absurd rfl nn
    | cons a l => exact ⟨a, l, rfl⟩
  refine ⟨_, rfl, ?_⟩
  refine ⟨rfl, _, rfl, ?_⟩
  refine ite2 (fun c => ?_) (fun c => ?_)
  · have at0 : at_ = 0 := by simpa using c
    have hS := aS.l (K := K)
    -- []
    refine ⟨by show 0 ≤ sizeLine; decide, fun e1 h1 => ?_⟩
    have a1 : At b (upd H e1 (.lst [])) e1 (.lst []) := .mk_new g0 h1 _
    have s1 : Gr b H (upd H e1 (.lst [])) := g0.new h1 _
    generalize upd H e1 (.lst []) = H1 at a1 s1
    -- ()
    refine ⟨by show 0 ≤ sizeLine; decide, fun e2 h2 => ?_⟩
    have a2 : At b (upd H1 e2 (.tup [])) e2 (.tup []) := .mk_new s1 h2 _
    have s2 : Gr b H1 (upd H1 e2 (.tup [])) := (gr_self s1).new h2 _
    generalize upd H1 e2 (.tup []) = H2 at a2 s2
    have t2 := s1.trans s2
    -- services[0], names
    refine ⟨_, rfl, ⟨sa, _, _, _, rfl, rfl, (aS.gr t2).l, atI_nat (j := 0) rfl, ?_⟩⟩
    refine ⟨_, rfl, ?_⟩
    -- services + [None]
    refine ⟨_, rfl, by show 1 ≤ sizeLine; decide, fun c1 h3 => ?_⟩
    have b3 : At b (upd H2 c1 (.lst [.non])) c1 (.lst [.non]) := .mk_new t2 h3 _
    have s3 : Gr b H (upd H2 c1 (.lst [.non])) := t2.new h3 _
    have u3 : Gr b H2 (upd H2 c1 (.lst [.non])) := (gr_self t2).new h3 _
    generalize upd H2 c1 (.lst [.non]) = H3 at b3 s3 u3
    refine ⟨sa, c1, x0 :: xt, [.non], rfl, rfl, (aS.gr s3).at_, b3.at_, by show (x0 :: xt).length + 1 ≤ sizeLine; exact Nat.le_trans (Nat.add_le_add_right xl _) (by decide), fun e3 h4 => ?_⟩
    have a3 : At b (upd H3 e3 (.lst ((x0 :: xt) ++ [.non]))) e3 (.lst ((x0 :: xt) ++ [.non])) := .mk_new s3 h4 _
    have s4 : Gr b H (upd H3 e3 (.lst ((x0 :: xt) ++ [.non]))) := s3.new h4 _
    have u4 : Gr b H3 (upd H3 e3 (.lst ((x0 :: xt) ++ [.non]))) := (gr_self s3).new h4 _
    generalize upd H3 e3 (.lst ((x0 :: xt) ++ [.non])) = H4 at a3 s4 u4
    -- [services]
    refine ⟨_, rfl, by show 1 ≤ sizeLine; decide, fun e4 h5 => ?_⟩
    have a4 : At b (upd H4 e4 (.lst [.ref sa])) e4 (.lst [.ref sa]) := .mk_new s4 h5 _
    have s5 : Gr b H (upd H4 e4 (.lst [.ref sa])) := s4.new h5 _
    have u5 : Gr b H4 (upd H4 e4 (.lst [.ref sa])) := (gr_self s4).new h5 _
    generalize upd H4 e4 (.lst [.ref sa]) = H5 at a4 s5 u5
    -- services + ['service a b']
    refine ⟨_, rfl, by show 1 ≤ sizeLine; decide, fun c2 h6 => ?_⟩
    have b6 : At b (upd H5 c2 (.lst [.str "service a b"])) c2 (.lst [.str "service a b"]) := .mk_new s5 h6 _
    have s6 : Gr b H (upd H5 c2 (.lst [.str "service a b"])) := s5.new h6 _
    have u6 : Gr b H5 (upd H5 c2 (.lst [.str "service a b"])) := (gr_self s5).new h6 _
    generalize upd H5 c2 (.lst [.str "service a b"]) = H6 at b6 s6 u6
    refine ⟨sa, c2, x0 :: xt, [.str "service a b"], rfl, rfl, (aS.gr s6).at_, b6.at_, by show (x0 :: xt).length + 1 ≤ sizeLine; exact Nat.le_trans (Nat.add_le_add_right xl _) (by decide), fun e5 h7 => ?_⟩
    have a5 : At b (upd H6 e5 (.lst ((x0 :: xt) ++ [.str "service a b"]))) e5 (.lst ((x0 :: xt) ++ [.str "service a b"])) := .mk_new s6 h7 _
    have s7 : Gr b H (upd H6 e5 (.lst ((x0 :: xt) ++ [.str "service a b"]))) := s6.new h7 _
    have u7 : Gr b H6 (upd H6 e5 (.lst ((x0 :: xt) ++ [.str "service a b"]))) := (gr_self s6).new h7 _
    generalize upd H6 e5 (.lst ((x0 :: xt) ++ [.str "service a b"])) = H7 at a5 s7 u7
    -- the list of all
    refine ⟨by show 10 ≤ sizeLine; decide, fun l h8 => ?_⟩
    have aL : At b (upd H7 l (.lst [.non, .ref e1, .ref e2, x0, .ref na, .ref e3, .ref e4, .ref e5, .int 7, .str ""])) l (.lst [.non, .ref e1, .ref e2, x0, .ref na, .ref e3, .ref e4, .ref e5, .int 7, .str ""]) := .mk_new s7 h8 _
    have s8 : Gr b H (upd H7 l (.lst [.non, .ref e1, .ref e2, x0, .ref na, .ref e3, .ref e4, .ref e5, .int 7, .str ""])) := s7.new h8 _
    have u8 : Gr b H7 (upd H7 l (.lst [.non, .ref e1, .ref e2, x0, .ref na, .ref e3, .ref e4, .ref e5, .int 7, .str ""])) := (gr_self s7).new h8 _
    generalize upd H7 l (.lst [.non, .ref e1, .ref e2, x0, .ref na, .ref e3, .ref e4, .ref e5, .int 7, .str ""]) = H8 at aL s8 u8
    refine ⟨_, rfl, _, rfl, b, l, _, rfl, gr_self s8, aL, (fun z => nomatch z), by show 10 ≤ 1000; decide, fun v H9 hv g9 => ?_⟩
    refine q0 at0 v H9 (s8.trans g9) fun HE gE => ?_
    replace g9 := g9.trans gE
    have w7 := u8.trans g9
    have w6 := u7.trans w7
    have w5 := u6.trans w6
    have w4 := u5.trans w5
    have w3 := u4.trans w4
    have w2 := u3.trans w3
    have w1 := s2.trans w2
    obtain ⟨bw, bs, bc, hb⟩ := g0.box
    have kl : KL H HE := KL.of_gr hb (s8.trans g9)
    have prs9 : Paired (SvcRef T.toTxSvc HE) (x0 :: xt) vs := paired_imp' (fun _ _ z => by
      obtain ⟨a, e, S⟩ := z
      exact ⟨a, e, S.kl kl⟩) prs
    have l20 : (x0 :: xt).length ≤ 800 := Nat.le_trans xl (by decide)
    simp only [List.mem_cons, List.not_mem_nil, or_false] at hv
    rcases hv with z | z | z | z | z | z | z | z | z | z <;> rw [z] <;> clear z
    · exact .no ⟨_, .base .non, od_non⟩
    · exact SvcsV.seq (xs := []) (bs := []) (.inl (a1.gr w1).l) .nil (Nat.zero_le _)
    · exact SvcsV.seq (xs := []) (bs := []) (.inr (SqT.of (a2.gr w2).at_)) .nil (Nat.zero_le _)
    · cases prs9 with
      | cons r _ =>
        obtain ⟨a, rfl, S⟩ := r
        obtain ⟨dx, k2, w2, l2, r2, m2, xs, ms, ys, hp, _⟩ := S.ex
        exact .no ⟨_, T.ty_Service _ _ _ _ hp, kitAny_cons (b := false) T.kv_L (fun _ => kitAny_cons (b := false) T.kv_T (fun _ => rfl) (fun z => nomatch z)) (fun z => nomatch z)⟩
    · exact SvcsV.seq (.inl ((aN.gr s8).gr g9).l) (strs_kit T (n0 :: nt)) (by rw [List.length_map]; omega)
    · exact svcs_no T (.inl (a3.gr w4).l) prs9 l20 ⟨_, .base .non, T.kv_non⟩
    · exact SvcsV.seq (bs := [false]) (.inl (a4.gr w5).l) (.cons ⟨_, tyL ((aS.gr s8).gr g9).l, T.kv_list⟩ .nil) (by show 1 ≤ 900; decide)
    · exact svcs_no T (.inl (a5.gr w7).l) prs9 l20 ⟨_, .base (.str _), T.kv_str⟩
    · exact .no ⟨_, .base (.int _), od_int⟩
    · exact .no ⟨_, .base (.str _), od_str⟩
  · have at0 : at_ ≠ 0 := by simpa using c
    -- []
    refine ⟨by show 0 ≤ sizeLine; decide, fun e1 h1 => ?_⟩
    have a1 : At b (upd H e1 (.lst [])) e1 (.lst []) := .mk_new g0 h1 _
    have s1 : Gr b H (upd H e1 (.lst [])) := g0.new h1 _
    generalize upd H e1 (.lst []) = H1 at a1 s1
    -- ()
    refine ⟨by show 0 ≤ sizeLine; decide, fun e2 h2 => ?_⟩
    have a2 : At b (upd H1 e2 (.tup [])) e2 (.tup []) := .mk_new s1 h2 _
    have s2 : Gr b H (upd H1 e2 (.tup [])) := s1.new h2 _
    have u2 : Gr b H1 (upd H1 e2 (.tup [])) := (gr_self s1).new h2 _
    generalize upd H1 e2 (.tup []) = H2 at a2 s2 u2
    -- names[0], [names[0], names[0]]
    refine ⟨_, rfl, ⟨na, _, _, _, rfl, rfl, (aN.gr s2).l, atI_nat (j := 0) rfl, ?_⟩⟩
    refine ⟨_, rfl, ⟨na, _, _, _, rfl, rfl, (aN.gr s2).l, atI_nat (j := 0) rfl, ?_⟩⟩
    refine ⟨_, rfl, ⟨na, _, _, _, rfl, rfl, (aN.gr s2).l, atI_nat (j := 0) rfl, ?_⟩⟩
    refine ⟨by show 2 ≤ sizeLine; decide, fun e3 h3 => ?_⟩
    have a3 : At b (upd H2 e3 (.lst [.str n0, .str n0])) e3 (.lst [.str n0, .str n0]) := .mk_new s2 h3 _
    have s3 : Gr b H (upd H2 e3 (.lst [.str n0, .str n0])) := s2.new h3 _
    have u3 : Gr b H2 (upd H2 e3 (.lst [.str n0, .str n0])) := (gr_self s2).new h3 _
    generalize upd H2 e3 (.lst [.str n0, .str n0]) = H3 at a3 s3 u3
    -- names + ['zx']
    refine ⟨_, rfl, by show 1 ≤ sizeLine; decide, fun c1 h4 => ?_⟩
    have b4 : At b (upd H3 c1 (.lst [.str "zx"])) c1 (.lst [.str "zx"]) := .mk_new s3 h4 _
    have s4 : Gr b H (upd H3 c1 (.lst [.str "zx"])) := s3.new h4 _
    have u4 : Gr b H3 (upd H3 c1 (.lst [.str "zx"])) := (gr_self s3).new h4 _
    generalize upd H3 c1 (.lst [.str "zx"]) = H4 at b4 s4 u4
    refine ⟨na, c1, (n0 :: nt).map V.str, [.str "zx"], rfl, rfl, (aN.gr s4).at_, b4.at_, by show ((n0 :: nt).map V.str).length + 1 ≤ sizeLine; rw [List.length_map]; exact Nat.le_trans (Nat.add_le_add_right nl _) (by decide), fun e4 h5 => ?_⟩
    have a4 : At b (upd H4 e4 (.lst ((n0 :: nt).map V.str ++ [.str "zx"]))) e4 (.lst ((n0 :: nt).map V.str ++ [.str "zx"])) := .mk_new s4 h5 _
    have s5 : Gr b H (upd H4 e4 (.lst ((n0 :: nt).map V.str ++ [.str "zx"]))) := s4.new h5 _
    have u5 : Gr b H4 (upd H4 e4 (.lst ((n0 :: nt).map V.str ++ [.str "zx"]))) := (gr_self s4).new h5 _
    generalize upd H4 e4 (.lst ((n0 :: nt).map V.str ++ [.str "zx"])) = H5 at a4 s5 u5
    -- [None]
    refine ⟨by show 1 ≤ sizeLine; decide, fun e5 h6 => ?_⟩
    have a5 : At b (upd H5 e5 (.lst [.non])) e5 (.lst [.non]) := .mk_new s5 h6 _
    have s6 : Gr b H (upd H5 e5 (.lst [.non])) := s5.new h6 _
    have u6 : Gr b H5 (upd H5 e5 (.lst [.non])) := (gr_self s5).new h6 _
    generalize upd H5 e5 (.lst [.non]) = H6 at a5 s6 u6
    -- ['any']
    refine ⟨by show 1 ≤ sizeLine; decide, fun e6 h7 => ?_⟩
    have a6 : At b (upd H6 e6 (.lst [.str "any"])) e6 (.lst [.str "any"]) := .mk_new s6 h7 _
    have s7 : Gr b H (upd H6 e6 (.lst [.str "any"])) := s6.new h7 _
    have u7 : Gr b H6 (upd H6 e6 (.lst [.str "any"])) := (gr_self s6).new h7 _
    generalize upd H6 e6 (.lst [.str "any"]) = H7 at a6 s7 u7
    -- (tuple(names),)
    refine ⟨_, rfl, na, (n0 :: nt).map V.str, rfl, .inl ⟨(aN.gr s7).l, fun t8 h8 => ?_⟩⟩
    have a8 : At b (upd H7 t8 (.tup ((n0 :: nt).map V.str))) t8 (.tup ((n0 :: nt).map V.str)) := .mk_new s7 h8 _
    have s8 : Gr b H (upd H7 t8 (.tup ((n0 :: nt).map V.str))) := s7.new h8 _
    have u8 : Gr b H7 (upd H7 t8 (.tup ((n0 :: nt).map V.str))) := (gr_self s7).new h8 _
    generalize upd H7 t8 (.tup ((n0 :: nt).map V.str)) = H8 at a8 s8 u8
    refine ⟨by show 1 ≤ sizeLine; decide, fun e7 h9 => ?_⟩
    have a7 : At b (upd H8 e7 (.tup [.ref t8])) e7 (.tup [.ref t8]) := .mk_new s8 h9 _
    have s9 : Gr b H (upd H8 e7 (.tup [.ref t8])) := s8.new h9 _
    have u9 : Gr b H8 (upd H8 e7 (.tup [.ref t8])) := (gr_self s8).new h9 _
    generalize upd H8 e7 (.tup [.ref t8]) = H9 at a7 s9 u9
    -- the list of all
    refine ⟨by show 10 ≤ sizeLine; decide, fun l h10 => ?_⟩
    have aL : At b (upd H9 l (.lst [.non, .ref e1, .ref e2, .str n0, .ref e3, .ref e4, .ref e5, .ref e6, .ref e7, .int 0])) l (.lst [.non, .ref e1, .ref e2, .str n0, .ref e3, .ref e4, .ref e5, .ref e6, .ref e7, .int 0]) := .mk_new s9 h10 _
    have s10 : Gr b H (upd H9 l (.lst [.non, .ref e1, .ref e2, .str n0, .ref e3, .ref e4, .ref e5, .ref e6, .ref e7, .int 0])) := s9.new h10 _
    have u10 : Gr b H9 (upd H9 l (.lst [.non, .ref e1, .ref e2, .str n0, .ref e3, .ref e4, .ref e5, .ref e6, .ref e7, .int 0])) := (gr_self s9).new h10 _
    generalize upd H9 l (.lst [.non, .ref e1, .ref e2, .str n0, .ref e3, .ref e4, .ref e5, .ref e6, .ref e7, .int 0]) = H10 at aL s10 u10
    refine ⟨_, rfl, _, rfl, b, l, _, rfl, gr_self s10, aL, (fun z => nomatch z), by show 10 ≤ 1000; decide, fun v H11 hv g11 => ?_⟩
    refine q4 at0 v H11 (s10.trans g11) fun HE gE => ?_
    replace g11 := g11.trans gE
    have w9 := u10.trans g11
    have w8 := u9.trans w9
    have w7 := u8.trans w8
    have w6 := u7.trans w7
    have w5 := u6.trans w6
    have w4 := u5.trans w5
    have w3 := u4.trans w4
    have w2 := u3.trans w3
    have w1 := u2.trans w2
    have hn0 : isNm n0 = true := (nms n0 List.mem_cons_self).1
    have some_ : ∀ {a : Addr} {xs : List V} {b : Bool}, SqA K HE a xs → (∀ x ∈ xs, AnyV K HE x) → xs.length ≤ 1000 → (namesB xs && decide (0 < xs.length)) = b → SomeV K HE (.ref a) b := fun h e n z => z ▸ SomeV.seq h e n
    simp only [List.mem_cons, List.not_mem_nil, or_false] at hv
    rcases hv with z | z | z | z | z | z | z | z | z | z <;> rw [z] <;> clear z
    · exact .inl (.no ⟨_, .base .non, od_non⟩)
    · exact .inl (some_ (xs := []) (.inl (a1.gr w1).l) (fun _ h => nomatch h) (Nat.zero_le _) (by simp))
    · exact .inl (some_ (xs := []) (.inr (SqT.of (a2.gr w2).at_)) (fun _ h => nomatch h) (Nat.zero_le _) (by simp))
    · exact .inl (.no ⟨_, .base (.str _), od_str⟩)
    · refine .inl (some_ (.inl (a3.gr w3).l) (fun x hx => ?_) (by show 2 ≤ 1000; decide) ?_)
      · simp only [List.mem_cons, List.not_mem_nil, or_false] at hx
        rcases hx with z | z <;> rw [z] <;> exact .str _ (by have := isNm_len hn0; omega)
      · simp [namesB, txV]
    · refine .inr ⟨e4, rfl, ?_, some_ (xs := (n0 :: nt).map V.str ++ [.str "zx"]) (.inl (a4.gr w5).l) (fun x hx => ?_) (by rw [List.length_append, List.length_map]; exact Nat.le_trans (Nat.add_le_add_right nl _) (by decide)) ?_⟩
      · rw [List.map_append]
        exact .inl (a4.gr w5).l
      · rcases List.mem_append.mp hx with z | z
        · obtain ⟨y, hy, rfl⟩ := List.mem_map.mp z
          exact .str _ (by have := isNm_len (nms y hy).1; omega)
        · rw [List.mem_singleton.mp z]
          exact .str _ (by decide)
      · have e : namesB (((n0 :: nt) ++ [("zx" : Str)]).map V.str) = true := by
          refine namesB_strs (fun y hy => ?_) ?_
          · rcases List.mem_append.mp hy with z | z
            · exact (nms y z).1
            · rw [List.mem_singleton.mp z]
              decide +kernel
          · rw [List.nodup_append]
            refine ⟨nd, by simp, fun a ha c hc z => ?_⟩
            rw [List.mem_singleton.mp hc] at z
            exact (nms a ha).2 z
        rw [List.map_append] at e
        have e2 : namesB ((n0 :: nt).map V.str ++ [V.str "zx"]) = true := e
        rw [e2]
        simp
    · refine .inl (some_ (.inl (a5.gr w6).l) (fun x hx => ?_) (by show 1 ≤ 1000; decide) ?_)
      · rw [List.mem_singleton.mp hx]
        exact .oth (fun _ e => by cases e) (.base .non) (kit_ty (show kitB "NoneType" "str" = some false by decide +kernel))
      · simp [namesB, nmV]
    · refine .inl (some_ (.inl (a6.gr w7).l) (fun x hx => ?_) (by show 1 ≤ 1000; decide) ?_)
      · rw [List.mem_singleton.mp hx]
        exact .str _ (by decide)
      · decide +kernel
    · refine .inl (some_ (.inr (SqT.of (a7.gr w9).at_)) (fun x hx => ?_) (by show 1 ≤ 1000; decide) ?_)
      · rw [List.mem_singleton.mp hx]
        exact .oth (fun _ e => by cases e) (tyT (SqT.of (a8.gr w8).at_)) (kit_ty (show kitB "tuple" "str" = some false by decide +kernel))
      · simp [namesB, nmV]
    · exact .inl (.no ⟨_, .base (.int _), od_int⟩)
end
end My

/-! ## The law's def called by the claim's caller: no guard stands -/
namespace My
open PySem PySem.Spec PyProof.Rows L2
/-- what a def does where no guard stands around it -/
structure FnTop (P : Program) (w : World) (K : PySem.W.Frag) (mg : Str → Option Value) (base : Heap) (k : Nat) (f : Addr) (fd : FuncData) (ps : List Str) (sp : Sp) : Prop where
  go : ∀ (A : Around) (out : List Env) (s : Shared) (H : Hp) (us : List Value) (vs : List V) (Q : VK), A.guards = some [] → Room k A → Env0 P w K mg base A out s H → BindsTo s fd ⟨us, []⟩ (ps.zip us) → Vals vs us → sp vs H Q E0 →
    codeAny (model P w) A (.call (.ref f) ⟨us, []⟩) (CR CX0 out P w H s Q E0) s
section
variable {P : Program} {w : World} {K : PySem.W.Frag} {mg : Str → Option Value} {base : Heap} {k : Nat} {f : Addr} {fd : FuncData} {N ps : List Str} {sp : Sp} {x q : Str} {st : Stmt}
set_option maxHeartbeats 400000 in
theorem top_of (F : Fun K x q st f fd) (S : FnScope N ps (defScope st)) (ln : ∀ vs H Q E, sp vs H Q E → vs.length = ps.length)
    (body : ∀ (cdv : Value) (A : Around) (out : List Env) (s : Shared) (H : Hp) (vs : List V) (Q : VK), A.guards = some [] → Room k (A.deeper (envOfC q (defScope st) s.heap.objs.size f cdv)) → sp vs H Q E0 →
      ∃ t, PSs (cxOf CX0 P w K mg base N q (defScope st) f cdv A out s H E0).nox (defBody st) t ∧ t { nx := fun _ H' => Q .non H', rt := Q } (start N vs) H) : FnTop P w K mg base (k + 1) f fd ps sp := by
  obtain ⟨oc, od, kV, dc, pm, an, cdv, ct, sl, rfl, l, c⟩ := F.ex
  constructor
  intro A out s H us vs Q gu room e0 bt rv h
  have n := ln _ _ _ _ h
  have Y : K.In s.heap := e0.mod.kin.keeps fun b o e => (e0.bs b o e).1
  have nl : s.heap.NoLimit := e0.mod.nolimit.keeps fun b o e => (e0.bs b o e).1
  have kinds : ∀ y ∈ ps.zip us, (defScope st).names.lookup y.1 = some .local ∨ ((defScope st).names.lookup y.1 = some .cell ∧ ((cellsFrom (s.heap.objs.size + 1) (defScope st).names []).lookup y.1).isSome = true) := by
    rintro ⟨a, b⟩ hy
    exact (S.par a (List.of_mem_zip hy).1).imp id fun z => ⟨z, PySem.W.cellsFrom_some _ _ _ (.inl z)⟩
  refine codeAny_call_function room.depth (Y _ _ l) rfl S.co S.gen rfl (PySem.W.codeRec_of Y c) (bt _ _ _ _ ?_)
  refine wpAny_newFunctionEnv_cells S.kind kinds fun env he s1 IC => ?_
  subst he
  refine ⟨nl.keeps IC.toInCall.keep, codeAny_func ?_⟩
  obtain ⟨t, ht, hq⟩ := body cdv A out s H vs Q gu (room.deeper _) h
  have I : Inv (cxOf CX0 P w K mg base N q (defScope st) f cdv A out s H E0) [] (start N vs) H s1 := inv_start S room.hd e0 n rv IC
  have go := ht.nox.run [] s1 (start N vs) H _ I hq
  refine wpAny_mono go (fun fl s2 h2 => ?_) fun _ _ z => z
  cases fl with
  | ret u =>
    obtain ⟨v, σ2, H2, J, r, z⟩ := h2
    exact ⟨v, H2, J.os, J.bare, J.base, J.hok, r, z⟩
  | next =>
    obtain ⟨σ2, H2, J, z⟩ := h2
    exact ⟨.non, H2, J.os, J.bare, J.base, J.hok, rfl, z⟩
  | brk =>
    obtain ⟨_, _, _, z⟩ := h2
    exact False.elim z
  | cont =>
    obtain ⟨_, _, _, z⟩ := h2
    exact False.elim z
/-- the heap in which the script alone is tracked, or nothing -/
def scr (K : PySem.W.Frag) (a : Addr) (us : List Value) (ns : List Int) : Hp := fun b => if b = a ∧ K.lookup a = none then some (.frz { cls := .type "list", data := .seq us.toArray } (.lst (ns.map V.int))) else none
theorem scr_at {K : PySem.W.Frag} {a b : Addr} {us : List Value} {ns : List Int} {o : HO} (h : scr K a us ns b = some o) : b = a ∧ K.lookup a = none ∧ o = .frz { cls := .type "list", data := .seq us.toArray } (.lst (ns.map V.int)) := by
  unfold scr at h
  split at h
  · rename_i z
    cases h
    exact ⟨z.1, z.2, rfl⟩
  · cases h
set_option maxHeartbeats 400000 in
theorem top_call {mb : Str → Option Value} {fa a : Addr} {s₁ : Shared} {us : List Value} {ns : List Int} {y : Str} (Y : K.In s₁.heap) (n1 : s₁.heap.Ns mainGlobals mg) (n2 : s₁.heap.Ns builtinsNs mb) (n3 : ∀ z : Str, z ≠ "__name__" → mb z = bootBuiltins z)
    (nl : s₁.heap.NoLimit) (gn : s₁.gens = #[]) (ha : s₁.heap.get? a = some { cls := .type "list", data := .seq us.toArray }) (hi : IntsAre us ns) (sz : ns.length ≤ sizeLine) (room : Room k callerA)
    (F : ∀ base : Heap, K.In base → base.Ns mainGlobals mg → FnTop P w K mg base k fa fd [y] sp) (bd : ∀ (s : Shared) (u : Value), BindsTo s fd ⟨[u], []⟩ [(y, u)])
    (pr : ∀ H : Hp, SqL K H a (ns.map V.int) → sp [.ref a] H (fun v _ => v = .bl true) E0) :
    codeAny (model P w) callerA (.call (.ref fa) ⟨[.ref a], []⟩) (fun r s' => r = .ok (.ret (.bool true)) ∧ OldK s₁.heap s'.heap ∧ s'.os = s₁.os ∧ AllBare s'.gens) s₁ := by
  have lenV : us.length = ns.length := hi.length
  have rv := vals_ints hi
  have seq : SqL K (scr K a us ns) a (ns.map V.int) := by
    cases z : K.lookup a with
    | none => exact .inl (.inr ⟨_, if_pos ⟨rfl, z⟩⟩)
    | some o =>
      have e := Y a o z
      rw [ha] at e
      cases e
      exact .inr ⟨_, us.toArray, _, z, rfl, rfl, rfl, by rw [List.size_toArray, lenV]; exact sz, by simpa using rv⟩
  have hok : HOk P w (scr K a us ns) s₁.heap := fun b o e => by
    obtain ⟨rfl, _, rfl⟩ := scr_at e
    exact ⟨ha, by rw [List.length_map]; exact sz, us, _, rv, ha⟩
  have other : ∀ {b : Addr} {o : Obj} {es : Array DictEntry} {ep : Nat}, s₁.heap.get? b = some o → o.data = .dict es ep → scr K a us ns b = none := fun {b o es ep} e d => by
    cases z : scr K a us ns b with
    | none => rfl
    | some u =>
      obtain ⟨rfl, _, _⟩ := scr_at z
      rw [ha] at e
      cases e
      cases d
  have part : ∀ {b : Addr} {m : Str → Option Value}, s₁.heap.Ns b m → (hidT s₁.heap (scr K a us ns)).Ns b m := fun ⟨o, es, ep, e, d, r⟩ => ⟨o, es, ep, hidT_get e (other e d), d, r⟩
  have Kb : K.In (hidT s₁.heap (scr K a us ns)) := fun b o e => hidT_get (Y b o e) (by
    cases z : scr K a us ns b with
    | none => rfl
    | some u =>
      obtain ⟨rfl, z2, _⟩ := scr_at z
      rw [z2] at e
      cases e)
  have lim : (hidT s₁.heap (scr K a us ns)).NoLimit := by
    obtain ⟨mc, h1, h2⟩ := nl
    exact ⟨mc, part h1, h2⟩
  have e0 : Env0 P w K mg (hidT s₁.heap (scr K a us ns)) callerA [] s₁ (scr K a us ns) :=
    ⟨rfl, ⟨Kb, part n1, ⟨mb, part n2, n3⟩, lim⟩, fun b o e => of_hidT e, Nat.le_of_eq (hidT_size _ _), trivial, fun b hb => absurd (show b ∈ ([] : List Addr) from hb) (by simp), hok, .of_eq gn⟩
  have run := (F _ Kb (part n1)).go callerA [] s₁ _ [.ref a] [.ref a] _ rfl room e0 (bd s₁ (.ref a)) (.cons rfl .nil) (pr _ seq)
  refine codeAny_mono run fun r s' h => ?_
  cases r with
  | error e => exact False.elim h
  | ok fl =>
    cases fl with
    | ret u =>
      obtain ⟨v, H', os, bare, un, hok', r', z⟩ := h
      have z' : v = .bl true := z
      subst z'
      have u1 : u = Value.bool true := r'
      subst u1
      refine ⟨rfl, OldK.of_keep (fun b o e => ?_), os, bare⟩
      cases zz : scr K a us ns b with
      | none => exact un.keep b o e zz (by intro t; exact absurd (show b ∈ ([] : List Addr) from t) (by simp)) (by simp)
      | some u =>
        obtain ⟨rfl, _, rfl⟩ := scr_at zz
        obtain ⟨e2, _⟩ := hok' b _ (un.frzs b _ _ zz)
        rw [ha] at e
        cases e
        exact e2
    | next => exact False.elim h
    | brk => exact False.elim h
    | cont => exact False.elim h
theorem walk_top {l : PySem.W.OpenLaw} {n k : Nat} {q : Program} {loose : List Str} {XP : (Str → Option Value) → Heap → Prop} {YP : World → Heap → Prop} {d : DefRec} {K : Params → PySem.W.Frag} {sp : World → Sp} {y : Str}
    (hn : l.most = some n) (n2 : n ≤ sizeLine) (hdf : d.params.defaults = []) (room : Room k callerA) (hY : ∀ (w : World) (h : Heap), YP w h → (K w.params).In h)
    (F : ∀ (w : World) (mg : Str → Option Value) (fa : Addr) (h : Heap), (K w.params).In h → h.Ns mainGlobals mg → mg d.name = some (.ref fa) →
      ∃ fd : FuncData, (∀ (s : Shared) (u : Value), BindsTo s fd ⟨[u], []⟩ [(y, u)]) ∧ ∀ base : Heap, (K w.params).In base → base.Ns mainGlobals mg → FnTop l.prog w (K w.params) mg base k fa fd [y] (sp w))
    (pr : ∀ (w : World) (H : Hp) (a : Addr) (ns : List Int), ns.length ≤ n → SqL (K w.params) H a (ns.map V.int) → sp w [.ref a] H (fun v _ => v = .bl true) E0) :
    PySem.W.WalkO q loose XP YP l.row.toRowW d [] (fun f vs => PySem.call f vs) := by
  refine Att.attach_call hn hdf fun w _ _ mg _ fa _ _ _ _ a us ns top fit _ _ _ at_ obj nums many gens => ?_
  have inK := hY w _ fit
  obtain ⟨fd, bd, all⟩ := F w mg fa _ inK top.T.g at_
  exact top_call inK top.T.g top.T.b top.T.builtins top.T.nolimit gens obj nums (Nat.le_trans many n2) room all bd fun H q => pr w H a ns many q
end
end My

/-! ## k13: services changed, the word that is due -/
namespace My
open PySem PySem.Spec PyProof.Rows L2
theorem paired_set {α β : Type} {R R' : α → β → Prop} {x : α} {y' : β} : ∀ {xs : List α} {ys : List β} (j : Nat), Paired R xs ys → xs[j]? = some x → (∀ (i : Nat) x0 y0, i ≠ j → xs[i]? = some x0 → ys[i]? = some y0 → R x0 y0 → R' x0 y0) → R' x y' → Paired R' xs (ys.set j y')
  | _, _, _, .nil, e, _, _ => by cases e
  | _, _, 0, .cons r t, e, h, q => by
    cases e
    have all : ∀ {xs : List α} {ys : List β} (n : Nat), Paired R xs ys → (∀ (i : Nat) x0 y0, xs[i]? = some x0 → ys[i]? = some y0 → R x0 y0 → R' x0 y0) → Paired R' xs ys := by
      intro xs ys n p
      induction p with
      | nil => exact fun _ => .nil
      | cons r t ih => exact fun k => .cons (k 0 _ _ rfl rfl r) (ih fun i x0 y0 e1 e2 => k (i + 1) x0 y0 e1 e2)
    exact .cons q (all 0 t fun i x0 y0 e1 e2 => h (i + 1) x0 y0 (by omega) e1 e2)
  | _, _, j + 1, .cons r t, e, h, q => .cons (h 0 _ _ (by omega) rfl rfl r) (paired_set j t e (fun i x0 y0 n e1 e2 => h (i + 1) x0 y0 (by omega) e1 e2) q)
theorem SvcN.putD {N : Addr → Prop} {b p q : Addr} {H : Hp} {nm nq : Str} {ks ws ls kq wq lq : List Str} {rs rq : List (Str × List Str)} (h : SvcN N b H p nm ks ws ls rs) (h2 : SvcN N b H q nq kq wq lq rq) (n : nm ≠ nq) (o : HO) : SvcN N b (upd H q o) p nm ks ws ls rs := by
  obtain ⟨k, w, l, r, rl, ⟨h1, h2', h3, h4, h5, h6⟩, nn⟩ := h.at_
  obtain ⟨k0, w0, l0, r0, rl0, ⟨g1, _⟩, _⟩ := h2.at_
  have pq : p ≠ q := fun z => by
    have e := h1.at_
    rw [z, g1.at_] at e
    injection e with e
    injection e with e
    injection e with e _
    injection e with _ e
    injection e with e
    exact n e.symm
  exact ⟨k, w, l, r, rl, ⟨⟨h1.ne, by rw [upd_ne pq]; exact h1.at_⟩, h2'.put g1.at_ _, h3.put g1.at_ _, h4.put g1.at_ _, h5.put g1.at_ _, paired_imp' (fun _ _ z => z.putT g1.at_ _) h6⟩, nn⟩
/-- more waits, or more leaves -/
def SvW.more (w : Str) (v : SvW) : SvW := if w = "waits" then { v with waits := v.waits ++ [("zx" : Str)] } else { v with leaves := v.leaves ++ [("zx" : Str)] }
def SvW.of (w : Str) (v : SvW) : List Str := if w = "waits" then v.waits else v.leaves
theorem of_w (v : SvW) : v.of "waits" = v.waits := if_pos rfl
theorem of_l (v : SvW) : v.of "leaves" = v.leaves := if_neg (by decide)
theorem more_w (v : SvW) : v.more "waits" = { v with waits := v.waits ++ [("zx" : Str)] } := if_pos rfl
theorem more_l (v : SvW) : v.more "leaves" = { v with leaves := v.leaves ++ [("zx" : Str)] } := if_neg (by decide)
/-- the dict of a service, one of its lists by its word -/
theorem SvcN.list {N : Addr → Prop} {b p : Addr} {H : Hp} {v : SvW} (h : SvcN N b H p v.nm v.kinds v.waits v.leaves v.rows) {w : Str} (hw : w = "waits" ∨ w = "leaves") : ∃ (q : Addr), (∀ H', Same H H' → DGet H' p (kV (.inr w)) (some (.ref q))) ∧ At b H q (.lst ((v.of w).map V.str)) := by
  obtain ⟨k, w', l, r, rl, ⟨h1, h2, h3, h4, h5, h6⟩, nn⟩ := h.at_
  rcases hw with rfl | rfl
  · rw [of_w]
    exact ⟨w', fun H' s => DGet.k (k := .inr "waits") (s _ _ h1.at_), h3⟩
  · rw [of_l]
    exact ⟨l, fun H' s => DGet.k (k := .inr "leaves") (s _ _ h1.at_), h4⟩
theorem SvcN.more {N : Addr → Prop} {b p q : Addr} {H : Hp} {v : SvW} (h : SvcN N b H p v.nm v.kinds v.waits v.leaves v.rows) {w : Str} (hw : w = "waits" ∨ w = "leaves") (hq : At b H q (.lst ((v.of w ++ [("zx" : Str)]).map V.str))) (nq : N q) :
    ∃ kvs, H p = some (.dK kvs) ∧ kvs.length < sizeLine ∧ p ≠ b ∧ SvcN N b (upd H p (.dK (putK kvs (.inr w) (.ref q)))) p (v.more w).nm (v.more w).kinds (v.more w).waits (v.more w).leaves (v.more w).rows := by
  obtain ⟨k, w', l, r, rl, ⟨h1, h2, h3, h4, h5, h6⟩, n1, n2, n3, n4, n5⟩ := h.at_
  refine ⟨_, h1.at_, by rw [sizeLine_eq]; show 5 < 16777216; decide, h1.ne, ?_⟩
  rcases hw with rfl | rfl
  · rw [of_w] at hq
    rw [more_w]
    exact ⟨k, q, l, r, rl, ⟨⟨h1.ne, upd_same⟩, h2.put h1.at_ _, hq.put h1.at_ _, h4.put h1.at_ _, h5.put h1.at_ _, paired_imp' (fun _ _ z => z.putT h1.at_ _) h6⟩, n1, n2, nq, n4, n5⟩
  · rw [of_l] at hq
    rw [more_l]
    exact ⟨k, w', q, r, rl, ⟨⟨h1.ne, upd_same⟩, h2.put h1.at_ _, h3.put h1.at_ _, hq.put h1.at_ _, h5.put h1.at_ _, paired_imp' (fun _ _ z => z.putT h1.at_ _) h6⟩, n1, n2, n3, nq, n5⟩
theorem more_nm (w : Str) (v : SvW) : (v.more w).nm = v.nm := by
  unfold SvW.more
  split <;> rfl
/-- all services, after one of them is changed -/
theorem SvcsN.more {N : Addr → Prop} {b p q : Addr} {H : Hp} {al : List Addr} {vs : List SvW} (h : SvcsN N b H al vs) (nd : (vs.map (·.nm)).Nodup) {w : Str} (hw : w = "waits" ∨ w = "leaves") {j : Nat} {v : SvW} (ea : al[j]? = some p) (ev : vs[j]? = some v) (hq : At b H q (.lst ((v.of w ++ [("zx" : Str)]).map V.str))) (nq : N q) :
    ∃ kvs, H p = some (.dK kvs) ∧ kvs.length < sizeLine ∧ p ≠ b ∧ SvcsN N b (upd H p (.dK (putK kvs (.inr w) (.ref q)))) al (vs.set j (v.more w)) := by
  obtain ⟨v', ev', S⟩ := paired_get h ea
  rw [ev] at ev'
  cases ev'
  obtain ⟨kvs, e1, e2, e3, e4⟩ := S.more hw hq nq
  refine ⟨kvs, e1, e2, e3, paired_set j h ea (fun i x0 y0 n _ ey r => r.putD S (fun z => n ?_) _) e4⟩
  have l1 : i < (vs.map (·.nm)).length := by rw [List.length_map]; exact (List.getElem?_eq_some_iff.mp ey).1
  refine (List.getElem?_inj l1 nd).mp ?_
  rw [List.getElem?_map, List.getElem?_map, ey, ev]
  show some y0.nm = some v.nm
  rw [z]
theorem SvcN.name {N : Addr → Prop} {b p : Addr} {H H' : Hp} {v : SvW} (h : SvcN N b H p v.nm v.kinds v.waits v.leaves v.rows) (s : Same H H') : DGet H' p (kV (.inr "name")) (some (.str v.nm)) := by
  obtain ⟨k, w', l, r, rl, ⟨h1, h2, h3, h4, h5, h6⟩, nn⟩ := h.at_
  exact DGet.k (k := .inr "name") (s _ _ h1.at_)
theorem SvcN.np {N : Addr → Prop} {b p : Addr} {H : Hp} {nm : Str} {ks ws ls : List Str} {rs : List (Str × List Str)} (h : SvcN N b H p nm ks ws ls rs) : N p := by
  obtain ⟨k, w, l, r, rl, _, n, _⟩ := h.at_
  exact n
theorem SvcN.nep {N : Addr → Prop} {b p q : Addr} {H : Hp} {nm : Str} {ks ws ls : List Str} {rs : List (Str × List Str)} {x y : V} (h : SvcN N b H q nm ks ws ls rs) (hp : H p = some (.dK [(.inr "services", x), (.inr "roots", y)])) : p ≠ q := fun z => by
  obtain ⟨k, w, l, r, rl, ⟨h1, _⟩, _⟩ := h.at_
  have e := h1.at_
  rw [← z, hp] at e
  injection e with e
  injection e with e
  have len := congrArg List.length e
  have len2 : (2 : Nat) = 5 := len
  exact absurd len2 (by decide)
theorem SvcD.sameH {b : Addr} {H H' : Hp} {p : Addr} {nm : Str} {ks ws ls : List Str} {rs : List (Str × List Str)} (h : SvcD b H p nm ks ws ls rs) (s : Same H H') : SvcD b H' p nm ks ws ls rs := by
  obtain ⟨k, w, l, r, rl, h1, h2, h3, h4, h5, h6⟩ := h.at_
  have up : ∀ {a : Addr} {u : HO}, At b H a u → At b H' a u := fun z => ⟨z.ne, s _ _ z.at_⟩
  exact ⟨k, w, l, r, rl, up h1, up h2, up h3, up h4, up h5, paired_imp' (fun _ _ z => up z) h6⟩
theorem gr_of_same {b : Addr} {H0 H H' : Hp} (g : Gr b H0 H) (s : Same H H') : Gr b H H' := ⟨fun a o _ e => s a o e, by
  obtain ⟨w, s', c, hb⟩ := g.box
  exact ⟨w, s', c, s _ _ hb⟩⟩
theorem get_ref {al : List Addr} {i : Nat} {x : V} (hx : (al.map V.ref)[i]? = some x) : ∃ q, al[i]? = some q ∧ V.ref q = x := by
  rw [List.getElem?_map] at hx
  cases e : al[i]? with
  | none => rw [e] at hx; cases hx
  | some z => rw [e] at hx; cases hx; exact ⟨z, rfl, rfl⟩
theorem SvcRef.put {K : PySem.W.Frag} {mg : Str → Option Value} {T : TxSvc K mg} {H : Hp} {D : Addr} {xs : List V} {x : V} {v : SvW} (h : SvcRef T H x v) (hD : H D = some (.lst xs)) (o : HO) : SvcRef T (upd H D o) x v := by
  obtain ⟨a, e, S⟩ := h
  exact ⟨a, e, S.kl (KL.put hD o)⟩
theorem SvcRef.kl {K : PySem.W.Frag} {mg : Str → Option Value} {T : TxSvc K mg} {H H' : Hp} {x : V} {v : SvW} (h : SvcRef T H x v) (k : KL H H') : SvcRef T H' x v := by
  obtain ⟨a, e, S⟩ := h
  exact ⟨a, e, S.kl k⟩
/-- services as drawn, some perhaps with a stranger among their waits (w) or leaves (l) -/
structure ChgV (names : List Str) (w l : Bool) (vs : List SvW) : Prop where
  nm : vs.map (·.nm) = names
  good : ∀ v ∈ vs, v.good
  r5 : ∀ v ∈ vs, v.rows.length ≤ 5
  wf : w = false → ∀ v ∈ vs, (∀ y ∈ v.waits, y ∈ names) ∧ v.waits.length ≤ 9
  wt : w = true → ∃ v ∈ vs, ("zx" : Str) ∈ v.waits
  lf : l = false → ∀ v ∈ vs, (∀ y ∈ v.leaves, y ∈ names) ∧ v.leaves.length ≤ 9
  lt : l = true → ∃ v ∈ vs, ("zx" : Str) ∈ v.leaves
theorem ChgV.drawn {most : Int} {vs : List SvW} {roots : List Str} (h : DrawnB most vs roots) (m : most ≤ 9) : ChgV (vs.map (·.nm)) false false vs := by
  have l9 : vs.length ≤ 9 := by have := h.few.2; omega
  exact ⟨rfl, h.good, h.r5, fun _ v hv => ⟨h.ws v hv, Nat.le_trans (h.wl v hv).1 l9⟩, (fun z => nomatch z), fun _ v hv => ⟨h.ls v hv, Nat.le_trans (h.wl v hv).2 l9⟩, (fun z => nomatch z)⟩
theorem nodup_zx {l names : List Str} (n : l.Nodup) (s : ∀ y ∈ l, y ∈ names) (zx : ("zx" : Str) ∉ names) : (l ++ [("zx" : Str)]).Nodup := by
  rw [List.nodup_append]
  refine ⟨n, by simp, fun a ha c hc z => ?_⟩
  rw [List.mem_singleton.mp hc] at z
  exact zx (z ▸ s a ha)
theorem isNm_zx : isNm "zx" = true := by decide +kernel
theorem map_set_nm {vs : List SvW} {j : Nat} {v v' : SvW} (e : vs[j]? = some v) (n : v'.nm = v.nm) : (vs.set j v').map (·.nm) = vs.map (·.nm) := by
  rw [List.map_set, n]
  refine List.ext_getElem? fun i => ?_
  rw [List.getElem?_set]
  split
  · rename_i h
    subst h
    split
    · rw [List.getElem?_map, e]; rfl
    · rename_i h2
      rw [List.length_map] at h2
      exact absurd (List.getElem?_eq_some_iff.mp e).1 h2
  · rfl
theorem all_nm {v : SvW} (g : v.good) : (∀ y ∈ v.kinds, isNm y = true) ∧ (∀ y ∈ v.waits, isNm y = true) ∧ ∀ y ∈ v.leaves, isNm y = true := ⟨fun y hy => g.all y (by simp [hy]), fun y hy => g.all y (by simp [hy]), fun y hy => g.all y (by simp [hy])⟩
theorem GoodV.mk2 {nm : Str} {ks ws ls : List Str} {rs : List (Str × List Str)} (nm1 : isNm nm = true) (a1 : ∀ y ∈ ks, isNm y = true) (a2 : ∀ y ∈ ws, isNm y = true) (a3 : ∀ y ∈ ls, isNm y = true) : ∀ y ∈ ks ++ ws ++ ls, isNm y = true := fun y hy => by
  rcases List.mem_append.mp hy with h | h
  · rcases List.mem_append.mp h with h | h
    · exact a1 y h
    · exact a2 y h
  · exact a3 y h
theorem app_zx {l : List Str} (h : ∀ y ∈ l, isNm y = true) : ∀ y ∈ l ++ [("zx" : Str)], isNm y = true := fun y hy => by
  rcases List.mem_append.mp hy with z | z
  · exact h y z
  · rw [List.mem_singleton.mp z]; exact isNm_zx
theorem mem_set {vs : List SvW} {j : Nat} {v' x : SvW} (h : x ∈ vs.set j v') : x ∈ vs ∨ x = v' := by
  exact List.mem_or_eq_of_mem_set h
theorem ChgV.waits {names : List Str} {l : Bool} {vs : List SvW} (h : ChgV names false l vs) (zx : ("zx" : Str) ∉ names) {j : Nat} {v : SvW} (e : vs[j]? = some v) : ChgV names true l (vs.set j (v.more "waits")) := by
  have hv := List.mem_of_getElem? e
  have g := h.good v hv
  obtain ⟨a1, a2, a3⟩ := all_nm g
  have lt := (List.getElem?_eq_some_iff.mp e).1
  have me : v.more "waits" = { v with waits := v.waits ++ [("zx" : Str)] } := by unfold SvW.more; rw [if_pos rfl]
  rw [me]
  have g2 : SvW.good { v with waits := v.waits ++ [("zx" : Str)] } := ⟨g.nm, GoodV.mk2 (rs := []) g.nm a1 (app_zx a2) a3, g.k0, g.kn, nodup_zx g.wn (h.wf rfl v hv).1 zx, g.ln, g.kl, by rw [List.length_append]; exact Nat.succ_le_succ (h.wf rfl v hv).2, g.ll, g.rl, g.good⟩
  have at_ : ({ v with waits := v.waits ++ [("zx" : Str)] } : SvW) ∈ vs.set j { v with waits := v.waits ++ [("zx" : Str)] } := List.mem_of_getElem? (i := j) (by rw [List.getElem?_set_self lt])
  refine ⟨by rw [map_set_nm (v' := { v with waits := v.waits ++ [("zx" : Str)] }) e rfl]; exact h.nm, fun x hx => ?_, fun x hx => ?_, (fun z => nomatch z), fun _ => ⟨_, at_, by simp⟩, fun z x hx => ?_, fun z => ?_⟩
  · rcases mem_set hx with k | k
    · exact h.good x k
    · rw [k]; exact g2
  · rcases mem_set hx with k | k
    · exact h.r5 x k
    · rw [k]; exact h.r5 v hv
  · rcases mem_set hx with k | k
    · exact h.lf z x k
    · rw [k]; exact h.lf z v hv
  · obtain ⟨x, hx, hz⟩ := h.lt z
    obtain ⟨i, hi⟩ := List.getElem?_of_mem hx
    by_cases ij : i = j
    · rw [ij, e] at hi
      cases hi
      exact ⟨_, at_, hz⟩
    · exact ⟨x, List.mem_of_getElem? (i := i) (by rw [List.getElem?_set_ne (fun z => ij z.symm)]; exact hi), hz⟩
theorem ChgV.leaves {names : List Str} {w : Bool} {vs : List SvW} (h : ChgV names w false vs) (zx : ("zx" : Str) ∉ names) {j : Nat} {v : SvW} (e : vs[j]? = some v) : ChgV names w true (vs.set j (v.more "leaves")) := by
  have hv := List.mem_of_getElem? e
  have g := h.good v hv
  obtain ⟨a1, a2, a3⟩ := all_nm g
  have lt := (List.getElem?_eq_some_iff.mp e).1
  have me : v.more "leaves" = { v with leaves := v.leaves ++ [("zx" : Str)] } := by unfold SvW.more; rw [if_neg (by decide)]
  rw [me]
  have g2 : SvW.good { v with leaves := v.leaves ++ [("zx" : Str)] } := ⟨g.nm, GoodV.mk2 (rs := []) g.nm a1 a2 (app_zx a3), g.k0, g.kn, g.wn, nodup_zx g.ln (h.lf rfl v hv).1 zx, g.kl, g.wl, by rw [List.length_append]; exact Nat.succ_le_succ (h.lf rfl v hv).2, g.rl, g.good⟩
  have at_ : ({ v with leaves := v.leaves ++ [("zx" : Str)] } : SvW) ∈ vs.set j { v with leaves := v.leaves ++ [("zx" : Str)] } := List.mem_of_getElem? (i := j) (by rw [List.getElem?_set_self lt])
  refine ⟨by rw [map_set_nm (v' := { v with leaves := v.leaves ++ [("zx" : Str)] }) e rfl]; exact h.nm, fun x hx => ?_, fun x hx => ?_, fun z x hx => ?_, fun z => ?_, (fun z => nomatch z), fun _ => ⟨_, at_, by simp⟩⟩
  · rcases mem_set hx with k | k
    · exact h.good x k
    · rw [k]; exact g2
  · rcases mem_set hx with k | k
    · exact h.r5 x k
    · rw [k]; exact h.r5 v hv
  · rcases mem_set hx with k | k
    · exact h.wf z x k
    · rw [k]; exact h.wf z v hv
  · obtain ⟨x, hx, hz⟩ := h.wt z
    obtain ⟨i, hi⟩ := List.getElem?_of_mem hx
    by_cases ij : i = j
    · rw [ij, e] at hi
      cases hi
      exact ⟨_, at_, hz⟩
    · exact ⟨x, List.mem_of_getElem? (i := i) (by rw [List.getElem?_set_ne (fun z => ij z.symm)]; exact hi), hz⟩
/-- the service that has the first one's name -/
def topS (n0 : Str) : SvW := ⟨n0, ["top"], [], [], []⟩
theorem topS_good {n0 : Str} (h : isNm n0 = true) : (topS n0).good := by
  have t : isNm "top" = true := by decide +kernel
  refine ⟨h, fun y hy => ?_, (fun z => nomatch z), by simp [topS], by simp [topS], by simp [topS], by show 1 ≤ 10; decide, by show 0 ≤ 10; decide, by show 0 ≤ 10; decide, by show 0 ≤ 28; decide, fun _ z => nomatch z⟩
  have e : y ∈ [("top" : Str)] := by simpa [topS] using hy
  rw [List.mem_singleton.mp e]
  exact t
/-- the words, those that are due -/
def BADW : List Str := ["services", "name", "waits", "leaves", "roots"]
def dueL (bs : List Bool) : List Str := ((BADW.zip bs).filter (·.2)).map (·.1)
theorem wrRo_in {ns l : List Str} (h : ∀ y ∈ l, y ∈ ns) : wrRo ns (some l) = none := by
  unfold wrRo
  have e : (l.all fun y => ns.contains y) = true := List.all_eq_true.mpr fun y hy => List.contains_iff_mem.mpr (h y hy)
  show (if (l.all fun y => ns.contains y) = false then some ("roots" : Str) else none) = none
  rw [e, if_neg (by decide)]
theorem wrRo_out {ns l : List Str} (zx : ("zx" : Str) ∉ ns) : wrRo ns (some (l ++ [("zx" : Str)])) = some ("roots" : Str) := by
  have e : ((l ++ [("zx" : Str)]).all fun y => ns.contains y) = false := by
    rw [List.all_eq_false]
    exact ⟨"zx", by simp, fun z => zx (List.contains_iff_mem.mp z)⟩
  show (if ((l ++ [("zx" : Str)]).all fun y => ns.contains y) = false then some ("roots" : Str) else none) = _
  rw [e, if_pos rfl]
/-- the word is the first that is due -/
theorem word_due {names : List Str} {b0 b1 b2 b3 b4 : Bool} {vs : List SvW} {ro : Option (List Str)} {n0 : Str} (h : ChgV names b2 b3 vs) (nd : names.Nodup) (h0 : n0 ∈ names) (zx : ("zx" : Str) ∉ names) (r1 : b4 = true → wrRo names ro = some ("roots" : Str)) (r0 : b4 = false → wrRo names ro = none) :
    wordBk (!b0) (if b1 then vs ++ [topS n0] else vs) ro = (dueL [b0, b1, b2, b3, b4]).head? := by
  unfold wordBk
  cases b0 with
  | true => rw [if_pos (show (!true) = false from rfl)]; rfl
  | false =>
    rw [if_neg (by decide)]
    cases b1 with
    | true =>
      rw [if_pos rfl]
      unfold wrBk
      rw [if_pos (fun z => ?_)]
      · rfl
      · rw [List.map_append, h.nm, List.nodup_append] at z
        exact z.2.2 n0 h0 n0 (by simp [topS]) rfl
    | false =>
      rw [if_neg (by decide)]
      unfold wrBk
      rw [h.nm, if_neg (fun z => z nd)]
      cases b2 with
      | true =>
        obtain ⟨v, hv, hz⟩ := h.wt rfl
        rw [if_pos (by
          rw [List.all_eq_false]
          exact ⟨v, hv, fun z => zx (List.contains_iff_mem.mp (List.all_eq_true.mp z _ hz))⟩)]
        rfl
      | false =>
        rw [if_neg (by
          rw [List.all_eq_true.mpr fun v hv => List.all_eq_true.mpr fun y hy => List.contains_iff_mem.mpr ((h.wf rfl v hv).1 y hy)]
          decide)]
        cases b3 with
        | true =>
          obtain ⟨v, hv, hz⟩ := h.lt rfl
          rw [if_pos (by
            rw [List.all_eq_false]
            exact ⟨v, hv, fun z => zx (List.contains_iff_mem.mp (List.all_eq_true.mp z _ hz))⟩)]
          rfl
        | false =>
          rw [if_neg (by
            rw [List.all_eq_true.mpr fun v hv => List.all_eq_true.mpr fun y hy => List.contains_iff_mem.mpr ((h.lf rfl v hv).1 y hy)]
            decide)]
          cases b4 with
          | true => exact r1 rfl
          | false => exact r0 rfl
section
variable {K : PySem.W.Frag} {mg : Str → Option Value} {H : Hp}
theorem some_strs {a : Addr} {l : List Str} (h : SqA K H a (l.map V.str)) (nm : ∀ y ∈ l, isNm y = true) (nd : l.Nodup) (l0 : l ≠ []) (n : l.length ≤ 100) : SomeV K H (.ref a) true := by
  have an : ∀ v ∈ l.map V.str, AnyV K H v := fun v hv => by
    obtain ⟨y, hy, rfl⟩ := List.mem_map.mp hv
    exact .str y (by have := isNm_len (nm y hy); omega)
  have r := SomeV.seq h an (by rw [List.length_map]; omega)
  rw [namesB_strs nm nd, decide_eq_true (show 0 < (l.map V.str).length by rw [List.length_map]; exact List.length_pos_iff.mpr l0)] at r
  exact r
theorem svcs_yes (T : TxBook K mg) {a : Addr} {xs : List V} {vs : List SvW} (h : SqA K H a xs) (p : Paired (SvcRef T.toTxSvc H) xs vs) (v0 : vs ≠ []) (n : vs.length ≤ 10) : SvcsV K T.C_Service H (.ref a) true := by
  have l := paired_len' p
  have r := SvcsV.seq h (svcs_kit T p) (by omega)
  have e : (!xs.isEmpty && (xs.map fun _ => true).all id) = true := by
    rw [all_true2, Bool.and_true]
    cases xs with
    | nil => cases p; exact absurd rfl v0
    | cons _ _ => rfl
  rw [e] at r
  exact r
theorem rows_few : ∀ {vs : List SvW}, (∀ v ∈ vs, v.rows.length ≤ 5) → (rowsOf vs).length ≤ 5 * vs.length
  | [], _ => Nat.zero_le _
  | v :: vs, h => by
    have h1 := h v List.mem_cons_self
    have h2 := rows_few fun x hx => h x (List.mem_cons_of_mem _ hx)
    unfold rowsOf at h2 ⊢
    rw [List.flatMap_cons, List.length_append, List.length_cons]
    omega
/-- the arguments of a book, where its services are services -/
theorem args_yes (T : TxBook K mg) {a : Addr} {rt : V} {xs : List V} {vs : List SvW} {ro : Option (List Str)} (h : SqA K H a xs) (p : Paired (SvcRef T.toTxSvc H) xs vs) (v0 : vs ≠ []) (n : vs.length ≤ 10) (good : ∀ v ∈ vs, v.good) (r5 : ∀ v ∈ vs, v.rows.length ≤ 5) (hr : SomeV K H rt ro.isSome) (hl : ∀ l, ro = some l → ∃ ra, rt = .ref ra ∧ SqA K H ra (l.map V.str) ∧ l.length ≤ 100) :
    BkArgs T H (.ref a) rt true ro.isSome vs ro := ⟨svcs_yes T h p v0 n, hr, fun _ => ⟨a, xs, rfl, h, p, good, n, by have := rows_few r5; omega⟩, rfl, hl⟩
theorem args_no (T : TxBook K mg) {sv rt : V} {vs : List SvW} {ro : Option (List Str)} (h : SvcsV K T.C_Service H sv false) (hr : SomeV K H rt ro.isSome) (hl : ∀ l, ro = some l → ∃ ra, rt = .ref ra ∧ SqA K H ra (l.map V.str) ∧ l.length ≤ 100) :
    BkArgs T H sv rt false ro.isSome vs ro := ⟨h, hr, fun z => (nomatch z), rfl, hl⟩
end
theorem scal_opt (x y : Option Str) : scal (optV x) (optV y) = true := by
  cases x <;> cases y <;> rfl
theorem ne_same (x : V) : ¬ (!decide (x = x)) = true := by simp
theorem due_head (l : List (Str × Bool)) : ((l.map fun z => V.str z.1) ++ [V.non])[0]? = some (optV ((l.map (·.1)).head?)) := by
  cases l <;> rfl
end My

/-! ## k13: the law -/
namespace My
open PySem PySem.Spec PyProof.Rows L2
abbrev s_law : Stmt := top 58
abbrev N_law : List Str := ["_law_script", "_law_words_here", "_law_k", "_law_box_here", "_law_turn", "_law_book", "_law_names_here", "_law_one", "_law_services", "_law_bad", "_law_word_here", "_law_at", "_law_given", "_law_roots", "_law_due", "_law_is_bad"]
abbrev P_law : List Str := ["_law_script"]
theorem sc_law : FnScope N_law P_law (defScope s_law) := ⟨rfl, rfl, rfl, by decide +kernel, rfl, by decide +kernel, by decide +kernel⟩
structure TxK13 (K : PySem.W.Frag) (mg : Str → Option Value) extends TxAnyBook K mg, TxSvcOf K mg, TxWord K mg, TxOdd K mg where
  z_max : mg "max" = none
  z_min : mg "min" = none
  z_zip : mg "zip" = none
  f_law : Addr
  d_law : FuncData
  F_law : Fun K "law" "law" s_law f_law d_law
def spLaw (K : PySem.W.Frag) : Sp := fun vs H Q _ => ∃ (a : Addr) (ns : List Int), vs = [.ref a] ∧ SqL K H a (ns.map V.int) ∧ ns.length ≤ 63 ∧ ∀ H', Q (.bl true) H'
section
variable {P : Program} {w : World} {K : PySem.W.Frag} {mg : Str → Option Value} {base : Heap}
theorem ok_law13 (T : TxK13 K mg) : FnTop P w K mg base 10 T.f_law T.d_law P_law (spLaw K) := by
  have G_box : FnOk P w K mg base CX0 1 T.f_box T.d_box P_box (spBox K) := ok_box T.toTxDraw
  have G_take : FnOk P w K mg base CX0 1 T.f_take T.d_take P_take spTakeG := ok_takeG T.toTxDraw
  have G_pick : FnOk P w K mg base CX0 2 T.f_pick T.d_pick P_pick spPickG := ok_pickG T.toTxDraw
  have G_any_book : FnOk P w K mg base CX0 5 T.f_any_book T.d_any_book P_any_book spAnyBook := ok_any_book T.toTxAnyBook
  have G_service_of := ok_service_of (P := P) (w := w) (base := base) T.toTxSvcOf
  have G_odd := ok_odd (P := P) (w := w) (base := base) T.toTxOdd
  have G_Service_init := ok_Service_init (P := P) (w := w) (base := base) T.toTxSvc
  obtain ⟨dsS, hv3, hb3⟩ := T.F_Service_init.binds1 (ps := P_Service_init) 3 0 (by simp) rfl (fun TT kV doc pm an cdv ct us its h1 h2 => by
    match us, h1, its, h2 with
    | [_, _, _], _, [_, _, _], _ => exact ⟨_, rfl, rfl⟩)
  refine top_of T.F_law sc_law (fun vs H Q E h => ?_) (fun cdv A outer s H vs Q gu hr h => ?_)
  · obtain ⟨a, ns, rfl, _⟩ := h
    rfl
  obtain ⟨a, ns, rfl, hS, h63, q⟩ := h
  have G_word := ok_word (P := P) (w := w) (base := base) T.toTxWord T.z_isinstance
  refine ⟨_, (pss_cons (ps_set (i := 1) sc_law.nd rfl (Or.inl rfl) (pe_lst (pa_cons pe_str (pa_cons pe_str (pa_cons pe_str (pa_cons pe_str (pa_cons pe_str pa_nil)))))))
      (pss_cons (ps_for PassesOwn.never rfl (pi_range1 (by rfl) T.z_range (pa_cons (pe_callB (call_max2 rfl) (by rfl) T.z_max (by decide +kernel) (pa_cons pe_int (pa_cons (pe_callB (call_min2 rfl) (by rfl) T.z_min (by decide +kernel) (pa_cons pe_int (pa_cons (pe_callB (call_lenK K) (by rfl) T.z_len (by decide +kernel) (pa_cons (pv 0) pa_nil)) pa_nil))) pa_nil))) pa_nil)) (pg_name (i := 2) sc_law.nd rfl (Or.inl rfl)) (pss_cons (ps_set (i := 3) sc_law.nd rfl (Or.inl rfl) (pe_call G_box (hr.mono (by decide)) (by rfl) T.m_box T.F_box.kp T.b_box .nil pass0 (pa_cons (pv 0) (pa_cons (pv 2) pa_nil))))
      (pss_one (ps_for PassesOwn.never rfl (pi_range1 (by rfl) T.z_range (pa_cons pe_int pa_nil)) (pg_name (i := 4) sc_law.nd rfl (Or.inl rfl)) (pss_cons (ps_set (i := 5) sc_law.nd rfl (Or.inl rfl) (pe_call G_any_book (hr.mono (by decide)) (by rfl) T.m_any_book T.F_any_book.kp T.b_any_book .nil pass0 (pa_cons (pv 3) (pa_cons pe_int pa_nil))))
      (pss_cons (ps_setLc (i := 6) (own := [("_law_one", 7)]) (g := gName 7) (by rfl) sc_law.nd rfl rfl (sw_true rfl rfl rfl (by decide +kernel)) (pi_listK K (pe_dget (hu_of hr) (pv 5) pe_str (fun _ _ => rfl))) (blkOk_by (own := [("_law_one", 7)]) (N := N_law) (sc := defScope s_law) (by decide +kernel)) (fun _ _ _ _ _ => (pg_name (i := 7) sc_law.nd rfl (Or.inl rfl))) (fun _ _ _ _ _ => pts_nil) (fun _ _ _ _ _ => (pe_dget (hu_of hr) (pv 7) pe_str (fun _ _ => rfl))))
      (pss_cons (ps_par (i := 8) (j := 9) (by rfl) sc_law.nd rfl rfl (by decide) rfl rfl (pa_cons (pe_lc (own := [("_law_one", 7)]) (g := gName 7) (by rfl) sc_law.nd (pi_listK K (pe_dget (hu_of hr) (pv 5) pe_str (fun _ _ => rfl))) (blkOk_by (own := [("_law_one", 7)]) (N := N_law) (sc := defScope s_law) (by decide +kernel)) (fun _ _ _ _ _ => (pg_name (i := 7) sc_law.nd rfl (Or.inl rfl))) (fun _ _ _ _ _ => pts_nil) (fun _ _ _ _ _ => (pe_call G_service_of (hr.mono (by decide)) (by rfl) T.m_service_of T.F_service_of.kp T.b_service_of .nil pass0 (pa_cons (pv 7) pa_nil)))) (pa_cons (pe_lst pa_nil) pa_nil)) (by rfl))
      (pss_cons (ps_for PassesOwn.never rfl (pi_listK K (pv 1)) (pg_name (i := 10) sc_law.nd rfl (Or.inl rfl)) (pss_one (ps_expr (pe_bm PySem.F.plainAttrs_list PySem.F.slot_list_append PySem.F.type_list_append mt_append (pv 9) (pa_cons (pe_cmpR op_eq (pe_call G_take (hr.mono (by decide)) (by rfl) T.m_take T.F_take.kp T.b_take .nil pass0 (pa_cons (pv 3) (pa_cons pe_int pa_nil))) pe_int (nomark _)) pa_nil)))))
      (pss_cons (ps_if (pt_cmpR op_notN (pe_call G_word (hr.mono (by decide)) (by rfl) T.m_word T.F_word.kp T.b_word .nil pass0 (pa_cons (pv 8) (pa_cons (pe_callTy (call_tupleK K) (by rfl) T.z_tuple (by decide +kernel) (pa_cons (pe_dget (hu_of hr) (pv 5) pe_str (fun _ _ => rfl)) pa_nil)) pa_nil))) pe_non (nomark _)) (pss_one (ps_ret pe_bl)) pss_nil)
      (pss_cons (ps_for PassesOwn.never rfl (pi_tupK K (pe_tup (pa_cons (pe_tup (pa_cons pe_int (pa_cons pe_str pa_nil))) (pa_cons (pe_tup (pa_cons pe_int (pa_cons pe_str pa_nil))) pa_nil)))) (pg_tup rfl (pgs_cons (pg_name (i := 11) sc_law.nd rfl (Or.inl rfl)) (pgs_cons (pg_name (i := 10) sc_law.nd rfl (Or.inl rfl)) pgs_nil))) (pss_one (ps_if (pt_val (pe_ix (ix_listK K) (pv 9) (pv 11) (fun _ _ => rfl))) (pss_cons (ps_set (i := 7) sc_law.nd rfl (Or.inl rfl) (pe_call G_pick (hr.mono (by decide)) (by rfl) T.m_pick T.F_pick.kp T.b_pick .nil pass0 (pa_cons (pv 3) (pa_cons (pe_dget (hu_of hr) (pv 5) pe_str (fun _ _ => rfl)) pa_nil))))
      (pss_one (ps_dput (hu_of hr) (pv 7) (pv 10) (pe_op op_cat (pe_dget (hu_of hr) (pv 7) (pv 10) (fun _ _ => rfl)) (pe_lst (pa_cons pe_str pa_nil))) rfl))) pss_nil)))
      (pss_cons (ps_setLc (i := 8) (own := [("_law_one", 7)]) (g := gName 7) (by rfl) sc_law.nd rfl rfl (sw_true rfl rfl rfl (by decide +kernel)) (pi_listK K (pe_dget (hu_of hr) (pv 5) pe_str (fun _ _ => rfl))) (blkOk_by (own := [("_law_one", 7)]) (N := N_law) (sc := defScope s_law) (by decide +kernel)) (fun _ _ _ _ _ => (pg_name (i := 7) sc_law.nd rfl (Or.inl rfl))) (fun _ _ _ _ _ => pts_nil) (fun _ _ _ _ _ => (pe_call G_service_of (hr.mono (by decide)) (by rfl) T.m_service_of T.F_service_of.kp T.b_service_of .nil pass0 (pa_cons (pv 7) pa_nil))))
      (Evl.pss_cut (ps_if (pt_val (pe_ix (ix_listK K) (pv 9) pe_int (fun _ _ => rfl))) (pss_one (ps_set (i := 8) sc_law.nd rfl (Or.inl rfl) (pe_op op_cat (pv 8) (pe_lst (pa_cons (pe_make T.mk_Service G_Service_init (hr.mono (by decide)) (by rfl) T.m_Service hb3 hv3 passL (pa_cons (pe_ix (ix_listK K) (pv 6) pe_int (fun _ _ => rfl)) (pa_cons (pe_lst (pa_cons pe_str pa_nil)) pa_nil))) pa_nil))))) pss_nil)
      (Evl.pss_cut (ps_set (i := 12) sc_law.nd rfl (Or.inl rfl) (pe_ifExp (pt_val (pe_ix (ix_listK K) (pv 9) pe_int (fun _ _ => rfl))) (pe_call G_odd (hr.mono (by decide)) (by rfl) T.m_odd T.F_odd.kp T.b_odd .nil pass0 (pa_cons (pv 3) (pa_cons (pv 8) (pa_cons (pv 6) (pa_cons pe_int pa_nil))))) (pv 8)))
      (Evl.pss_cut (ps_set (i := 13) sc_law.nd rfl (Or.inl rfl) (pe_ifExp (pt_val (pe_ix (ix_listK K) (pv 9) pe_int (fun _ _ => rfl))) (pe_call G_odd (hr.mono (by decide)) (by rfl) T.m_odd T.F_odd.kp T.b_odd .nil pass0 (pa_cons (pv 3) (pa_cons (pv 8) (pa_cons (pv 6) (pa_cons pe_int pa_nil))))) (pe_dget (hu_of hr) (pv 5) pe_str (fun _ _ => rfl))))
      (pss_cons (ps_setLc (i := 14) (own := [("_law_word_here", 10), ("_law_is_bad", 15)]) (g := gTup K 2 (gCons (gName 10) (gCons (gName 15) gNil))) (by rfl) sc_law.nd rfl rfl (sw_true rfl rfl rfl (by decide +kernel)) (pi_zip (by rfl) T.z_zip (pa_cons (pv 1) (pa_cons (pv 9) pa_nil))) (blkOk_by (own := [("_law_word_here", 10), ("_law_is_bad", 15)]) (N := N_law) (sc := defScope s_law) (by decide +kernel)) (fun _ _ _ _ _ => (by exact (pg_tup rfl (pgs_cons (pg_name (i := 10) sc_law.nd rfl (Or.inl rfl)) (pgs_cons (pg_name (i := 15) sc_law.nd rfl (Or.inl rfl)) pgs_nil))))) (fun _ _ _ _ _ => pts_one (by exact (pt_val (pv 15)))) (fun _ _ _ _ _ => (pv 10)))
      (pss_one (ps_if (pt_cmpR op_ne (pe_call G_word (hr.mono (by decide)) (by rfl) T.m_word T.F_word.kp T.b_word .nil pass0 (pa_cons (pv 12) (pa_cons (pv 13) pa_nil))) (pe_ix (ix_listK K) (pe_op op_cat (pv 14) (pe_lst (pa_cons pe_non pa_nil))) pe_int (fun _ _ => rfl)) (nomark _)) (pss_one (ps_ret pe_bl)) pss_nil)))))))))))))))))
      (pss_one (ps_ret pe_bl)))), ?_⟩
  obtain ⟨mt1, mt2⟩ := many_turns (n := 4) (l := (ns.map V.int).length) (by decide) (by decide)
  refine ⟨by show 5 ≤ sizeLine; decide, fun wd hwd => ?_⟩
  have sw := same_upd hwd (.lst (BADW.map V.str))
  have wd0 : upd H wd (.lst (BADW.map V.str)) wd = some (.lst (BADW.map V.str)) := upd_same
  have hSw := sw.seq hS
  have ew : (HO.lst (BADW.map V.str)) = HO.lst [.str "services", .str "name", .str "waits", .str "leaves", .str "roots"] := rfl
  rw [ew] at sw wd0 hSw
  generalize upd H wd (.lst [.str "services", .str "name", .str "waits", .str "leaves", .str "roots"]) = Hw at sw wd0 hSw
  rw [← ew] at wd0
  refine ⟨_, rfl, _, _, rfl, .inl hSw, _, _, rfl, _, _, rfl, _, rfl, by omega, by omega, for_range (lo := 0) (fun i σ H' => ∃ (v2 v3 v4 v5 v6 v7 v8 v9 v10 v11 v12 v13 v14 v15 : Option V), σ = [some (.ref a), some (.ref wd), v2, v3, v4, v5, v6, v7, v8, v9, v10, v11, v12, v13, v14, v15] ∧ Same Hw H') ⟨none, none, none, none, none, none, none, none, none, none, none, none, none, none, rfl, Same.refl _⟩ ?_ ?_⟩
  rotate_left
  · rintro σ H1 ⟨v2, v3, v4, v5, v6, v7, v8, v9, v10, v11, v12, v13, v14, v15, rfl, s1⟩
    exact q _
  rintro i0 σ H1 hi ⟨v2, v3, v4, v5, v6, v7, v8, v9, v10, v11, v12, v13, v14, v15, rfl, s1⟩
  refine ⟨_, rfl, _, rfl, a, ns, _, rfl, s1.seq hSw, h63, by omega, fun b bw bs hb => ?_⟩
  have gB := gr_box (b := b) (H1 := H1) (w := bw) (s := bs) (c := 0)
  have wdB := (same_upd hb (bx bw bs 0)) _ _ (s1 _ _ wd0)
  have wdb : wd ≠ b := fun z => by have e := s1 _ _ wd0; rw [z, hb] at e; cases e
  have sB : ∀ H', Gr b (upd H1 b (bx bw bs 0)) H' → Same Hw H' := fun H' g => s1.trans (gr_same (Same.refl _) hb g)
  generalize upd H1 b (bx bw bs 0) = HB at gB sB wdB
  refine ⟨4, rfl, by decide, by decide, for_range (lo := 0) (fun i σ H' => ∃ (v4 v5 v6 v7 v8 v9 v10 v11 v12 v13 v14 v15 : Option V), σ = [some (.ref a), some (.ref wd), some (.int (0 + (i0 : Int))), some (.ref b), v4, v5, v6, v7, v8, v9, v10, v11, v12, v13, v14, v15] ∧ Gr b HB H') ⟨_, _, _, _, _, _, _, _, _, _, _, _, rfl, gB⟩ ?_ ?_⟩
  rotate_left
  · rintro σ H2 ⟨v4, v5, v6, v7, v8, v9, v10, v11, v12, v13, v14, v15, rfl, g2⟩
    exact ⟨_, _, _, _, _, _, _, _, _, _, _, _, _, _, rfl, sB H2 g2⟩
  rintro i1 σ H2 hi1 ⟨v4, v5, v6, v7, v8, v9, v10, v11, v12, v13, v14, v15, rfl, g2⟩
  -- the book
  refine ⟨_, rfl, b, 3, rfl, gr_self g2, by decide, by decide, fun p vs roots H3 g3 hp0 B DB => ?_⟩
  have g03 := g2.trans g3
  have ch0 := ChgV.drawn DB (by decide)
  obtain ⟨sl, rl, al, ⟨ap, asl, arl, prs⟩, np, nsl, nrl⟩ := B.at_
  have vl3 : vs.length ≤ 3 := by have := DB.few.2; omega
  have all_ : al.length = vs.length := paired_len' prs
  have get : ∀ (H' : Hp) (k : Str) (v : V), Same H3 H' → valV ([(.inr "services", .ref sl), (.inr "roots", .ref rl)] : List (Key × V)) (.inr k) = some v → DGet H' p (kV (.inr k)) (some v) := fun H' k v s e => by
    have z := DGet.k (k := .inr k) (s _ _ ap.at_)
    rw [e] at z
    exact z
  refine ⟨_, rfl, p, _, rfl, get H3 "services" (.ref sl) (Same.refl _) rfl, sl, rfl, ⟨_, asl.l⟩, fun D1 hD1 => ?_⟩
  refine lc_list (K := K) (a := sl) (xs := al.map V.ref) (fun i H' => Same H3 H' ∧ H' D1 = some (.lst (((vs.take i).map (·.nm)).map V.str))) ⟨same_upd hD1 _, upd_same⟩ (fun i H' _ h => SqL.of (h.1 _ _ asl.at_)) ?_ ?_
  · rintro i x H4 hx ⟨s4, h4⟩
    obtain ⟨q', hq', rfl⟩ := get_ref hx
    obtain ⟨v, hv, S⟩ := paired_get prs hq'
    refine ⟨rfl, ?_⟩
    refine ⟨_, rfl, q', _, rfl, S.name s4, ?_⟩
    refine ⟨_, h4, small1000 (by rw [List.length_map, List.length_map, List.length_take]; omega), fun c o e => ?_, ?_⟩
    · rw [upd_ne (ne_of_none e hD1)]
      exact s4 _ _ e
    · rw [upd_same, List.take_add_one, hv, List.map_append, List.map_append]
      rfl
  rintro H4 ⟨s4, hD4⟩
  rw [List.length_map, all_, List.take_length] at hD4
  have g04 := g03.trans (gr_of_same g03 s4)
  -- services and bad
  refine ⟨_, rfl, p, _, rfl, get H4 "services" (.ref sl) s4 rfl, sl, rfl, ⟨_, SqL.of (s4 _ _ asl.at_)⟩, fun D2 hD2 => ?_⟩
  refine lc_list (K := K) (a := sl) (xs := al.map V.ref) (fun i H' => Same H4 H' ∧ ∃ qs : List V, H' D2 = some (.lst qs) ∧ Paired (SvcRef T.toTxSvcOf.toTxSvc H') qs (vs.take i)) ⟨same_upd hD2 _, [], upd_same, .nil⟩ (fun i H' _ h => SqL.of (h.1 _ _ (s4 _ _ asl.at_))) ?_ ?_
  · rintro i x H5 hx ⟨s5, qs, h5, prq⟩
    obtain ⟨q', hq', rfl⟩ := get_ref hx
    obtain ⟨v, hv, S⟩ := paired_get prs hq'
    have hvm := List.mem_of_getElem? hv
    have gv := DB.good v hvm
    have ql : qs.length ≤ 3 := by rw [paired_len' prq, List.length_take]; omega
    refine ⟨rfl, ?_⟩
    refine ⟨_, rfl, b, q', v.nm, v.kinds, v.waits, v.leaves, v.rows, rfl, S.toD.sameH (s4.trans s5), gv.nm, gv.all, gv.k0, gv.kn, gv.wn, gv.ln, Nat.le_trans gv.kl (by decide), Nat.le_trans gv.wl (by decide), Nat.le_trans gv.ll (by decide), gv.rl, gv.good, fun y H6 s6 _ SI => ?_⟩
    have h6 := s6 _ _ h5
    refine ⟨qs, h6, small1000 (by omega), fun c o e => ?_, qs ++ [.ref y], upd_same, ?_⟩
    · rw [upd_ne (ne_of_none e hD2)]
      exact s6 _ _ (s5 _ _ e)
    · rw [List.take_add_one, hv]
      exact paired_snoc (paired_imp' (fun _ _ z => (z.same s6).put h6 _) prq) (SvcRef.put ⟨y, rfl, SI⟩ h6 _)
  rintro H5 ⟨s5, qs, hD5, prq⟩
  rw [List.length_map, all_, List.take_length] at prq
  have g05 := g04.trans (gr_of_same g04 s5)
  refine ⟨by show 0 ≤ sizeLine; decide, fun bd hbd => ?_⟩
  have bdb : bd ≠ b := g05.ne_new hbd
  have s6 := same_upd hbd (.lst [])
  have g56 : Gr b H5 (upd H5 bd (.lst [])) := (gr_self g05).new hbd _
  have hbd6 : upd H5 bd (.lst []) bd = some (.lst []) := upd_same
  have hD56 : upd H5 bd (.lst []) D2 = some (.lst qs) := s6 _ _ hD5
  generalize upd H5 bd (.lst []) = H6 at g56 s6 hbd6 hD56
  have wd6 : H6 wd = some (.lst (BADW.map V.str)) := (g05.trans g56).keep _ _ wdb wdB
  have r5 := gr_self g05
  refine ⟨_, _, rfl, ?_⟩
  refine ⟨_, rfl, wd, rfl, ⟨_, SqL.of wd6⟩, for_list (K := K) (a := wd) (xs := BADW.map V.str) (fun i σ H' => ∃ v10, σ = [some (.ref a), some (.ref wd), some (.int (0 + (i0 : Int))), some (.ref b), some (.int (0 + (i1 : Int))), some (.ref p), some (.ref D1), v7, some (.ref D2), some (.ref bd), v10, v11, v12, v13, v14, v15] ∧ Gr b H5 H' ∧ ∃ bl : List Bool, H' bd = some (.lst (bl.map V.bl)) ∧ bl.length = i) ⟨_, rfl, g56, [], hbd6, rfl⟩ (fun i σ H' _ ⟨_, _, g, _⟩ => SqL.of ((g05.trans g).keep _ _ wdb wdB)) ?_ ?_⟩
  · rintro i x σ H7 hi ⟨v10, rfl, g7, bl, hb7, bll⟩
    have i5 : i < 5 := by have := (List.getElem?_eq_some_iff.mp hi).1; exact this
    have g57 := g05.trans g7
    refine ⟨_, rfl, .inl ⟨rfl, _, SqL.of hb7⟩, _, rfl, b, 4, rfl, gr_self g57, by decide, by decide, fun d H8 d0 d1 g8 => ⟨rfl, ?_⟩⟩
    have hb8 := g8.keep _ _ bdb hb7
    refine ⟨bd, _, _, rfl, rfl, hb8, small1000 (by rw [List.length_map]; omega), ?_⟩
    refine ⟨_, rfl, (g7.trans g8).mut hbd bdb _, bl ++ [decide (V.int d = V.int 0)], by rw [upd_same, List.map_append]; rfl, by rw [List.length_append, bll]; rfl⟩
  rintro σ H7 ⟨v10, rfl, g7, bl, hb7, bll⟩
  obtain ⟨b0, b1, b2, b3, b4, rfl⟩ : ∃ b0 b1 b2 b3 b4, bl = [b0, b1, b2, b3, b4] := by
    match bl, bll with
    | [b0, b1, b2, b3, b4], _ => exact ⟨b0, b1, b2, b3, b4, rfl⟩
  have g57 := g05.trans g7
  have D2b : D2 ≠ b := g04.ne_new hD2
  have g37 : Gr b H3 H7 := ((gr_of_same g03 s4).trans (gr_of_same g04 s5)).trans g7
  have hD27 : H7 D2 = some (.lst qs) := g7.keep _ _ D2b hD5
  have v0 : vs ≠ [] := fun z => by have := DB.few.1; rw [z] at this; exact absurd this (by decide)
  have nmv : ∀ y ∈ vs.map (·.nm), isNm y = true := fun y hy => by
    obtain ⟨v, hv, rfl⟩ := List.mem_map.mp hy
    exact (DB.good v hv).nm
  have zx : ("zx" : Str) ∉ vs.map (·.nm) := fun hy => by
    obtain ⟨v, hv, e⟩ := List.mem_map.mp hy
    exact DB.zx v hv e
  have rnm : ∀ y ∈ roots, isNm y = true := fun y hy => nmv y (DB.rt.sub y hy)
  have r0 : roots ≠ [] := fun z => by have := DB.rt.few; rw [z] at this; exact absurd this (by decide)
  have rlen : roots.length ≤ 100 := by have := DB.rt.len; rw [List.length_map] at this; omega
  have rnd := DB.rt.nd DB.nd
  obtain ⟨n0, nt, en⟩ : ∃ n0 nt, vs.map (·.nm) = n0 :: nt := by
    cases e : vs.map (·.nm) with
    | nil => exact absurd (List.map_eq_nil_iff.mp e) v0
    | cons x l => exact ⟨x, l, rfl⟩
  have getp : ∀ (H' : Hp) (k : Str) (v : V), At b H' p (.dK [(.inr "services", .ref sl), (.inr "roots", .ref rl)]) → valV ([(.inr "services", .ref sl), (.inr "roots", .ref rl)] : List (Key × V)) (.inr k) = some v → DGet H' p (kV (.inr k)) (some v) := fun H' k v h e => by
    have z := DGet.k (k := .inr k) h.at_
    rw [e] at z
    exact z
  obtain ⟨bw7, bs7, bc7, hb7b⟩ := g05.box
  have prq7 := paired_imp' (fun _ _ z => SvcRef.kl z (KL.of_gr hb7b g7)) prq
  -- nothing is bad yet
  refine ⟨_, rfl, _, rfl, p, _, rfl, getp H7 "roots" (.ref rl) (ap.gr g37) rfl, rl, _, rfl, .inl ⟨(arl.gr g37).l, fun tr htr => ?_⟩⟩
  have s8 := same_upd htr (.tup (roots.map V.str))
  have tr8 : upd H7 tr (.tup (roots.map V.str)) tr = some (.tup (roots.map V.str)) := upd_same
  generalize upd H7 tr (.tup (roots.map V.str)) = H8 at s8 tr8
  have rS : SqA K H8 tr (roots.map V.str) := .inr (SqT.of tr8)
  refine ⟨.ref D2, .ref tr, true, true, vs, some roots, rfl, args_yes (ro := some roots) T.toTxBook (.inl (SqL.of (s8 _ _ hD27))) (paired_imp' (fun _ _ z => z.same s8) prq7) v0 (by omega) DB.good DB.r5 (some_strs rS rnm rnd r0 rlen) (fun l e => by cases e; exact ⟨tr, rfl, rS, rlen⟩), fun H9 s9 => ?_⟩
  have w0 : wordBk true vs (some roots) = none := word_due (b0 := false) (b1 := false) (b4 := false) (n0 := n0) ch0 DB.nd (by rw [en]; exact List.mem_cons_self) zx (fun z => (nomatch z)) (fun _ => wrRo_in DB.rt.sub)
  rw [w0]
  refine ⟨rfl, _, rfl, ite2 (fun c => absurd c (by show ¬ (!decide (V.non = V.non)) = true; simp)) (fun _ => ?_)⟩
  have g39 := g37.trans (gr_of_same (g03.trans g37) (s8.trans s9))
  -- waits and leaves
  refine ⟨by show 2 ≤ sizeLine; decide, fun t1 ht1 => ?_⟩
  have y1 := same_upd ht1 (.tup [.int 2, .str "waits"])
  have f1 : upd H9 t1 (.tup [.int 2, .str "waits"]) t1 = some (.tup [.int 2, .str "waits"]) := upd_same
  generalize upd H9 t1 (.tup [.int 2, .str "waits"]) = H91 at y1 f1
  refine ⟨by show 2 ≤ sizeLine; decide, fun t2 ht2 => ?_⟩
  have y2 := same_upd ht2 (.tup [.int 3, .str "leaves"])
  have f2 : upd H91 t2 (.tup [.int 3, .str "leaves"]) t2 = some (.tup [.int 3, .str "leaves"]) := upd_same
  generalize upd H91 t2 (.tup [.int 3, .str "leaves"]) = H92 at y2 f2
  refine ⟨by show 2 ≤ sizeLine; decide, fun t3 ht3 => ?_⟩
  have y3 := same_upd ht3 (.tup [.ref t1, .ref t2])
  have f3 : upd H92 t3 (.tup [.ref t1, .ref t2]) t3 = some (.tup [.ref t1, .ref t2]) := upd_same
  generalize upd H92 t3 (.tup [.ref t1, .ref t2]) = H10 at y3 f3
  have y9 : Same H9 H10 := (y1.trans y2).trans y3
  have f1' := (y2.trans y3) _ _ f1
  have f2' := y3 _ _ f2
  have g310 : Gr b H3 H10 := g39.trans (gr_of_same (g03.trans g39) y9)
  have s710 : Same H7 H10 := (s8.trans s9).trans y9
  have hb10 := s710 _ _ hb7
  have g210 : Gr b H2 H10 := g3.trans g310
  have nt3 : t3 ≠ b := fun z => by
    obtain ⟨w', s', c', e⟩ := g310.box
    rw [← z, f3] at e
    cases e
  have ntb : ∀ {t : Addr} {u : List V}, H10 t = some (.tup u) → t ≠ b := fun {t u} h z => by
    obtain ⟨w', s', c', e⟩ := g310.box
    rw [← z, h] at e
    cases e
  have items : ∀ (i : Nat) (x : V), ([.ref t1, .ref t2] : List V)[i]? = some x → ∃ (t : Addr) (n : Nat) (w : Str) (bb : Bool), x = .ref t ∧ H10 t = some (.tup [.int (n : Int), .str w]) ∧ (w = "waits" ∨ w = "leaves") ∧ (([b0, b1, b2, b3, b4] : List Bool).map V.bl)[n]? = some (.bl bb) ∧
      ∀ vs', ChgV (vs.map (·.nm)) (decide (1 ≤ i) && b2) (decide (2 ≤ i) && b3) vs' → (bb = false → ChgV (vs.map (·.nm)) (decide (1 ≤ i + 1) && b2) (decide (2 ≤ i + 1) && b3) vs') ∧ (bb = true → ∀ j v, vs'[j]? = some v → ChgV (vs.map (·.nm)) (decide (1 ≤ i + 1) && b2) (decide (2 ≤ i + 1) && b3) (vs'.set j (v.more w))) := by
    intro i x hx
    match i, hx with
    | 0, hx =>
      cases hx
      refine ⟨t1, 2, "waits", b2, rfl, f1', .inl rfl, rfl, fun vs' c => ⟨fun e => ?_, fun e j v hv => ?_⟩⟩
      · rw [e] at c ⊢
        exact c
      · rw [e]
        exact ChgV.waits c zx hv
    | 1, hx =>
      cases hx
      refine ⟨t2, 3, "leaves", b3, rfl, f2', .inr rfl, rfl, fun vs' c => ⟨fun e => ?_, fun e j v hv => ?_⟩⟩
      · rw [e] at c ⊢
        exact c
      · rw [e]
        exact ChgV.leaves c zx hv
    | j + 2, hx => simp at hx
  refine ⟨t3, rfl, ⟨_, SqT.of f3⟩, for_it (walk_tup (K := K) (a := t3) (xs := [.ref t1, .ref t2])) (fun i σ H' => ∃ (v7 v10 v11 : Option V), σ = [some (.ref a), some (.ref wd), some (.int (0 + (i0 : Int))), some (.ref b), some (.int (0 + (i1 : Int))), some (.ref p), some (.ref D1), v7, some (.ref D2), some (.ref bd), v10, v11, v12, v13, v14, v15] ∧ Gr b H2 H' ∧
      (∀ a o, a ≠ b → (∀ kvs, o ≠ .dK kvs) → H10 a = some o → H' a = some o) ∧ At b H' p (.dK [(.inr "services", .ref sl), (.inr "roots", .ref rl)]) ∧ ∃ vs', SvcsN (fun a => H2 a = none) b H' al vs' ∧ ChgV (vs.map (·.nm)) (decide (1 ≤ i) && b2) (decide (2 ≤ i) && b3) vs')
    ⟨_, _, _, rfl, g210, fun _ _ _ _ e => e, ap.gr g310, vs, SvcsN.gr prs g310, ch0⟩ (fun i σ H' _ ⟨_, _, _, _, _, kd, _⟩ => SqT.of (kd _ _ nt3 (fun _ z => nomatch z) f3)) ?_ ?_⟩
  · rintro i x σ H99 H11 hi ⟨v7, v10, v11, rfl, g11, kd, ap11, vs', prs11, ch⟩ ⟨rfl, hx⟩
    obtain ⟨t, n, w', bb, rfl, ht, hw, hbb, go⟩ := items i x hx
    obtain ⟨go1, go2⟩ := go vs' ch
    have e11 : Gr b H11 H11 := gr_self g11
    refine ⟨t, _, rfl, SqT.of (kd _ _ (ntb ht) (fun _ z => nomatch z) ht), rfl, _, _, rfl, _, _, rfl, rfl, ?_⟩
    have kdL : ∀ {a : Addr} {xs : List V}, a ≠ b → H10 a = some (.lst xs) → H11 a = some (.lst xs) := fun n e => kd _ _ n (fun _ z => by cases z) e
    have hb11 := kdL bdb hb10
    refine ⟨_, rfl, _, rfl, bd, _, _, _, rfl, rfl, SqL.of hb11, atI_nat (j := n) hbb, _, rfl, ?_⟩
    refine ite2 (fun c => ?_) (fun c => ?_)
    · have e : bb = true := by simpa using c
      have asl11 : At b H11 sl (.lst (al.map V.ref)) := ⟨asl.ne, kdL asl.ne (asl.gr g310).at_⟩
      have al0 : al.map V.ref ≠ [] := fun z => v0 (by
        have h1 := congrArg List.length z
        rw [List.length_map, all_] at h1
        exact List.length_eq_zero_iff.mp h1)
      refine ⟨_, rfl, _, rfl, p, _, rfl, getp H11 "services" (.ref sl) ap11 rfl, b, sl, al.map V.ref, rfl, e11, asl11, al0, by rw [List.length_map]; omega, fun x H12 hx12 g12 => ?_⟩
      obtain ⟨q', hq', rfl⟩ := List.mem_map.mp hx12
      obtain ⟨j, hj⟩ := List.getElem?_of_mem hq'
      have prs12 := SvcsN.gr prs11 g12
      obtain ⟨v, hv, S⟩ := paired_get prs12 hj
      obtain ⟨ql, hget, hlist⟩ := SvcN.list S hw
      have g212 := g11.trans g12
      refine ⟨_, rfl, _, rfl, q', _, rfl, hget H12 (Same.refl _), ?_⟩
      refine ⟨by show 1 ≤ sizeLine; decide, fun c1 hc1 => ?_⟩
      have u1 : Gr b H12 (upd H12 c1 (.lst [.str "zx"])) := (gr_self g212).new hc1 _
      have hc1' : upd H12 c1 (.lst [.str "zx"]) c1 = some (.lst [.str "zx"]) := upd_same
      generalize upd H12 c1 (.lst [.str "zx"]) = H13 at u1 hc1'
      have g213 := g212.trans u1
      have len9 : (v.of w').length ≤ 100 := by
        have gv := ch.good v (List.mem_of_getElem? hv)
        rcases hw with e | e <;> subst e
        · rw [of_w]; exact Nat.le_trans gv.wl (by decide)
        · rw [of_l]; exact Nat.le_trans gv.ll (by decide)
      refine ⟨ql, c1, (v.of w').map V.str, [.str "zx"], rfl, rfl, (hlist.gr u1).at_, hc1', by rw [List.length_map]; exact Nat.le_trans (Nat.add_le_add_right len9 _) (by decide), fun c2 hc2 => ?_⟩
      have u2 : Gr b H13 (upd H13 c2 (.lst ((v.of w').map V.str ++ [.str "zx"]))) := (gr_self g213).new hc2 _
      have aC : At b (upd H13 c2 (.lst ((v.of w').map V.str ++ [.str "zx"]))) c2 (.lst ((v.of w' ++ [("zx" : Str)]).map V.str)) := ⟨g213.ne_new hc2, by rw [upd_same, List.map_append]; rfl⟩
      have n2 : H2 c2 = none := g213.free hc2
      generalize upd H13 c2 (.lst ((v.of w').map V.str ++ [.str "zx"])) = H14 at u2 aC
      have u124 := u1.trans u2
      have g214 := g212.trans u124
      have prs14 := SvcsN.gr prs12 u124
      obtain ⟨v2, hv2, S14⟩ := paired_get prs14 hj
      obtain ⟨kvs, hk, hkl, pb, D14⟩ := SvcsN.more prs14 (by rw [ch.nm]; exact DB.nd) hw hj hv aC n2
      have ap14 := (ap11.gr g12).gr u124
      have npq := S14.nep ap14.at_
      refine ⟨_, rfl, _, rfl, q', _, rfl, DPut.k (k := .inr w') hk hkl, ?_⟩
      refine ⟨_, _, _, rfl, g214.mut S14.np pb _, fun a o nb nd e => ?_, ⟨ap14.ne, by rw [upd_ne npq]; exact ap14.at_⟩, _, D14, go2 e j v hv⟩
      have e14 := (g12.trans u124).keep _ _ nb (kd a o nb nd e)
      rw [upd_ne (fun z => by rw [z, hk] at e14; exact nd kvs (Option.some.inj e14).symm)]
      exact e14
    · have e : bb = false := by simpa using c
      exact ⟨_, _, _, rfl, g11, kd, ap11, vs', prs11, go1 e⟩
  rintro σ H11 ⟨v7, v10, v11, rfl, g11, kd, ap11, vs', prs11, ch⟩
  have ch : ChgV (vs.map (·.nm)) b2 b3 vs' := ch
  have kdL : ∀ {a : Addr} {xs : List V}, a ≠ b → H10 a = some (.lst xs) → H11 a = some (.lst xs) := fun n e => kd _ _ n (fun _ z => by cases z) e
  have hb11 := kdL bdb hb10
  have asl11 : At b H11 sl (.lst (al.map V.ref)) := ⟨asl.ne, kdL asl.ne (asl.gr g310).at_⟩
  have arl11 : At b H11 rl (.lst (roots.map V.str)) := ⟨arl.ne, kdL arl.ne (arl.gr g310).at_⟩
  have D1b : D1 ≠ b := g03.ne_new hD1
  have hD111 : H11 D1 = some (.lst ((vs.map (·.nm)).map V.str)) := kdL D1b (((gr_of_same g04 s5).trans (g7.trans (gr_of_same (g05.trans g7) s710))).keep _ _ D1b hD4)
  have vl' : vs'.length = vs.length := by have := congrArg List.length ch.nm; rw [List.length_map, List.length_map] at this; exact this
  have all' : al.length = vs'.length := paired_len' prs11
  have g011 := g2.trans g11
  -- the services again
  refine ⟨_, rfl, p, _, rfl, getp H11 "services" (.ref sl) ap11 rfl, sl, rfl, ⟨_, asl11.l⟩, fun D3 hD3 => ?_⟩
  refine lc_list (K := K) (a := sl) (xs := al.map V.ref) (fun i H' => Same H11 H' ∧ ∃ qs : List V, H' D3 = some (.lst qs) ∧ Paired (SvcRef T.toTxSvcOf.toTxSvc H') qs (vs'.take i)) ⟨same_upd hD3 _, [], upd_same, .nil⟩ (fun i H' _ h => SqL.of (h.1 _ _ asl11.at_)) ?_ ?_
  · rintro i x H12 hx ⟨s12, qs2, h12, prq2⟩
    obtain ⟨q', hq', rfl⟩ := get_ref hx
    obtain ⟨v, hv, S⟩ := paired_get prs11 hq'
    have hvm := List.mem_of_getElem? hv
    have gv := ch.good v hvm
    have ql : qs2.length ≤ 3 := by rw [paired_len' prq2, List.length_take]; omega
    refine ⟨rfl, ?_⟩
    refine ⟨_, rfl, b, q', v.nm, v.kinds, v.waits, v.leaves, v.rows, rfl, S.toD.sameH s12, gv.nm, gv.all, gv.k0, gv.kn, gv.wn, gv.ln, Nat.le_trans gv.kl (by decide), Nat.le_trans gv.wl (by decide), Nat.le_trans gv.ll (by decide), gv.rl, gv.good, fun y H13 s13 _ SI => ?_⟩
    have h13 := s13 _ _ h12
    refine ⟨qs2, h13, small1000 (by omega), fun c o e => ?_, qs2 ++ [.ref y], upd_same, ?_⟩
    · rw [upd_ne (ne_of_none e hD3)]
      exact s13 _ _ (s12 _ _ e)
    · rw [List.take_add_one, hv]
      exact paired_snoc (paired_imp' (fun _ _ z => (z.same s13).put h13 _) prq2) (SvcRef.put ⟨y, rfl, SI⟩ h13 _)
  rintro H12 ⟨s12, qs2, hD312, prq2⟩
  rw [List.length_map, all', List.take_length] at prq2
  have g012 := g011.trans (gr_of_same g011 s12)
  have D3b : D3 ≠ b := g011.ne_new hD3
  have n0m : (vs.map (·.nm)).map V.str = V.str n0 :: nt.map V.str := by rw [en]; rfl
  -- a second one of the first one's name
  refine ⟨fun σ H' => ∃ (sv : Addr) (xs2 : List V), σ = [some (.ref a), some (.ref wd), some (.int (0 + (i0 : Int))), some (.ref b), some (.int (0 + (i1 : Int))), some (.ref p), some (.ref D1), v7, some (.ref sv), some (.ref bd), v10, v11, v12, v13, v14, v15] ∧ Same H12 H' ∧ H' sv = some (.lst xs2) ∧ sv ≠ b ∧ Paired (SvcRef T.toTxSvcOf.toTxSvc H') xs2 (if b1 then vs' ++ [topS n0] else vs'), ?_, ?_⟩
  · refine ⟨_, rfl, bd, _, 1, _, rfl, rfl, SqL.of (s12 _ _ hb11), atI_nat (j := 1) rfl, _, rfl, ?_⟩
    refine ite2 (fun c => ?_) (fun c => ?_)
    · have e : b1 = true := by simpa using c
      rw [e]
      have hD112 : H12 D1 = some (.lst (V.str n0 :: nt.map V.str)) := by rw [← n0m]; exact s12 _ _ hD111
      refine ⟨_, rfl, _, rfl, D1, _, 0, _, rfl, rfl, SqL.of hD112, atI_nat (j := 0) rfl, ?_⟩
      refine ⟨by show 1 ≤ sizeLine; decide, fun tl htl => ?_⟩
      have z1 := same_upd htl (.lst [.str "top"])
      have htl' : upd H12 tl (.lst [.str "top"]) tl = some (.lst [.str "top"]) := upd_same
      generalize upd H12 tl (.lst [.str "top"]) = H14 at z1 htl'
      intro x dx nx nd ne
      have z2 : Same H14 (upd (upd H14 dx (.own x)) x (.ins T.C_Service dx [])) := fun c o e => by rw [upd_ne (ne_of_none e nx), upd_ne (ne_of_none e nd)]; exact e
      have h5 : upd (upd H14 dx (.own x)) x (.ins T.C_Service dx []) x = some (.ins T.C_Service dx []) := upd_same
      generalize upd (upd H14 dx (.own x)) x (.ins T.C_Service dx []) = H15 at z2 h5
      have gt := topS_good (nmv n0 (by rw [en]; exact List.mem_cons_self))
      refine svcInit_is T.toTxSvc (ks := ["top"]) (ws := []) (ls := []) (rs := []) (xs := []) h5 gt.nm (fun y hy => gt.all y (by simpa [topS] using hy)) (fun _ z => nomatch z) (fun _ z => nomatch z) gt.k0 gt.kn gt.wn gt.ln (Nat.le_trans gt.kl (by decide)) (Nat.le_trans gt.wl (by decide)) (Nat.le_trans gt.ll (by decide)) gt.rl gt.good (.inl (SqL.of (z2 _ _ htl'))) (.inr (T.t_waits _)) (.inr (T.t_leaves _)) (.inr (T.t_rows _)) .nil (fun H16 kp SI => ⟨rfl, ?_⟩)
      have z3 : Same H12 H16 := fun c o e => kp c o (ne_of_none (z1 _ _ e) nx) (z2 _ _ (z1 _ _ e))
      refine ⟨by show 1 ≤ sizeLine; decide, fun c1 hc1 => ?_⟩
      have z4 := same_upd hc1 (.lst [.ref x])
      have hc1' : upd H16 c1 (.lst [.ref x]) c1 = some (.lst [.ref x]) := upd_same
      generalize upd H16 c1 (.lst [.ref x]) = H17 at z4 hc1'
      have ql : qs2.length ≤ 3 := by rw [paired_len' prq2]; omega
      have h17 := z4 _ _ (z3 _ _ hD312)
      refine ⟨D3, c1, qs2, [.ref x], rfl, rfl, h17, hc1', Nat.le_trans (Nat.add_le_add_right ql _) (by show 3 + 1 ≤ sizeLine; decide), fun c2 hc2 => ?_⟩
      have z5 := same_upd hc2 (.lst (qs2 ++ [.ref x]))
      have z6 := (z3.trans z4).trans z5
      refine ⟨c2, qs2 ++ [.ref x], rfl, z6, upd_same, (g012.trans (gr_of_same g012 (z3.trans z4))).ne_new hc2, ?_⟩
      rw [if_pos rfl]
      exact paired_snoc (paired_imp' (fun _ _ z => SvcRef.same z z6) prq2) (SvcRef.same ⟨x, rfl, SI⟩ (z4.trans z5))
    · have e : b1 = false := by simpa using c
      rw [e]
      exact ⟨D3, qs2, rfl, Same.refl _, hD312, D3b, prq2⟩
  rintro σ H13 ⟨sv, xs2, rfl, s13, hsv, svb, prx⟩
  have g013 := g012.trans (gr_of_same g012 s13)
  have hb13 := s13 _ _ (s12 _ _ hb11)
  have hD113 := s13 _ _ (s12 _ _ hD111)
  have ap13 : At b H13 p (.dK [(.inr "services", .ref sl), (.inr "roots", .ref rl)]) := ⟨ap11.ne, s13 _ _ (s12 _ _ ap11.at_)⟩
  have arl13 : At b H13 rl (.lst (roots.map V.str)) := ⟨arl11.ne, s13 _ _ (s12 _ _ arl11.at_)⟩
  have aD1 : At b H13 D1 (.lst ((vs.map (·.nm)).map V.str)) := ⟨D1b, hD113⟩
  have asv : At b H13 sv (.lst xs2) := ⟨svb, hsv⟩
  have lx : (if b1 then vs' ++ [topS n0] else vs').length ≤ 4 ∧ (if b1 then vs' ++ [topS n0] else vs') ≠ [] := by
    cases b1 with
    | true => exact ⟨by rw [if_pos rfl, List.length_append, List.length_singleton]; omega, by rw [if_pos rfl]; simp⟩
    | false => exact ⟨by rw [if_neg Bool.false_ne_true]; omega, by rw [if_neg Bool.false_ne_true]; exact fun z => v0 (by rw [z] at vl'; exact List.length_eq_zero_iff.mp vl'.symm)⟩
  have xl := paired_len' prx
  have x20 : xs2 ≠ [] := fun z => by rw [z] at xl; exact lx.2 (List.length_eq_zero_iff.mp xl.symm)
  have nn : vs.map (·.nm) ≠ [] := by rw [en]; exact fun z => nomatch z
  have nl10 : (vs.map (·.nm)).length ≤ 10 := by rw [List.length_map]; omega
  have nmz : ∀ y ∈ vs.map (·.nm), isNm y = true ∧ y ≠ "zx" := fun y hy => ⟨nmv y hy, fun z => zx (z ▸ hy)⟩
  -- what is given as services
  refine ⟨fun σ H' => ∃ gv : V, σ = [some (.ref a), some (.ref wd), some (.int (0 + (i0 : Int))), some (.ref b), some (.int (0 + (i1 : Int))), some (.ref p), some (.ref D1), v7, some (.ref sv), some (.ref bd), v10, v11, some gv, v13, v14, v15] ∧ Gr b H13 H' ∧ (b0 = true → ∀ H'', Gr b H' H'' → SvcsV K T.C_Service H'' gv false) ∧ (b0 = false → gv = .ref sv), ?_, ?_⟩
  · refine ⟨_, rfl, bd, _, 0, _, rfl, rfl, SqL.of hb13, atI_nat (j := 0) rfl, _, rfl, ?_⟩
    have r13 := gr_self g013
    cases b0 with
    | true =>
      refine ite2 (fun _ => ?_) (fun z => absurd rfl z)
      exact ⟨_, rfl, _, rfl, _, rfl, b, sv, D1, 0, xs2, _, vs.map (·.nm), rfl, r13, asv, prx, x20, by omega, aD1, nn, nl10, DB.nd, nmz, fun _ v H' g hv => ⟨v, rfl, g, fun _ => hv, fun z => nomatch z⟩, fun z => absurd rfl z⟩
    | false =>
      refine ite2 (fun z => nomatch z) (fun _ => ?_)
      exact ⟨_, rfl, .ref sv, rfl, r13, fun z => (nomatch z), fun _ => rfl⟩
  rintro σ H14 ⟨gv, rfl, g14, gv1, gv0⟩
  -- what is given as roots
  refine ⟨fun σ H' => ∃ rv : V, σ = [some (.ref a), some (.ref wd), some (.int (0 + (i0 : Int))), some (.ref b), some (.int (0 + (i1 : Int))), some (.ref p), some (.ref D1), v7, some (.ref sv), some (.ref bd), v10, v11, some gv, some rv, v14, v15] ∧ Gr b H14 H' ∧ (b4 = true → ∀ H'', Gr b H' H'' → RtOdd K H'' (vs.map (·.nm)) rv) ∧ (b4 = false → rv = .ref rl), ?_, ?_⟩
  · have hb14 := g14.keep _ _ bdb hb13
    obtain ⟨bwx, bsx, bcx, hbx⟩ := g013.box
    have g014 := g013.trans g14
    refine ⟨_, rfl, bd, _, 4, _, rfl, rfl, SqL.of hb14, atI_nat (j := 4) rfl, _, rfl, ?_⟩
    have r14 := gr_self g014
    cases b4 with
    | true =>
      refine ite2 (fun _ => ?_) (fun z => absurd rfl z)
      exact ⟨_, rfl, _, rfl, _, rfl, b, sv, D1, 4, xs2, _, vs.map (·.nm), rfl, r14, asv.gr g14, paired_imp' (fun _ _ z => SvcRef.kl z (KL.of_gr hbx g14)) prx, x20, by omega, aD1.gr g14, nn, nl10, DB.nd, nmz, fun z => absurd z (by decide), fun _ v H' g hv => ⟨v, rfl, g, fun _ => hv, fun z => nomatch z⟩⟩
    | false =>
      refine ite2 (fun z => nomatch z) (fun _ => ?_)
      exact ⟨_, rfl, p, _, rfl, getp H14 "roots" (.ref rl) (ap13.gr g14) rfl, .ref rl, rfl, r14, fun z => (nomatch z), fun _ => rfl⟩
  rintro σ H15 ⟨rv, rfl, g15, rv1, rv0⟩
  have g1315 := g14.trans g15
  have g015 := g013.trans g1315
  -- what is due
  have wd15 : H15 wd = some (.lst (BADW.map V.str)) := g015.keep _ _ wdb wdB
  have hb15 : H15 bd = some (.lst ([b0, b1, b2, b3, b4].map V.bl)) := g1315.keep _ _ bdb hb13
  refine ⟨_, rfl, _, rfl, wd, bd, _, _, rfl, SqL.of wd15, SqL.of hb15, fun D hD => lc_it (walk_zip (xs := BADW.map V.str) (ys := ([b0, b1, b2, b3, b4] : List Bool).map V.bl) (n := 5) rfl)
    (fun i H' => Same H15 H' ∧ H' D = some (.lst ((((BADW.zip [b0, b1, b2, b3, b4]).take i).filter (·.2)).map fun z => V.str z.1))) ⟨same_upd hD _, upd_same⟩ (fun i H' _ h => ⟨SqL.of (h.1 _ _ wd15), SqL.of (h.1 _ _ hb15)⟩) ?_ ?_⟩
  · rintro i x H16 H17 hi ⟨s16, hD16⟩ ⟨tp, x1, x2, rfl, htp, rfl, hx1, hx2⟩
    have hx1 : (BADW.map V.str)[i]? = some x1 := hx1
    have hx2 : (([b0, b1, b2, b3, b4] : List Bool).map V.bl)[i]? = some x2 := hx2
    rw [List.getElem?_map] at hx1 hx2
    obtain ⟨w', hw', rfl⟩ := Option.map_eq_some_iff.mp hx1
    obtain ⟨bb, hbb, rfl⟩ := Option.map_eq_some_iff.mp hx2
    have hz : (BADW.zip [b0, b1, b2, b3, b4])[i]? = some (w', bb) := List.getElem?_zip_eq_some.mpr ⟨hw', hbb⟩
    have st := same_upd htp (.tup [V.str w', V.bl bb])
    have hDt := st _ _ hD16
    have l5 : ((((BADW.zip [b0, b1, b2, b3, b4]).take i).filter (·.2)).map fun z => V.str z.1).length ≤ 5 := by
      rw [List.length_map]
      refine Nat.le_trans (List.length_filter_le _ _) ?_
      rw [List.length_take]
      exact Nat.min_le_right _ _
    refine ⟨tp, _, rfl, SqT.of upd_same, rfl, _, _, rfl, _, _, rfl, rfl, rfl, _, rfl, _, rfl, ?_⟩
    refine ite2 (fun c => ?_) (fun c => ?_)
    · refine ⟨_, rfl, _, hDt, small1000 (by omega), fun c' o e => ?_, ?_⟩
      · rw [upd_ne (ne_of_none e hD)]
        exact st _ _ (s16 _ _ e)
      · rw [upd_same, List.take_add_one, hz, List.filter_append, List.map_append]
        have e : bb = true := c
        rw [e]
        rfl
    · refine ⟨s16.trans st, ?_⟩
      rw [hDt, List.take_add_one, hz, List.filter_append, List.map_append]
      have e : bb = false := by simpa using c
      rw [e]
      exact congrArg (fun z => some (HO.lst z)) (List.append_nil _).symm
  rintro H16 ⟨s16, hD16⟩
  have hD16 : H16 D = some (.lst (((BADW.zip [b0, b1, b2, b3, b4]).filter (·.2)).map fun z => V.str z.1)) := hD16
  have g1516 := gr_of_same g015 s16
  have g1316 := g1315.trans g1516
  have g016 := g015.trans g1516
  obtain ⟨bwx, bsx, bcx, hbx⟩ := g013.box
  obtain ⟨ro, hr, hl, r1, r0'⟩ : ∃ ro : Option (List Str), SomeV K H16 rv ro.isSome ∧ (∀ l, ro = some l → ∃ ra, rv = .ref ra ∧ SqA K H16 ra (l.map V.str) ∧ l.length ≤ 100) ∧ (b4 = true → wrRo (vs.map (·.nm)) ro = some ("roots" : Str)) ∧ (b4 = false → wrRo (vs.map (·.nm)) ro = none) := by
    cases hb4 : b4 with
    | true =>
      rcases rv1 hb4 H16 g1516 with h | ⟨ra, e, h1, h2⟩
      · exact ⟨none, h, fun l z => (nomatch z), fun _ => rfl, fun z => (nomatch z)⟩
      · exact ⟨some (vs.map (·.nm) ++ [("zx" : Str)]), h2, fun l z => by cases z; exact ⟨ra, e, h1, by rw [List.length_append, List.length_singleton]; omega⟩, fun _ => wrRo_out zx, fun z => (nomatch z)⟩
    | false =>
      have rS2 : SqA K H16 rl (roots.map V.str) := .inl (arl13.gr g1316).l
      exact ⟨some roots, by rw [rv0 hb4]; exact some_strs rS2 rnm rnd r0 rlen, fun l z => by cases z; exact ⟨rl, rv0 hb4, rS2, rlen⟩, fun z => (nomatch z), fun _ => wrRo_in DB.rt.sub⟩
  have n0in : n0 ∈ vs.map (·.nm) := by rw [en]; exact List.mem_cons_self
  have gt := topS_good (nmv n0 n0in)
  have vs2g : ∀ v ∈ (if b1 then vs' ++ [topS n0] else vs'), v.good ∧ v.rows.length ≤ 5 := fun v hv => by
    cases b1 with
    | true =>
      rw [if_pos rfl] at hv
      rcases List.mem_append.mp hv with z | z
      · exact ⟨ch.good v z, ch.r5 v z⟩
      · rw [List.mem_singleton.mp z]; exact ⟨gt, Nat.zero_le _⟩
    | false =>
      rw [if_neg Bool.false_ne_true] at hv
      exact ⟨ch.good v hv, ch.r5 v hv⟩
  have A : BkArgs T.toTxBook H16 gv rv (!b0) ro.isSome (if b1 then vs' ++ [topS n0] else vs') ro := by
    cases hb0 : b0 with
    | true => exact args_no T.toTxBook (gv1 hb0 H16 (g15.trans g1516)) hr hl
    | false =>
      rw [gv0 hb0]
      exact args_yes T.toTxBook (.inl (asv.gr g1316).l) (paired_imp' (fun _ _ z => SvcRef.kl z (KL.of_gr hbx g1316)) prx) lx.2 (by omega) (fun v hv => (vs2g v hv).1) (fun v hv => (vs2g v hv).2) hr hl
  have wdue := word_due (b0 := b0) (b1 := b1) (n0 := n0) ch DB.nd n0in zx r1 r0'
  refine ⟨_, rfl, _, rfl, gv, rv, !b0, ro.isSome, _, ro, rfl, A, fun H17 s17 => ?_⟩
  rw [wdue]
  have hD17 := s17 _ _ hD16
  have l5 : (((BADW.zip [b0, b1, b2, b3, b4]).filter (·.2)).map fun z => V.str z.1).length ≤ 5 := by
    rw [List.length_map]
    exact List.length_filter_le _ _
  refine ⟨_, rfl, by show 1 ≤ sizeLine; decide, fun c1 hc1 => ?_⟩
  have z1 := same_upd hc1 (.lst [.non])
  refine ⟨D, c1, _, [.non], rfl, rfl, z1 _ _ hD17, upd_same, Nat.le_trans (Nat.add_le_add_right l5 _) (by show 5 + 1 ≤ sizeLine; decide), fun c2 hc2 => ?_⟩
  have z2 := same_upd hc2 (.lst ((((BADW.zip [b0, b1, b2, b3, b4]).filter (·.2)).map fun z => V.str z.1) ++ [V.non]))
  refine ⟨c2, _, 0, _, rfl, rfl, SqL.of upd_same, atI_nat (j := 0) (due_head _), scal_opt _ _, _, rfl, ite2 (fun c => absurd c (ne_same _)) (fun _ => ?_)⟩
  exact ⟨_, _, _, _, _, _, _, _, _, _, _, _, rfl, g016.trans (gr_of_same g016 ((s17.trans z1).trans z2))⟩
end
end My

/-! ## The end: what the top has written, the theorem -/
namespace My
open PySem L2
theorem kit_yes {K : PySem.W.Frag} {t : Value} {C : Addr} (h1 : PySem.W.isClsIn K C = true) (h2 : PySem.W.typeIn K (.ref C) = some (.type "type")) (h3 : PySem.W.subIn K t (.ref C) = some true) : PySem.W.kitOne K t (.ref C) = some true := by
  have e : ((PySem.W.clsIn K C).isSome && PySem.W.typeIn K (.ref C) == some (.type "type")) = true := by
    have h1' : (PySem.W.clsIn K C).isSome = true := h1
    rw [h1', h2] <;> rfl
  unfold PySem.W.kitOne
  split
  · rfl
  · show (if ((PySem.W.clsIn K C).isSome && PySem.W.typeIn K (.ref C) == some (.type "type")) = true then PySem.W.subIn K t (.ref C) else none) = some true
    rw [if_pos e]
    exact h3
theorem kit_no {K : PySem.W.Frag} {A C : Addr} {b : Bool} (h1 : PySem.W.isClsIn K C = true) (h2 : PySem.W.typeIn K (.ref C) = some (.type "type")) (h3 : PySem.W.subIn K (.ref A) (.ref C) = some b) (n : A ≠ C) : PySem.W.kitOne K (.ref A) (.ref C) = some b := by
  have e : ((PySem.W.clsIn K C).isSome && PySem.W.typeIn K (.ref C) == some (.type "type")) = true := by
    have h1' : (PySem.W.clsIn K C).isSome = true := h1
    rw [h1', h2] <;> rfl
  unfold PySem.W.kitOne
  rw [if_neg (fun z => n (by have z2 := beq_iff_eq.mp z; cases z2; rfl))]
  show (if ((PySem.W.clsIn K C).isSome && PySem.W.typeIn K (.ref C) == some (.type "type")) = true then PySem.W.subIn K (.ref A) (.ref C) else none) = some b
  rw [if_pos e]
  exact h3
theorem kit_tyno {K : PySem.W.Frag} {A : String} {C : Addr} {b : Bool} (h1 : PySem.W.isClsIn K C = true) (h2 : PySem.W.typeIn K (.ref C) = some (.type "type")) (h3 : PySem.W.subIn K (.type A) (.ref C) = some b) : PySem.W.kitOne K (.type A) (.ref C) = some b := by
  have e : ((PySem.W.clsIn K C).isSome && PySem.W.typeIn K (.ref C) == some (.type "type")) = true := by
    have h1' : (PySem.W.clsIn K C).isSome = true := h1
    rw [h1', h2] <;> rfl
  unfold PySem.W.kitOne
  rw [if_neg (fun z => by have z2 := beq_iff_eq.mp z; cases z2)]
  show (if ((PySem.W.clsIn K C).isSome && PySem.W.typeIn K (.ref C) == some (.type "type")) = true then PySem.W.subIn K (.type A) (.ref C) else none) = some b
  rw [if_pos e]
  exact h3
theorem kit_reflist {K : PySem.W.Frag} {A : Addr} {b : Bool} (h3 : PySem.W.subIn K (.ref A) (.type "list") = some b) : PySem.W.kitOne K (.ref A) (.type "list") = some b := by
  unfold PySem.W.kitOne
  rw [if_neg (fun z => by have z2 := beq_iff_eq.mp z; cases z2)]
  unfold PySem.W.kitCls
  first | exact h3 | (simp; exact h3)
theorem kit_reftuple {K : PySem.W.Frag} {A : Addr} {b : Bool} (h3 : PySem.W.subIn K (.ref A) (.type "tuple") = some b) : PySem.W.kitOne K (.ref A) (.type "tuple") = some b := by
  unfold PySem.W.kitOne
  rw [if_neg (fun z => by have z2 := beq_iff_eq.mp z; cases z2)]
  unfold PySem.W.kitCls
  first | exact h3 | (simp; exact h3)
theorem exm_mk {K : PySem.W.Frag} {t : Value} {C : Addr} {b : Bool} (h0 : PySem.W.subIn K (.ref C) (.type "BaseException") = some true) (h1 : PySem.W.isClsIn K C = true) (h2 : PySem.W.typeIn K (.ref C) = some (.type "type")) (h3 : PySem.W.subIn K t (.ref C) = some b) : PySem.W.exmOne K t (.ref C) = some b := by
  have e : ((PySem.W.clsIn K C).isSome && PySem.W.typeIn K (.ref C) == some (.type "type")) = true := by
    have h1' : (PySem.W.clsIn K C).isSome = true := h1
    rw [h1', h2] <;> rfl
  have e0 : (PySem.W.subIn K (.ref C) (.type "BaseException") == some true) = true := by rw [h0] <;> rfl
  unfold PySem.W.exmOne
  rw [if_pos e0]
  show (if ((PySem.W.clsIn K C).isSome && PySem.W.typeIn K (.ref C) == some (.type "type")) = true then PySem.W.subIn K t (.ref C) else none) = some b
  rw [if_pos e]
  exact h3
theorem ve_one {C : Addr} : PySem.HandSPX.refsVE [.ref C, .type "ValueError", .type "Exception", .type "BaseException", .type "object"] = true := by
  show PySem.HandSPX.refsVE [.type "ValueError", .type "Exception", .type "BaseException", .type "object"] = true
  decide +kernel
theorem all_mk {P : Program} {w : World} {K : PySem.W.Frag} {h : Heap} {mg : Str → Option Value} {fa : Addr} (X : K.In h) (G : h.Ns mainGlobals mg) (hfa : mg "law" = some (.ref fa))
    {oc_take kV_take dc_take pm_take cd_take ct_take oc_box kV_box dc_box pm_box cd_box ct_box oc_pick kV_pick dc_pick pm_pick cd_pick ct_pick oc_mixed kV_mixed dc_mixed pm_mixed cd_mixed ct_mixed oc_names kV_names dc_names pm_names cd_names ct_names oc_some kV_some dc_some pm_some cd_some ct_some oc_words kV_words dc_words pm_words cd_words ct_words oc_drawn_row kV_drawn_row dc_drawn_row pm_drawn_row cd_drawn_row ct_drawn_row oc_any_service kV_any_service dc_any_service pm_any_service cd_any_service ct_any_service oc_any_book kV_any_book dc_any_book pm_any_book cd_any_book ct_any_book oc_is_name kV_is_name dc_is_name pm_is_name cd_is_name ct_is_name oc_is_sequence kV_is_sequence dc_is_sequence pm_is_sequence cd_is_sequence ct_is_sequence oc_are_names kV_are_names dc_are_names pm_are_names cd_are_names ct_are_names oc_are_some_names kV_are_some_names dc_are_some_names pm_are_some_names cd_are_some_names ct_are_some_names oc_is_name_or kV_is_name_or dc_is_name_or pm_is_name_or cd_is_name_or ct_is_name_or oc_InvalidRow_init kV_InvalidRow_init dc_InvalidRow_init pm_InvalidRow_init cd_InvalidRow_init ct_InvalidRow_init oc_Begin_init kV_Begin_init dc_Begin_init pm_Begin_init cd_Begin_init ct_Begin_init oc_Send_init kV_Send_init dc_Send_init pm_Send_init cd_Send_init ct_Send_init oc_Back_init kV_Back_init dc_Back_init pm_Back_init cd_Back_init ct_Back_init oc_End_init kV_End_init dc_End_init pm_End_init cd_End_init ct_End_init oc_ascending kV_ascending dc_ascending pm_ascending cd_ascending ct_ascending oc_are_rows kV_are_rows dc_are_rows pm_are_rows cd_are_rows ct_are_rows oc_InvalidService_init kV_InvalidService_init dc_InvalidService_init pm_InvalidService_init cd_InvalidService_init ct_InvalidService_init oc_row kV_row dc_row pm_row cd_row ct_row oc_service_of kV_service_of dc_service_of pm_service_of cd_service_of ct_service_of oc_are_some_services kV_are_some_services dc_are_some_services pm_are_some_services cd_are_some_services ct_are_some_services oc_all_among kV_all_among dc_all_among pm_all_among cd_all_among ct_all_among oc_InvalidBook_init kV_InvalidBook_init dc_InvalidBook_init pm_InvalidBook_init cd_InvalidBook_init ct_InvalidBook_init oc_Book_init kV_Book_init dc_Book_init pm_Book_init cd_Book_init ct_Book_init oc_word kV_word dc_word pm_word cd_word ct_word oc_odd kV_odd dc_odd pm_odd cd_odd ct_odd oc_law kV_law dc_law pm_law cd_law ct_law oc_Service_init kV_Service_init dc_Service_init pm_Service_init cd_Service_init ct_Service_init : Value}
    {od_take an_take od_box an_box od_pick an_pick od_mixed an_mixed od_names an_names od_some an_some od_words an_words od_drawn_row an_drawn_row od_any_service an_any_service od_any_book an_any_book od_is_name an_is_name od_is_sequence an_is_sequence od_are_names an_are_names od_are_some_names an_are_some_names od_is_name_or an_is_name_or od_InvalidRow_init an_InvalidRow_init od_Begin_init an_Begin_init od_Send_init an_Send_init od_Back_init an_Back_init od_End_init an_End_init od_ascending an_ascending od_are_rows an_are_rows od_InvalidService_init an_InvalidService_init od_row an_row od_service_of an_service_of od_are_some_services an_are_some_services od_all_among an_all_among od_InvalidBook_init an_InvalidBook_init od_Book_init an_Book_init od_word an_word od_odd an_odd od_law an_law dt_aNO dd_C_InvalidRow dd_C_InvalidService dt_e_waits dt_e_leaves dt_e_rows od_Service_init an_Service_init dtD_Service_init dd_C_InvalidBook : Option Addr}
    {sl_take sl_box sl_pick sl_mixed sl_names sl_some sl_words sl_drawn_row sl_any_service sl_any_book sl_is_name sl_is_sequence sl_are_names sl_are_some_names sl_is_name_or sl_InvalidRow_init sl_Begin_init sl_Send_init sl_Back_init sl_End_init sl_ascending sl_are_rows sl_InvalidService_init sl_row sl_service_of sl_are_some_services sl_all_among sl_InvalidBook_init sl_Book_init sl_word sl_odd sl_law so_aNO so_e_waits so_e_leaves so_e_rows sl_Service_init soD_Service_init : Array (Option Value)}
    {f_take f_box f_pick f_mixed f_names f_some f_words f_drawn_row f_any_service f_any_book aNO f_is_name f_is_sequence f_are_names f_are_some_names f_is_name_or C_InvalidRow N_C_InvalidRow bC_C_InvalidRow f_InvalidRow_init C_Begin f_Begin_init C_Send f_Send_init C_Back f_Back_init C_End f_End_init f_ascending f_are_rows C_Row C_InvalidService N_C_InvalidService bC_C_InvalidService f_InvalidService_init C_Service f_Service_init e_waits e_leaves e_rows dT_Service_init f_row f_service_of f_are_some_services f_all_among C_InvalidBook N_C_InvalidBook bC_C_InvalidBook f_InvalidBook_init C_Book f_Book_init C_TraceError f_word f_odd f_law : Addr}
    {letT w0_aNO w1_aNO w2_aNO w3_aNO w4_aNO w5_aNO w6_aNO w7_aNO w8_aNO w9_aNO : Tok}
    {sz_aNO sz_e_waits sz_e_leaves sz_e_rows szD_Service_init : Nat}
    {nm_C_InvalidRow qn_C_InvalidRow nm_C_InvalidService qn_C_InvalidService nm_C_InvalidBook qn_C_InvalidBook : Str}
    {bs_C_InvalidRow sb_C_InvalidRow bs_C_InvalidService sb_C_InvalidService bs_C_InvalidBook sb_C_InvalidBook : List Value}
    {sn_C_InvalidRow sn_C_InvalidService sn_C_InvalidBook : List Str}
    {ab_C_InvalidRow ab_C_InvalidService ab_C_InvalidBook : Bool}
    {co_C_InvalidRow co_C_InvalidService co_C_InvalidBook : Option Bool}
    {m0_C_InvalidRow m1_C_InvalidRow m2_C_InvalidRow m3_C_InvalidRow m5_C_InvalidRow m0_C_InvalidService m1_C_InvalidService m2_C_InvalidService m3_C_InvalidService m5_C_InvalidService m0_C_InvalidBook m1_C_InvalidBook m2_C_InvalidBook m3_C_InvalidBook m5_C_InvalidBook : Option Value}
    (a_law : PySem.W.nsIn K mainGlobals "law" = some (some (.ref f_law)))
    (a__law_take : PySem.W.nsIn K mainGlobals "_law_take" = some (some (.ref f_take)))
    (a__law_box : PySem.W.nsIn K mainGlobals "_law_box" = some (some (.ref f_box)))
    (a__law_pick : PySem.W.nsIn K mainGlobals "_law_pick" = some (some (.ref f_pick)))
    (a__law_mixed : PySem.W.nsIn K mainGlobals "_law_mixed" = some (some (.ref f_mixed)))
    (a__law_names : PySem.W.nsIn K mainGlobals "_law_names" = some (some (.ref f_names)))
    (a__law_some : PySem.W.nsIn K mainGlobals "_law_some" = some (some (.ref f_some)))
    (a__law_words : PySem.W.nsIn K mainGlobals "_law_words" = some (some (.ref f_words)))
    (a__law_drawn_row : PySem.W.nsIn K mainGlobals "_law_drawn_row" = some (some (.ref f_drawn_row)))
    (a__law_any_service : PySem.W.nsIn K mainGlobals "_law_any_service" = some (some (.ref f_any_service)))
    (a__law_any_book : PySem.W.nsIn K mainGlobals "_law_any_book" = some (some (.ref f_any_book)))
    (a_LETTERS : PySem.W.nsIn K mainGlobals "LETTERS" = some (some (.str ABC letT)))
    (a_NO_NAMES : PySem.W.nsIn K mainGlobals "NO_NAMES" = some (some (.ref aNO)))
    (a_is_name : PySem.W.nsIn K mainGlobals "is_name" = some (some (.ref f_is_name)))
    (a_is_sequence : PySem.W.nsIn K mainGlobals "is_sequence" = some (some (.ref f_is_sequence)))
    (a_are_names : PySem.W.nsIn K mainGlobals "are_names" = some (some (.ref f_are_names)))
    (a_are_some_names : PySem.W.nsIn K mainGlobals "are_some_names" = some (some (.ref f_are_some_names)))
    (a_is_name_or : PySem.W.nsIn K mainGlobals "is_name_or" = some (some (.ref f_is_name_or)))
    (a_InvalidRow : PySem.W.nsIn K mainGlobals "InvalidRow" = some (some (.ref C_InvalidRow)))
    (a_Begin : PySem.W.nsIn K mainGlobals "Begin" = some (some (.ref C_Begin)))
    (a_Send : PySem.W.nsIn K mainGlobals "Send" = some (some (.ref C_Send)))
    (a_Back : PySem.W.nsIn K mainGlobals "Back" = some (some (.ref C_Back)))
    (a_End : PySem.W.nsIn K mainGlobals "End" = some (some (.ref C_End)))
    (a_ascending : PySem.W.nsIn K mainGlobals "ascending" = some (some (.ref f_ascending)))
    (a_are_rows : PySem.W.nsIn K mainGlobals "are_rows" = some (some (.ref f_are_rows)))
    (a_Row : PySem.W.nsIn K mainGlobals "Row" = some (some (.ref C_Row)))
    (a_InvalidService : PySem.W.nsIn K mainGlobals "InvalidService" = some (some (.ref C_InvalidService)))
    (a_Service : PySem.W.nsIn K mainGlobals "Service" = some (some (.ref C_Service)))
    (a__law_row : PySem.W.nsIn K mainGlobals "_law_row" = some (some (.ref f_row)))
    (a__law_service_of : PySem.W.nsIn K mainGlobals "_law_service_of" = some (some (.ref f_service_of)))
    (a_are_some_services : PySem.W.nsIn K mainGlobals "are_some_services" = some (some (.ref f_are_some_services)))
    (a_all_among : PySem.W.nsIn K mainGlobals "all_among" = some (some (.ref f_all_among)))
    (a_InvalidBook : PySem.W.nsIn K mainGlobals "InvalidBook" = some (some (.ref C_InvalidBook)))
    (a_Book : PySem.W.nsIn K mainGlobals "Book" = some (some (.ref C_Book)))
    (a_TraceError : PySem.W.nsIn K mainGlobals "TraceError" = some (some (.ref C_TraceError)))
    (a__law_word : PySem.W.nsIn K mainGlobals "_law_word" = some (some (.ref f_word)))
    (a__law_odd : PySem.W.nsIn K mainGlobals "_law_odd" = some (some (.ref f_odd)))
    (in_f_InvalidRow_init : PySem.W.findIn K (.ref C_InvalidRow) "__init__" = some (some (.ref f_InvalidRow_init)))
    (in_f_Begin_init : PySem.W.findIn K (.ref C_Begin) "__init__" = some (some (.ref f_Begin_init)))
    (in_f_Send_init : PySem.W.findIn K (.ref C_Send) "__init__" = some (some (.ref f_Send_init)))
    (in_f_Back_init : PySem.W.findIn K (.ref C_Back) "__init__" = some (some (.ref f_Back_init)))
    (in_f_End_init : PySem.W.findIn K (.ref C_End) "__init__" = some (some (.ref f_End_init)))
    (in_f_InvalidService_init : PySem.W.findIn K (.ref C_InvalidService) "__init__" = some (some (.ref f_InvalidService_init)))
    (in_f_Service_init : PySem.W.findIn K (.ref C_Service) "__init__" = some (some (.ref f_Service_init)))
    (in_f_InvalidBook_init : PySem.W.findIn K (.ref C_InvalidBook) "__init__" = some (some (.ref f_InvalidBook_init)))
    (in_f_Book_init : PySem.W.findIn K (.ref C_Book) "__init__" = some (some (.ref f_Book_init)))
    (l_take : K.lookup f_take = some ⟨oc_take, od_take, .func (PySem.W.fnOf "_law_take" "_law_take" (defArgs s_take) (defBody s_take) (defScope s_take) .none kV_take dc_take pm_take an_take cd_take ct_take), sl_take⟩)
    (l_box : K.lookup f_box = some ⟨oc_box, od_box, .func (PySem.W.fnOf "_law_box" "_law_box" (defArgs s_box) (defBody s_box) (defScope s_box) .none kV_box dc_box pm_box an_box cd_box ct_box), sl_box⟩)
    (l_pick : K.lookup f_pick = some ⟨oc_pick, od_pick, .func (PySem.W.fnOf "_law_pick" "_law_pick" (defArgs s_pick) (defBody s_pick) (defScope s_pick) .none kV_pick dc_pick pm_pick an_pick cd_pick ct_pick), sl_pick⟩)
    (l_mixed : K.lookup f_mixed = some ⟨oc_mixed, od_mixed, .func (PySem.W.fnOf "_law_mixed" "_law_mixed" (defArgs s_mixed) (defBody s_mixed) (defScope s_mixed) .none kV_mixed dc_mixed pm_mixed an_mixed cd_mixed ct_mixed), sl_mixed⟩)
    (l_names : K.lookup f_names = some ⟨oc_names, od_names, .func (PySem.W.fnOf "_law_names" "_law_names" (defArgs s_names) (defBody s_names) (defScope s_names) .none kV_names dc_names pm_names an_names cd_names ct_names), sl_names⟩)
    (l_some : K.lookup f_some = some ⟨oc_some, od_some, .func (PySem.W.fnOf "_law_some" "_law_some" (defArgs s_some) (defBody s_some) (defScope s_some) .none kV_some dc_some pm_some an_some cd_some ct_some), sl_some⟩)
    (l_words : K.lookup f_words = some ⟨oc_words, od_words, .func (PySem.W.fnOf "_law_words" "_law_words" (defArgs s_words) (defBody s_words) (defScope s_words) .none kV_words dc_words pm_words an_words cd_words ct_words), sl_words⟩)
    (l_drawn_row : K.lookup f_drawn_row = some ⟨oc_drawn_row, od_drawn_row, .func (PySem.W.fnOf "_law_drawn_row" "_law_drawn_row" (defArgs s_drawn_row) (defBody s_drawn_row) (defScope s_drawn_row) .none kV_drawn_row dc_drawn_row pm_drawn_row an_drawn_row cd_drawn_row ct_drawn_row), sl_drawn_row⟩)
    (l_any_service : K.lookup f_any_service = some ⟨oc_any_service, od_any_service, .func (PySem.W.fnOf "_law_any_service" "_law_any_service" (defArgs s_any_service) (defBody s_any_service) (defScope s_any_service) .none kV_any_service dc_any_service pm_any_service an_any_service cd_any_service ct_any_service), sl_any_service⟩)
    (l_any_book : K.lookup f_any_book = some ⟨oc_any_book, od_any_book, .func (PySem.W.fnOf "_law_any_book" "_law_any_book" (defArgs s_any_book) (defBody s_any_book) (defScope s_any_book) .none kV_any_book dc_any_book pm_any_book an_any_book cd_any_book ct_any_book), sl_any_book⟩)
    (l_is_name : K.lookup f_is_name = some ⟨oc_is_name, od_is_name, .func (PySem.W.fnOf "is_name" "is_name" (defArgs s_is_name) (defBody s_is_name) (defScope s_is_name) .none kV_is_name dc_is_name pm_is_name an_is_name cd_is_name ct_is_name), sl_is_name⟩)
    (l_is_sequence : K.lookup f_is_sequence = some ⟨oc_is_sequence, od_is_sequence, .func (PySem.W.fnOf "is_sequence" "is_sequence" (defArgs s_is_sequence) (defBody s_is_sequence) (defScope s_is_sequence) .none kV_is_sequence dc_is_sequence pm_is_sequence an_is_sequence cd_is_sequence ct_is_sequence), sl_is_sequence⟩)
    (l_are_names : K.lookup f_are_names = some ⟨oc_are_names, od_are_names, .func (PySem.W.fnOf "are_names" "are_names" (defArgs s_are_names) (defBody s_are_names) (defScope s_are_names) .none kV_are_names dc_are_names pm_are_names an_are_names cd_are_names ct_are_names), sl_are_names⟩)
    (l_are_some_names : K.lookup f_are_some_names = some ⟨oc_are_some_names, od_are_some_names, .func (PySem.W.fnOf "are_some_names" "are_some_names" (defArgs s_are_some_names) (defBody s_are_some_names) (defScope s_are_some_names) .none kV_are_some_names dc_are_some_names pm_are_some_names an_are_some_names cd_are_some_names ct_are_some_names), sl_are_some_names⟩)
    (l_is_name_or : K.lookup f_is_name_or = some ⟨oc_is_name_or, od_is_name_or, .func (PySem.W.fnOf "is_name_or" "is_name_or" (defArgs s_is_name_or) (defBody s_is_name_or) (defScope s_is_name_or) .none kV_is_name_or dc_is_name_or pm_is_name_or an_is_name_or cd_is_name_or ct_is_name_or), sl_is_name_or⟩)
    (l_InvalidRow_init : K.lookup f_InvalidRow_init = some ⟨oc_InvalidRow_init, od_InvalidRow_init, .func (PySem.W.fnOf "__init__" "InvalidRow.__init__" (defArgs s_InvalidRow_init) (defBody s_InvalidRow_init) (defScope s_InvalidRow_init) .none kV_InvalidRow_init dc_InvalidRow_init pm_InvalidRow_init an_InvalidRow_init cd_InvalidRow_init ct_InvalidRow_init), sl_InvalidRow_init⟩)
    (l_Begin_init : K.lookup f_Begin_init = some ⟨oc_Begin_init, od_Begin_init, .func (PySem.W.fnOf "__init__" "Begin.__init__" (defArgs s_Begin_init) (defBody s_Begin_init) (defScope s_Begin_init) .none kV_Begin_init dc_Begin_init pm_Begin_init an_Begin_init cd_Begin_init ct_Begin_init), sl_Begin_init⟩)
    (l_Send_init : K.lookup f_Send_init = some ⟨oc_Send_init, od_Send_init, .func (PySem.W.fnOf "__init__" "Send.__init__" (defArgs s_Send_init) (defBody s_Send_init) (defScope s_Send_init) .none kV_Send_init dc_Send_init pm_Send_init an_Send_init cd_Send_init ct_Send_init), sl_Send_init⟩)
    (l_Back_init : K.lookup f_Back_init = some ⟨oc_Back_init, od_Back_init, .func (PySem.W.fnOf "__init__" "Back.__init__" (defArgs s_Back_init) (defBody s_Back_init) (defScope s_Back_init) .none kV_Back_init dc_Back_init pm_Back_init an_Back_init cd_Back_init ct_Back_init), sl_Back_init⟩)
    (l_End_init : K.lookup f_End_init = some ⟨oc_End_init, od_End_init, .func (PySem.W.fnOf "__init__" "End.__init__" (defArgs s_End_init) (defBody s_End_init) (defScope s_End_init) .none kV_End_init dc_End_init pm_End_init an_End_init cd_End_init ct_End_init), sl_End_init⟩)
    (l_ascending : K.lookup f_ascending = some ⟨oc_ascending, od_ascending, .func (PySem.W.fnOf "ascending" "ascending" (defArgs s_ascending) (defBody s_ascending) (defScope s_ascending) .none kV_ascending dc_ascending pm_ascending an_ascending cd_ascending ct_ascending), sl_ascending⟩)
    (l_are_rows : K.lookup f_are_rows = some ⟨oc_are_rows, od_are_rows, .func (PySem.W.fnOf "are_rows" "are_rows" (defArgs s_are_rows) (defBody s_are_rows) (defScope s_are_rows) .none kV_are_rows dc_are_rows pm_are_rows an_are_rows cd_are_rows ct_are_rows), sl_are_rows⟩)
    (l_InvalidService_init : K.lookup f_InvalidService_init = some ⟨oc_InvalidService_init, od_InvalidService_init, .func (PySem.W.fnOf "__init__" "InvalidService.__init__" (defArgs s_InvalidService_init) (defBody s_InvalidService_init) (defScope s_InvalidService_init) .none kV_InvalidService_init dc_InvalidService_init pm_InvalidService_init an_InvalidService_init cd_InvalidService_init ct_InvalidService_init), sl_InvalidService_init⟩)
    (l_row : K.lookup f_row = some ⟨oc_row, od_row, .func (PySem.W.fnOf "_law_row" "_law_row" (defArgs s_row) (defBody s_row) (defScope s_row) .none kV_row dc_row pm_row an_row cd_row ct_row), sl_row⟩)
    (l_service_of : K.lookup f_service_of = some ⟨oc_service_of, od_service_of, .func (PySem.W.fnOf "_law_service_of" "_law_service_of" (defArgs s_service_of) (defBody s_service_of) (defScope s_service_of) .none kV_service_of dc_service_of pm_service_of an_service_of cd_service_of ct_service_of), sl_service_of⟩)
    (l_are_some_services : K.lookup f_are_some_services = some ⟨oc_are_some_services, od_are_some_services, .func (PySem.W.fnOf "are_some_services" "are_some_services" (defArgs s_are_some_services) (defBody s_are_some_services) (defScope s_are_some_services) .none kV_are_some_services dc_are_some_services pm_are_some_services an_are_some_services cd_are_some_services ct_are_some_services), sl_are_some_services⟩)
    (l_all_among : K.lookup f_all_among = some ⟨oc_all_among, od_all_among, .func (PySem.W.fnOf "all_among" "all_among" (defArgs s_all_among) (defBody s_all_among) (defScope s_all_among) .none kV_all_among dc_all_among pm_all_among an_all_among cd_all_among ct_all_among), sl_all_among⟩)
    (l_InvalidBook_init : K.lookup f_InvalidBook_init = some ⟨oc_InvalidBook_init, od_InvalidBook_init, .func (PySem.W.fnOf "__init__" "InvalidBook.__init__" (defArgs s_InvalidBook_init) (defBody s_InvalidBook_init) (defScope s_InvalidBook_init) .none kV_InvalidBook_init dc_InvalidBook_init pm_InvalidBook_init an_InvalidBook_init cd_InvalidBook_init ct_InvalidBook_init), sl_InvalidBook_init⟩)
    (l_Book_init : K.lookup f_Book_init = some ⟨oc_Book_init, od_Book_init, .func (PySem.W.fnOf "__init__" "Book.__init__" (defArgs s_Book_init) (defBody s_Book_init) (defScope s_Book_init) .none kV_Book_init dc_Book_init pm_Book_init an_Book_init cd_Book_init ct_Book_init), sl_Book_init⟩)
    (l_word : K.lookup f_word = some ⟨oc_word, od_word, .func (PySem.W.fnOf "_law_word" "_law_word" (defArgs s_word) (defBody s_word) (defScope s_word) .none kV_word dc_word pm_word an_word cd_word ct_word), sl_word⟩)
    (l_odd : K.lookup f_odd = some ⟨oc_odd, od_odd, .func (PySem.W.fnOf "_law_odd" "_law_odd" (defArgs s_odd) (defBody s_odd) (defScope s_odd) .none kV_odd dc_odd pm_odd an_odd cd_odd ct_odd), sl_odd⟩)
    (l_law : K.lookup f_law = some ⟨oc_law, od_law, .func (PySem.W.fnOf "law" "law" (defArgs s_law) (defBody s_law) (defScope s_law) .none kV_law dc_law pm_law an_law cd_law ct_law), sl_law⟩)
    (l_aNO : K.lookup aNO = some ⟨.type "tuple", dt_aNO, .seq #[.str "none" w0_aNO, .str "any" w1_aNO, .str "same" w2_aNO, .str "keep" w3_aNO, .str "drop" w4_aNO, .str "good" w5_aNO, .str "bad" w6_aNO, .str "old" w7_aNO, .str "new" w8_aNO, .str "both" w9_aNO] sz_aNO, so_aNO⟩)
    (xL_C_InvalidRow : K.lookup C_InvalidRow = some (excClassObj nm_C_InvalidRow qn_C_InvalidRow C_InvalidRow N_C_InvalidRow bs_C_InvalidRow [.ref bC_C_InvalidRow, .type "ValueError", .type "Exception", .type "BaseException", .type "object"] true sn_C_InvalidRow sb_C_InvalidRow ab_C_InvalidRow co_C_InvalidRow dd_C_InvalidRow m0_C_InvalidRow m1_C_InvalidRow m2_C_InvalidRow m3_C_InvalidRow m5_C_InvalidRow "ValueError.__new__"))
    (xL_C_InvalidService : K.lookup C_InvalidService = some (excClassObj nm_C_InvalidService qn_C_InvalidService C_InvalidService N_C_InvalidService bs_C_InvalidService [.ref bC_C_InvalidService, .type "ValueError", .type "Exception", .type "BaseException", .type "object"] true sn_C_InvalidService sb_C_InvalidService ab_C_InvalidService co_C_InvalidService dd_C_InvalidService m0_C_InvalidService m1_C_InvalidService m2_C_InvalidService m3_C_InvalidService m5_C_InvalidService "ValueError.__new__"))
    (l_Service_init : K.lookup f_Service_init = some ⟨oc_Service_init, od_Service_init, .func (PySem.W.fnOf "__init__" "Service.__init__" (defArgs s_Service_init) (defBody s_Service_init) (defScope s_Service_init) (.ref dT_Service_init) kV_Service_init dc_Service_init pm_Service_init an_Service_init cd_Service_init ct_Service_init), sl_Service_init⟩)
    (xL_C_InvalidBook : K.lookup C_InvalidBook = some (excClassObj nm_C_InvalidBook qn_C_InvalidBook C_InvalidBook N_C_InvalidBook bs_C_InvalidBook [.ref bC_C_InvalidBook, .type "ValueError", .type "Exception", .type "BaseException", .type "object"] true sn_C_InvalidBook sb_C_InvalidBook ab_C_InvalidBook co_C_InvalidBook dd_C_InvalidBook m0_C_InvalidBook m1_C_InvalidBook m2_C_InvalidBook m3_C_InvalidBook m5_C_InvalidBook "ValueError.__new__"))
    (dl_Service_init : K.lookup dT_Service_init = some ⟨.type "tuple", dtD_Service_init, .seq #[.ref e_waits, .ref e_leaves, .ref e_rows] szD_Service_init, soD_Service_init⟩)
    (l_e_waits : K.lookup e_waits = some ⟨.type "tuple", dt_e_waits, .seq #[] sz_e_waits, so_e_waits⟩)
    (l_e_leaves : K.lookup e_leaves = some ⟨.type "tuple", dt_e_leaves, .seq #[] sz_e_leaves, so_e_leaves⟩)
    (l_e_rows : K.lookup e_rows = some ⟨.type "tuple", dt_e_rows, .seq #[] sz_e_rows, so_e_rows⟩)
    (cc_take : PySem.W.codeIn K cd_take "_law_take" = true)
    (k_take : PySem.W.keepIn K (.ref f_take) = true)
    (cc_box : PySem.W.codeIn K cd_box "_law_box" = true)
    (k_box : PySem.W.keepIn K (.ref f_box) = true)
    (cc_pick : PySem.W.codeIn K cd_pick "_law_pick" = true)
    (k_pick : PySem.W.keepIn K (.ref f_pick) = true)
    (cc_mixed : PySem.W.codeIn K cd_mixed "_law_mixed" = true)
    (k_mixed : PySem.W.keepIn K (.ref f_mixed) = true)
    (cc_names : PySem.W.codeIn K cd_names "_law_names" = true)
    (k_names : PySem.W.keepIn K (.ref f_names) = true)
    (cc_some : PySem.W.codeIn K cd_some "_law_some" = true)
    (k_some : PySem.W.keepIn K (.ref f_some) = true)
    (cc_words : PySem.W.codeIn K cd_words "_law_words" = true)
    (k_words : PySem.W.keepIn K (.ref f_words) = true)
    (cc_drawn_row : PySem.W.codeIn K cd_drawn_row "_law_drawn_row" = true)
    (k_drawn_row : PySem.W.keepIn K (.ref f_drawn_row) = true)
    (cc_any_service : PySem.W.codeIn K cd_any_service "_law_any_service" = true)
    (k_any_service : PySem.W.keepIn K (.ref f_any_service) = true)
    (cc_any_book : PySem.W.codeIn K cd_any_book "_law_any_book" = true)
    (k_any_book : PySem.W.keepIn K (.ref f_any_book) = true)
    (cc_is_name : PySem.W.codeIn K cd_is_name "is_name" = true)
    (k_is_name : PySem.W.keepIn K (.ref f_is_name) = true)
    (cc_is_sequence : PySem.W.codeIn K cd_is_sequence "is_sequence" = true)
    (k_is_sequence : PySem.W.keepIn K (.ref f_is_sequence) = true)
    (cc_are_names : PySem.W.codeIn K cd_are_names "are_names" = true)
    (k_are_names : PySem.W.keepIn K (.ref f_are_names) = true)
    (cc_are_some_names : PySem.W.codeIn K cd_are_some_names "are_some_names" = true)
    (k_are_some_names : PySem.W.keepIn K (.ref f_are_some_names) = true)
    (cc_is_name_or : PySem.W.codeIn K cd_is_name_or "is_name_or" = true)
    (k_is_name_or : PySem.W.keepIn K (.ref f_is_name_or) = true)
    (cc_InvalidRow_init : PySem.W.codeIn K cd_InvalidRow_init "InvalidRow.__init__" = true)
    (k_InvalidRow_init : PySem.W.keepIn K (.ref f_InvalidRow_init) = true)
    (cc_Begin_init : PySem.W.codeIn K cd_Begin_init "Begin.__init__" = true)
    (k_Begin_init : PySem.W.keepIn K (.ref f_Begin_init) = true)
    (cc_Send_init : PySem.W.codeIn K cd_Send_init "Send.__init__" = true)
    (k_Send_init : PySem.W.keepIn K (.ref f_Send_init) = true)
    (cc_Back_init : PySem.W.codeIn K cd_Back_init "Back.__init__" = true)
    (k_Back_init : PySem.W.keepIn K (.ref f_Back_init) = true)
    (cc_End_init : PySem.W.codeIn K cd_End_init "End.__init__" = true)
    (k_End_init : PySem.W.keepIn K (.ref f_End_init) = true)
    (cc_ascending : PySem.W.codeIn K cd_ascending "ascending" = true)
    (k_ascending : PySem.W.keepIn K (.ref f_ascending) = true)
    (cc_are_rows : PySem.W.codeIn K cd_are_rows "are_rows" = true)
    (k_are_rows : PySem.W.keepIn K (.ref f_are_rows) = true)
    (cc_InvalidService_init : PySem.W.codeIn K cd_InvalidService_init "InvalidService.__init__" = true)
    (k_InvalidService_init : PySem.W.keepIn K (.ref f_InvalidService_init) = true)
    (cc_row : PySem.W.codeIn K cd_row "_law_row" = true)
    (k_row : PySem.W.keepIn K (.ref f_row) = true)
    (cc_service_of : PySem.W.codeIn K cd_service_of "_law_service_of" = true)
    (k_service_of : PySem.W.keepIn K (.ref f_service_of) = true)
    (cc_are_some_services : PySem.W.codeIn K cd_are_some_services "are_some_services" = true)
    (k_are_some_services : PySem.W.keepIn K (.ref f_are_some_services) = true)
    (cc_all_among : PySem.W.codeIn K cd_all_among "all_among" = true)
    (k_all_among : PySem.W.keepIn K (.ref f_all_among) = true)
    (cc_InvalidBook_init : PySem.W.codeIn K cd_InvalidBook_init "InvalidBook.__init__" = true)
    (k_InvalidBook_init : PySem.W.keepIn K (.ref f_InvalidBook_init) = true)
    (cc_Book_init : PySem.W.codeIn K cd_Book_init "Book.__init__" = true)
    (k_Book_init : PySem.W.keepIn K (.ref f_Book_init) = true)
    (cc_word : PySem.W.codeIn K cd_word "_law_word" = true)
    (k_word : PySem.W.keepIn K (.ref f_word) = true)
    (cc_odd : PySem.W.codeIn K cd_odd "_law_odd" = true)
    (k_odd : PySem.W.keepIn K (.ref f_odd) = true)
    (cc_law : PySem.W.codeIn K cd_law "law" = true)
    (k_law : PySem.W.keepIn K (.ref f_law) = true)
    (z_len : PySem.W.nsIn K mainGlobals "len" = some none)
    (z_int : PySem.W.nsIn K mainGlobals "int" = some none)
    (z_abs : PySem.W.nsIn K mainGlobals "abs" = some none)
    (z_list : PySem.W.nsIn K mainGlobals "list" = some none)
    (z_range : PySem.W.nsIn K mainGlobals "range" = some none)
    (z_tuple : PySem.W.nsIn K mainGlobals "tuple" = some none)
    (z_isinstance : PySem.W.nsIn K mainGlobals "isinstance" = some none)
    (z_str : PySem.W.nsIn K mainGlobals "str" = some none)
    (z_all : PySem.W.nsIn K mainGlobals "all" = some none)
    (z_set : PySem.W.nsIn K mainGlobals "set" = some none)
    (sa_C_InvalidRow : PySem.W.findIn K (.ref C_InvalidRow) "__setattr__" = some (some (.builtin "object.__setattr__")))
    (eb_C_InvalidRow : PySem.W.subIn K (.ref C_InvalidRow) (.type "BaseException") = some true)
    (tyC_C_InvalidRow : PySem.W.typeIn K (.ref C_InvalidRow) = some (.type "type"))
    (kc_C_InvalidRow : PySem.W.keepIn K (.ref C_InvalidRow) = true)
    (q_nwRow : PySem.W.findIn K (.ref C_InvalidRow) "word" = some none)
    (q_tRow : PySem.W.typeIn K (.ref f_InvalidRow_init) = some (.type "function"))
    (pg_C_Begin : PySem.W.plainGet K C_Begin Str.empty = true)
    (hd_C_Begin : PySem.W.hasDictIn K C_Begin = true)
    (po_C_Begin : PySem.W.plainOver K C_Begin = true)
    (sa_C_Begin : PySem.W.findIn K (.ref C_Begin) "__setattr__" = some (some (.builtin "object.__setattr__")))
    (mk_C_Begin : PySem.W.makesIn K C_Begin = true)
    (fi_f_Begin_init : PySem.W.isFn K (.ref f_Begin_init) = true)
    (kc_C_Begin : PySem.W.keepIn K (.ref C_Begin) = true)
    (n_C_Begin_mark : PySem.W.findIn K (.ref C_Begin) "mark" = some none)
    (n_C_Begin_kind : PySem.W.findIn K (.ref C_Begin) "kind" = some none)
    (n_C_Begin_mood : PySem.W.findIn K (.ref C_Begin) "mood" = some none)
    (pg_C_Send : PySem.W.plainGet K C_Send Str.empty = true)
    (hd_C_Send : PySem.W.hasDictIn K C_Send = true)
    (po_C_Send : PySem.W.plainOver K C_Send = true)
    (sa_C_Send : PySem.W.findIn K (.ref C_Send) "__setattr__" = some (some (.builtin "object.__setattr__")))
    (mk_C_Send : PySem.W.makesIn K C_Send = true)
    (fi_f_Send_init : PySem.W.isFn K (.ref f_Send_init) = true)
    (kc_C_Send : PySem.W.keepIn K (.ref C_Send) = true)
    (n_C_Send_mood : PySem.W.findIn K (.ref C_Send) "mood" = some none)
    (n_C_Send_service : PySem.W.findIn K (.ref C_Send) "service" = some none)
    (n_C_Send_mark : PySem.W.findIn K (.ref C_Send) "mark" = some none)
    (pg_C_Back : PySem.W.plainGet K C_Back Str.empty = true)
    (hd_C_Back : PySem.W.hasDictIn K C_Back = true)
    (po_C_Back : PySem.W.plainOver K C_Back = true)
    (sa_C_Back : PySem.W.findIn K (.ref C_Back) "__setattr__" = some (some (.builtin "object.__setattr__")))
    (mk_C_Back : PySem.W.makesIn K C_Back = true)
    (fi_f_Back_init : PySem.W.isFn K (.ref f_Back_init) = true)
    (kc_C_Back : PySem.W.keepIn K (.ref C_Back) = true)
    (n_C_Back_mood : PySem.W.findIn K (.ref C_Back) "mood" = some none)
    (n_C_Back_service : PySem.W.findIn K (.ref C_Back) "service" = some none)
    (n_C_Back_sign : PySem.W.findIn K (.ref C_Back) "sign" = some none)
    (n_C_Back_then : PySem.W.findIn K (.ref C_Back) "then" = some none)
    (pg_C_End : PySem.W.plainGet K C_End Str.empty = true)
    (hd_C_End : PySem.W.hasDictIn K C_End = true)
    (po_C_End : PySem.W.plainOver K C_End = true)
    (sa_C_End : PySem.W.findIn K (.ref C_End) "__setattr__" = some (some (.builtin "object.__setattr__")))
    (mk_C_End : PySem.W.makesIn K C_End = true)
    (fi_f_End_init : PySem.W.isFn K (.ref f_End_init) = true)
    (kc_C_End : PySem.W.keepIn K (.ref C_End) = true)
    (n_C_End_mood : PySem.W.findIn K (.ref C_End) "mood" = some none)
    (n_C_End_outcome : PySem.W.findIn K (.ref C_End) "outcome" = some none)
    (n_C_End_sign : PySem.W.findIn K (.ref C_End) "sign" = some none)
    (n_C_End_part : PySem.W.findIn K (.ref C_End) "part" = some none)
    (z_sorted : PySem.W.nsIn K mainGlobals "sorted" = some none)
    (ca_C_Begin : PySem.W.findIn K (.ref C_Begin) "__class__" = some (some (.builtin "object.__class__")))
    (cg_ : PySem.W.specialIn K (.builtin "object.__class__") "__get__" = some (some (.builtin "getset_descriptor.__get__")))
    (ck_ : PySem.W.takesIn K (.builtin "object.__class__") = some true)
    (cm_C_Begin : PySem.W.mroIn K C_Begin (.type "object") = some true)
    (ca_C_Send : PySem.W.findIn K (.ref C_Send) "__class__" = some (some (.builtin "object.__class__")))
    (cm_C_Send : PySem.W.mroIn K C_Send (.type "object") = some true)
    (ca_C_Back : PySem.W.findIn K (.ref C_Back) "__class__" = some (some (.builtin "object.__class__")))
    (cm_C_Back : PySem.W.mroIn K C_Back (.type "object") = some true)
    (ca_C_End : PySem.W.findIn K (.ref C_End) "__class__" = some (some (.builtin "object.__class__")))
    (cm_C_End : PySem.W.mroIn K C_End (.type "object") = some true)
    (isC_C_Row : PySem.W.isClsIn K C_Row = true)
    (tyC_C_Row : PySem.W.typeIn K (.ref C_Row) = some (.type "type"))
    (sub_C_Begin_C_Row : PySem.W.subIn K (.ref C_Begin) (.ref C_Row) = some true)
    (sub_C_Send_C_Row : PySem.W.subIn K (.ref C_Send) (.ref C_Row) = some true)
    (sub_C_Back_C_Row : PySem.W.subIn K (.ref C_Back) (.ref C_Row) = some true)
    (sub_C_End_C_Row : PySem.W.subIn K (.ref C_End) (.ref C_Row) = some true)
    (isC_C_Back : PySem.W.isClsIn K C_Back = true)
    (tyC_C_Back : PySem.W.typeIn K (.ref C_Back) = some (.type "type"))
    (sub_C_Begin_C_Back : PySem.W.subIn K (.ref C_Begin) (.ref C_Back) = some false)
    (ne_C_Begin_C_Back : C_Begin ≠ C_Back)
    (sub_C_Send_C_Back : PySem.W.subIn K (.ref C_Send) (.ref C_Back) = some false)
    (ne_C_Send_C_Back : C_Send ≠ C_Back)
    (sub_C_Back_C_Back : PySem.W.subIn K (.ref C_Back) (.ref C_Back) = some true)
    (sub_C_End_C_Back : PySem.W.subIn K (.ref C_End) (.ref C_Back) = some false)
    (ne_C_End_C_Back : C_End ≠ C_Back)
    (sa_C_InvalidService : PySem.W.findIn K (.ref C_InvalidService) "__setattr__" = some (some (.builtin "object.__setattr__")))
    (eb_C_InvalidService : PySem.W.subIn K (.ref C_InvalidService) (.type "BaseException") = some true)
    (tyC_C_InvalidService : PySem.W.typeIn K (.ref C_InvalidService) = some (.type "type"))
    (kc_C_InvalidService : PySem.W.keepIn K (.ref C_InvalidService) = true)
    (q_nwSvc : PySem.W.findIn K (.ref C_InvalidService) "word" = some none)
    (q_tSvc : PySem.W.typeIn K (.ref f_InvalidService_init) = some (.type "function"))
    (pg_C_Service : PySem.W.plainGet K C_Service Str.empty = true)
    (hd_C_Service : PySem.W.hasDictIn K C_Service = true)
    (po_C_Service : PySem.W.plainOver K C_Service = true)
    (sa_C_Service : PySem.W.findIn K (.ref C_Service) "__setattr__" = some (some (.builtin "object.__setattr__")))
    (mk_C_Service : PySem.W.makesIn K C_Service = true)
    (fi_f_Service_init : PySem.W.isFn K (.ref f_Service_init) = true)
    (kc_C_Service : PySem.W.keepIn K (.ref C_Service) = true)
    (cc_Service_init : PySem.W.codeIn K cd_Service_init "Service.__init__" = true)
    (k_Service_init : PySem.W.keepIn K (.ref f_Service_init) = true)
    (n_C_Service_name : PySem.W.findIn K (.ref C_Service) "name" = some none)
    (n_C_Service_kinds : PySem.W.findIn K (.ref C_Service) "kinds" = some none)
    (n_C_Service_waits : PySem.W.findIn K (.ref C_Service) "waits" = some none)
    (n_C_Service_leaves : PySem.W.findIn K (.ref C_Service) "leaves" = some none)
    (n_C_Service_rows : PySem.W.findIn K (.ref C_Service) "rows" = some none)
    (n_C_Service_moods : PySem.W.findIn K (.ref C_Service) "moods" = some none)
    (sa_C_InvalidBook : PySem.W.findIn K (.ref C_InvalidBook) "__setattr__" = some (some (.builtin "object.__setattr__")))
    (eb_C_InvalidBook : PySem.W.subIn K (.ref C_InvalidBook) (.type "BaseException") = some true)
    (tyC_C_InvalidBook : PySem.W.typeIn K (.ref C_InvalidBook) = some (.type "type"))
    (kc_C_InvalidBook : PySem.W.keepIn K (.ref C_InvalidBook) = true)
    (q_nwBk : PySem.W.findIn K (.ref C_InvalidBook) "word" = some none)
    (q_tBk : PySem.W.typeIn K (.ref f_InvalidBook_init) = some (.type "function"))
    (isC_C_Begin : PySem.W.isClsIn K C_Begin = true)
    (tyC_C_Begin : PySem.W.typeIn K (.ref C_Begin) = some (.type "type"))
    (sub_C_Begin_C_Begin : PySem.W.subIn K (.ref C_Begin) (.ref C_Begin) = some true)
    (isC_C_Send : PySem.W.isClsIn K C_Send = true)
    (tyC_C_Send : PySem.W.typeIn K (.ref C_Send) = some (.type "type"))
    (sub_C_Begin_C_Send : PySem.W.subIn K (.ref C_Begin) (.ref C_Send) = some false)
    (ne_C_Begin_C_Send : C_Begin ≠ C_Send)
    (isC_C_End : PySem.W.isClsIn K C_End = true)
    (tyC_C_End : PySem.W.typeIn K (.ref C_End) = some (.type "type"))
    (sub_C_Begin_C_End : PySem.W.subIn K (.ref C_Begin) (.ref C_End) = some false)
    (ne_C_Begin_C_End : C_Begin ≠ C_End)
    (sub_C_Send_C_Begin : PySem.W.subIn K (.ref C_Send) (.ref C_Begin) = some false)
    (ne_C_Send_C_Begin : C_Send ≠ C_Begin)
    (sub_C_Send_C_Send : PySem.W.subIn K (.ref C_Send) (.ref C_Send) = some true)
    (sub_C_Send_C_End : PySem.W.subIn K (.ref C_Send) (.ref C_End) = some false)
    (ne_C_Send_C_End : C_Send ≠ C_End)
    (sub_C_Back_C_Begin : PySem.W.subIn K (.ref C_Back) (.ref C_Begin) = some false)
    (ne_C_Back_C_Begin : C_Back ≠ C_Begin)
    (sub_C_Back_C_Send : PySem.W.subIn K (.ref C_Back) (.ref C_Send) = some false)
    (ne_C_Back_C_Send : C_Back ≠ C_Send)
    (sub_C_Back_C_End : PySem.W.subIn K (.ref C_Back) (.ref C_End) = some false)
    (ne_C_Back_C_End : C_Back ≠ C_End)
    (sub_C_End_C_Begin : PySem.W.subIn K (.ref C_End) (.ref C_Begin) = some false)
    (ne_C_End_C_Begin : C_End ≠ C_Begin)
    (sub_C_End_C_Send : PySem.W.subIn K (.ref C_End) (.ref C_Send) = some false)
    (ne_C_End_C_Send : C_End ≠ C_Send)
    (sub_C_End_C_End : PySem.W.subIn K (.ref C_End) (.ref C_End) = some true)
    (ca_C_Service : PySem.W.findIn K (.ref C_Service) "__class__" = some (some (.builtin "object.__class__")))
    (cm_C_Service : PySem.W.mroIn K C_Service (.type "object") = some true)
    (isC_C_Service : PySem.W.isClsIn K C_Service = true)
    (tyC_C_Service : PySem.W.typeIn K (.ref C_Service) = some (.type "type"))
    (sub_C_Service_C_Service : PySem.W.subIn K (.ref C_Service) (.ref C_Service) = some true)
    (pg_C_Book : PySem.W.plainGet K C_Book Str.empty = true)
    (hd_C_Book : PySem.W.hasDictIn K C_Book = true)
    (po_C_Book : PySem.W.plainOver K C_Book = true)
    (sa_C_Book : PySem.W.findIn K (.ref C_Book) "__setattr__" = some (some (.builtin "object.__setattr__")))
    (mk_C_Book : PySem.W.makesIn K C_Book = true)
    (fi_f_Book_init : PySem.W.isFn K (.ref f_Book_init) = true)
    (kc_C_Book : PySem.W.keepIn K (.ref C_Book) = true)
    (n_C_Book_services : PySem.W.findIn K (.ref C_Book) "services" = some none)
    (n_C_Book_roots : PySem.W.findIn K (.ref C_Book) "roots" = some none)
    (n_C_Book_names : PySem.W.findIn K (.ref C_Book) "names" = some none)
    (n_C_Book_marks : PySem.W.findIn K (.ref C_Book) "marks" = some none)
    (n_C_Book_signs : PySem.W.findIn K (.ref C_Book) "signs" = some none)
    (n_C_Book__rows : PySem.W.findIn K (.ref C_Book) "_rows" = some none)
    (isC_C_TraceError : PySem.W.isClsIn K C_TraceError = true)
    (tyC_C_TraceError : PySem.W.typeIn K (.ref C_TraceError) = some (.type "type"))
    (sub_C_InvalidBook_C_TraceError : PySem.W.subIn K (.ref C_InvalidBook) (.ref C_TraceError) = some true)
    (isC_C_InvalidService : PySem.W.isClsIn K C_InvalidService = true)
    (sub_C_InvalidBook_C_InvalidService : PySem.W.subIn K (.ref C_InvalidBook) (.ref C_InvalidService) = some false)
    (ne_C_InvalidBook_C_InvalidService : C_InvalidBook ≠ C_InvalidService)
    (ga_C_InvalidBook : PySem.W.findIn K (.ref C_InvalidBook) "__getattribute__" = some (some (.builtin "BaseException.__getattribute__")))
    (gg_C_InvalidBook : PySem.W.findIn K (.ref C_InvalidBook) "__getattr__" = some none)
    (hd_C_InvalidBook : PySem.W.hasDictIn K C_InvalidBook = true)
    (ca_C_InvalidBook : PySem.W.findIn K (.ref C_InvalidBook) "__class__" = some (some (.builtin "object.__class__")))
    (cm_C_InvalidBook : PySem.W.mroIn K C_InvalidBook (.type "object") = some true)
    (isC_C_InvalidBook : PySem.W.isClsIn K C_InvalidBook = true)
    (sub_C_InvalidBook_C_InvalidBook : PySem.W.subIn K (.ref C_InvalidBook) (.ref C_InvalidBook) = some true)
    (sub_Tstr_C_Service : PySem.W.subIn K (.type "str") (.ref C_Service) = some false)
    (sub_TNoneType_C_Service : PySem.W.subIn K (.type "NoneType") (.ref C_Service) = some false)
    (sub_Tlist_C_Service : PySem.W.subIn K (.type "list") (.ref C_Service) = some false)
    (sub_C_Service_Tlist : PySem.W.subIn K (.ref C_Service) (.type "list") = some false)
    (sub_C_Service_Ttuple : PySem.W.subIn K (.ref C_Service) (.type "tuple") = some false)
    (z_max : PySem.W.nsIn K mainGlobals "max" = some none)
    (z_min : PySem.W.nsIn K mainGlobals "min" = some none)
    (z_zip : PySem.W.nsIn K mainGlobals "zip" = some none)
    : ∃ fd : FuncData, (∀ (s : Shared) (v : Value), BindsTo s fd ⟨[v], []⟩ [("_law_script", v)]) ∧ ∀ base : Heap, K.In base → base.Ns mainGlobals mg → FnTop P w K mg base 10 fa fd ["_law_script"] (spLaw K) := by
  have e := hfa.symm.trans (PySem.W.mg_of X G a_law)
  have e2 : f_law = fa := by
    cases e
    rfl
  subst e2
  have F_take := (fun_mk (st := s_take) l_take cc_take k_take)
  have F_box := (fun_mk (st := s_box) l_box cc_box k_box)
  have F_pick := (fun_mk (st := s_pick) l_pick cc_pick k_pick)
  have F_mixed := (fun_mk (st := s_mixed) l_mixed cc_mixed k_mixed)
  have F_names := (fun_mk (st := s_names) l_names cc_names k_names)
  have F_some := (fun_mk (st := s_some) l_some cc_some k_some)
  have F_words := (fun_mk (st := s_words) l_words cc_words k_words)
  have F_drawn_row := (fun_mk (st := s_drawn_row) l_drawn_row cc_drawn_row k_drawn_row)
  have F_any_service := (fun_mk (st := s_any_service) l_any_service cc_any_service k_any_service)
  have F_any_book := (fun_mk (st := s_any_book) l_any_book cc_any_book k_any_book)
  have F_is_name := (fun_mk (st := s_is_name) l_is_name cc_is_name k_is_name)
  have F_is_sequence := (fun_mk (st := s_is_sequence) l_is_sequence cc_is_sequence k_is_sequence)
  have F_are_names := (fun_mk (st := s_are_names) l_are_names cc_are_names k_are_names)
  have F_are_some_names := (fun_mk (st := s_are_some_names) l_are_some_names cc_are_some_names k_are_some_names)
  have F_is_name_or := (fun_mk (st := s_is_name_or) l_is_name_or cc_is_name_or k_is_name_or)
  have F_InvalidRow_init := (fun_mk (st := s_InvalidRow_init) l_InvalidRow_init cc_InvalidRow_init k_InvalidRow_init)
  have F_Begin_init := (fun_mk (st := s_Begin_init) l_Begin_init cc_Begin_init k_Begin_init)
  have F_Send_init := (fun_mk (st := s_Send_init) l_Send_init cc_Send_init k_Send_init)
  have F_Back_init := (fun_mk (st := s_Back_init) l_Back_init cc_Back_init k_Back_init)
  have F_End_init := (fun_mk (st := s_End_init) l_End_init cc_End_init k_End_init)
  have F_ascending := (fun_mk (st := s_ascending) l_ascending cc_ascending k_ascending)
  have F_are_rows := (fun_mk (st := s_are_rows) l_are_rows cc_are_rows k_are_rows)
  have F_InvalidService_init := (fun_mk (st := s_InvalidService_init) l_InvalidService_init cc_InvalidService_init k_InvalidService_init)
  have F_row := (fun_mk (st := s_row) l_row cc_row k_row)
  have F_service_of := (fun_mk (st := s_service_of) l_service_of cc_service_of k_service_of)
  have F_are_some_services := (fun_mk (st := s_are_some_services) l_are_some_services cc_are_some_services k_are_some_services)
  have F_all_among := (fun_mk (st := s_all_among) l_all_among cc_all_among k_all_among)
  have F_InvalidBook_init := (fun_mk (st := s_InvalidBook_init) l_InvalidBook_init cc_InvalidBook_init k_InvalidBook_init)
  have F_Book_init := (fun_mk (st := s_Book_init) l_Book_init cc_Book_init k_Book_init)
  have F_word := (fun_mk (st := s_word) l_word cc_word k_word)
  have F_odd := (fun_mk (st := s_odd) l_odd cc_odd k_odd)
  have F_law := (fun_mk (st := s_law) l_law cc_law k_law)
  have b_take := F_take.binds (ps := P_take) fun _ _ _ _ _ _ us hl => match us, hl with | [_, _], _ => rfl
  have b_box := F_box.binds (ps := P_box) fun _ _ _ _ _ _ us hl => match us, hl with | [_, _], _ => rfl
  have b_pick := F_pick.binds (ps := P_pick) fun _ _ _ _ _ _ us hl => match us, hl with | [_, _], _ => rfl
  have b_mixed := F_mixed.binds (ps := P_mixed) fun _ _ _ _ _ _ us hl => match us, hl with | [_, _], _ => rfl
  have b_names := F_names.binds (ps := P_names) fun _ _ _ _ _ _ us hl => match us, hl with | [_, _], _ => rfl
  have b_some := F_some.binds (ps := P_some) fun _ _ _ _ _ _ us hl => match us, hl with | [_, _, _], _ => rfl
  have b_words := F_words.binds (ps := P_words) fun _ _ _ _ _ _ us hl => match us, hl with | [_], _ => rfl
  have b_drawn_row := F_drawn_row.binds (ps := P_drawn_row) fun _ _ _ _ _ _ us hl => match us, hl with | [_, _, _], _ => rfl
  have b_any_service := F_any_service.binds (ps := P_any_service) fun _ _ _ _ _ _ us hl => match us, hl with | [_, _, _, _], _ => rfl
  have b_any_book := F_any_book.binds (ps := P_any_book) fun _ _ _ _ _ _ us hl => match us, hl with | [_, _], _ => rfl
  have b_is_name := F_is_name.binds (ps := P_is_name) fun _ _ _ _ _ _ us hl => match us, hl with | [_], _ => rfl
  have b_is_sequence := F_is_sequence.binds (ps := P_is_sequence) fun _ _ _ _ _ _ us hl => match us, hl with | [_], _ => rfl
  have b_are_names := F_are_names.binds (ps := P_are_names) fun _ _ _ _ _ _ us hl => match us, hl with | [_], _ => rfl
  have b_are_some_names := F_are_some_names.binds (ps := P_are_some_names) fun _ _ _ _ _ _ us hl => match us, hl with | [_], _ => rfl
  have b_is_name_or := F_is_name_or.binds (ps := P_is_name_or) fun _ _ _ _ _ _ us hl => match us, hl with | [_, _], _ => rfl
  have b_InvalidRow_init := F_InvalidRow_init.binds (ps := P_InvalidRow_init) fun _ _ _ _ _ _ us hl => match us, hl with | [_, _], _ => rfl
  have b_Begin_init := F_Begin_init.binds (ps := P_Begin_init) fun _ _ _ _ _ _ us hl => match us, hl with | [_, _, _, _], _ => rfl
  have b_Send_init := F_Send_init.binds (ps := P_Send_init) fun _ _ _ _ _ _ us hl => match us, hl with | [_, _, _, _], _ => rfl
  have b_Back_init := F_Back_init.binds (ps := P_Back_init) fun _ _ _ _ _ _ us hl => match us, hl with | [_, _, _, _, _], _ => rfl
  have b_End_init := F_End_init.binds (ps := P_End_init) fun _ _ _ _ _ _ us hl => match us, hl with | [_, _, _, _, _], _ => rfl
  have b_ascending := F_ascending.binds (ps := P_ascending) fun _ _ _ _ _ _ us hl => match us, hl with | [_], _ => rfl
  have b_are_rows := F_are_rows.binds (ps := P_are_rows) fun _ _ _ _ _ _ us hl => match us, hl with | [_], _ => rfl
  have b_InvalidService_init := F_InvalidService_init.binds (ps := P_InvalidService_init) fun _ _ _ _ _ _ us hl => match us, hl with | [_, _], _ => rfl
  have b_row := F_row.binds (ps := P_row) fun _ _ _ _ _ _ us hl => match us, hl with | [_], _ => rfl
  have b_service_of := F_service_of.binds (ps := P_service_of) fun _ _ _ _ _ _ us hl => match us, hl with | [_], _ => rfl
  have b_are_some_services := F_are_some_services.binds (ps := P_are_some_services) fun _ _ _ _ _ _ us hl => match us, hl with | [_], _ => rfl
  have b_all_among := F_all_among.binds (ps := P_all_among) fun _ _ _ _ _ _ us hl => match us, hl with | [_, _], _ => rfl
  have b_InvalidBook_init := F_InvalidBook_init.binds (ps := P_InvalidBook_init) fun _ _ _ _ _ _ us hl => match us, hl with | [_, _], _ => rfl
  have b_Book_init := F_Book_init.binds (ps := P_Book_init) fun _ _ _ _ _ _ us hl => match us, hl with | [_, _, _], _ => rfl
  have b_word := F_word.binds (ps := P_word) fun _ _ _ _ _ _ us hl => match us, hl with | [_, _], _ => rfl
  have b_odd := F_odd.binds (ps := P_odd) fun _ _ _ _ _ _ us hl => match us, hl with | [_, _, _, _], _ => rfl
  let T : TxK13 K mg := {
    z_len := PySem.W.mg_none_of X G z_len
    z_int := PySem.W.mg_none_of X G z_int
    z_abs := PySem.W.mg_none_of X G z_abs
    f_take := f_take
    d_take := _
    F_take := F_take
    m_take := PySem.W.mg_of X G a__law_take
    b_take := b_take
    f_box := f_box
    d_box := _
    F_box := F_box
    m_box := PySem.W.mg_of X G a__law_box
    b_box := b_box
    f_pick := f_pick
    d_pick := _
    F_pick := F_pick
    m_pick := PySem.W.mg_of X G a__law_pick
    b_pick := b_pick
    z_list := PySem.W.mg_none_of X G z_list
    z_range := PySem.W.mg_none_of X G z_range
    f_mixed := f_mixed
    d_mixed := _
    F_mixed := F_mixed
    m_mixed := PySem.W.mg_of X G a__law_mixed
    b_mixed := b_mixed
    f_names := f_names
    d_names := _
    F_names := F_names
    m_names := PySem.W.mg_of X G a__law_names
    b_names := b_names
    f_some := f_some
    d_some := _
    F_some := F_some
    m_some := PySem.W.mg_of X G a__law_some
    b_some := b_some
    f_words := f_words
    d_words := _
    F_words := F_words
    m_words := PySem.W.mg_of X G a__law_words
    b_words := b_words
    z_tuple := PySem.W.mg_none_of X G z_tuple
    f_drawn_row := f_drawn_row
    d_drawn_row := _
    F_drawn_row := F_drawn_row
    m_drawn_row := PySem.W.mg_of X G a__law_drawn_row
    b_drawn_row := b_drawn_row
    f_any_service := f_any_service
    d_any_service := _
    F_any_service := F_any_service
    m_any_service := PySem.W.mg_of X G a__law_any_service
    b_any_service := b_any_service
    f_any_book := f_any_book
    d_any_book := _
    F_any_book := F_any_book
    m_any_book := PySem.W.mg_of X G a__law_any_book
    b_any_book := b_any_book
    z_isinstance := PySem.W.mg_none_of X G z_isinstance
    z_str := PySem.W.mg_none_of X G z_str
    z_all := PySem.W.mg_none_of X G z_all
    letT := letT
    m_LET := PySem.W.mg_of X G a_LETTERS
    aNO := aNO
    m_NO := PySem.W.mg_of X G a_NO_NAMES
    t_NO := fun H => .inr ⟨_, _, _, l_aNO, rfl, rfl, by show 10 ≤ sizeLine; decide, .cons ⟨_, rfl⟩ (.cons ⟨_, rfl⟩ (.cons ⟨_, rfl⟩ (.cons ⟨_, rfl⟩ (.cons ⟨_, rfl⟩ (.cons ⟨_, rfl⟩ (.cons ⟨_, rfl⟩ (.cons ⟨_, rfl⟩ (.cons ⟨_, rfl⟩ (.cons ⟨_, rfl⟩ (.nil))))))))))⟩
    f_is_name := f_is_name
    d_is_name := _
    F_is_name := F_is_name
    m_is_name := PySem.W.mg_of X G a_is_name
    b_is_name := b_is_name
    z_set := PySem.W.mg_none_of X G z_set
    f_is_sequence := f_is_sequence
    d_is_sequence := _
    F_is_sequence := F_is_sequence
    m_is_sequence := PySem.W.mg_of X G a_is_sequence
    b_is_sequence := b_is_sequence
    f_are_names := f_are_names
    d_are_names := _
    F_are_names := F_are_names
    m_are_names := PySem.W.mg_of X G a_are_names
    b_are_names := b_are_names
    f_are_some_names := f_are_some_names
    d_are_some_names := _
    F_are_some_names := F_are_some_names
    m_are_some_names := PySem.W.mg_of X G a_are_some_names
    b_are_some_names := b_are_some_names
    f_is_name_or := f_is_name_or
    d_is_name_or := _
    F_is_name_or := F_is_name_or
    m_is_name_or := PySem.W.mg_of X G a_is_name_or
    b_is_name_or := b_is_name_or
    C_InvalidRow := C_InvalidRow
    m_InvalidRow := PySem.W.mg_of X G a_InvalidRow
    oxRow := ⟨⟨_, _, _, _, _, _, _, _, _, _, _, _, _, _, _, xL_C_InvalidRow, ve_one⟩, sa_C_InvalidRow, eb_C_InvalidRow, tyC_C_InvalidRow, kc_C_InvalidRow⟩
    nwRow := q_nwRow
    f_InvalidRow_init := f_InvalidRow_init
    d_InvalidRow_init := _
    iRow := in_f_InvalidRow_init
    tRow := q_tRow
    F_InvalidRow_init := F_InvalidRow_init
    b_InvalidRow_init := b_InvalidRow_init
    C_Begin := C_Begin
    m_Begin := PySem.W.mg_of X G a_Begin
    c_Begin := ⟨pg_C_Begin, hd_C_Begin, po_C_Begin, sa_C_Begin⟩
    f_Begin_init := f_Begin_init
    d_Begin_init := _
    mk_Begin := ⟨mk_C_Begin, in_f_Begin_init, fi_f_Begin_init, kc_C_Begin⟩
    F_Begin_init := F_Begin_init
    b_Begin_init := b_Begin_init
    n_Begin_mark := n_C_Begin_mark
    n_Begin_kind := n_C_Begin_kind
    n_Begin_mood := n_C_Begin_mood
    C_Send := C_Send
    m_Send := PySem.W.mg_of X G a_Send
    c_Send := ⟨pg_C_Send, hd_C_Send, po_C_Send, sa_C_Send⟩
    f_Send_init := f_Send_init
    d_Send_init := _
    mk_Send := ⟨mk_C_Send, in_f_Send_init, fi_f_Send_init, kc_C_Send⟩
    F_Send_init := F_Send_init
    b_Send_init := b_Send_init
    n_Send_mood := n_C_Send_mood
    n_Send_service := n_C_Send_service
    n_Send_mark := n_C_Send_mark
    C_Back := C_Back
    m_Back := PySem.W.mg_of X G a_Back
    c_Back := ⟨pg_C_Back, hd_C_Back, po_C_Back, sa_C_Back⟩
    f_Back_init := f_Back_init
    d_Back_init := _
    mk_Back := ⟨mk_C_Back, in_f_Back_init, fi_f_Back_init, kc_C_Back⟩
    F_Back_init := F_Back_init
    b_Back_init := b_Back_init
    n_Back_mood := n_C_Back_mood
    n_Back_service := n_C_Back_service
    n_Back_sign := n_C_Back_sign
    n_Back_then := n_C_Back_then
    C_End := C_End
    m_End := PySem.W.mg_of X G a_End
    c_End := ⟨pg_C_End, hd_C_End, po_C_End, sa_C_End⟩
    f_End_init := f_End_init
    d_End_init := _
    mk_End := ⟨mk_C_End, in_f_End_init, fi_f_End_init, kc_C_End⟩
    F_End_init := F_End_init
    b_End_init := b_End_init
    n_End_mood := n_C_End_mood
    n_End_outcome := n_C_End_outcome
    n_End_sign := n_C_End_sign
    n_End_part := n_C_End_part
    z_sorted := PySem.W.mg_none_of X G z_sorted
    f_ascending := f_ascending
    d_ascending := _
    F_ascending := F_ascending
    m_ascending := PySem.W.mg_of X G a_ascending
    b_ascending := b_ascending
    f_are_rows := f_are_rows
    d_are_rows := _
    F_are_rows := F_are_rows
    m_are_rows := PySem.W.mg_of X G a_are_rows
    b_are_rows := b_are_rows
    C_Row := C_Row
    m_Row := PySem.W.mg_of X G a_Row
    ty_Begin := fun H a dx fs e => .base (.ins e ⟨pg_C_Begin, hd_C_Begin, po_C_Begin, sa_C_Begin⟩ ca_C_Begin cg_ ck_ cm_C_Begin)
    ty_Send := fun H a dx fs e => .base (.ins e ⟨pg_C_Send, hd_C_Send, po_C_Send, sa_C_Send⟩ ca_C_Send cg_ ck_ cm_C_Send)
    ty_Back := fun H a dx fs e => .base (.ins e ⟨pg_C_Back, hd_C_Back, po_C_Back, sa_C_Back⟩ ca_C_Back cg_ ck_ cm_C_Back)
    ty_End := fun H a dx fs e => .base (.ins e ⟨pg_C_End, hd_C_End, po_C_End, sa_C_End⟩ ca_C_End cg_ ck_ cm_C_End)
    kr_Begin := kit_yes isC_C_Row tyC_C_Row sub_C_Begin_C_Row
    kr_Send := kit_yes isC_C_Row tyC_C_Row sub_C_Send_C_Row
    kr_Back := kit_yes isC_C_Row tyC_C_Row sub_C_Back_C_Row
    kr_End := kit_yes isC_C_Row tyC_C_Row sub_C_End_C_Row
    kb_Begin := kit_no isC_C_Back tyC_C_Back sub_C_Begin_C_Back ne_C_Begin_C_Back
    kb_Send := kit_no isC_C_Back tyC_C_Back sub_C_Send_C_Back ne_C_Send_C_Back
    kb_Back := kit_yes isC_C_Back tyC_C_Back sub_C_Back_C_Back
    kb_End := kit_no isC_C_Back tyC_C_Back sub_C_End_C_Back ne_C_End_C_Back
    C_InvalidService := C_InvalidService
    m_InvalidService := PySem.W.mg_of X G a_InvalidService
    oxSvc := ⟨⟨_, _, _, _, _, _, _, _, _, _, _, _, _, _, _, xL_C_InvalidService, ve_one⟩, sa_C_InvalidService, eb_C_InvalidService, tyC_C_InvalidService, kc_C_InvalidService⟩
    nwSvc := q_nwSvc
    f_InvalidService_init := f_InvalidService_init
    d_InvalidService_init := _
    iSvc := in_f_InvalidService_init
    tSvc := q_tSvc
    F_InvalidService_init := F_InvalidService_init
    b_InvalidService_init := b_InvalidService_init
    C_Service := C_Service
    m_Service := PySem.W.mg_of X G a_Service
    c_Service := ⟨pg_C_Service, hd_C_Service, po_C_Service, sa_C_Service⟩
    f_Service_init := f_Service_init
    d_Service_init := _
    mk_Service := ⟨mk_C_Service, in_f_Service_init, fi_f_Service_init, kc_C_Service⟩
    e_waits := e_waits
    e_leaves := e_leaves
    e_rows := e_rows
    t_waits := fun H => .inr ⟨_, _, _, l_e_waits, rfl, rfl, by show 0 ≤ sizeLine; decide, .nil⟩
    t_leaves := fun H => .inr ⟨_, _, _, l_e_leaves, rfl, rfl, by show 0 ≤ sizeLine; decide, .nil⟩
    t_rows := fun H => .inr ⟨_, _, _, l_e_rows, rfl, rfl, by show 0 ≤ sizeLine; decide, .nil⟩
    F_Service_init := ⟨⟨_, _, _, _, _, _, _, _, _, _, rfl, l_Service_init, cc_Service_init, .inr ⟨by simp, _, _, [.ref e_waits, .ref e_leaves, .ref e_rows], _, rfl, dl_Service_init, rfl, .cons rfl (.cons rfl (.cons rfl (.nil)))⟩, .inl rfl⟩, k_Service_init⟩
    n_Service_name := n_C_Service_name
    n_Service_kinds := n_C_Service_kinds
    n_Service_waits := n_C_Service_waits
    n_Service_leaves := n_C_Service_leaves
    n_Service_rows := n_C_Service_rows
    n_Service_moods := n_C_Service_moods
    f_row := f_row
    d_row := _
    F_row := F_row
    m_row := PySem.W.mg_of X G a__law_row
    b_row := b_row
    f_service_of := f_service_of
    d_service_of := _
    F_service_of := F_service_of
    m_service_of := PySem.W.mg_of X G a__law_service_of
    b_service_of := b_service_of
    f_are_some_services := f_are_some_services
    d_are_some_services := _
    F_are_some_services := F_are_some_services
    m_are_some_services := PySem.W.mg_of X G a_are_some_services
    b_are_some_services := b_are_some_services
    f_all_among := f_all_among
    d_all_among := _
    F_all_among := F_all_among
    m_all_among := PySem.W.mg_of X G a_all_among
    b_all_among := b_all_among
    C_InvalidBook := C_InvalidBook
    m_InvalidBook := PySem.W.mg_of X G a_InvalidBook
    oxBk := ⟨⟨_, _, _, _, _, _, _, _, _, _, _, _, _, _, _, xL_C_InvalidBook, ve_one⟩, sa_C_InvalidBook, eb_C_InvalidBook, tyC_C_InvalidBook, kc_C_InvalidBook⟩
    nwBk := q_nwBk
    f_InvalidBook_init := f_InvalidBook_init
    d_InvalidBook_init := _
    iBk := in_f_InvalidBook_init
    tBk := q_tBk
    F_InvalidBook_init := F_InvalidBook_init
    b_InvalidBook_init := b_InvalidBook_init
    kk_Begin_Begin := kit_yes isC_C_Begin tyC_C_Begin sub_C_Begin_C_Begin
    kk_Begin_Send := kit_no isC_C_Send tyC_C_Send sub_C_Begin_C_Send ne_C_Begin_C_Send
    kk_Begin_End := kit_no isC_C_End tyC_C_End sub_C_Begin_C_End ne_C_Begin_C_End
    kk_Send_Begin := kit_no isC_C_Begin tyC_C_Begin sub_C_Send_C_Begin ne_C_Send_C_Begin
    kk_Send_Send := kit_yes isC_C_Send tyC_C_Send sub_C_Send_C_Send
    kk_Send_End := kit_no isC_C_End tyC_C_End sub_C_Send_C_End ne_C_Send_C_End
    kk_Back_Begin := kit_no isC_C_Begin tyC_C_Begin sub_C_Back_C_Begin ne_C_Back_C_Begin
    kk_Back_Send := kit_no isC_C_Send tyC_C_Send sub_C_Back_C_Send ne_C_Back_C_Send
    kk_Back_End := kit_no isC_C_End tyC_C_End sub_C_Back_C_End ne_C_Back_C_End
    kk_End_Begin := kit_no isC_C_Begin tyC_C_Begin sub_C_End_C_Begin ne_C_End_C_Begin
    kk_End_Send := kit_no isC_C_Send tyC_C_Send sub_C_End_C_Send ne_C_End_C_Send
    kk_End_End := kit_yes isC_C_End tyC_C_End sub_C_End_C_End
    ty_Service := fun H a dx fs e => .base (.ins e ⟨pg_C_Service, hd_C_Service, po_C_Service, sa_C_Service⟩ ca_C_Service cg_ ck_ cm_C_Service)
    kk_Service := kit_yes isC_C_Service tyC_C_Service sub_C_Service_C_Service
    C_Book := C_Book
    m_Book := PySem.W.mg_of X G a_Book
    c_Book := ⟨pg_C_Book, hd_C_Book, po_C_Book, sa_C_Book⟩
    f_Book_init := f_Book_init
    d_Book_init := _
    mk_Book := ⟨mk_C_Book, in_f_Book_init, fi_f_Book_init, kc_C_Book⟩
    F_Book_init := F_Book_init
    b_Book_init := b_Book_init
    n_Book_services := n_C_Book_services
    n_Book_roots := n_C_Book_roots
    n_Book_names := n_C_Book_names
    n_Book_marks := n_C_Book_marks
    n_Book_signs := n_C_Book_signs
    n_Book__rows := n_C_Book__rows
    C_TraceError := C_TraceError
    m_TraceError := PySem.W.mg_of X G a_TraceError
    ke_BT := kit_yes isC_C_TraceError tyC_C_TraceError sub_C_InvalidBook_C_TraceError
    ke_BS := kit_no isC_C_InvalidService tyC_C_InvalidService sub_C_InvalidBook_C_InvalidService ne_C_InvalidBook_C_InvalidService
    exBk := ⟨ga_C_InvalidBook, gg_C_InvalidBook, eb_C_InvalidBook, hd_C_InvalidBook, ca_C_InvalidBook, cg_, ck_, cm_C_InvalidBook⟩
    xfBk := ⟨ga_C_InvalidBook, gg_C_InvalidBook, eb_C_InvalidBook, hd_C_InvalidBook⟩
    teBk := exm_mk eb_C_InvalidBook isC_C_InvalidBook tyC_C_InvalidBook sub_C_InvalidBook_C_InvalidBook
    f_word := f_word
    d_word := _
    F_word := F_word
    m_word := PySem.W.mg_of X G a__law_word
    b_word := b_word
    f_odd := f_odd
    d_odd := _
    F_odd := F_odd
    m_odd := PySem.W.mg_of X G a__law_odd
    b_odd := b_odd
    kv_str := kit_tyno isC_C_Service tyC_C_Service sub_Tstr_C_Service
    kv_non := kit_tyno isC_C_Service tyC_C_Service sub_TNoneType_C_Service
    kv_list := kit_tyno isC_C_Service tyC_C_Service sub_Tlist_C_Service
    kv_L := kit_reflist sub_C_Service_Tlist
    kv_T := kit_reftuple sub_C_Service_Ttuple
    z_max := PySem.W.mg_none_of X G z_max
    z_min := PySem.W.mg_none_of X G z_min
    z_zip := PySem.W.mg_none_of X G z_zip
    f_law := f_law
    d_law := _
    F_law := F_law
  }
  exact ⟨PySem.W.fnOf "law" "law" (defArgs s_law) (defBody s_law) (defScope s_law) .none kV_law dc_law pm_law an_law cd_law ct_law, fun s v => .of_eq rfl, fun base _ _ => ok_law13 T⟩
theorem walk {l : PySem.W.OpenLaw} {q : Program} {loose : List Str} {XP : (Str → Option Value) → Heap → Prop} {YP : World → Heap → Prop} {d : DefRec} {K : Params → PySem.W.Frag} (hn : l.most = some 63) (hdf : d.params.defaults = [])
    (hY : ∀ (w : World) (h : Heap), YP w h → (K w.params).In h)
    (F : ∀ (w : World) (mg : Str → Option Value) (fa : Addr) (h : Heap), (K w.params).In h → h.Ns mainGlobals mg → mg d.name = some (.ref fa) →
      ∃ fd : FuncData, (∀ (s : Shared) (u : Value), BindsTo s fd ⟨[u], []⟩ [("_law_script", u)]) ∧ ∀ base : Heap, (K w.params).In base → base.Ns mainGlobals mg → FnTop l.prog w (K w.params) mg base 10 fa fd ["_law_script"] (spLaw (K w.params))) :
    PySem.W.WalkO q loose XP YP l.row.toRowW d [] (fun f vs => PySem.call f vs) :=
  walk_top (n := 63) (k := 10) (y := "_law_script") (sp := fun w => spLaw (K w.params)) hn (by decide) hdf ⟨rfl, by decide, by decide⟩ hY F (fun _ _ a ns hl hS => ⟨a, ns, rfl, hS, hl, fun _ => rfl⟩)
end My
open PySem PySem.W PyProof.Rows
set_option maxRecDepth 100000 in
set_option maxHeartbeats 0 in
theorem PySem.Challenge.cw_wholetraces_k13_books_refused_holds : PySem.Challenge.rw_wholetraces_k13_books_refused.Holds := by
  w_on; o_law; k_head; (case hw => w_witness2)
  k_fill
  refine My.walk (l := PySem.Challenge.rw_wholetraces_k13_books_refused) rfl rfl (fun w h Y => PySem.W.kIn_of Y) ?F
  case F =>
    intro w mg fa h KX G hmg
    refine' My.all_mk KX G hmg ?a_law ?a__law_take ?a__law_box ?a__law_pick ?a__law_mixed ?a__law_names ?a__law_some ?a__law_words ?a__law_drawn_row ?a__law_any_service ?a__law_any_book ?a_LETTERS ?a_NO_NAMES ?a_is_name ?a_is_sequence ?a_are_names ?a_are_some_names ?a_is_name_or ?a_InvalidRow ?a_Begin ?a_Send ?a_Back ?a_End ?a_ascending ?a_are_rows ?a_Row ?a_InvalidService ?a_Service ?a__law_row ?a__law_service_of ?a_are_some_services ?a_all_among ?a_InvalidBook ?a_Book ?a_TraceError ?a__law_word ?a__law_odd ?in_f_InvalidRow_init ?in_f_Begin_init ?in_f_Send_init ?in_f_Back_init ?in_f_End_init ?in_f_InvalidService_init ?in_f_Service_init ?in_f_InvalidBook_init ?in_f_Book_init ?l_take ?l_box ?l_pick ?l_mixed ?l_names ?l_some ?l_words ?l_drawn_row ?l_any_service ?l_any_book ?l_is_name ?l_is_sequence ?l_are_names ?l_are_some_names ?l_is_name_or ?l_InvalidRow_init ?l_Begin_init ?l_Send_init ?l_Back_init ?l_End_init ?l_ascending ?l_are_rows ?l_InvalidService_init ?l_row ?l_service_of ?l_are_some_services ?l_all_among ?l_InvalidBook_init ?l_Book_init ?l_word ?l_odd ?l_law ?l_aNO ?xL_C_InvalidRow ?xL_C_InvalidService ?l_Service_init ?xL_C_InvalidBook ?dl_Service_init ?l_e_waits ?l_e_leaves ?l_e_rows ?cc_take ?k_take ?cc_box ?k_box ?cc_pick ?k_pick ?cc_mixed ?k_mixed ?cc_names ?k_names ?cc_some ?k_some ?cc_words ?k_words ?cc_drawn_row ?k_drawn_row ?cc_any_service ?k_any_service ?cc_any_book ?k_any_book ?cc_is_name ?k_is_name ?cc_is_sequence ?k_is_sequence ?cc_are_names ?k_are_names ?cc_are_some_names ?k_are_some_names ?cc_is_name_or ?k_is_name_or ?cc_InvalidRow_init ?k_InvalidRow_init ?cc_Begin_init ?k_Begin_init ?cc_Send_init ?k_Send_init ?cc_Back_init ?k_Back_init ?cc_End_init ?k_End_init ?cc_ascending ?k_ascending ?cc_are_rows ?k_are_rows ?cc_InvalidService_init ?k_InvalidService_init ?cc_row ?k_row ?cc_service_of ?k_service_of ?cc_are_some_services ?k_are_some_services ?cc_all_among ?k_all_among ?cc_InvalidBook_init ?k_InvalidBook_init ?cc_Book_init ?k_Book_init ?cc_word ?k_word ?cc_odd ?k_odd ?cc_law ?k_law ?z_len ?z_int ?z_abs ?z_list ?z_range ?z_tuple ?z_isinstance ?z_str ?z_all ?z_set ?sa_C_InvalidRow ?eb_C_InvalidRow ?tyC_C_InvalidRow ?kc_C_InvalidRow ?q_nwRow ?q_tRow ?pg_C_Begin ?hd_C_Begin ?po_C_Begin ?sa_C_Begin ?mk_C_Begin ?fi_f_Begin_init ?kc_C_Begin ?n_C_Begin_mark ?n_C_Begin_kind ?n_C_Begin_mood ?pg_C_Send ?hd_C_Send ?po_C_Send ?sa_C_Send ?mk_C_Send ?fi_f_Send_init ?kc_C_Send ?n_C_Send_mood ?n_C_Send_service ?n_C_Send_mark ?pg_C_Back ?hd_C_Back ?po_C_Back ?sa_C_Back ?mk_C_Back ?fi_f_Back_init ?kc_C_Back ?n_C_Back_mood ?n_C_Back_service ?n_C_Back_sign ?n_C_Back_then ?pg_C_End ?hd_C_End ?po_C_End ?sa_C_End ?mk_C_End ?fi_f_End_init ?kc_C_End ?n_C_End_mood ?n_C_End_outcome ?n_C_End_sign ?n_C_End_part ?z_sorted ?ca_C_Begin ?cg_ ?ck_ ?cm_C_Begin ?ca_C_Send ?cm_C_Send ?ca_C_Back ?cm_C_Back ?ca_C_End ?cm_C_End ?isC_C_Row ?tyC_C_Row ?sub_C_Begin_C_Row ?sub_C_Send_C_Row ?sub_C_Back_C_Row ?sub_C_End_C_Row ?isC_C_Back ?tyC_C_Back ?sub_C_Begin_C_Back ?ne_C_Begin_C_Back ?sub_C_Send_C_Back ?ne_C_Send_C_Back ?sub_C_Back_C_Back ?sub_C_End_C_Back ?ne_C_End_C_Back ?sa_C_InvalidService ?eb_C_InvalidService ?tyC_C_InvalidService ?kc_C_InvalidService ?q_nwSvc ?q_tSvc ?pg_C_Service ?hd_C_Service ?po_C_Service ?sa_C_Service ?mk_C_Service ?fi_f_Service_init ?kc_C_Service ?cc_Service_init ?k_Service_init ?n_C_Service_name ?n_C_Service_kinds ?n_C_Service_waits ?n_C_Service_leaves ?n_C_Service_rows ?n_C_Service_moods ?sa_C_InvalidBook ?eb_C_InvalidBook ?tyC_C_InvalidBook ?kc_C_InvalidBook ?q_nwBk ?q_tBk ?isC_C_Begin ?tyC_C_Begin ?sub_C_Begin_C_Begin ?isC_C_Send ?tyC_C_Send ?sub_C_Begin_C_Send ?ne_C_Begin_C_Send ?isC_C_End ?tyC_C_End ?sub_C_Begin_C_End ?ne_C_Begin_C_End ?sub_C_Send_C_Begin ?ne_C_Send_C_Begin ?sub_C_Send_C_Send ?sub_C_Send_C_End ?ne_C_Send_C_End ?sub_C_Back_C_Begin ?ne_C_Back_C_Begin ?sub_C_Back_C_Send ?ne_C_Back_C_Send ?sub_C_Back_C_End ?ne_C_Back_C_End ?sub_C_End_C_Begin ?ne_C_End_C_Begin ?sub_C_End_C_Send ?ne_C_End_C_Send ?sub_C_End_C_End ?ca_C_Service ?cm_C_Service ?isC_C_Service ?tyC_C_Service ?sub_C_Service_C_Service ?pg_C_Book ?hd_C_Book ?po_C_Book ?sa_C_Book ?mk_C_Book ?fi_f_Book_init ?kc_C_Book ?n_C_Book_services ?n_C_Book_roots ?n_C_Book_names ?n_C_Book_marks ?n_C_Book_signs ?n_C_Book__rows ?isC_C_TraceError ?tyC_C_TraceError ?sub_C_InvalidBook_C_TraceError ?isC_C_InvalidService ?sub_C_InvalidBook_C_InvalidService ?ne_C_InvalidBook_C_InvalidService ?ga_C_InvalidBook ?gg_C_InvalidBook ?hd_C_InvalidBook ?ca_C_InvalidBook ?cm_C_InvalidBook ?isC_C_InvalidBook ?sub_C_InvalidBook_C_InvalidBook ?sub_Tstr_C_Service ?sub_TNoneType_C_Service ?sub_Tlist_C_Service ?sub_C_Service_Tlist ?sub_C_Service_Ttuple ?z_max ?z_min ?z_zip
    (case a_law => k_is)
    (case a__law_take => k_is)
    (case a__law_box => k_is)
    (case a__law_pick => k_is)
    (case a__law_mixed => k_is)
    (case a__law_names => k_is)
    (case a__law_some => k_is)
    (case a__law_words => k_is)
    (case a__law_drawn_row => k_is)
    (case a__law_any_service => k_is)
    (case a__law_any_book => k_is)
    (case a_LETTERS => k_is)
    (case a_NO_NAMES => k_is)
    (case a_is_name => k_is)
    (case a_is_sequence => k_is)
    (case a_are_names => k_is)
    (case a_are_some_names => k_is)
    (case a_is_name_or => k_is)
    (case a_InvalidRow => k_is)
    (case a_Begin => k_is)
    (case a_Send => k_is)
    (case a_Back => k_is)
    (case a_End => k_is)
    (case a_ascending => k_is)
    (case a_are_rows => k_is)
    (case a_Row => k_is)
    (case a_InvalidService => k_is)
    (case a_Service => k_is)
    (case a__law_row => k_is)
    (case a__law_service_of => k_is)
    (case a_are_some_services => k_is)
    (case a_all_among => k_is)
    (case a_InvalidBook => k_is)
    (case a_Book => k_is)
    (case a_TraceError => k_is)
    (case a__law_word => k_is)
    (case a__law_odd => k_is)
    (case in_f_InvalidRow_init => k_is)
    (case in_f_Begin_init => k_is)
    (case in_f_Send_init => k_is)
    (case in_f_Back_init => k_is)
    (case in_f_End_init => k_is)
    (case in_f_InvalidService_init => k_is)
    (case in_f_Service_init => k_is)
    (case in_f_InvalidBook_init => k_is)
    (case in_f_Book_init => k_is)
    (case l_take => k_is)
    (case l_box => k_is)
    (case l_pick => k_is)
    (case l_mixed => k_is)
    (case l_names => k_is)
    (case l_some => k_is)
    (case l_words => k_is)
    (case l_drawn_row => k_is)
    (case l_any_service => k_is)
    (case l_any_book => k_is)
    (case l_is_name => k_is)
    (case l_is_sequence => k_is)
    (case l_are_names => k_is)
    (case l_are_some_names => k_is)
    (case l_is_name_or => k_is)
    (case l_InvalidRow_init => k_is)
    (case l_Begin_init => k_is)
    (case l_Send_init => k_is)
    (case l_Back_init => k_is)
    (case l_End_init => k_is)
    (case l_ascending => k_is)
    (case l_are_rows => k_is)
    (case l_InvalidService_init => k_is)
    (case l_row => k_is)
    (case l_service_of => k_is)
    (case l_are_some_services => k_is)
    (case l_all_among => k_is)
    (case l_InvalidBook_init => k_is)
    (case l_Book_init => k_is)
    (case l_word => k_is)
    (case l_odd => k_is)
    (case l_law => k_is)
    (case l_aNO => k_is)
    (case xL_C_InvalidRow => k_is)
    (case xL_C_InvalidService => k_is)
    (case l_Service_init => k_is)
    (case xL_C_InvalidBook => k_is)
    (case dl_Service_init => k_is)
    (case l_e_waits => k_is)
    (case l_e_leaves => k_is)
    (case l_e_rows => k_is)
    (case cc_take => k_is)
    (case k_take => k_is)
    (case cc_box => k_is)
    (case k_box => k_is)
    (case cc_pick => k_is)
    (case k_pick => k_is)
    (case cc_mixed => k_is)
    (case k_mixed => k_is)
    (case cc_names => k_is)
    (case k_names => k_is)
    (case cc_some => k_is)
    (case k_some => k_is)
    (case cc_words => k_is)
    (case k_words => k_is)
    (case cc_drawn_row => k_is)
    (case k_drawn_row => k_is)
    (case cc_any_service => k_is)
    (case k_any_service => k_is)
    (case cc_any_book => k_is)
    (case k_any_book => k_is)
    (case cc_is_name => k_is)
    (case k_is_name => k_is)
    (case cc_is_sequence => k_is)
    (case k_is_sequence => k_is)
    (case cc_are_names => k_is)
    (case k_are_names => k_is)
    (case cc_are_some_names => k_is)
    (case k_are_some_names => k_is)
    (case cc_is_name_or => k_is)
    (case k_is_name_or => k_is)
    (case cc_InvalidRow_init => k_is)
    (case k_InvalidRow_init => k_is)
    (case cc_Begin_init => k_is)
    (case k_Begin_init => k_is)
    (case cc_Send_init => k_is)
    (case k_Send_init => k_is)
    (case cc_Back_init => k_is)
    (case k_Back_init => k_is)
    (case cc_End_init => k_is)
    (case k_End_init => k_is)
    (case cc_ascending => k_is)
    (case k_ascending => k_is)
    (case cc_are_rows => k_is)
    (case k_are_rows => k_is)
    (case cc_InvalidService_init => k_is)
    (case k_InvalidService_init => k_is)
    (case cc_row => k_is)
    (case k_row => k_is)
    (case cc_service_of => k_is)
    (case k_service_of => k_is)
    (case cc_are_some_services => k_is)
    (case k_are_some_services => k_is)
    (case cc_all_among => k_is)
    (case k_all_among => k_is)
    (case cc_InvalidBook_init => k_is)
    (case k_InvalidBook_init => k_is)
    (case cc_Book_init => k_is)
    (case k_Book_init => k_is)
    (case cc_word => k_is)
    (case k_word => k_is)
    (case cc_odd => k_is)
    (case k_odd => k_is)
    (case cc_law => k_is)
    (case k_law => k_is)
    (case z_len => k_is)
    (case z_int => k_is)
    (case z_abs => k_is)
    (case z_list => k_is)
    (case z_range => k_is)
    (case z_tuple => k_is)
    (case z_isinstance => k_is)
    (case z_str => k_is)
    (case z_all => k_is)
    (case z_set => k_is)
    (case sa_C_InvalidRow => k_is)
    (case eb_C_InvalidRow => k_is)
    (case tyC_C_InvalidRow => k_is)
    (case kc_C_InvalidRow => k_is)
    (case q_nwRow => k_is)
    (case q_tRow => k_is)
    (case pg_C_Begin => k_is)
    (case hd_C_Begin => k_is)
    (case po_C_Begin => k_is)
    (case sa_C_Begin => k_is)
    (case mk_C_Begin => k_is)
    (case fi_f_Begin_init => k_is)
    (case kc_C_Begin => k_is)
    (case n_C_Begin_mark => k_is)
    (case n_C_Begin_kind => k_is)
    (case n_C_Begin_mood => k_is)
    (case pg_C_Send => k_is)
    (case hd_C_Send => k_is)
    (case po_C_Send => k_is)
    (case sa_C_Send => k_is)
    (case mk_C_Send => k_is)
    (case fi_f_Send_init => k_is)
    (case kc_C_Send => k_is)
    (case n_C_Send_mood => k_is)
    (case n_C_Send_service => k_is)
    (case n_C_Send_mark => k_is)
    (case pg_C_Back => k_is)
    (case hd_C_Back => k_is)
    (case po_C_Back => k_is)
    (case sa_C_Back => k_is)
    (case mk_C_Back => k_is)
    (case fi_f_Back_init => k_is)
    (case kc_C_Back => k_is)
    (case n_C_Back_mood => k_is)
    (case n_C_Back_service => k_is)
    (case n_C_Back_sign => k_is)
    (case n_C_Back_then => k_is)
    (case pg_C_End => k_is)
    (case hd_C_End => k_is)
    (case po_C_End => k_is)
    (case sa_C_End => k_is)
    (case mk_C_End => k_is)
    (case fi_f_End_init => k_is)
    (case kc_C_End => k_is)
    (case n_C_End_mood => k_is)
    (case n_C_End_outcome => k_is)
    (case n_C_End_sign => k_is)
    (case n_C_End_part => k_is)
    (case z_sorted => k_is)
    (case ca_C_Begin => k_is)
    (case cg_ => k_is)
    (case ck_ => k_is)
    (case cm_C_Begin => k_is)
    (case ca_C_Send => k_is)
    (case cm_C_Send => k_is)
    (case ca_C_Back => k_is)
    (case cm_C_Back => k_is)
    (case ca_C_End => k_is)
    (case cm_C_End => k_is)
    (case isC_C_Row => k_is)
    (case tyC_C_Row => k_is)
    (case sub_C_Begin_C_Row => first | k_is | rfl)
    (case sub_C_Send_C_Row => first | k_is | rfl)
    (case sub_C_Back_C_Row => first | k_is | rfl)
    (case sub_C_End_C_Row => first | k_is | rfl)
    (case isC_C_Back => k_is)
    (case tyC_C_Back => k_is)
    (case sub_C_Begin_C_Back => first | k_is | rfl)
    (case ne_C_Begin_C_Back => decide)
    (case sub_C_Send_C_Back => first | k_is | rfl)
    (case ne_C_Send_C_Back => decide)
    (case sub_C_Back_C_Back => first | k_is | rfl)
    (case sub_C_End_C_Back => first | k_is | rfl)
    (case ne_C_End_C_Back => decide)
    (case sa_C_InvalidService => k_is)
    (case eb_C_InvalidService => k_is)
    (case tyC_C_InvalidService => k_is)
    (case kc_C_InvalidService => k_is)
    (case q_nwSvc => k_is)
    (case q_tSvc => k_is)
    (case pg_C_Service => k_is)
    (case hd_C_Service => k_is)
    (case po_C_Service => k_is)
    (case sa_C_Service => k_is)
    (case mk_C_Service => k_is)
    (case fi_f_Service_init => k_is)
    (case kc_C_Service => k_is)
    (case cc_Service_init => k_is)
    (case k_Service_init => k_is)
    (case n_C_Service_name => k_is)
    (case n_C_Service_kinds => k_is)
    (case n_C_Service_waits => k_is)
    (case n_C_Service_leaves => k_is)
    (case n_C_Service_rows => k_is)
    (case n_C_Service_moods => k_is)
    (case sa_C_InvalidBook => k_is)
    (case eb_C_InvalidBook => k_is)
    (case tyC_C_InvalidBook => k_is)
    (case kc_C_InvalidBook => k_is)
    (case q_nwBk => k_is)
    (case q_tBk => k_is)
    (case isC_C_Begin => k_is)
    (case tyC_C_Begin => k_is)
    (case sub_C_Begin_C_Begin => first | k_is | rfl)
    (case isC_C_Send => k_is)
    (case tyC_C_Send => k_is)
    (case sub_C_Begin_C_Send => first | k_is | rfl)
    (case ne_C_Begin_C_Send => decide)
    (case isC_C_End => k_is)
    (case tyC_C_End => k_is)
    (case sub_C_Begin_C_End => first | k_is | rfl)
    (case ne_C_Begin_C_End => decide)
    (case sub_C_Send_C_Begin => first | k_is | rfl)
    (case ne_C_Send_C_Begin => decide)
    (case sub_C_Send_C_Send => first | k_is | rfl)
    (case sub_C_Send_C_End => first | k_is | rfl)
    (case ne_C_Send_C_End => decide)
    (case sub_C_Back_C_Begin => first | k_is | rfl)
    (case ne_C_Back_C_Begin => decide)
    (case sub_C_Back_C_Send => first | k_is | rfl)
    (case ne_C_Back_C_Send => decide)
    (case sub_C_Back_C_End => first | k_is | rfl)
    (case ne_C_Back_C_End => decide)
    (case sub_C_End_C_Begin => first | k_is | rfl)
    (case ne_C_End_C_Begin => decide)
    (case sub_C_End_C_Send => first | k_is | rfl)
    (case ne_C_End_C_Send => decide)
    (case sub_C_End_C_End => first | k_is | rfl)
    (case ca_C_Service => k_is)
    (case cm_C_Service => k_is)
    (case isC_C_Service => k_is)
    (case tyC_C_Service => k_is)
    (case sub_C_Service_C_Service => first | k_is | rfl)
    (case pg_C_Book => k_is)
    (case hd_C_Book => k_is)
    (case po_C_Book => k_is)
    (case sa_C_Book => k_is)
    (case mk_C_Book => k_is)
    (case fi_f_Book_init => k_is)
    (case kc_C_Book => k_is)
    (case n_C_Book_services => k_is)
    (case n_C_Book_roots => k_is)
    (case n_C_Book_names => k_is)
    (case n_C_Book_marks => k_is)
    (case n_C_Book_signs => k_is)
    (case n_C_Book__rows => k_is)
    (case isC_C_TraceError => k_is)
    (case tyC_C_TraceError => k_is)
    (case sub_C_InvalidBook_C_TraceError => first | k_is | rfl)
    (case isC_C_InvalidService => k_is)
    (case sub_C_InvalidBook_C_InvalidService => first | k_is | rfl)
    (case ne_C_InvalidBook_C_InvalidService => decide)
    (case ga_C_InvalidBook => k_is)
    (case gg_C_InvalidBook => k_is)
    (case hd_C_InvalidBook => k_is)
    (case ca_C_InvalidBook => k_is)
    (case cm_C_InvalidBook => k_is)
    (case isC_C_InvalidBook => k_is)
    (case sub_C_InvalidBook_C_InvalidBook => first | k_is | rfl)
    (case sub_Tstr_C_Service => first | k_is | rfl)
    (case sub_TNoneType_C_Service => first | k_is | rfl)
    (case sub_Tlist_C_Service => first | k_is | rfl)
    (case sub_C_Service_Tlist => first | k_is | rfl)
    (case sub_C_Service_Ttuple => first | k_is | rfl)
    (case z_max => k_is)
    (case z_min => k_is)
    (case z_zip => k_is)
