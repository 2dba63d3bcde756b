import PyProof.Rows.All
import Wide.All
import OpenK.AllK
import Wide.FinOn
import HandS.ForMost
import HandS.Evl
import HandS.Style
import HandS.Walk
import HandS.IsInst
import HandS.Deep
import PySem.Challenge.RW_wholetraces_k05_arguments_of_rows_by_nam
import HandS.Set
import HandS.SetBool
import HandS.Comp
import HandS.Strs
import HandS.ExcInit
import HandS.ExcField
import HandS.TryOnly
import HandS.WordsExc
import HandS.FStr
import HandS.Star
import HandS.Defaults
import HandS.MakeKwOnly
import HandS.MakeKw
set_option Elab.async false
set_option maxRecDepth 100000
set_option maxHeartbeats 4000000
set_option linter.all false
/-! ## Words of my own that speak of no program -/
namespace My
open PySem L2
/-- the box of draws: three ints -/
def bx (w s c : Int) : HO := .lst [.int w, .int s, .int c]
theorem small_ {n : Nat} (h : n ≤ 1000) : n ≤ sizeLine := Nat.le_of_lt (small1000 h)
theorem at_some {xs : List V} {k : Int} (h0 : 0 ≤ k) (h1 : k < (xs.length : Int)) : ∃ v : V, atI xs k = some v ∧ xs[k.toNat]? = some v := by
  have hk : k.toNat < xs.length := by omega
  have h2 : xs[k.toNat]? = some xs[k.toNat] := List.getElem?_eq_getElem hk
  have h3 := atI_nat h2
  rw [show ((k.toNat : Nat) : Int) = k by omega] at h3
  exact ⟨_, h3, h2⟩
theorem int_at {ns : List Int} {k : Int} (h0 : 0 ≤ k) (h1 : k < (ns.length : Int)) : ∃ z : Int, atI (ns.map V.int) k = some (.int z) := by
  obtain ⟨v, h, e⟩ := at_some (xs := ns.map V.int) h0 (by rw [List.length_map]; exact h1)
  rw [List.getElem?_map] at e
  cases q : ns[k.toNat]? with
  | none => rw [q] at e; cases e
  | some z => rw [q] at e; cases e; exact ⟨z, h⟩
/-! ### the heap grows, the box alone changes -/
structure Gr (b : Addr) (H H' : Hp) : Prop where
  keep : ∀ a o, a ≠ b → H a = some o → H' a = some o
  box : ∃ w s c, H' b = some (bx w s c)
/-- at a, which is not the box, stands o -/
structure At (b : Addr) (H : Hp) (a : Addr) (o : HO) : Prop where
  ne : a ≠ b
  at_ : H a = some o
theorem Gr.refl {b : Addr} {H : Hp} {w s c : Int} (h : H b = some (bx w s c)) : Gr b H H := ⟨fun _ _ _ e => e, w, s, c, h⟩
theorem Gr.trans {b : Addr} {H H1 H2 : Hp} (x : Gr b H H1) (y : Gr b H1 H2) : Gr b H H2 := ⟨fun a o n e => y.keep a o n (x.keep a o n e), y.box⟩
theorem Gr.draw {b : Addr} {H H1 : Hp} (x : Gr b H H1) (w s c : Int) : Gr b H (upd H1 b (bx w s c)) := ⟨fun a o n e => by rw [upd_ne n]; exact x.keep a o n e, w, s, c, upd_same⟩
theorem Gr.ne_new {b p : Addr} {H H1 : Hp} (x : Gr b H H1) (h : H1 p = none) : p ≠ b := fun e => by
  obtain ⟨w, s, c, q⟩ := x.box
  rw [e, q] at h
  cases h
theorem Gr.free {b p : Addr} {H H1 : Hp} (x : Gr b H H1) (h : H1 p = none) : H p = none := by
  cases q : H p with
  | none => rfl
  | some o =>
    rw [x.keep p o (x.ne_new h) q] at h
    cases h
theorem Gr.new {b p : Addr} {H H1 : Hp} (x : Gr b H H1) (h : H1 p = none) (o : HO) : Gr b H (upd H1 p o) := by
  have np := x.ne_new h
  refine ⟨fun a u n e => ?_, ?_⟩
  · rw [upd_ne (ne_of_none (x.keep a u n e) h)]
    exact x.keep a u n e
  · obtain ⟨w, s, c, q⟩ := x.box
    exact ⟨w, s, c, by rw [upd_ne np.symm]; exact q⟩
/-- what H does not know may be changed -/
theorem Gr.mut {b p : Addr} {H H1 : Hp} (x : Gr b H H1) (h : H p = none) (np : p ≠ b) (o : HO) : Gr b H (upd H1 p o) := by
  refine ⟨fun a u n e => ?_, ?_⟩
  · rw [upd_ne (ne_of_none e h)]
    exact x.keep a u n e
  · obtain ⟨w, s, c, q⟩ := x.box
    exact ⟨w, s, c, by rw [upd_ne np.symm]; exact q⟩
theorem At.gr {b a : Addr} {H H' : Hp} {o : HO} (h : At b H a o) (g : Gr b H H') : At b H' a o := ⟨h.ne, g.keep a o h.ne h.at_⟩
theorem At.l {K : PySem.W.Frag} {b a : Addr} {H : Hp} {xs : List V} (h : At b H a (.lst xs)) : SqL K H a xs := SqL.of h.at_
theorem At.t {K : PySem.W.Frag} {b a : Addr} {H : Hp} {xs : List V} (h : At b H a (.tup xs)) : SqT K H a xs := SqT.of h.at_
theorem Gr.at_new {b p : Addr} {H H1 : Hp} (x : Gr b H H1) (h : H1 p = none) (o : HO) : At b (upd H1 p o) p o := ⟨x.ne_new h, upd_same⟩
theorem At.new {b a p : Addr} {H : Hp} {o u : HO} (h : At b H a o) (hp : H p = none) : At b (upd H p u) a o := ⟨h.ne, by rw [upd_ne (ne_of_none h.at_ hp)]; exact h.at_⟩
theorem At.nep {b a p : Addr} {H : Hp} {o : HO} (h : At b H a o) (hp : H p = none) : a ≠ p := ne_of_none h.at_ hp
theorem Gr.of_new {b p : Addr} {H : Hp} {w s c : Int} (hb : H b = some (bx w s c)) (h : H p = none) (o : HO) : Gr b H (upd H p o) := (Gr.refl hb).new h o
theorem At.mk_new {b p : Addr} {H H1 : Hp} (x : Gr b H H1) (h : H1 p = none) (o : HO) : At b (upd H1 p o) p o := ⟨x.ne_new h, upd_same⟩
theorem Same.gr {b : Addr} {H H' : Hp} {w s c : Int} (e : Same H H') (h : H b = some (bx w s c)) : Gr b H H' := ⟨fun a o _ q => e a o q, w, s, c, e _ _ h⟩
theorem same_upd {H : Hp} {p : Addr} (h : H p = none) (o : HO) : Same H (upd H p o) := fun b u q => by rw [upd_ne (ne_of_none q h)]; exact q

/-! ### a list against an empty list -/
section
variable {X : Cx}
def rEqE (K : PySem.W.Frag) (neg : Bool) : R2 := fun x y H Q => ∃ (a q : Addr) (xs : List V), x = .ref a ∧ y = .ref q ∧ SqL K H a xs ∧ SqL K H q [] ∧ Q (.bl (if neg then !xs.isEmpty else xs.isEmpty)) H
theorem op_eqE (hu : X.A.units < cLine) : OpR X (compareOp .Eq) (rEqE X.K false) := by
  intro pins s σ H x y u v Q I rx ry h
  obtain ⟨a, q, xs, rfl, rfl, h1, h2, k⟩ := h
  cases rx
  cases ry
  obtain ⟨is, r, p, _⟩ := I.list h1
  obtain ⟨js, r', p', _⟩ := I.list h2
  cases r'
  cases xs with
  | nil =>
    cases r
    exact SeqAt.RcAt.lists (e := fun _ => true) p.isList p'.isList rfl hu (fun j h1 _ => absurd h1 (by simp)) X.prog X.w X.xe _ ⟨.bl true, H, I, rfl, k⟩
  | cons x xs =>
    cases r with
    | cons r1 r2 => exact SeqAt.RcAt.lists_lengths p.isList p'.isList (by simp) hu X.prog X.w X.xe _ ⟨.bl false, H, I, rfl, k⟩
theorem op_neE (hu : X.A.units < cLine) : OpR X (compareOp .NotEq) (rEqE X.K true) := by
  intro pins s σ H x y u v Q I rx ry h
  obtain ⟨a, q, xs, rfl, rfl, h1, h2, k⟩ := h
  cases rx
  cases ry
  obtain ⟨is, r, p, _⟩ := I.list h1
  obtain ⟨js, r', p', _⟩ := I.list h2
  cases r'
  cases xs with
  | nil =>
    cases r
    exact SeqAt.RcNeAt.lists (e := fun _ => true) p.isList p'.isList rfl hu (fun j h1 _ => absurd h1 (by simp)) X.prog X.w X.xe _ ⟨.bl false, H, I, rfl, k⟩
  | cons x xs =>
    cases r with
    | cons r1 r2 => exact SeqAt.RcNeAt.lists_lengths p.isList p'.isList (by simp) hu X.prog X.w X.xe _ ⟨.bl true, H, I, rfl, k⟩
/-- a text so many times -/
def timesL (x : List Nat) : Nat → List Nat
  | 0 => []
  | n + 1 => x ++ timesL x n
end
end My

/-! ## Further rules of my own: a text so many times -/
namespace My
open PySem L2
theorem timesL_one (x : List Nat) : timesL x 1 = x := by simp [timesL]
theorem fold_times (x : Array Nat) : ∀ (n : Nat) (acc : Array Nat), ((List.replicate n x).foldl (· ++ ·) acc).toList = acc.toList ++ timesL x.toList n
  | 0, acc => by simp [timesL]
  | n + 1, acc => by
    rw [List.replicate_succ, List.foldl_cons, fold_times x n, Array.toList_append, List.append_assoc]
    rfl
theorem timesL_len (x : List Nat) : ∀ n : Nat, (timesL x n).length = n * x.length
  | 0 => by simp [timesL]
  | n + 1 => by
    show (x ++ timesL x n).length = (n + 1) * x.length
    rw [List.length_append, timesL_len x n, Nat.add_mul, Nat.one_mul, Nat.add_comm]
theorem timesL_nil : ∀ n : Nat, timesL [] n = []
  | 0 => rfl
  | n + 1 => by
    show [] ++ timesL [] n = []
    rw [timesL_nil n]
    rfl
section
variable {X : Cx}
theorem op_mul_str : OpR X (binaryOp .Mult) (fun x y H Q => ∃ (z : Str) (n : Int), x = .str z ∧ y = .int n ∧ 0 ≤ n ∧ n ≤ 1000 ∧ z.length ≤ 1000 ∧ Q (.str ⟨(timesL z.cps.toList n.toNat).toArray⟩) H) := by
  intro pins s σ H x y v u Q I rx ry h
  obtain ⟨z, n, rfl, rfl, h0, h1, hz, k⟩ := h
  obtain ⟨t, rfl⟩ := rx
  obtain ⟨t', rfl⟩ := ry
  have hs : z.cps.size ≤ 1000 := hz
  refine PySem.P.mul_str (by rw [decide_eq_false (by omega), decide_eq_false (by omega)]; rfl) (fun h2 _ => ?_) (fun h2 _ => ?_) ?_
  · have h3 : (1000 : Int) ≤ (2 ^ 63 - 1) / n := by
      rw [Int.le_ediv_iff_mul_le (by omega)]
      have : (1000 : Int) * n ≤ 1000000 := by omega
      omega
    omega
  · have h3 : z.length * n.toNat ≤ 1000 * 1000 := Nat.mul_le_mul hz (by omega)
    have h4 : z.length * n.toNat ≤ sizeLine := by rw [sizeLine_eq]; omega
    show decide (z.length * n.toNat > sizeLine) = false
    exact decide_eq_false (by omega)
  · by_cases n0 : n < 1
    · have e : n = 0 := by omega
      subst e
      exact ⟨Nat.zero_le _, .str ⟨#[]⟩, H, I.tok _, ⟨_, rfl⟩, k⟩
    · rw [if_neg n0]
      by_cases e : (n == 1 || z.length == 0) = true
      · rw [if_pos e]
        have q : timesL z.cps.toList n.toNat = z.cps.toList := by
          rcases Bool.or_eq_true_iff.mp e with e | e
          · have e' : n = 1 := by simpa using e
            subst e'
            exact timesL_one _
          · have e' : z.cps.toList = [] := by
              have : z.cps.size = 0 := by simpa [Str.length] using e
              exact List.eq_nil_of_length_eq_zero (by simpa using this)
            rw [e', timesL_nil]
        rw [q] at k
        exact ⟨.str z, H, I, ⟨t, rfl⟩, by simpa using k⟩
      · rw [if_neg e]
        have q : (⟨(List.replicate n.toNat z.cps).foldl (· ++ ·) #[]⟩ : Str) = ⟨(timesL z.cps.toList n.toNat).toArray⟩ := by
          have f := fold_times z.cps n.toNat #[]
          have g : (List.replicate n.toNat z.cps).foldl (· ++ ·) #[] = (timesL z.cps.toList n.toNat).toArray := by
            apply Array.toList_inj.mp
            rw [f]
            simp
          rw [g]
        rw [← q] at k
        refine ⟨?_, .str _, H, I.tok _, ⟨_, rfl⟩, k⟩
        show ((List.replicate n.toNat z.cps).foldl (· ++ ·) #[]).size ≤ sizeLine
        rw [← Array.length_toList, fold_times, List.length_append, timesL_len]
        have h3 : n.toNat * z.cps.toList.length ≤ 1000 * 1000 := Nat.mul_le_mul (by omega) (by simpa using hs)
        rw [sizeLine_eq]
        simpa using (by omega : n.toNat * z.cps.toList.length ≤ 16777216)
end
end My

/-! ## The rules that read the written part, with it named (within a comprehension's block it must not hang on the block) -/
namespace My
open PySem L2
section
variable {X : Cx} {e a b o : Expr} {es : List Expr} {te ta tb to : TE} {t : TA} {f name : Str} {pos cpos p apos : Pos} {id T : String}
theorem pe_fldK (K : PySem.W.Frag) (he : PE X e ta) (hK : X.K = K := by rfl) (hb : attributeBase e f X.env (eval e X.env) = eval e X.env := by rfl) : PE X (.Attribute e f pos) (tFld K ta f) := hK ▸ pe_fld he hb
theorem ix_listK (K : PySem.W.Frag) (hK : X.K = K := by rfl) : IxR X (rIxL K) := hK ▸ ix_list
theorem ix_tupK (K : PySem.W.Frag) (hK : X.K = K := by rfl) : IxR X (rIxT K) := hK ▸ ix_tup
theorem sl_listK (K : PySem.W.Frag) (hK : X.K = K := by rfl) : SlR X (rSlL K) := hK ▸ sl_list
theorem sl_tupK (K : PySem.W.Frag) (hK : X.K = K := by rfl) : SlR X (rSlT K) := hK ▸ sl_tup
def rLenS (K : PySem.W.Frag) : List V → Hp → VK → Prop := fun xs H Q => ∃ p ys, xs = [.ref p] ∧ (SqL K H p ys ∨ SqT K H p ys) ∧ Q (.int ys.length) H
theorem call_lenK (K : PySem.W.Frag) (hK : X.K = K := by rfl) : CallR X (.builtin "len") (rLenS K) := hK ▸ call_len_seq
def rListO (K : PySem.W.Frag) : List V → Hp → VK → Prop := fun xs H Q => ∃ p ys, xs = [.ref p] ∧ (SqL K H p ys ∨ SqT K H p ys) ∧ ∀ l, H l = none → Q (.ref l) (upd H l (.lst ys))
theorem call_listK (K : PySem.W.Frag) (hK : X.K = K := by rfl) : CallR X (.type "list") (rListO K) := hK ▸ call_list_of
def rTupO (K : PySem.W.Frag) : List V → Hp → VK → Prop := fun xs H Q => ∃ p ys, xs = [.ref p] ∧ ((SqL K H p ys ∧ ∀ l, H l = none → Q (.ref l) (upd H l (.tup ys))) ∨ (SqT K H p ys ∧ Q (.ref p) H))
theorem call_tupleK (K : PySem.W.Frag) (hK : X.K = K := by rfl) : CallR X (.type "tuple") (rTupO K) := hK ▸ call_tuple_of
theorem op_inK (K : PySem.W.Frag) (hK : X.K = K := by rfl) : OpR X (compareOp .In) (rIn K false) := hK ▸ op_in_seq
theorem op_notInK (K : PySem.W.Frag) (hK : X.K = K := by rfl) : OpR X (compareOp .NotIn) (rIn K true) := hK ▸ op_notIn_seq
theorem op_eqDK (K : PySem.W.Frag) (hu : X.A.units + 64 < cLine) (hK : X.K = K := by rfl) : OpR X (compareOp .Eq) (rEqD K) := hK ▸ op_eqD hu
theorem op_neDK (K : PySem.W.Frag) (hu : X.A.units + 64 < cLine) (hK : X.K = K := by rfl) : OpR X (compareOp .NotEq) (rNeD K) := hK ▸ op_neD hu
theorem op_eqEK (K : PySem.W.Frag) (hu : X.A.units < cLine) (hK : X.K = K := by rfl) : OpR X (compareOp .Eq) (rEqE K false) := hK ▸ op_eqE hu
theorem op_neEK (K : PySem.W.Frag) (hu : X.A.units < cLine) (hK : X.K = K := by rfl) : OpR X (compareOp .NotEq) (rEqE K true) := hK ▸ op_neE hu
def rJoin (K : PySem.W.Frag) : V → List V → Hp → VK → Prop := fun x xs H Q => ∃ a p, ∃ ys : List Str, x = .str a ∧ xs = [.ref p] ∧ (SqL K H p (ys.map V.str) ∨ SqT K H p (ys.map V.str)) ∧
  (ys.map (·.length)).sum + ys.length * a.length ≤ 16777216 ∧ Q (.str (Txt.join a ys)) H
theorem mt_joinK (K : PySem.W.Frag) (hK : X.K = K := by rfl) : MtR X "str.join" (rJoin K) := hK ▸ mt_join
theorem pi_listK (K : PySem.W.Frag) {tg : Expr} (hl : PE X e te) (hK : X.K = K := by rfl) : PI X tg e (iList K te) := hK ▸ pi_list hl
theorem pi_tupK (K : PySem.W.Frag) {tg : Expr} (hl : PE X e te) (hK : X.K = K := by rfl) : PI X tg e (iTup K te) := hK ▸ pi_tup hl
theorem call_isiV (K : PySem.W.Frag) (hK : X.K = K := by rfl) : CallR X (.builtin "isinstance") (rIsi K) := hK ▸ call_isi
theorem call_isiTV (K : PySem.W.Frag) (hK : X.K = K := by rfl) : CallR X (.builtin "isinstance") (rIsiT K) := hK ▸ call_isiT
theorem cr_allK (K : PySem.W.Frag) (hc : X.calm = true) (hK : X.K = K := by rfl) : CallR X (.builtin "all") (rAll K) := hK ▸ cr_all hc
end
end My

/-! ## Data: values that are nested lists and tuples -/
namespace My
open PySem L2
mutual
theorem Dp.same {K : PySem.W.Frag} {H H' : Hp} (e : Same H H') : ∀ (d : PyData) (v : V), Dp K H v d → Dp K H' v d
  | .none, _, h => by cases h; exact .non
  | .bool b, _, h => by cases h; exact .bl b
  | .int i, _, h => by cases h; exact .int i
  | .str x, _, h => by cases h; exact .str x
  | .list ds, _, h => by
    cases h with
    | lst hs ha => exact .lst (e.seq hs) (DpAll.same e ds _ ha)
  | .tuple ds, _, h => by
    cases h with
    | tup hs ha =>
      refine .tup ?_ (DpAll.same e ds _ ha)
      rcases hs with (hs | ⟨o, hs⟩) | hs
      · exact .inl (.inl (e _ _ hs))
      · exact .inl (.inr ⟨o, e _ _ hs⟩)
      · exact .inr hs
  | .dict _, _, h => by cases h
theorem DpAll.same {K : PySem.W.Frag} {H H' : Hp} (e : Same H H') : ∀ (ds : List PyData) (vs : List V), DpAll K H vs ds → DpAll K H' vs ds
  | [], _, h => by cases h; exact .nil
  | d :: ds, _, h => by
    cases h with
    | cons h1 h2 => exact .cons (Dp.same e d _ h1) (DpAll.same e ds _ h2)
end
theorem seqL_same {K : PySem.W.Frag} {H H' : Hp} (e : Same H H') {a : Addr} {xs : List V} (h : SqL K H a xs) : SqL K H' a xs := e.seq h
theorem seqT_same {K : PySem.W.Frag} {H H' : Hp} (e : Same H H') {a : Addr} {xs : List V} (hs : SqT K H a xs) : SqT K H' a xs := by
  rcases hs with (hs | ⟨o, hs⟩) | hs
  · exact .inl (.inl (e _ _ hs))
  · exact .inl (.inr ⟨o, e _ _ hs⟩)
  · exact .inr hs
theorem tyL {K : PySem.W.Frag} {H : Hp} {a : Addr} {xs : List V} (h : SqL K H a xs) : TyX K H (.ref a) (.type "list") := by
  rcases h with (h | ⟨o, h⟩) | ⟨o, its, n, h, hc, _⟩
  · exact .base (.lst h)
  · exact .base (.frz h)
  · exact .kList h hc
theorem tyT {K : PySem.W.Frag} {H : Hp} {a : Addr} {xs : List V} (h : SqT K H a xs) : TyX K H (.ref a) (.type "tuple") := by
  rcases h with (h | ⟨o, h⟩) | ⟨o, its, n, h, hc, _⟩
  · exact .base (.tup h)
  · exact .fTuple h
  · exact .kTuple h hc
/-- the type of a datum -/
def tyD : PyData → String
  | .none => "NoneType"
  | .bool _ => "bool"
  | .int _ => "int"
  | .str _ => "str"
  | .list _ => "list"
  | .tuple _ => "tuple"
  | .dict _ => "dict"
theorem Dp.ty {K : PySem.W.Frag} {H : Hp} {v : V} {d : PyData} (h : Dp K H v d) : TyX K H v (.type (tyD d)) := by
  cases h with
  | non => exact .base .non
  | bl b => exact .base (.bl b)
  | int i => exact .base (.int i)
  | str x => exact .base (.str x)
  | lst hs _ => exact tyL hs
  | tup hs _ => exact tyT hs
/-- a datum of bounded depth whose text, if it is one, is short -/
structure Dv (K : PySem.W.Frag) (H : Hp) (v : V) (d : PyData) : Prop where
  dp : Dp K H v d
  sh : SeqAt.shaped d = true
  tx : ∀ x, d = .str x → x.length ≤ 2000
theorem Dv.same {K : PySem.W.Frag} {H H' : Hp} {v : V} {d : PyData} (h : Dv K H v d) (e : Same H H') : Dv K H' v d := ⟨Dp.same e d v h.dp, h.sh, h.tx⟩
/-- a short text of code points -/
def okS (x : Str) : Bool := decide (x.length ≤ 2000) && PyData.strOk x
theorem shaped_str {x : Str} (h : PyData.strOk x = true) : SeqAt.shaped (.str x) = true := by
  unfold SeqAt.shaped
  simp [PyData.canLay0, PyData.depth, h]
theorem Dv.str {K : PySem.W.Frag} {H : Hp} {x : Str} (h : okS x = true) : Dv K H (.str x) (.str x) := by
  have h' := Bool.and_eq_true_iff.mp h
  exact ⟨.str x, shaped_str h'.2, fun y e => by cases e; exact of_decide_eq_true h'.1⟩
theorem Dp.all_strs {K : PySem.W.Frag} {H : Hp} : ∀ l : List Str, DpAll K H (l.map V.str) (l.map PyData.str)
  | [] => .nil
  | x :: l => .cons (.str x) (Dp.all_strs l)
/-- a datum as a text among some -/
def txD (l : List Str) : PyData → Bool
  | .str x => l.contains x
  | _ => false
theorem any_strs (l : List Str) (d : PyData) : ((l.map PyData.str).any fun z => PyData.eqv z d) = txD l d := by
  induction l with
  | nil => cases d <;> rfl
  | cons y l ih =>
    rw [List.map_cons, List.any_cons, ih]
    cases d with
    | str x =>
      show (PyData.eqv (.str y) (.str x) || l.contains x) = (y :: l).contains x
      rw [List.contains_cons, show PyData.eqv (.str y) (.str x) = (y == x) from by simp [PyData.eqv], BEq.comm]
    | _ =>
      show (PyData.eqv (.str y) _ || false) = false
      simp [PyData.eqv]
theorem canLay_strs : ∀ l : List Str, (l.all PyData.strOk) = true → PyData.canLayAll0 (l.map PyData.str) = true
  | [], _ => rfl
  | y :: l, h => by
    rw [List.all_cons, Bool.and_eq_true] at h
    have ih := canLay_strs l h.2
    simp [PyData.canLayAll0, PyData.canLay0, h.1, ih]
theorem depth_strs : ∀ l : List Str, PyData.depthAll (l.map PyData.str) = 0
  | [] => by simp [PyData.depthAll]
  | y :: l => by
    have ih := depth_strs l
    simp [PyData.depthAll, PyData.depth, ih]
theorem shaped_strs {l : List Str} (h : (l.all PyData.strOk) = true) : SeqAt.shaped (.tuple (l.map PyData.str)) = true := by
  unfold SeqAt.shaped
  simp [PyData.canLay0, PyData.depth, canLay_strs l h, depth_strs l]
theorem shapedL_strs {l : List Str} (h : (l.all PyData.strOk) = true) : SeqAt.shaped (.list (l.map PyData.str)) = true := by
  unfold SeqAt.shaped
  simp [PyData.canLay0, PyData.depth, canLay_strs l h, depth_strs l]
section
variable {X : Cx}
def rInT (K : PySem.W.Frag) (neg : Bool) : R2 := fun x y H Q => ∃ d ds, Dp K H x d ∧ Dp K H y (.tuple ds) ∧ SeqAt.shaped d = true ∧ SeqAt.shaped (.tuple ds) = true ∧ Q (.bl (if neg then !ds.any fun z => PyData.eqv z d else ds.any fun z => PyData.eqv z d)) H
theorem op_inT (K : PySem.W.Frag) (hu : X.A.units + 65 < cLine) (hK : X.K = K := by rfl) : OpR X (compareOp .In) (rInT K false) := by
  subst hK
  intro pins s σ H x y v u Q I rx ry h
  obtain ⟨d, ds, hd, he, sd, se, q⟩ := h
  obtain ⟨as, r1⟩ := Dp.reads I d x v hd rx
  obtain ⟨bs, r2⟩ := Dp.reads I (.tuple ds) y u he ry
  exact SeqAt.in_tuple_reads r2 r1 (by simpa [PyData.canLay0] using SeqAt.canLay_of_shaped se) (SeqAt.canLay_of_shaped sd) (by have := SeqAt.depth_of_shaped sd; have := Nat.min_le_right (PyData.depthAll ds) d.depth; omega) ⟨.bl _, H, I, rfl, q⟩
theorem op_notInT (K : PySem.W.Frag) (hu : X.A.units + 65 < cLine) (hK : X.K = K := by rfl) : OpR X (compareOp .NotIn) (rInT K true) := by
  subst hK
  intro pins s σ H x y v u Q I rx ry h
  obtain ⟨d, ds, hd, he, sd, se, q⟩ := h
  obtain ⟨as, r1⟩ := Dp.reads I d x v hd rx
  obtain ⟨bs, r2⟩ := Dp.reads I (.tuple ds) y u he ry
  exact SeqAt.notIn_tuple_reads r2 r1 (by simpa [PyData.canLay0] using SeqAt.canLay_of_shaped se) (SeqAt.canLay_of_shaped sd) (by have := SeqAt.depth_of_shaped sd; have := Nat.min_le_right (PyData.depthAll ds) d.depth; omega) ⟨.bl _, H, I, rfl, q⟩
end
theorem room65 {k : Nat} {A : Around} (r : Room k A) : A.units + 65 < cLine := by have := r.un; omega
end My

/-! ## == and != of own instances, str of one -/
namespace PySem.W
open PySem PySem.Spec PySem.Calls PyProof.Rows
section
variable {prog : Program} {w : World} {A : Around} {E : Value → Shared → Prop} {s : Shared} {K : Frag} {x C f : Addr} {ox : Obj} {od : Option Obj} {b tb : Value}
theorem my_boundB {M : Model} {name : Str} {id : String} {args : List Value} {Q : Option Value → Shared → Prop} (Y : K.In s.heap) (J : InstAt s.heap x ox C od) (e : findIn K (.ref C) name = some (some (.builtin id)))
    (bd : ∀ u, bindSpecial (.builtin id) u = pure (.builtin id, [u])) (q : wpAny M A (call (.builtin id) (.ref x :: args)) (fun v => Q (some v)) E s) : wpAny M A (callSpecialIfBound? (.ref x) name args) Q E s := by
  have q' : wpAny M A (call (.builtin id) ([.ref x] ++ args) >>= fun v => pure (some v)) Q E s := wpAny_bind (wpAny_mono q (fun _ _ z => wpAny_pure z) fun _ _ z => z)
  simp only [callSpecialIfBound?, bindSpecialIfBound?, bd]
  refine wpAny_holding (wpAny_bind (wpAny_bind (wpAny_bind (J.type.here ((looks_findIn Y e).here (wpAny_bind (wpAny_askSetting (wpAny_ite ?_))))))))
  split
  · refine wpAny_bind ?_
    rw [bd]
    exact wpAny_pure (wpAny_pure q')
  · refine wpAny_tryCatch (wpAny_bind ?_)
    rw [bd]
    exact wpAny_pure (wpAny_pure q')
theorem my_neBody {Q : Fin → Shared → Prop} (hu : A.units < cLine) (Y : K.In s.heap) (J : InstAt s.heap x ox C od) (e : findIn K (.ref C) "__eq__" = some (some (.ref f))) (g : isFn K (.ref f) = true)
    (q : wpAny (model prog w) A (call (.ref f) [.ref x, b]) (fun v s' => ∃ r, v = .bool r ∧ Q (.done (.ret (.bool (!r)))) s') E s) :
    wpAny (model prog w) A (Builtin.«object.__ne__» ⟨[.ref x, b], []⟩) Q E s := by
  unfold Builtin.«object.__ne__»
  rw [show slotArgs "__ne__" 1 ⟨[.ref x, b], []⟩ = pure (.ref x, [b]) from rfl]
  refine wpAny_bind (wpAny_pure (wpAny_bind (wpAny_cRoomFor hu (wpAny_bind (ifBound_K Y J e g (wpAny_mono q (fun v s' hv => ?_) fun _ _ z => z))))))
  obtain ⟨r, rfl, hq⟩ := hv
  exact wpAny_bind (wpAny_truthy_bool (wpAny_pure hq))
theorem my_neArgs (u v : Value) : argsOk "object.__ne__" ⟨[u, v], []⟩ := PySem.F.cmpArgs_ne u v
/-- a != b where a's class has its own == and object's != -/
theorem my_ne {Q : Value → Shared → Prop} (hu : A.units + 1 < cLine) (Y : K.In s.heap) (J : InstAt s.heap x ox C od) (ty : Looks (model prog w) s.heap (typeOf b) tb) (n : notFirst K C tb = true)
    (e1 : findIn K (.ref C) "__ne__" = some (some (.builtin "object.__ne__"))) (so : subIn K (.ref C) (.type "object") = some true) (e : findIn K (.ref C) "__eq__" = some (some (.ref f))) (g : isFn K (.ref f) = true)
    (q : wpAny (model prog w) A.in1 (call (.ref f) [.ref x, b]) (fun v s' => ∃ r, v = .bool r ∧ Q (.bool (!r)) s') E s) : wpAny (model prog w) A (richCompare .NotEq (.ref x) b) Q E s := by
  have once : wpAny (model prog w) A (tryCompare (.ref x) "__ne__" b) (fun r s' => ∃ v, r = some v ∧ Q v s') E s := by
    unfold tryCompare
    refine wpAny_bind (my_boundB Y J e1 PySem.F.cmp_object.ne.bind (wpAny_call (codeAny_call_builtin PySem.F.cmp_object.ne.plain PySem.F.cmpEntry_ne (check_slot PySem.F.cmpKind_ne PySem.F.cmpSplit_ne (J.type.andThen (looks_subIn Y so)) (my_neArgs _ _) ?_))))
    refine my_neBody (by show A.units + 1 < cLine; exact hu) Y J e g (wpAny_mono q (fun v s' hv => ?_) fun _ _ z => z)
    obtain ⟨r, rfl, hq⟩ := hv
    exact ⟨r, rfl, wpAny_pure ⟨_, rfl, hq⟩⟩
  unfold richCompare
  simp only [oneThing_ref]
  refine wpAny_holding (wpAny_bind (wpAny_cRoomFor (Nat.lt_of_succ_lt hu) ?_))
  refine wpAny_bind (J.type.here (wpAny_bind (ty.here ?_)))
  have last : wpAny (model prog w) A (tryCompare (.ref x) (cmpInfo .NotEq).2.1 b) (fun r s' => ∃ v, r = some v ∧ Q v s') E s := once
  by_cases z : tb = .ref C
  · subst z
    rw [if_neg (by simp)]
    refine wpAny_bind (wpAny_pure ?_)
    simp only [Bool.false_eq_true, if_false]
    exact wpAny_bind (wpAny_mono last (fun r s' h => by
      obtain ⟨v, rfl, hq⟩ := h
      exact wpAny_pure hq) fun _ _ z => z)
  · have e2 : subIn K tb (.ref C) = some false := by
      rcases Bool.or_eq_true_iff.mp n with k | k
      · exact absurd (beq_iff_eq.mp k) z
      · exact beq_iff_eq.mp k
    rw [if_pos (by simp only [bne_iff_ne, ne_eq]; exact fun k => z k.symm)]
    refine wpAny_bind ((looks_subIn Y e2).here ?_)
    simp only [Bool.false_eq_true, if_false]
    exact wpAny_bind (wpAny_mono last (fun r s' h => by
      obtain ⟨v, rfl, hq⟩ := h
      exact wpAny_pure hq) fun _ _ z => z)
end
end PySem.W
namespace My
open PySem L2 PyProof.Rows
/-- what is said of classes with == and str of their own -/
structure OwnEqs (P : Program) (w : World) (K : PySem.W.Frag) (mg : Str → Option Value) (base : Heap) {ι : Type} (cl : ι → Addr) (ok : ι → Prop) (k : Nat) (sp : ι → Sp) : Prop where
  fn : ∀ i, ok i → ∃ (f : Addr) (fd : FuncData) (ps : List Str), FnOk P w K mg base CX0 k f fd ps (sp i) ∧ Binds K fd ps [] ∧ PySem.W.findIn K (.ref (cl i)) "__eq__" = some (some (.ref f)) ∧ PySem.W.isFn K (.ref f) = true ∧
    PySem.W.findIn K (.ref (cl i)) "__ne__" = some (some (.builtin "object.__ne__")) ∧ PySem.W.subIn K (.ref (cl i)) (.type "object") = some true
structure OwnStr (P : Program) (w : World) (K : PySem.W.Frag) (mg : Str → Option Value) (base : Heap) {ι : Type} (cl : ι → Addr) (ok : ι → Prop) (k : Nat) (sp : ι → Sp) : Prop where
  fn : ∀ i, ok i → ∃ (f : Addr) (fd : FuncData) (ps : List Str), FnOk P w K mg base CX0 k f fd ps (sp i) ∧ Binds K fd ps [] ∧ PySem.W.findIn K (.ref (cl i)) "__str__" = some (some (.ref f)) ∧ PySem.W.isFn K (.ref f) = true
section
variable {X : Cx} {pins : List (Addr × Obj)} {σ : L2.St} {H : Hp} {s : Shared}
/-- a call somewhere within an operator -/
theorem run_within {k : Nat} {f : Addr} {fd : FuncData} {ps : List Str} {sp : Sp} {B : Around} {Q : VK} {us : List Value} {vs : List V} (I : Inv X pins σ H s) (eB : Env0 X.prog X.w X.K X.mg X.base B X.stack s H) (F : FnOk X.prog X.w X.K X.mg X.base CX0 k f fd ps sp)
    (hr : Room k B) (hb : Binds X.K fd ps []) (r : Vals vs us) (h : sp vs H Q E0) : wpAny (model X.prog X.w) B (call (.ref f) us) (EP X pins σ Q) X.xe s := by
  have ln : us.length = ps.length := r.length ▸ F.len _ _ _ _ h
  have r0 : Vals (vs ++ []) (us ++ []) := r.append .nil
  rw [List.append_nil, List.append_nil] at r0
  have bt := hb s us I.kIn (by rw [List.append_nil]; exact ln)
  rw [List.append_nil] at bt
  refine wpAny_call (codeAny_mono (F.run B X.stack s H ⟨us, []⟩ us vs Q E0 hr eB bt r0 h) fun q s' hq => ?_)
  match q, hq with
  | .error e, hq => exact pass0 pins σ H s e s' I hq
  | .ok (.ret u), hq => exact I.after hq
def rEqO (K : PySem.W.Frag) {ι : Type} (cl : ι → Addr) (ok : ι → Prop) (sp : ι → Sp) (neg : Bool) : R2 := fun x y H Q => ∃ (a : Addr) (i : ι) (dx : Addr) (fs : List (Str × V)) (t : Value), x = .ref a ∧ ok i ∧ H a = some (.ins (cl i) dx fs) ∧ TyX K H y t ∧ PySem.W.notFirst K (cl i) t = true ∧
  sp i [x, y] H (fun v H' => ∃ b, v = .bl b ∧ Q (.bl (if neg then !b else b)) H') E0
theorem ty_looks {x : V} {u t : Value} (I : Inv X pins σ H s) (rx : RelV x u) (ty : TyX X.K H x t) (M : Model) : PySem.W.Looks M s.heap (typeOf u) t := by
  obtain ⟨P, k, p, _⟩ := kit_of I rx ty
  exact k.ty M s.heap I.kIn p
theorem op_eqO (K : PySem.W.Frag) {ι : Type} {cl : ι → Addr} {ok : ι → Prop} {k : Nat} {sp : ι → Sp} (G : OwnEqs X.prog X.w K X.mg X.base cl ok k sp) (hr : Room k X.A) (hK : X.K = K := by rfl) : OpR X (compareOp .Eq) (rEqO K cl ok sp false) := by
  subst hK
  intro pins s σ H x y v u Q I rx ry h
  obtain ⟨a, i, dx, fs, t, rfl, hC, ha, ty, nf, hs⟩ := h
  obtain rfl : v = Value.ref a := rx
  obtain ⟨f, fd, ps, F, hb, e, g, _, _⟩ := G.fn i hC
  obtain ⟨mA, O, _, _, _, _⟩ := ins_get I.hok ha
  obtain ⟨od, J, _⟩ := O.look
  obtain ⟨m, fr⟩ := I.fr
  have r2 : Vals [.ref a, y] [Value.ref a, u] := .cons rfl (.cons ry .nil)
  have q := run_within I I.env0 F hr hb r2 hs
  show wpAny (model X.prog X.w) X.A (richCompare .Eq (.ref a) u) (EP X pins σ Q) X.xe s
  refine PySem.W.cmp_K (op := .Eq) (by have := hr.un; omega) fr I.ok.mod.kin J (ty_looks I ry ty _) nf e g (wpAny_mono q (fun z s' hz => ?_) fun _ _ z => z)
  obtain ⟨v, H', I', r, b, rfl, q⟩ := hz
  obtain rfl : z = Value.bool b := r
  exact ⟨.bl b, H', I', rfl, q⟩
theorem op_neO (K : PySem.W.Frag) {ι : Type} {cl : ι → Addr} {ok : ι → Prop} {k : Nat} {sp : ι → Sp} (G : OwnEqs X.prog X.w K X.mg X.base cl ok k sp) (hr : Room (k + 1) X.A) (hK : X.K = K := by rfl) : OpR X (compareOp .NotEq) (rEqO K cl ok sp true) := by
  subst hK
  intro pins s σ H x y v u Q I rx ry h
  obtain ⟨a, i, dx, fs, t, rfl, hC, ha, ty, nf, hs⟩ := h
  obtain rfl : v = Value.ref a := rx
  obtain ⟨f, fd, ps, F, hb, e, g, e1, so⟩ := G.fn i hC
  obtain ⟨mA, O, _, _, _, _⟩ := ins_get I.hok ha
  obtain ⟨od, J, _⟩ := O.look
  have r2 : Vals [.ref a, y] [Value.ref a, u] := .cons rfl (.cons ry .nil)
  have q := run_within I I.env0.in1 F hr.in1 hb r2 hs
  refine PySem.W.my_ne (by have := hr.un; omega) I.kIn J (ty_looks I ry ty _) nf e1 so e g (wpAny_mono q (fun z s' hz => ?_) fun _ _ z => z)
  obtain ⟨v, H', I', r, b, rfl, q⟩ := hz
  obtain rfl : z = Value.bool b := r
  exact ⟨b, rfl, .bl (!b), H', I', rfl, q⟩
def rStrO {ι : Type} (cl : ι → Addr) (ok : ι → Prop) (sp : ι → Sp) : List V → Hp → VK → Prop := fun xs H Q => ∃ (a : Addr) (i : ι) (dx : Addr) (fs : List (Str × V)), xs = [.ref a] ∧ ok i ∧ H a = some (.ins (cl i) dx fs) ∧ sp i [.ref a] H (fun v H' => ∃ y, v = .str y ∧ Q (.str y) H') E0
/-- str(x) by its own __str__ -/
theorem call_strO (K : PySem.W.Frag) {ι : Type} {cl : ι → Addr} {ok : ι → Prop} {k : Nat} {sp : ι → Sp} (G : OwnStr X.prog X.w K X.mg X.base cl ok k sp) (hr : Room (k + 2) X.A) (hK : X.K = K := by rfl) : CallR X (.type "str") (rStrO cl ok sp) := by
  subst hK
  intro pins s σ H xs us Q I r h
  obtain ⟨a, i, dx, fs, rfl, hC, ha, hs⟩ := h
  rw [Vals.ref1 r]
  obtain ⟨f, fd, ps, F, hb, e, g⟩ := G.fn i hC
  obtain ⟨mA, O, _, _, _, _⟩ := ins_get I.hok ha
  obtain ⟨od, J, _⟩ := O.look
  have r2 : Vals [.ref a] [Value.ref a] := .cons rfl .nil
  have q := run_within I I.env0.in1.in1 F hr.in1.in1 hb r2 hs
  refine PySem.W.kso_call (by have := hr.in1.in1.un; omega) I.kIn J e g (wpAny_mono q (fun z s' hz => ?_) fun _ _ z => z)
  obtain ⟨v, H', I', r, y, rfl, q⟩ := hz
  obtain ⟨t, rfl⟩ : ∃ t, z = Value.str y t := r
  exact ⟨.str y, H', I', ⟨t, rfl⟩, q⟩
end
end My

/-! ## The law's draws: the box, a draw, a pick -/
namespace My
open PySem L2
def top (i : Nat) : Stmt := PySem.Challenge.pw_wholetraces_k05_arguments_of_rows_by_nam.main.body.getD i (.Pass ⟨0, 0, 0, 0⟩)
abbrev s_box : Stmt := top 24
abbrev N_box : List Str := ["_law_script", "_law_k", "_law_cell", "_law_seed", "_law_wide"]
abbrev P_box : List Str := ["_law_script", "_law_k"]
theorem sc_box : FnScope N_box P_box (defScope s_box) := ⟨rfl, rfl, rfl, by decide +kernel, rfl, by decide +kernel, by decide +kernel⟩
abbrev s_take : Stmt := top 25
abbrev N_take : List Str := ["_law_box_here", "_law_many", "_law_digit", "_law_near"]
abbrev P_take : List Str := ["_law_box_here", "_law_many"]
theorem sc_take : FnScope N_take P_take (defScope s_take) := ⟨rfl, rfl, rfl, by decide +kernel, rfl, by decide +kernel, by decide +kernel⟩
abbrev s_pick : Stmt := top 26
abbrev N_pick : List Str := ["_law_box_here", "_law_some"]
abbrev P_pick : List Str := ["_law_box_here", "_law_some"]
theorem sc_pick : FnScope N_pick P_pick (defScope s_pick) := ⟨rfl, rfl, rfl, by decide +kernel, rfl, by decide +kernel, by decide +kernel⟩
structure TxDraw (K : PySem.W.Frag) (mg : Str → Option Value) where
  z_len : mg "len" = none
  z_int : mg "int" = none
  z_abs : mg "abs" = none
  f_take : Addr
  d_take : FuncData
  F_take : Fun K "_law_take" "_law_take" s_take f_take d_take
  m_take : mg "_law_take" = some (.ref f_take)
  b_take : Binds K d_take P_take []
  f_box : Addr
  d_box : FuncData
  F_box : Fun K "_law_box" "_law_box" s_box f_box d_box
  m_box : mg "_law_box" = some (.ref f_box)
  b_box : Binds K d_box P_box []
  f_pick : Addr
  d_pick : FuncData
  F_pick : Fun K "_law_pick" "_law_pick" s_pick f_pick d_pick
  m_pick : mg "_law_pick" = some (.ref f_pick)
  b_pick : Binds K d_pick P_pick []
def spBox (K : PySem.W.Frag) : Sp := fun vs H Q _ => ∃ (a : Addr) (ns : List Int) (k : Int), vs = [.ref a, .int k] ∧ SqL K H a (ns.map V.int) ∧ ns.length ≤ 63 ∧ 0 ≤ k ∧
  ∀ (b : Addr) (w s : Int), H b = none → Q (.ref b) (upd H b (bx w s 0))
def spTake : Sp := fun vs H Q _ => ∃ (b : Addr) (w s c m : Int), vs = [.ref b, .int m] ∧ H b = some (bx w s c) ∧ 0 < m ∧ m < 1073741824 ∧
  ∀ (d w' s' c' : Int), 0 ≤ d → d < m → Q (.int d) (upd H b (bx w' s' c'))
/-- an item of a list that stands at a, another object than the box -/
def spPick (K : PySem.W.Frag) : Sp := fun vs H Q _ => ∃ (b a : Addr) (w s c : Int) (xs : List V), vs = [.ref b, .ref a] ∧ H b = some (bx w s c) ∧ SqL K H a xs ∧ (∀ u, SqL K (upd H b u) a xs) ∧ xs ≠ [] ∧ xs.length ≤ 1000 ∧
  ∀ (x : V) (w' s' c' : Int), x ∈ xs → Q x (upd H b (bx w' s' c'))
section
variable {P : Program} {w : World} {K : PySem.W.Frag} {mg : Str → Option Value} {base : Heap}
theorem ok_take (T : TxDraw K mg) : FnOk P w K mg base CX0 1 T.f_take T.d_take P_take spTake := by
  refine T.F_take.ok sc_take (fun vs H Q E h => ?_) (fun cdv A outer s H vs Q E hr h => ?_)
  · obtain ⟨b, w, s, c, m, rfl, _⟩ := h
    rfl
  obtain ⟨b, w, s, c, m, rfl, hb, m0, m1, k⟩ := h
  refine ⟨_, (pss_cons (ps_if (pt_cmpR op_gt (pe_ix (ix_listK K) (pv 0) pe_int (fun _ _ => rfl)) pe_int (nomark _)) (pss_cons (ps_set (i := 2) sc_take.nd rfl (Or.inl rfl) (pe_op op_mod (pe_callTy call_int1 (by rfl) T.z_int (by decide +kernel) (pa_cons (pe_ix (ix_listK K) (pv 0) pe_int (fun _ _ => rfl)) pa_nil)) (pv 1)))
      (pss_cons (ps_asg (pe_op op_fdiv (pe_ix (ix_listK K) (pv 0) pe_int (fun _ _ => rfl)) (pv 1)) (pg_sub (pv 0) pe_int set_list))
      (pss_one (ps_ret (pv 2))))) pss_nil)
      (pss_cons (ps_asg (pe_op op_add (pe_ix (ix_listK K) (pv 0) pe_int (fun _ _ => rfl)) pe_int) (pg_sub (pv 0) pe_int set_list))
      (pss_cons (ps_set (i := 3) sc_take.nd rfl (Or.inl rfl) (pe_op op_mod (pe_callTy call_int1 (by rfl) T.z_int (by decide +kernel) (pa_cons (pe_op op_mul (pe_op op_add (pe_ix (ix_listK K) (pv 0) pe_int (fun _ _ => rfl)) (pe_op op_mul pe_int (pe_ix (ix_listK K) (pv 0) pe_int (fun _ _ => rfl)))) pe_int) pa_nil)) pe_int))
      (pss_cons (ps_asg (pe_op op_add (pe_op op_mod (pe_callTy call_int1 (by rfl) T.z_int (by decide +kernel) (pa_cons (pe_op op_add (pe_op op_mul (pv 3) pe_int) pe_int) pa_nil)) pe_int) pe_int) (pg_sub (pv 0) pe_int set_list))
      (pss_one (ps_ret (pe_op op_mod (pe_callTy call_int1 (by rfl) T.z_int (by decide +kernel) (pa_cons (pe_op op_fdiv (pe_op op_add (pe_op op_mul (pv 3) pe_int) (pe_ix (ix_listK K) (pv 0) pe_int (fun _ _ => rfl))) pe_int) pa_nil)) (pv 1)))))))), ?_⟩
  refine ⟨_, rfl, _, _, _, _, rfl, rfl, SqL.of hb, rfl, _, _, rfl, rfl, _, rfl, ?_⟩
  refine ite2 (fun h => ?_) (fun h => ?_)
  · refine ⟨_, rfl, _, _, _, _, rfl, rfl, SqL.of hb, rfl, .inl ⟨_, rfl, _, rfl, _, _, rfl, rfl, m0, ?_⟩⟩
    refine ⟨_, rfl, _, _, _, _, rfl, rfl, SqL.of hb, rfl, _, rfl, _, _, rfl, rfl, ⟨m0, m1⟩, _, rfl, b, _, _, 0, rfl, rfl, hb, rfl, _, rfl, ?_⟩
    exact k _ _ _ _ (Int.emod_nonneg _ (by omega)) (Int.emod_lt_of_pos _ m0)
  · refine ⟨_, rfl, _, _, _, _, rfl, rfl, SqL.of hb, rfl, _, _, rfl, rfl, _, rfl, b, _, _, 2, rfl, rfl, hb, rfl, ?_⟩
    refine ⟨_, rfl, _, _, _, _, rfl, rfl, SqL.of upd_same, rfl, _, rfl, _, _, _, _, rfl, rfl, SqL.of upd_same, rfl, _, _, rfl, rfl, .inl ⟨by decide, by decide⟩, _, _, rfl, rfl, _, _, rfl, rfl, .inr ⟨by decide, by decide⟩, .inl ⟨_, rfl, _, _, rfl, rfl, (by show (0 : Int) < _; decide), ?_⟩⟩
    refine ⟨_, rfl, _, _, rfl, rfl, .inr ⟨by decide, by decide⟩, _, _, rfl, rfl, .inl ⟨_, rfl, _, _, rfl, rfl, (by show (0 : Int) < _; decide), _, _, rfl, rfl, _, rfl, b, _, _, 1, rfl, rfl, upd_same, rfl, ?_⟩⟩
    rw [upd_upd]
    refine ⟨_, rfl, _, _, rfl, rfl, .inr ⟨by decide, by decide⟩, _, rfl, _, _, _, _, rfl, rfl, SqL.of upd_same, rfl, _, _, rfl, rfl, _, _, rfl, rfl, ⟨by decide, by decide⟩, .inl ⟨_, rfl, _, rfl, _, _, rfl, rfl, m0, ?_⟩⟩
    exact k _ _ _ _ (Int.emod_nonneg _ (by omega)) (Int.emod_lt_of_pos _ m0)
theorem ok_box (T : TxDraw K mg) : FnOk P w K mg base CX0 1 T.f_box T.d_box P_box (spBox K) := by
  refine T.F_box.ok sc_box (fun vs H Q E h => ?_) (fun cdv A outer s H vs Q E hr h => ?_)
  · obtain ⟨a, ns, k, rfl, _⟩ := h
    rfl
  obtain ⟨a, ns, k, rfl, hS, h63, k0, q⟩ := h
  have hl : (ns.map V.int).length = ns.length := List.length_map _
  refine ⟨_, (pss_cons (ps_set (i := 2) sc_box.nd rfl (Or.inl rfl) (pe_op op_add (pe_op op_mul pe_int (pv 1)) pe_int))
      (Evl.pss_cut (ps_if (pt_cmpR op_lt (pv 1) (pe_callB (call_lenK K) (by rfl) T.z_len (by decide +kernel) (pa_cons (pv 0) pa_nil)) (nomark _)) (pss_one (ps_set (i := 2) sc_box.nd rfl (Or.inl rfl) (pe_callB call_abs (by rfl) T.z_abs (by decide +kernel) (pa_cons (pe_callTy call_int1 (by rfl) T.z_int (by decide +kernel) (pa_cons (pe_ix (ix_listK K) (pv 0) (pv 1) (fun _ _ => rfl)) pa_nil)) pa_nil)))) (pss_one (ps_if (pt_cmpR op_gt (pe_callB (call_lenK K) (by rfl) T.z_len (by decide +kernel) (pa_cons (pv 0) pa_nil)) pe_int (nomark _)) (pss_one (ps_set (i := 2) sc_box.nd rfl (Or.inl rfl) (pe_op op_add (pv 2) (pe_op op_mul (pe_op op_mod (pe_callTy call_int1 (by rfl) T.z_int (by decide +kernel) (pa_cons (pe_ix (ix_listK K) (pv 0) (pe_op op_mod (pe_callTy call_int1 (by rfl) T.z_int (by decide +kernel) (pa_cons (pv 1) pa_nil)) (pe_callB (call_lenK K) (by rfl) T.z_len (by decide +kernel) (pa_cons (pv 0) pa_nil))) (fun _ _ => rfl)) pa_nil)) pe_int) pe_int)))) pss_nil)))
      (pss_cons (ps_set (i := 3) sc_box.nd rfl (Or.inl rfl) (pe_op op_add (pe_op op_mod (pe_callTy call_int1 (by rfl) T.z_int (by decide +kernel) (pa_cons (pe_op op_add (pe_op op_add (pe_op op_mul (pe_op op_mod (pe_callTy call_int1 (by rfl) T.z_int (by decide +kernel) (pa_cons (pv 2) pa_nil)) pe_int) pe_int) (pe_op op_mul pe_int (pv 1))) pe_int) pa_nil)) pe_int) pe_int))
      (pss_cons (ps_set (i := 4) sc_box.nd rfl (Or.inl rfl) (pe_ifExp (pt_cmpR op_ge (pv 2) (pe_op op_pow pe_int pe_int) (nomark _)) (pv 2) pe_int))
      (pss_one (ps_ret (pe_lst (pa_cons (pv 4) (pa_cons (pv 3) (pa_cons pe_int pa_nil)))))))))), ?_⟩
  refine ⟨_, rfl, _, _, rfl, rfl, .inl ⟨by decide, by decide⟩, _, _, rfl, rfl, ?_⟩
  refine ⟨fun σ H' => H' = H ∧ ∃ cell : Int, σ = [some (.ref a), some (.int k), some (.int cell), none, none], ?_, ?_⟩
  · refine ⟨_, rfl, _, rfl, _, _, rfl, .inl hS, _, _, rfl, rfl, _, rfl, ?_⟩
    refine ite2 (fun h => ?_) (fun h => ?_)
    · have h' := of_decide_eq_true h
      rw [hl] at h'
      obtain ⟨z, hz⟩ := int_at k0 h'
      exact ⟨_, rfl, _, rfl, _, _, _, _, rfl, rfl, hS, hz, .inl ⟨_, rfl, _, rfl, rfl, _, rfl⟩⟩
    · refine ⟨_, rfl, _, _, rfl, .inl hS, _, _, rfl, rfl, _, rfl, ?_⟩
      refine ite2 (fun h2 => ?_) (fun h2 => ?_)
      · have h2' := of_decide_eq_true h2
        obtain ⟨z, hz⟩ := int_at (ns := ns) (k := k % (((ns.map V.int).length : Nat) : Int)) (Int.emod_nonneg _ (by omega)) (by rw [hl] at h2' ⊢; exact Int.emod_lt_of_pos _ h2')
        exact ⟨_, rfl, _, rfl, _, rfl, .inl ⟨_, rfl, _, rfl, _, _, rfl, .inl hS, _, _, rfl, rfl, h2', _, _, _, _, rfl, rfl, hS, hz, .inl ⟨_, rfl, _, _, rfl, rfl, (by show (0 : Int) < _; decide), _, _, rfl, rfl, .inr ⟨by decide, by decide⟩, _, _, rfl, rfl, rfl, _, rfl⟩⟩⟩
      · exact ⟨rfl, _, rfl⟩
  · rintro σ H' ⟨rfl, cell, rfl⟩
    refine ⟨_, rfl, .inl ⟨_, rfl, _, _, rfl, rfl, (by show (0 : Int) < _; decide), _, _, rfl, rfl, .inr ⟨by decide, by decide⟩, _, rfl, _, _, rfl, rfl, .inl ⟨by decide, by decide⟩, _, _, rfl, rfl, _, _, rfl, rfl, .inl ⟨_, rfl, _, _, rfl, rfl, (by show (0 : Int) < _; decide), _, _, rfl, rfl, ?_⟩⟩⟩
    refine ⟨_, rfl, _, _, rfl, rfl, ⟨by decide, by decide, by decide⟩, _, _, rfl, rfl, _, rfl, ?_⟩
    refine ite2 (fun h => ?_) (fun h => ?_)
    · exact ⟨_, rfl, _, rfl, _, rfl, by show 3 ≤ sizeLine; decide, fun b hb => q b _ _ hb⟩
    · exact ⟨_, rfl, _, rfl, by show 3 ≤ sizeLine; decide, fun b hb => q b _ _ hb⟩
theorem ok_pick (T : TxDraw K mg) : FnOk P w K mg base CX0 2 T.f_pick T.d_pick P_pick (spPick K) := by
  have G_take : FnOk P w K mg base CX0 1 T.f_take T.d_take P_take spTake := ok_take T
  refine T.F_pick.ok sc_pick (fun vs H Q E h => ?_) (fun cdv A outer s H vs Q E hr h => ?_)
  · obtain ⟨b, a, w, s, c, xs, rfl, _⟩ := h
    rfl
  obtain ⟨b, a, w, s, c, xs, rfl, hb, hS, hk, hne, hlen, q⟩ := h
  refine ⟨_, (pss_one (ps_ret (pe_ix (ix_listK K) (pv 1) (pe_call G_take (hr.mono (by decide)) (by rfl) T.m_take T.F_take.kp T.b_take .nil pass0 (pa_cons (pv 0) (pa_cons (pe_callB (call_lenK K) (by rfl) T.z_len (by decide +kernel) (pa_cons (pv 1) pa_nil)) pa_nil))) (fun _ _ => rfl)))), ?_⟩
  have hp : 0 < xs.length := List.length_pos_iff.mpr hne
  refine ⟨_, rfl, _, rfl, _, rfl, _, _, rfl, .inl hS, b, w, s, c, _, rfl, hb, by omega, by omega, fun d w' s' c' d0 d1 => ?_⟩
  obtain ⟨v, hv, he⟩ := at_some (xs := xs) d0 d1
  exact ⟨_, _, _, _, rfl, rfl, hk _, hv, q v w' s' c' (List.mem_of_getElem? he)⟩
/-- the same, the heap behind told by what stands -/
def spTakeG : Sp := fun vs H Q _ => ∃ (b : Addr) (m : Int), vs = [.ref b, .int m] ∧ Gr b H H ∧ 0 < m ∧ m < 1073741824 ∧
  ∀ (d : Int) (H' : Hp), 0 ≤ d → d < m → Gr b H H' → Q (.int d) H'
def spPickG : Sp := fun vs H Q _ => ∃ (b a : Addr) (xs : List V), vs = [.ref b, .ref a] ∧ Gr b H H ∧ At b H a (.lst xs) ∧ xs ≠ [] ∧ xs.length ≤ 1000 ∧
  ∀ (x : V) (H' : Hp), x ∈ xs → Gr b H H' → Q x H'
theorem ok_takeG (T : TxDraw K mg) : FnOk P w K mg base CX0 1 T.f_take T.d_take P_take spTakeG := (ok_take T).imp fun vs H Q E h => by
  obtain ⟨b, m, rfl, g, m0, m1, k⟩ := h
  obtain ⟨w, s, c, hb⟩ := g.box
  exact ⟨b, w, s, c, m, rfl, hb, m0, m1, fun d w' s' c' d0 d1 => k d _ d0 d1 (g.draw _ _ _)⟩
theorem ok_pickG (T : TxDraw K mg) : FnOk P w K mg base CX0 2 T.f_pick T.d_pick P_pick spPickG := (ok_pick T).imp fun vs H Q E h => by
  obtain ⟨b, a, xs, rfl, g, ha, hne, hl, k⟩ := h
  obtain ⟨w, s, c, hb⟩ := g.box
  exact ⟨b, a, w, s, c, xs, rfl, hb, ha.l, fun u => SqL.of (by rw [upd_ne ha.ne]; exact ha.at_), hne, hl, fun x w' s' c' hx => k x _ hx (g.draw _ _ _)⟩
end
end My

/-! ## Names: what a name is (for a law that draws none by _law_names) -/
namespace My
open PySem L2
/-- the words that are no names -/
def BAR : List Str := ["none", "any", "same", "keep", "drop", "good", "bad", "old", "new", "both"]
def ABC : Str := "abcdefghijklmnopqrstuvwxyz"
/-- a name: one to four small letters, none of those words -/
def isNm (x : Str) : Bool := decide (1 ≤ x.length) && decide (x.length ≤ 4) && !(BAR.contains x) && x.cps.toList.all fun c => decide (c ∈ ABC.cps.toList)
theorem isNm_len {x : Str} (h : isNm x = true) : 1 ≤ x.length ∧ x.length ≤ 4 := by
  unfold isNm at h
  simp only [Bool.and_eq_true, decide_eq_true_eq] at h
  exact h.1.1
end My

/-! ## The program: what is a name -/
namespace My
open PySem L2
abbrev s_is_name : Stmt := top 3
abbrev N_is_name : List Str := ["value", "letter"]
abbrev P_is_name : List Str := ["value"]
theorem sc_is_name : FnScope N_is_name P_is_name (defScope s_is_name) := ⟨rfl, rfl, rfl, by decide +kernel, rfl, by decide +kernel, by decide +kernel⟩
/-- a text, or a thing that is none -/
inductive AnyV (K : PySem.W.Frag) (H : Hp) : V → Prop where
  | str (x : Str) (h : x.length ≤ 2000) : AnyV K H (.str x)
  | oth {v : V} {t : Value} (n : ∀ x, v ≠ .str x) (ty : TyX K H v t) (k : PySem.W.kitOne K t (.type "str") = some false) : AnyV K H v
def nmV : V → Bool
  | .str x => isNm x
  | _ => false
def nmD : PyData → Bool
  | .str x => isNm x
  | _ => false
structure TxCheck (K : PySem.W.Frag) (mg : Str → Option Value) where
  z_len : mg "len" = none
  z_isinstance : mg "isinstance" = none
  z_str : mg "str" = none
  z_all : mg "all" = none
  letT : Tok
  m_LET : mg "LETTERS" = some (.str ABC letT)
  aNO : Addr
  m_NO : mg "NO_NAMES" = some (.ref aNO)
  t_NO : ∀ H : Hp, SqT K H aNO (BAR.map V.str)
  f_is_name : Addr
  d_is_name : FuncData
  F_is_name : Fun K "is_name" "is_name" s_is_name f_is_name d_is_name
  m_is_name : mg "is_name" = some (.ref f_is_name)
  b_is_name : Binds K d_is_name P_is_name []
def spIsName (K : PySem.W.Frag) : Sp := fun vs H Q _ => ∃ v : V, vs = [v] ∧ AnyV K H v ∧ ∀ H', Same H H' → Q (.bl (nmV v)) H'
theorem inV_strs (x : Str) : ∀ l : List Str, inV (.str x) (l.map V.str) = l.contains x
  | [] => rfl
  | y :: l => by
    have h := inV_strs x l
    show (y == x || inV (.str x) (l.map V.str)) = (y :: l).contains x
    rw [h, List.contains_cons, BEq.comm]
theorem Dv.any {K : PySem.W.Frag} {H : Hp} {v : V} {d : PyData} (h : Dv K H v d) : AnyV K H v := by
  have t := Dp.ty h.dp
  cases h.dp with
  | str x => exact .str x (h.tx x rfl)
  | non => exact .oth (fun _ e => by cases e) t (kit_ty (by decide +kernel))
  | bl b => exact .oth (fun _ e => by cases e) t (kit_ty (show kitB "bool" "str" = some false by decide +kernel))
  | int i => exact .oth (fun _ e => by cases e) t (kit_ty (show kitB "int" "str" = some false by decide +kernel))
  | lst _ _ => exact .oth (fun _ e => by cases e) t (kit_ty (show kitB "list" "str" = some false by decide +kernel))
  | tup _ _ => exact .oth (fun _ e => by cases e) t (kit_ty (show kitB "tuple" "str" = some false by decide +kernel))
theorem Dv.nm {K : PySem.W.Frag} {H : Hp} {v : V} {d : PyData} (h : Dv K H v d) : nmV v = nmD d := by
  cases h.dp <;> rfl
section
variable {P : Program} {w : World} {K : PySem.W.Frag} {mg : Str → Option Value} {base : Heap}
theorem ok_is_name (T : TxCheck K mg) : FnOk P w K mg base CX0 1 T.f_is_name T.d_is_name P_is_name (spIsName K) := by
  refine T.F_is_name.ok sc_is_name (fun vs H Q E h => ?_) (fun cdv A outer s H vs Q E hr h => ?_)
  · obtain ⟨v, rfl, _⟩ := h
    rfl
  obtain ⟨v, rfl, hv, q⟩ := h
  refine ⟨_, (pss_cons (ps_if (PW.pt (pw_or (pt_not (pt_val (pe_callB (call_isiV K) (by rfl) T.z_isinstance (by decide +kernel) (pa_cons (pv 0) (pa_cons (pe_bltn (v := .ty "str") (by rfl) T.z_str (by decide +kernel) rfl) pa_nil))))) (pw_or1 (pt_not (pt_chain op_le op_le pe_int (pe_callB call_len_str (by rfl) T.z_len (by decide +kernel) (pa_cons (pv 0) pa_nil)) pe_int))))) (pss_one (ps_ret pe_bl)) pss_nil)
      (pss_one (ps_ret (pe_and (pe_cmpR (op_notInK K) (pv 0) (pe_glob (v := .ref T.aNO) (by rfl) T.m_NO rfl) (by rfl)) (pe_one (pe_callB (cr_allK K rfl) (by rfl) T.z_all (by decide +kernel) (pa_cons (pe_lc (own := [("letter", 1)]) (g := gName 1) (by rfl) sc_is_name.nd (pi_str (pv 0)) (blkOk_by (own := [("letter", 1)]) (N := N_is_name) (sc := defScope s_is_name) (by decide +kernel)) (fun _ _ _ _ _ => (pg_name (i := 1) sc_is_name.nd rfl (Or.inl rfl))) (fun _ _ _ _ _ => pts_nil) (fun _ _ _ _ _ => (pe_cmpR op_in_sign (pv 1) (pe_glob (v := .str ABC) (by rfl) T.m_LET ⟨_, rfl⟩) (by rfl)))) pa_nil))))))), ?_⟩
  cases hv with
  | oth n ty k =>
    have e : nmV v = false := by cases v <;> first | rfl | exact absurd rfl (n _)
    refine ⟨_, rfl, v, .ty "str", _, _, _, rfl, .ty _, ty, k, _, rfl, ?_⟩
    have r := q H (Same.refl H)
    rw [e] at r
    exact r
  | str x hx =>
    have hz : x.length ≤ sizeLine := by rw [sizeLine_eq]; omega
    have no : isNm x = false → Q (.bl false) H := fun e => by
      have r := q H (Same.refl H)
      rwa [show nmV (.str x) = false from e] at r
    refine ⟨_, rfl, .str x, .ty "str", _, _, true, rfl, .ty _, .base (.str x), kit_ty (by decide +kernel), _, rfl, ?_⟩
    refine ⟨_, rfl, x, rfl, hz, _, _, rfl, rfl, _, rfl, ?_⟩
    refine ite2 (fun c => ?_) (fun c => ?_)
    · have h1 : (1 : Int) ≤ (x.length : Int) := of_decide_eq_true c
      refine ⟨_, _, rfl, rfl, _, rfl, ?_⟩
      refine ite2 (fun c => ?_) (fun c => ?_)
      · have h4 : ¬ (x.length : Int) ≤ 4 := of_decide_eq_false (by simpa using c)
        exact no (by unfold isNm; rw [show decide (x.length ≤ 4) = false from decide_eq_false (by omega)]; simp)
      · have h4 : (x.length : Int) ≤ 4 := of_decide_eq_true (by simpa using c)
        refine ⟨_, rfl, T.aNO, BAR.map V.str, rfl, .inr (T.t_NO _), rfl, by decide +kernel, _, rfl, ?_⟩
        refine ite2 (fun c => ?_) (fun c => ?_)
        · have hb : BAR.contains x = false := by
            have c' : (!inV (.str x) (BAR.map V.str)) = true := c
            rw [inV_strs] at c'
            simpa using c'
          refine ⟨_, rfl, x, rfl, fun D hD => lc_it walk_str (fun i H' => Same H H' ∧ H' D = some (.lst (((x.cps.toList.take i).map fun c => decide (c ∈ ABC.cps.toList)).map V.bl))) ⟨same_upd hD _, upd_same⟩ (fun _ _ _ _ => trivial) ?_ ?_⟩
          · rintro i v H1 H2 hi ⟨s1, hD1⟩ ⟨rfl, c, hc, rfl⟩
            have hi' : i ≤ 4 := by have : i < x.length := hi; omega
            refine ⟨rfl, ?_⟩
            refine ⟨_, rfl, c, ABC, rfl, rfl, _, hD1, small1000 (by simp; omega), ?_, ?_⟩
            · intro b o e
              rw [upd_ne (ne_of_none e hD)]
              exact s1 b o e
            · have hc' : x.cps.toList[i]? = some c := by rw [Array.getElem?_toList]; exact hc
              rw [upd_same, List.take_add_one, hc']
              simp
          · rintro H' ⟨s1, hD1⟩
            refine ⟨D, _, rfl, SqL.of hD1, ?_⟩
            have e : isNm x = (((x.cps.toList.take x.cps.size).map fun c => decide (c ∈ ABC.cps.toList))).all id := by
              unfold isNm
              rw [decide_eq_true (show 1 ≤ x.length by omega), decide_eq_true (show x.length ≤ 4 by omega), hb, List.take_of_length_le (by simp), List.all_map]
              simp
            have r := q H' s1
            rw [show nmV (.str x) = isNm x from rfl, e] at r
            exact r
        · have hb : BAR.contains x = true := by
            have c' : ¬ (!inV (.str x) (BAR.map V.str)) = true := c
            rw [inV_strs] at c'
            simpa using c'
          exact no (by unfold isNm; rw [hb]; simp)
    · have h1 : ¬ (1 : Int) ≤ (x.length : Int) := of_decide_eq_false (Bool.eq_false_iff.mpr c)
      refine ⟨_, rfl, ?_⟩
      exact no (by unfold isNm; rw [show decide (1 ≤ x.length) = false from decide_eq_false (by omega)]; simp)
end
end My

/-! ## Sets of texts -/
namespace My
open PySem PySem.Spec PyProof.Rows L2
theorem is_txt0 {P : Program} {w : World} (k : Str) (u : Tok) : (PySem.strKind P w).is k (.str k u) = true := by
  show Value.isStrOf k (.str k u) = true
  unfold Value.isStrOf
  exact beq_self_eq_true _
/-- the text of an entry of a set -/
def txtOf (e : Int × Value) : Str := match e.2 with
  | .str k _ => k
  | _ => Str.empty
/-- at a: a set whose members are the texts l, each once; it can be walked -/
structure TSet (P : Program) (w : World) (h : Heap) (a : Addr) (l : List Str) : Prop where
  ob : ∃ (o : Obj) (es : Array (Int × Value)) (ep : Nat) (t : SetTable), h.get? a = some o ∧ o.ExactSet ∧ o.data = .set es ep t ∧ ElemsOf (PySem.strKind P w) es.toList ∧ (es.toList.map txtOf).Perm l ∧
    es.size < scanBound ∧ t.fits es.size = true ∧ Ris t.place.toList ∧ (w.params.followText "set-order" = true ∨ t.led = true)
  nd : l.Nodup
section
variable {P : Program} {w : World} {h h' : Heap} {a : Addr} {l : List Str}
theorem TSet.at (R : TSet P w h a l) (k : ∀ o, h.get? a = some o → h'.get? a = some o) : TSet P w h' a l := by
  obtain ⟨⟨o, es, ep, t, ho, r⟩, nd⟩ := R
  exact ⟨⟨o, es, ep, t, k o ho, r⟩, nd⟩
theorem TSet.there (R : TSet P w h a l) : ∃ o, h.get? a = some o := by
  obtain ⟨⟨o, _, _, _, ho, _⟩, _⟩ := R
  exact ⟨o, ho⟩
theorem is_txt {k : Str} {e : Int × Value} (el : (∃ k, (PySem.strKind P w).is k e.2 = true ∧ e.1 = (PySem.strKind P w).hash k) ∧ e.2.scannable = true) : (PySem.strKind P w).is k e.2 = true ↔ txtOf e = k := by
  obtain ⟨⟨k2, h1, _⟩, _⟩ := el
  obtain ⟨t, e2⟩ := Value.isStrOf_shape h1
  have e3 : txtOf e = k2 := by unfold txtOf; rw [e2]
  rw [e3]
  constructor
  · intro z
    exact (PySem.strKind P w).inj _ _ _ h1 z
  · intro z
    rw [← z]
    exact h1
theorem mem_txt {es : List (Int × Value)} (el : ElemsOf (PySem.strKind P w) es) (k : Str) : k ∈ es.map txtOf ↔ ∃ e ∈ es, (PySem.strKind P w).is k e.2 = true := by
  rw [List.mem_map]
  exact ⟨fun ⟨e, he, z⟩ => ⟨e, he, (is_txt (el e he)).mpr z⟩, fun ⟨e, he, z⟩ => ⟨e, he, (is_txt (el e he)).mp z⟩⟩
variable {A : Around} {E : Value → Shared → Prop} {s : Shared}
set_option maxHeartbeats 400000 in
/-- the table grows, or stays -/
theorem tset_tail {g : Bool → Sem Unit} (hg : ∀ (b : Bool) (s₁ : Shared) (Q' : Unit → Shared → Prop), Q' () s₁ → wpAny (model P w) A (g b) Q' E s₁) {o : Obj} {es es1 : Array (Int × Value)} {ep : Nat} {t t2 : SetTable} {l1 : List Str} (ho : s.heap.get? a = some o) (ex : o.ExactSet) (hd : o.data = .set es ep t)
    (el : ElemsOf (PySem.strKind P w) es1.toList) (pm : (es1.toList.map txtOf).Perm l1) (nd : l1.Nodup) (few : es1.size < scanBound) (fit : t2.fits es1.size = true) (ri : Ris t2.place.toList) (le : w.params.followText "set-order" = true ∨ t2.led = true)
    {old : Bool} {R : Option Bool → Shared → Prop} (q : ∀ h', Heap.SameBut a s.heap h' → TSet P w h' a l1 → R (some true) { s with heap := h' }) :
    wpAny (model P w) A (do
        storeSet a es1 t2
        if (!old && t2.tooFull) = true then do
            g (relayAll t2 es1 (SetTable.grown es1.size)).2.2
            storeSet a (relayAll t2 es1 (SetTable.grown es1.size)).1 (relayAll t2 es1 (SetTable.grown es1.size)).2.1
            pure (some true)
          else pure (some true)) R E s := by
  have first := PpSet.storeB_at (es' := es1) (t' := t2) ho hd
  have same := Heap.SameBut.update s.heap a (Obj.putSet es1 t2)
  refine wpAny_bind (wpAny_storeSet_of ho hd ?_ (fits_of_scanBound few))
  split
  · have p3 := relayAll_perm t2 es1 (SetTable.grown es1.size)
    have f3 := relayAll_fits t2 es1 (SetTable.grown es1.size)
    have r3 := relayAll_ris t2 es1 (SetTable.grown es1.size)
    have l3 := relayAll_led t2 es1 (SetTable.grown es1.size)
    generalize relayAll t2 es1 (SetTable.grown es1.size) = Z at p3 f3 r3 l3 ⊢
    obtain ⟨es3, t3, gave⟩ := Z
    dsimp only at p3 f3 r3 l3 ⊢
    have n3 : es3.size = es1.size := by rw [← Array.length_toList, p3.length_eq, Array.length_toList]
    refine wpAny_bind (hg _ _ _ (wpAny_bind (wpAny_storeSet_of first rfl ?_ (fits_of_scanBound (by rw [n3]; exact few)))))
    refine wpAny_pure (q _ (same.trans (Heap.SameBut.update _ a _)) ⟨⟨_, es3, _, t3, PpSet.storeB_at first rfl, ex, rfl, fun e he => el e (p3.mem_iff.mp he), (p3.map txtOf).trans pm, by rw [n3]; exact few, f3, r3, le.imp id fun z => by rw [l3]; exact z⟩, nd⟩)
  · exact wpAny_pure (q _ same ⟨⟨_, es1, _, t2, first, ex, rfl, el, pm, few, fit, ri, le⟩, nd⟩)
set_option maxHeartbeats 400000 in
theorem tset_put {k : Str} {tk : Tok} {Q : Bool → Shared → Prop} (R : TSet P w s.heap a l) (room : l.length + 1 < scanBound)
    (q : ∀ h', Heap.SameBut a s.heap h' → TSet P w h' a (if k ∈ l then l else k :: l) → Q (!decide (k ∈ l)) { s with heap := h' }) :
    wpAny (model P w) A (setAddHashed a (.str k tk) ((PySem.strKind P w).hash k)) Q E s := by
  obtain ⟨⟨o, es, ep, t, ho, ex, hd, el, pm, few, fit, ri, le⟩, nd⟩ := R
  have key : (PySem.strKind P w).is k (.str k tk) = true := is_txt0 k tk
  have sc : (Value.str k tk).scannable = true := rfl
  have cnt : es.size = l.length := by
    have e := pm.length_eq
    rwa [List.length_map, Array.length_toList] at e
  unfold setAddHashed setAddHashedIn
  refine wpAny_holding (wpAny_bind (wpAny_setState_of ho hd fit ?_))
  dsimp only
  rw [byScan_of sc few el]
  simp only [↓reduceIte]
  unfold setAddByScan
  refine wpAny_bind (wpAny_bind (wpAny_rule (wpAny_bind (wpAny_setScan_of key ho hd fit el ?_))))
  cases fi : List.findIdx? (fun e => (PySem.strKind P w).is k e.2) es.toList with
  | some j =>
    dsimp only
    obtain ⟨hj, pj, _⟩ := List.findIdx?_eq_some_iff_getElem.mp fi
    have inl : k ∈ l := pm.mem_iff.mp ((mem_txt el k).mpr ⟨_, List.getElem_mem hj, pj⟩)
    refine wpAny_pure (wpAny_pure ?_)
    have z := q s.heap (Heap.SameBut.refl a s.heap) (by
      rw [if_pos inl]
      exact ⟨⟨o, es, ep, t, ho, ex, hd, el, pm, few, fit, ri, le⟩, nd⟩)
    rw [decide_eq_true inl] at z
    exact z
  | none =>
    dsimp only
    have out : k ∉ l := fun z => by
      obtain ⟨e, he, c⟩ := (mem_txt el k).mp (pm.mem_iff.mpr z)
      have c2 := List.findIdx?_eq_none_iff.mp fi e he
      rw [c] at c2
      cases c2
    have gave : ∀ (b : Bool) {s₁ : Shared} {Q' : Unit → Shared → Prop}, Q' () s₁ → wpAny (model P w) A (match b with | true => rule "set.scan.the-table-gave-way" | false => pure ()) Q' E s₁ := fun b s₁ Q' z => by
      cases b
      · exact wpAny_pure z
      · exact wpAny_rule z
    have p1 := layNew_perm t es ((PySem.strKind P w).hash k) (.str k tk)
    have f1 := layNew_fits t es ((PySem.strKind P w).hash k) (.str k tk)
    have r1 := layNew_ris t es ((PySem.strKind P w).hash k) (.str k tk) ri
    have l1 := layNew_led t es ((PySem.strKind P w).hash k) (.str k tk)
    generalize layNew t es ((PySem.strKind P w).hash k) (.str k tk) = Z at p1 f1 r1 l1 ⊢
    obtain ⟨es1, t1, old, way⟩ := Z
    dsimp only at p1 f1 r1 l1 ⊢
    rw [Array.toList_push] at p1
    have pc := p1.trans (List.perm_append_singleton _ _)
    have el1 : ElemsOf (PySem.strKind P w) es1.toList := fun e he => by
      rcases List.mem_cons.mp (pc.mem_iff.mp he) with z | z
      · rw [z]
        exact ⟨⟨k, key, rfl⟩, rfl⟩
      · exact el e z
    have pm1 : (es1.toList.map txtOf).Perm (k :: l) := (pc.map txtOf).trans (pm.cons k)
    have n1 : es1.size = l.length + 1 := by
      have e := pm1.length_eq
      rwa [List.length_map, Array.length_toList, List.length_cons] at e
    have few1 : es1.size < scanBound := by rw [n1]; exact room
    have le1 : w.params.followText "set-order" = true ∨ t1.led = true := le.imp id fun z => by rw [l1]; exact z
    have nd1 : (k :: l).Nodup := List.nodup_cons.mpr ⟨out, nd⟩
    have fin : ∀ h', Heap.SameBut a s.heap h' → TSet P w h' a (k :: l) → Q true { s with heap := h' } := fun h' sb r => by
      have z := q h' sb (by rw [if_neg out]; exact r)
      rw [decide_eq_false out] at z
      exact z
    refine wpAny_bind (gave _ ?_)
    split
    · refine wpAny_bind ?_
      rw [hashByValue_scannable 8 sc]
      refine wpAny_pure ?_
      refine tset_tail (fun b s₁ Q' z => by cases b <;> first | exact wpAny_pure z | exact wpAny_rule z) ho ex hd el1 pm1 nd1 few1 ?_ ?_ ?_ ?_
      · first | (split <;> first | exact f1 | exact SetTable.fits_plain_off f1) | exact f1
      · first | (split <;> exact r1) | exact r1
      · first | (split <;> exact le1) | exact le1
      · intro h' sb r
        dsimp only
        exact wpAny_pure (fin h' sb r)
    · refine wpAny_bind (wpAny_pure ?_)
      simp only [↓reduceIte]
      refine tset_tail (fun b s₁ Q' z => by cases b <;> first | exact wpAny_pure z | exact wpAny_rule z) ho ex hd el1 pm1 nd1 few1 f1 r1 le1 ?_
      intro h' sb r
      dsimp only
      exact wpAny_pure (fin h' sb r)
set_option maxHeartbeats 400000 in
/-- found.add(text) -/
theorem tset_add {k : Str} {tk : Tok} {Q : Value → Shared → Prop} (R : TSet P w s.heap a l) (room : l.length + 1 < scanBound)
    (q : ∀ h', Heap.SameBut a s.heap h' → TSet P w h' a (if k ∈ l then l else k :: l) → Q .none { s with heap := h', toks := s.toks + 1 }) : wpAny (model P w) A (call (.builtin "set.add") [.ref a, .str k tk]) Q E s := by
  have ty : s.TypeIs (.ref a) "set" := by
    obtain ⟨⟨o, es, ep, t, ho, ex, _⟩, _⟩ := R
    exact ⟨o, ho, ex.1⟩
  refine wpAny_call_entry F.slot_set_add ty F.entry_set_add ?_ (F.args_set_add_2 _ _)
  unfold Builtin.«set.add» Builtin.Frozenset.oneOther
  simp only [List.isEmpty_nil, bind_assoc]
  unfold Builtin.Frozenset.addrOf setAdd
  refine wpAny_bind (wpAny_pure ?_)
  try dsimp only
  refine wpAny_bind (wpAny_pure ?_)
  try dsimp only
  refine wpAny_bind (wpAny_holding (wpAny_bind ((PySem.strKind P w).pyHash (is_txt0 k tk) ?_)))
  refine tset_put (s := { s with toks := s.toks + 1 }) R room fun h' sb r => ?_
  exact wpAny_pure ⟨_, rfl, q h' sb r⟩
/-- an empty one -/
theorem tset_new {h : Heap} : TSet P w (h.push { cls := .type "set", dict := none, data := .set #[] 0 (.fresh 0 0 (!w.params.followText "set-order")) }) h.objs.size [] := by
  refine ⟨⟨_, #[], 0, _, Heap.get?_push_size _ rfl, ⟨rfl, rfl, rfl⟩, rfl, (fun e he => by simp at he), .refl _, by decide, by rfl, List.Pairwise.nil, ?_⟩, List.nodup_nil⟩
  show _ ∨ (!w.params.followText "set-order") = true
  cases w.params.followText "set-order"
  · exact .inr rfl
  · exact .inl rfl
def tx : Value → Str
  | .str k _ => k
  | _ => Str.empty
theorem strs_are : ∀ vs : List Value, (∀ v ∈ vs, ∃ k t, v = .str k t) → StrsAre vs (vs.map tx)
  | [], _ => .nil
  | v :: vs, h => by
    obtain ⟨k, t, e⟩ := h v List.mem_cons_self
    have r := strs_are vs fun u hu => h u (List.mem_cons_of_mem _ hu)
    subst e
    exact .cons k t r
set_option maxHeartbeats 400000 in
theorem tset_sorted {Q : Value → Shared → Prop} (R : TSet P w s.heap a l) (hh : A.handled = none) (few : l.length < 64)
    (q : ∀ (s' : Shared) (p : Addr) (out : Array Value) (c : Nat) (ys : List Str), (∀ b o, s.heap.get? b = some o → s'.heap.get? b = some o) → s'.gens = s.gens → s'.os = s.os → s.heap.objs.size ≤ p → s'.heap.get? p = some (seqObj "list" out c) → StrsAre out.toList ys → ys.Perm l → sortedS ys = true → Q (.ref p) s') :
    wpAny (model P w) A (call (.builtin "sorted") [.ref a]) Q E s := by
  obtain ⟨⟨o, es, ep, t, ho, ex, hd, el, pm, fw, fit, ri, le⟩, nd⟩ := R
  refine Calls.call_function_entry kind_sorted plain_sorted entry_sorted (args_sorted1 _) ?_
  unfold Builtin.«sorted»
  refine wpAny_bind (m := checkCount "sorted" 1 1 _) (wpAny_pure (wpAny_bind (collect_set (A := A.in1) hh ⟨o, ho, ex.1, hd⟩ fit fw ri le fun s1 vs k1 sz g1 o1 p1 => ?_)))
  have e1 : es.toList.map txtOf = (es.toList.map (·.2)).map tx := by rw [List.map_map]; rfl
  have p2 : (vs.map tx).Perm l := (p1.map tx).trans (e1 ▸ pm)
  have all : StrsAre vs (vs.map tx) := strs_are vs fun v hv => by
    obtain ⟨e, he, z⟩ := List.mem_map.mp (p1.mem_iff.mp hv)
    obtain ⟨⟨k, i1, _⟩, _⟩ := el e he
    obtain ⟨tk, i2⟩ := Value.isStrOf_shape i1
    exact ⟨k, tk, by rw [← z]; exact i2⟩
  have n1 : vs.length = l.length := by
    have z := p2.length_eq
    rwa [List.length_map] at z
  refine wpAny_bind (wpAny_newList ?_ (by rw [n1, sizeLine_eq]; omega))
  have hoL : (s1.heap.push (seqObj "list" vs.toArray 0)).get? s1.heap.objs.size = some (seqObj "list" vs.toArray 0) := Heap.get?_push_size _ rfl
  refine wpAny_bind (wpAny_holding (wpAny_call_entry PyProof.Rows.slot_list_sort ⟨_, hoL, rfl⟩ PyProof.Rows.entry_list_sort
    (list_sort_treeK strKind_oneLt hoL all.keysOf (fun v₁ v₂ rest e => keyKind_strs (by rw [← e]; exact all)) (by rw [n1]; exact few) fun st' hp hs => ?_) (PyProof.Rows.args_list_sort _)))
  obtain ⟨ys, y1, y2, y3⟩ := sorted_out_str all hp hs
  obtain ⟨c, hc⟩ := PyProof.Rows.sortedHeap_at (vs := vs) (out := (arrOf st').map (·.2)) hoL
  refine ⟨_, rfl, wpAny_pure ⟨_, rfl, q _ s1.heap.objs.size _ c ys (fun b u e => ?_) g1 o1 sz hc y1 (y2.trans p2) y3⟩⟩
  have z := k1 b u e
  have lt := Heap.lt_size z
  show (PyProof.Rows.sortedHeap (s1.heap.push (seqObj "list" vs.toArray 0)) s1.heap.objs.size vs _).get? b = some u
  rw [PyProof.Rows.sortedHeap_old (Nat.ne_of_lt lt) (by rw [size_push']; exact Nat.lt_succ_of_lt lt)]
  exact Heap.get?_push_of_some _ z
/-- a set of texts, tracked -/
def TSetO (P : Program) (w : World) (a : Addr) (l : List Str) : HO := .ext fun h => TSet P w h a l
theorem tsetO_ok {H : Hp} {h : Heap} (R : TSet P w h a l) : ObjOk P w H h a (TSetO P w a l) := ⟨R, R.there, fun _ _ z k => TSet.at z k⟩
end
section
variable {X : Cx}
theorem tset_get {pins : List (Addr × Obj)} {σ : L2.St} {H : Hp} {s : Shared} {a : Addr} {l : List Str} (I : Inv X pins σ H s) (ha : H a = some (TSetO X.prog X.w a l)) : TSet X.prog X.w s.heap a l := (I.hok a _ ha).1
def rSortedTS (P : Program) (w : World) : List V → Hp → VK → Prop := fun xs H Q => ∃ (a : Addr) (l : List Str), xs = [.ref a] ∧ H a = some (TSetO P w a l) ∧ l.length < 64 ∧
  ∀ (ys : List Str) (p : Addr), ys.Perm l → l.Nodup → sortedS ys = true → H p = none → Q (.ref p) (upd H p (.lst (ys.map V.str)))
set_option maxHeartbeats 400000 in
/-- sorted(a set of texts) -/
theorem cr_sortedTS (hc : X.calm = true) : CallR X (.builtin "sorted") (rSortedTS X.prog X.w) := by
  intro pins s σ H xs us Q I r h
  obtain ⟨a, l, rfl, ha, few, q⟩ := h
  have R := tset_get I ha
  rw [Vals.ref1 r]
  refine tset_sorted R (I.ok.hd hc) few fun s' p out c ys keep gens os hp hp2 st pm so => ?_
  have fr : H p = none := I.hok.fresh hp
  have ln : (ys.map V.str).length ≤ sizeLine := by rw [List.length_map, pm.length_eq, sizeLine_eq]; omega
  have J : Inv X pins σ (upd H p (.lst (ys.map V.str))) { s with heap := s'.heap, gens := s'.gens, drawn := s'.drawn, toks := s'.toks } :=
    I.call (ch := []) (Un.laid keep hp fr) (I.hok.laid keep hp ⟨ln, out.toList, c, vals_of_strs st, hp2⟩) (by rw [gens]; exact I.bare) (fun _ z => nomatch z)
  have e : s' = { s with heap := s'.heap, gens := s'.gens, drawn := s'.drawn, toks := s'.toks } := by
    cases s'
    cases s
    cases os
    rfl
  rw [e]
  exact ⟨.ref p, _, J, rfl, q ys p pm R.nd so fr⟩
end
end My

/-! ## A set of words made by a comprehension: what goes in, one turn, all turns, the whole -/
namespace My
open PySem PySem.Spec PyProof.Rows L2
/-- one word more -/
def more (l : List Str) (k : Str) : List Str := if k ∈ l then l else k :: l
/-- the parts of a comprehension's clause, by what they are asked -/
structure Clause where
  g : TG
  tt : TT
  te : TE
  own : List Nat
/-- a turn over x: the target takes it, the test tells b, and if so its word goes into the set at D -/
def Clause.turn (c : Clause) (P : Program) (w : World) (D : Addr) (σ : L2.St) (x : V) (H : Hp) (Z : Hp → Prop) : Prop :=
  c.g x (wipe σ c.own) H fun τ H2 => wipe τ c.own = wipe σ c.own ∧ c.tt τ H2 fun b H3 =>
    (b = false → Z H3) ∧ (b = true → c.te τ H3 fun y H4 => ∃ (k : Str) (l : List Str), y = .str k ∧ H4 D = some (TSetO P w D l) ∧ l.length ≤ 900 ∧ Z (upd H4 D (TSetO P w D (more l k))))
/-- n turns: Z i H holds ahead of turn i -/
def Clause.all (c : Clause) (P : Program) (w : World) (wi : TI) : TE := fun σ H Q => wi σ H fun J H1 => ∀ D, H1 D = none → ∃ (n : Nat) (Z : Nat → Hp → Prop),
  Z 0 (upd H1 D (TSetO P w D [])) ∧ (∀ H', Z n H' → J.stop n H' ∧ Q (.ref D) H') ∧ ∀ i H', i < n → Z i H' → J.go i H' ∧ ∀ x H2, J.yld i H' x H2 → c.turn P w D σ x H2 (Z (i + 1))
section
variable {X : Cx} {pins : List (Addr × Obj)} {σ : L2.St} {H : Hp} {s : Shared}
theorem word_in {E : Value → Shared → Prop} {D : Addr} {l : List Str} {k : Str} {t : Tok} {Q : Value → Shared → Prop} (I : Inv X pins σ H s) (at_ : H D = some (TSetO X.prog X.w D l)) (few : l.length ≤ 900)
    (q : ∀ s', Inv X pins σ (upd H D (TSetO X.prog X.w D (more l k))) s' → Q .none s') : wpAny (model X.prog X.w) X.A (call (.builtin "set.add") [.ref D, .str k t]) Q E s :=
  tset_add (tset_get I at_) (by show l.length + 1 < 4096; omega) fun h' sb new =>
    q _ (I.write (x := D) (e := D) (o := TSetO X.prog X.w D (more l k)) (t' := s.toks + 1) (by rw [at_]; trivial) (.inl rfl) (fun b u nb e => (sb.2 b nb).trans e) new.there (tsetO_ok new))
/-- within the block the iterator's objects stand free -/
theorem blk_free {s3 : Shared} {H3 H' : Hp} {sc : Scope} {ce : Env} {fp : List Addr} {τ : L2.St} {s' : Shared} (I : Inv (X.blk s3 H3 sc ce fp) [] τ H' s') (n : ∀ b ∈ fp, H' b = none) (b : Addr) (hb : b ∈ fp) : FpOk (X.blk s3 H3 sc ce fp) [] H' b := by
  have e := I.ok.exf b hb
  refine ⟨n b hb, e.1, I.ok.exfs b hb, Or.inl hb, fun y c => e.2 y c, fun p hp => ?_⟩
  have hp' : p ∈ ([] : List (Addr × Obj)) := hp
  cases hp'
/-- a turn's end: the block's own names are forgotten -/
theorem blk_turned {it : Addr} {tg : Expr} {J : It} {tn : Nat → Heap → Prop} {s3 s7 s' : Shared} {H3 H' : Hp} {sc : Scope} {ce : Env} {fp : List Addr} {τ : L2.St} {vs : List Nat} {i : Nat} (T : Turn X.prog X.w X.K tg J fp it tn) (st : tn i s7.heap)
    (I : Inv (X.blk s3 H3 sc ce fp) ([] ++ pinsAt fp s7.heap) τ H' s') (same : wipe τ vs = wipe σ vs) : Inv (X.blk s3 H3 sc ce fp) [] (wipe σ vs) H' s' ∧ tn i s'.heap ∧ ∀ b ∈ fp, H' b = none := by
  have pin : ∀ {b o}, b ∈ fp → s7.heap.get? b = some o → s'.heap.get? b = some o ∧ H' b = none := fun {b o} hb e => by
    have z := I.pin (b, o) (List.mem_append_right _ (List.mem_append_right _ (mem_pinsAt hb e)))
    exact ⟨z.1, z.2.1⟩
  refine ⟨?_, T.keep i _ _ st fun b hb o e => (pin hb e).1, fun b hb => ?_⟩
  · rw [← same]
    exact (Inv.unpinned (pins := []) I).weak (wipe_length τ vs) fun j v e => (wipe_some e).1
  · obtain ⟨o, e, _⟩ := T.obj i _ st b hb
    exact (pin hb e).2
/-- all turns -/
theorem turns_set {c : Clause} {it D : Addr} {elt tg iter : Expr} {ifs : List Expr} {sc : Scope} {pos : Pos} {J : It} {tn : Nat → Heap → Prop} {s3 s4 : Shared} {H3 : Hp} {ce : Env} {fp : List Addr} {R : Result → Shared → Prop} {n : Nat} {Z : Nat → Hp → Prop}
    (calm : X.calm = true) (T : Turn X.prog X.w X.K tg J fp it tn) (pg : PG (X.blk s3 H3 sc ce fp) tg c.g) (pt : PTs (X.blk s3 H3 sc ce fp) ifs c.tt) (pe : PE (X.blk s3 H3 sc ce fp) elt c.te)
    (I : Inv (X.blk s3 H3 sc ce fp) [] (wipe σ c.own) H3 s4) (st : tn 0 s4.heap) (free : ∀ b ∈ fp, H3 b = none) (z0 : Z 0 H3) (stop : ∀ H', Z n H' → J.stop n H' ∧ ∀ s', Inv (X.blk s3 H3 sc ce fp) [] (wipe σ c.own) H' s' → R (.ok .next) s')
    (go : ∀ i H', i < n → Z i H' → J.go i H' ∧ ∀ x H2, J.yld i H' x H2 → c.turn X.prog X.w D σ x H2 (Z (i + 1))) :
    codeAny (model X.prog X.w) X.A (.compLoop (.SetComp elt [⟨tg, iter, ifs, 0⟩] sc pos) 0 (.ref it) (.ref D) ce) R s4 := by
  refine PpSet.compLoopS_any (fun m s' => ∃ (i : Nat) (H' : Hp), m + i = n ∧ Z i H' ∧ Inv (X.blk s3 H3 sc ce fp) [] (wipe σ c.own) H' s' ∧ tn i s'.heap ∧ ∀ b ∈ fp, H' b = none) ?_ n ⟨0, H3, rfl, z0, I, st, free⟩
  rintro m s5 ⟨i, H5, mi, z5, I5, st5, n5⟩
  by_cases last : i < n
  · obtain ⟨jgo, step⟩ := go i H5 last z5
    refine thnF (T.item (X.blk s3 H3 sc ce fp) rfl rfl rfl calm i [] s5 _ H5 (fun _ _ => False) I5 (blk_free I5 n5) st5 jgo) ?_
    rintro _ s6 ⟨u, rfl, h6⟩
    refine thnF h6 ?_
    rintro _ s7 ⟨x, H7, I7, r7, y7, st7, n7⟩
    refine thnF (pg.run _ s7 _ H7 x u _ (I7.pinned (blk_free I7 n7) (T.obj _ _ st7)) r7 (step x H7 y7)) ?_
    rintro _ s8 ⟨τ, H8, I8, same, q8⟩
    refine thnF (pt.run _ s8 τ H8 _ I8 q8) ?_
    rintro b s9 ⟨H9, I9, no, yes⟩
    have next : ∀ (s' : Shared) (H' : Hp), Inv (X.blk s3 H3 sc ce fp) ([] ++ pinsAt fp s7.heap) τ H' s' → Z (i + 1) H' → ∃ m', m' < m ∧ ∃ (i : Nat) (H' : Hp), m' + i = n ∧ Z i H' ∧ Inv (X.blk s3 H3 sc ce fp) [] (wipe σ c.own) H' s' ∧ tn i s'.heap ∧ ∀ b ∈ fp, H' b = none := by
      intro s' H' I' z'
      exact ⟨m - 1, by omega, i + 1, H', by omega, z', blk_turned T st7 I' same⟩
    cases b with
    | false =>
      rw [if_neg Bool.false_ne_true]
      exact next _ _ I9 (no rfl)
    | true =>
      rw [if_pos rfl]
      refine thnF (pe.run _ s9 τ H9 _ I9 (yes rfl)) ?_
      rintro v s10 ⟨y, H10, I10, r10, k, l, rfl, at_, few, z10⟩
      obtain ⟨t, rfl⟩ := r10
      exact word_in (X := X.blk s3 H3 sc ce fp) I10 at_ few fun s11 I11 => next s11 _ I11 z10
  · have e : i = n := by omega
    subst e
    obtain ⟨jstop, fin⟩ := stop H5 z5
    refine thnF (T.done (X.blk s3 H3 sc ce fp) rfl rfl rfl calm i [] s5 _ H5 (fun _ _ => False) I5 (blk_free I5 n5) st5 jstop) ?_
    rintro _ s6 ⟨rfl, I6⟩
    exact fin s6 I6
end
section
variable {X : Cx}
/-- {elt for tg in iter if ..}, elt a text -/
theorem pe_setT (c : Clause) {elt tg iter : Expr} {ifs : List Expr} {sc : Scope} {own : List (PySem.Str × Nat)} {pos : Pos} {wi : TI} (calm : X.calm = true) (hN : X.N.Nodup) (hi : PI X tg iter wi) (ok : BlkOk X.N X.env.scope sc own) (ho : own.map (·.2) = c.own)
    (hg : ∀ (s : Shared) (H : Hp) (C : Addr) (cl : List (PySem.Str × Addr)) (fp : List Addr), PG (X.blk s H sc (compEnvC sc cl C X.env) fp) tg c.g)
    (ht : ∀ (s : Shared) (H : Hp) (C : Addr) (cl : List (PySem.Str × Addr)) (fp : List Addr), PTs (X.blk s H sc (compEnvC sc cl C X.env) fp) ifs c.tt)
    (he : ∀ (s : Shared) (H : Hp) (C : Addr) (cl : List (PySem.Str × Addr)) (fp : List Addr), PE (X.blk s H sc (compEnvC sc cl C X.env) fp) elt c.te)
    (plain : ∀ x, foldedSetIterable iter X.env x = pure x := by intro _; rfl) : PE X (.SetComp elt [⟨tg, iter, ifs, 0⟩] sc pos) (c.all X.prog X.w wi) := by
  constructor
  intro pins s σ H Q I h
  have cells : ∀ y ∈ sc.names, y.2 = .free → ∃ a, X.env.cells.lookup y.1 = some a := fun y hy e => I.ok.has _ (ok.free y hy e)
  rw [PpSet.eval_SetComp]
  refine wpAny_comprehension_free (use := none) rfl plain (closure_ok cells) ok.kind (fun y hy e => (ok.uniq y hy).trans (by rw [e])) (thn (hi.run pins s σ H _ I h) ?_)
  intro xv s1 h1
  refine thn h1 ?_
  rintro itv s2 ⟨it, fp, tn, J, H2, rfl, I2, T, st2, f2, q⟩
  refine PpSet.newSet_ok (newEnv_comp ?_)
  have fresh : H2 s2.heap.objs.size = none := I2.hok.fresh (Nat.le_refl _)
  obtain ⟨n, Z, z0, fin, go⟩ := q _ fresh
  -- the heap with the new set
  have grown : ∀ b o, s2.heap.get? b = some o → (s2.heap.push { cls := .type "set", dict := none, data := .set #[] 0 (.fresh 0 0 (!X.w.params.followText "set-order")) }).get? b = some o := fun b o e => Heap.get?_push_of_some _ e
  have I3 := I2.laid (t' := s2.toks) grown (Nat.le_refl _) (tsetO_ok (P := X.prog) (w := X.w) (H := upd H2 s2.heap.objs.size (TSetO X.prog X.w s2.heap.objs.size [])) (tset_new (h := s2.heap)))
  generalize hD : s2.heap.objs.size = D at *
  generalize hh3 : s2.heap.push { cls := .type "set", dict := none, data := .set #[] 0 (.fresh 0 0 (!X.w.params.followText "set-order")) } = h3 at *
  have sz3 : h3.objs.size = D + 1 := by rw [← hh3, Heap.size_push, hD]
  have below : ∀ b ∈ fp, b < D := fun b hb => by
    obtain ⟨o, e, _⟩ := T.obj _ _ st2 b hb
    rw [← hD]
    exact Heap.lt_size e
  have f3 : ∀ b ∈ fp, FpOk X pins (upd H2 D (TSetO X.prog X.w D [])) b ∧ b < h3.objs.size := fun b hb => by
    have lt := below b hb
    have fb := f2 b hb
    exact ⟨⟨(upd_ne (Nat.ne_of_lt lt)).trans fb.1, fb.2⟩, by rw [sz3]; exact Nat.lt_succ_of_lt lt⟩
  have I4 := block_start I3 ok hN f3
  rw [ho] at I4
  have st4 : tn 0 (pushCells (h3.push { cls := .type "dict", data := .dict #[] }) sc.names) := T.keep _ _ _ st2 fun b _ o e => pushCells_keeps _ _ _ _ (Heap.get?_push_of_some _ (grown b o e))
  refine PpSet.codeAny_compStart_set ?loop (T.self X.A 0 _ _ _ st4 ?loop)
  refine turns_set calm T (hg _ _ _ _ _) (ht _ _ _ _ _) (he _ _ _ _ _) I4 st4 (fun b hb => (f3 b hb).1.1) z0 (fun H' z => ⟨(fin H' z).1, fun s' I' => ?_⟩) go
  have out : Inv X pins σ H' s' := I3.call' (ch := fp) I'.os I'.base I'.hok I'.bare fun b hb => by
    obtain ⟨_, a1, _, a3, a4, a5⟩ := (f3 b hb).1
    exact ⟨a3, a1, a4, a5⟩
  have none_ : H' h3.objs.size = none := I'.free
  obtain ⟨b0, b1, b2, b3, b4, b5⟩ := I3.fpOk (Nat.le_refl _) none_
  obtain ⟨m, hn, _⟩ := I'.loc
  refine ⟨m, hn, fun h'' sb => ⟨.ref D, H', out.turned (t' := s'.toks) (fun b o nb e => (sb.2 b nb).trans e) b0 b1 b3 b4 b5, rfl, (fin H' z).2⟩⟩
end
end My

/-! ## A list or a tuple walked alike; what is a sequence of names -/
namespace My
open PySem PySem.Spec PyProof.Rows L2
/-- a list or a tuple of xs at a -/
def SqA (K : PySem.W.Frag) (H : Hp) (a : Addr) (xs : List V) : Prop := SqL K H a xs ∨ SqT K H a xs
theorem SqA.same {K : PySem.W.Frag} {H H' : Hp} {a : Addr} {xs : List V} (h : SqA K H a xs) (e : Same H H') : SqA K H' a xs := h.elim (fun z => .inl (seqL_same e z)) (fun z => .inr (seqT_same e z))
/-- what is walked is a list or a tuple: J its turns, while G stands -/
def iSeq (K : PySem.W.Frag) (tl : TE) : TI := fun σ H R => tl σ H fun x H1 => ∃ (a : Addr) (xs : List V), x = .ref a ∧ SqA K H1 a xs ∧
  ∀ (J : It) (G : Hp → Prop), G H1 → (∀ H H', Same H H' → G H → G H') → Walk J xs.length G (YAt xs) → R J H1
section
variable {X : Cx} {tg : Expr}
theorem pi_seq {l : Expr} {tl : TE} (hl : PE X l tl) : PI X tg l (iSeq X.K tl) := by
  constructor
  intro pins s σ H R I h
  refine thn (hl.run pins s σ H _ I h) ?_
  rintro v s1 ⟨x, H1, I1, r1, a, xs, rfl, hq, k⟩
  cases r1
  have new : ∀ {o : Obj} (b : Addr), b ∈ [s1.heap.objs.size] → FpOk X pins H1 b := fun {o} b hb => by
    rw [List.mem_singleton.mp hb]
    exact I1.fpOk (Nat.le_refl _) (I1.hok.fresh (Nat.le_refl _))
  rcases hq with hq | hq
  · obtain ⟨its, rv, p, _⟩ := I1.list hq
    refine wpAny_pyIter_list p.isList ⟨s1.heap.objs.size, [s1.heap.objs.size], _, Itl X.K a, H1, rfl, ?_, turn_list a _, ?_, new (o := default), ?_⟩
    · exact I1.kept (t' := s1.toks) fun b o e => Heap.get?_push_of_some _ e
    · exact ⟨_, Heap.get?_push_size _ rfl, rfl, rfl⟩
    · exact k _ (fun H => SqL X.K H a xs) hq (fun H H' e z => seqL_same e z) walk_list
  · obtain ⟨its, rv, p, _⟩ := I1.tuple hq
    have p' : s1.heap.IsTuple a its.toArray := p
    refine wpAny_pyIter_tuple p' ⟨s1.heap.objs.size, [s1.heap.objs.size], _, Itt X.K a, H1, rfl, ?_, turn_tuple a _, ?_, new (o := default), ?_⟩
    · exact I1.kept (t' := s1.toks) fun b o e => Heap.get?_push_of_some _ e
    · exact ⟨_, Heap.get?_push_size _ rfl, rfl, rfl⟩
    · exact k _ (fun H => SqT X.K H a xs) hq (fun H H' e z => seqT_same e z) walk_tup
theorem pi_seqK (K : PySem.W.Frag) {l : Expr} {tl : TE} (hl : PE X l tl) (hK : X.K = K := by rfl) : PI X tg l (iSeq K tl) := hK ▸ pi_seq hl
theorem pe_lenSetK (K : PySem.W.Frag) {a : Expr} {ta : TE} {p p2 q pos : Pos} (hc : X.calm = true) (hg : Gl X "len") (hm : X.mg "len" = none) (hg2 : Gl X "set") (hm2 : X.mg "set" = none) (ha : PE X a ta)
    (hK : X.K = K := by rfl) (na : starEach [a] X.env = (false, eval a X.env) :: starEach [] X.env := by rfl) : PE X (.Call (.Name "len" p) [.Call (.Name "set" p2) [a] [] q] [] pos) (tLenSet K ta) := hK ▸ pe_lenSet hc hg hm hg2 hm2 ha na
end
abbrev s_is_sequence : Stmt := top 4
abbrev N_is_sequence : List Str := ["value"]
abbrev P_is_sequence : List Str := ["value"]
theorem sc_is_sequence : FnScope N_is_sequence P_is_sequence (defScope s_is_sequence) := ⟨rfl, rfl, rfl, by decide +kernel, rfl, by decide +kernel, by decide +kernel⟩
abbrev s_are_names : Stmt := top 5
abbrev N_are_names : List Str := ["value", "name"]
abbrev P_are_names : List Str := ["value"]
theorem sc_are_names : FnScope N_are_names P_are_names (defScope s_are_names) := ⟨rfl, rfl, rfl, by decide +kernel, rfl, by decide +kernel, by decide +kernel⟩
abbrev s_are_some_names : Stmt := top 6
abbrev N_are_some_names : List Str := ["value"]
abbrev P_are_some_names : List Str := ["value"]
theorem sc_are_some_names : FnScope N_are_some_names P_are_some_names (defScope s_are_some_names) := ⟨rfl, rfl, rfl, by decide +kernel, rfl, by decide +kernel, by decide +kernel⟩
structure TxSeq (K : PySem.W.Frag) (mg : Str → Option Value) extends TxCheck K mg where
  z_list : mg "list" = none
  z_tuple : mg "tuple" = none
  z_set : mg "set" = none
  f_is_sequence : Addr
  d_is_sequence : FuncData
  F_is_sequence : Fun K "is_sequence" "is_sequence" s_is_sequence f_is_sequence d_is_sequence
  m_is_sequence : mg "is_sequence" = some (.ref f_is_sequence)
  b_is_sequence : Binds K d_is_sequence P_is_sequence []
  f_are_names : Addr
  d_are_names : FuncData
  F_are_names : Fun K "are_names" "are_names" s_are_names f_are_names d_are_names
  m_are_names : mg "are_names" = some (.ref f_are_names)
  b_are_names : Binds K d_are_names P_are_names []
  f_are_some_names : Addr
  d_are_some_names : FuncData
  F_are_some_names : Fun K "are_some_names" "are_some_names" s_are_some_names f_are_some_names d_are_some_names
  m_are_some_names : mg "are_some_names" = some (.ref f_are_some_names)
  b_are_some_names : Binds K d_are_some_names P_are_some_names []
def spIsSeq (K : PySem.W.Frag) : Sp := fun vs H Q _ => ∃ (a : Addr) (xs : List V), vs = [.ref a] ∧ SqA K H a xs ∧ ∀ H', Same H H' → Q (.bl true) H'
/-- no name or one -/
def spAreNames (K : PySem.W.Frag) : Sp := fun vs H Q _ => ∃ (a : Addr) (l : List Str), vs = [.ref a] ∧ SqA K H a (l.map V.str) ∧ (∀ y ∈ l, y.length ≤ 2000) ∧ l.length ≤ 1 ∧ ∀ H', Same H H' → Q (.bl (l.all isNm)) H'
def spSomeNames (K : PySem.W.Frag) : Sp := fun vs H Q _ => ∃ (a : Addr) (l : List Str), vs = [.ref a] ∧ SqA K H a (l.map V.str) ∧ (∀ y ∈ l, y.length ≤ 2000) ∧ l.length = 1 ∧ ∀ H', Same H H' → Q (.bl (l.all isNm)) H'
section
variable {P : Program} {w : World} {K : PySem.W.Frag} {mg : Str → Option Value} {base : Heap}
theorem kit_lt : PySem.W.kitAny K (.type "list") [.type "list", .type "tuple"] = some true := kitAny_cons (b := true) (kit_ty (show kitB "list" "list" = some true by decide +kernel)) (fun z => nomatch z) (fun _ => rfl)
theorem kit_tt : PySem.W.kitAny K (.type "tuple") [.type "list", .type "tuple"] = some true :=
  kitAny_cons (b := false) (kit_ty (show kitB "tuple" "list" = some false by decide +kernel)) (fun _ => kitAny_cons (b := true) (kit_ty (show kitB "tuple" "tuple" = some true by decide +kernel)) (fun z => nomatch z) (fun _ => rfl)) (fun z => nomatch z)
theorem ok_is_sequence (T : TxSeq K mg) : FnOk P w K mg base CX0 1 T.f_is_sequence T.d_is_sequence P_is_sequence (spIsSeq K) := by
  refine T.F_is_sequence.ok sc_is_sequence (fun vs H Q E h => ?_) (fun cdv A outer s H vs Q E hr h => ?_)
  · obtain ⟨a, xs, rfl, _⟩ := h
    rfl
  obtain ⟨a, xs, rfl, hS, q⟩ := h
  refine ⟨_, (pss_one (ps_ret (pe_callB (call_isiTV K) (by rfl) T.z_isinstance (by decide +kernel) (pa_cons (pv 0) (pa_cons (pe_tup (pa_cons (pe_bltn (v := .ty "list") (by rfl) T.z_list (by decide +kernel) rfl) (pa_cons (pe_bltn (v := .ty "tuple") (by rfl) T.z_tuple (by decide +kernel) rfl) pa_nil))) pa_nil))))), ?_⟩
  refine ⟨_, rfl, by show 2 ≤ sizeLine; decide, fun tp htp => ?_⟩
  have y := same_upd htp (.tup [.ty "list", .ty "tuple"])
  rcases hS.same y with z | z
  · exact ⟨.ref a, tp, _, _, _, true, rfl, upd_same, .cons (.ty _) (.cons (.ty _) .nil), tyL z, kit_lt, q _ y⟩
  · exact ⟨.ref a, tp, _, _, _, true, rfl, upd_same, .cons (.ty _) (.cons (.ty _) .nil), tyT z, kit_tt, q _ y⟩
theorem ok_are_names (T : TxSeq K mg) : FnOk P w K mg base CX0 2 T.f_are_names T.d_are_names P_are_names (spAreNames K) := by
  have G_is_name := ok_is_name (P := P) (w := w) (base := base) T.toTxCheck
  have G_is_sequence := ok_is_sequence (P := P) (w := w) (base := base) T
  refine T.F_are_names.ok sc_are_names (fun vs H Q E h => ?_) (fun cdv A outer s H vs Q E hr h => ?_)
  · obtain ⟨a, l, rfl, _⟩ := h
    rfl
  obtain ⟨a, l, rfl, hS, hw, hl, q⟩ := h
  refine ⟨_, (pss_cons (ps_if (PW.pt (pw_or (pt_not (pt_val (pe_call G_is_sequence (hr.mono (by decide)) (by rfl) T.m_is_sequence T.F_is_sequence.kp T.b_is_sequence .nil pass0 (pa_cons (pv 0) pa_nil)))) (pw_or1 (pt_not (pt_val (pe_callB (cr_allK K rfl) (by rfl) T.z_all (by decide +kernel) (pa_cons (pe_lc (own := [("name", 1)]) (g := gName 1) (by rfl) sc_are_names.nd (pi_seqK K (pv 0)) (blkOk_by (own := [("name", 1)]) (N := N_are_names) (sc := defScope s_are_names) (by decide +kernel)) (fun _ _ _ _ _ => (pg_name (i := 1) sc_are_names.nd rfl (Or.inl rfl))) (fun _ _ _ _ _ => pts_nil) (fun _ _ _ _ _ => (pe_call G_is_name (hr.mono (by decide)) (by rfl) T.m_is_name T.F_is_name.kp T.b_is_name .nil pass0 (pa_cons (pv 1) pa_nil)))) pa_nil))))))) (pss_one (ps_ret pe_bl)) pss_nil)
      (pss_one (ps_ret (pe_cmpR op_eq (pe_lenSetK K rfl (by rfl) T.z_len (by rfl) T.z_set (pv 0)) (pe_callB (call_lenK K) (by rfl) T.z_len (by decide +kernel) (pa_cons (pv 0) pa_nil)) (nomark _))))), ?_⟩
  refine ⟨_, rfl, a, _, rfl, hS, fun H1 s1 => ⟨_, rfl, ?_⟩⟩
  refine iteF ?_
  refine ⟨_, rfl, a, _, rfl, hS.same s1, fun J G g0 gs wk D hD => ?_⟩
  refine lc_it wk (fun i H' => Same H1 H' ∧ H' D = some (.lst ((l.take i).map fun y => V.bl (isNm y)))) ⟨same_upd hD _, upd_same⟩ (fun i H' _ h => gs _ _ h.1 g0) ?_ ?_
  · rintro i x H2 H3 hi ⟨s2, hD2⟩ ⟨rfl, hx⟩
    rw [List.getElem?_map] at hx
    obtain ⟨y, hy, rfl⟩ : ∃ y, l[i]? = some y ∧ V.str y = x := by
      cases e : l[i]? with
      | none => rw [e] at hx; cases hx
      | some z => rw [e] at hx; cases hx; exact ⟨z, rfl, rfl⟩
    have hy2 := hw y (List.mem_of_getElem? hy)
    refine ⟨rfl, ?_⟩
    refine ⟨_, rfl, .str y, rfl, .str y hy2, fun H4 s4 => ?_⟩
    refine ⟨_, s4 _ _ hD2, small1000 (by simp; omega), ?_, ?_⟩
    · intro b o e
      rw [upd_ne (ne_of_none e hD)]
      exact s4 _ _ (s2 b o e)
    · rw [upd_same, List.take_add_one, hy, List.map_append]
      rfl
  · rintro H2 ⟨s2, hD2⟩
    have full : (l.take (l.map V.str).length).map (fun y => V.bl (isNm y)) = (l.map isNm).map V.bl := by
      rw [List.length_map, List.take_length, List.map_map]
      rfl
    rw [full] at hD2
    refine ⟨D, _, rfl, SqL.of hD2, _, rfl, ?_⟩
    have e : (l.map isNm).all id = l.all isNm := by rw [List.all_map]; rfl
    rw [e]
    cases c : l.all isNm with
    | false =>
      refine iteT ?_
      have r := q H2 (s1.trans s2)
      rw [c] at r
      exact r
    | true =>
      refine iteF ?_
      refine ⟨_, rfl, a, l, rfl, (hS.same s1).same s2, hl, ?_⟩
      refine ⟨_, rfl, _, _, rfl, (hS.same s1).same s2, ?_⟩
      have r := q H2 (s1.trans s2)
      rw [c] at r
      have e2 : decide (V.int (l.length : Int) = V.int ((l.map V.str).length : Int)) = true := by rw [List.length_map]; exact decide_eq_true rfl
      exact ⟨rfl, by rw [e2]; exact r⟩
theorem ok_are_some_names (T : TxSeq K mg) : FnOk P w K mg base CX0 3 T.f_are_some_names T.d_are_some_names P_are_some_names (spSomeNames K) := by
  have G_are_names := ok_are_names (P := P) (w := w) (base := base) T
  refine T.F_are_some_names.ok sc_are_some_names (fun vs H Q E h => ?_) (fun cdv A outer s H vs Q E hr h => ?_)
  · obtain ⟨a, l, rfl, _⟩ := h
    rfl
  obtain ⟨a, l, rfl, hS, hw, hl, q⟩ := h
  refine ⟨_, (pss_one (ps_ret (pe_and (pe_call G_are_names (hr.mono (by decide)) (by rfl) T.m_are_names T.F_are_names.kp T.b_are_names .nil pass0 (pa_cons (pv 0) pa_nil)) (pe_one (pe_cmpR op_gt (pe_callB (call_lenK K) (by rfl) T.z_len (by decide +kernel) (pa_cons (pv 0) pa_nil)) pe_int (nomark _)))))), ?_⟩
  refine ⟨_, rfl, a, l, rfl, hS, hw, by omega, fun H1 s1 => ⟨_, rfl, ?_⟩⟩
  have r := q H1 s1
  cases c : l.all isNm with
  | false =>
    rw [c] at r
    exact r
  | true =>
    rw [c] at r
    refine ⟨_, rfl, _, _, rfl, hS.same s1, _, _, rfl, rfl, ?_⟩
    rw [List.length_map, hl]
    exact r
end
end My

/-! ## The program: rows -/
namespace My
open PySem L2
abbrev s_is_name_or : Stmt := top 12
abbrev N_is_name_or : List Str := ["value", "words"]
abbrev P_is_name_or : List Str := ["value", "words"]
theorem sc_is_name_or : FnScope N_is_name_or P_is_name_or (defScope s_is_name_or) := ⟨rfl, rfl, rfl, by decide +kernel, rfl, by decide +kernel, by decide +kernel⟩
abbrev s_InvalidRow_init : Stmt := inClass (top 9) 0
abbrev N_InvalidRow_init : List Str := ["self", "word"]
abbrev P_InvalidRow_init : List Str := ["self", "word"]
theorem sc_InvalidRow_init : FnScope N_InvalidRow_init P_InvalidRow_init (defScope s_InvalidRow_init) := ⟨rfl, rfl, rfl, by decide +kernel, rfl, by decide +kernel, by decide +kernel⟩
abbrev s_Begin_init : Stmt := inClass (top 14) 0
abbrev N_Begin_init : List Str := ["self", "mark", "kind", "mood"]
abbrev P_Begin_init : List Str := ["self", "mark", "kind", "mood"]
theorem sc_Begin_init : FnScope N_Begin_init P_Begin_init (defScope s_Begin_init) := ⟨rfl, rfl, rfl, by decide +kernel, rfl, by decide +kernel, by decide +kernel⟩
abbrev s_Send_init : Stmt := inClass (top 15) 0
abbrev N_Send_init : List Str := ["self", "mood", "service", "mark"]
abbrev P_Send_init : List Str := ["self", "mood", "service", "mark"]
theorem sc_Send_init : FnScope N_Send_init P_Send_init (defScope s_Send_init) := ⟨rfl, rfl, rfl, by decide +kernel, rfl, by decide +kernel, by decide +kernel⟩
abbrev s_Back_init : Stmt := inClass (top 16) 0
abbrev N_Back_init : List Str := ["self", "mood", "service", "sign", "then"]
abbrev P_Back_init : List Str := ["self", "mood", "service", "sign", "then"]
theorem sc_Back_init : FnScope N_Back_init P_Back_init (defScope s_Back_init) := ⟨rfl, rfl, rfl, by decide +kernel, rfl, by decide +kernel, by decide +kernel⟩
abbrev s_End_init : Stmt := inClass (top 17) 0
abbrev N_End_init : List Str := ["self", "mood", "outcome", "sign", "part"]
abbrev P_End_init : List Str := ["self", "mood", "outcome", "sign", "part"]
theorem sc_End_init : FnScope N_End_init P_End_init (defScope s_End_init) := ⟨rfl, rfl, rfl, by decide +kernel, rfl, by decide +kernel, by decide +kernel⟩
structure TxRows (K : PySem.W.Frag) (mg : Str → Option Value) extends TxCheck K mg where
  f_is_name_or : Addr
  d_is_name_or : FuncData
  F_is_name_or : Fun K "is_name_or" "is_name_or" s_is_name_or f_is_name_or d_is_name_or
  m_is_name_or : mg "is_name_or" = some (.ref f_is_name_or)
  b_is_name_or : Binds K d_is_name_or P_is_name_or []
  C_InvalidRow : Addr
  m_InvalidRow : mg "InvalidRow" = some (.ref C_InvalidRow)
  oxRow : OexC K C_InvalidRow
  nwRow : PySem.W.findIn K (.ref C_InvalidRow) "word" = some none
  f_InvalidRow_init : Addr
  d_InvalidRow_init : FuncData
  iRow : PySem.W.findIn K (.ref C_InvalidRow) "__init__" = some (some (.ref f_InvalidRow_init))
  tRow : PySem.W.typeIn K (.ref f_InvalidRow_init) = some (.type "function")
  F_InvalidRow_init : Fun K "__init__" "InvalidRow.__init__" s_InvalidRow_init f_InvalidRow_init d_InvalidRow_init
  b_InvalidRow_init : Binds K d_InvalidRow_init P_InvalidRow_init []
  C_Begin : Addr
  m_Begin : mg "Begin" = some (.ref C_Begin)
  c_Begin : Cls K C_Begin
  f_Begin_init : Addr
  d_Begin_init : FuncData
  mk_Begin : Mk K C_Begin f_Begin_init
  F_Begin_init : Fun K "__init__" "Begin.__init__" s_Begin_init f_Begin_init d_Begin_init
  b_Begin_init : Binds K d_Begin_init P_Begin_init []
  n_Begin_mark : NoAttr K C_Begin "mark"
  n_Begin_kind : NoAttr K C_Begin "kind"
  n_Begin_mood : NoAttr K C_Begin "mood"
  C_Send : Addr
  m_Send : mg "Send" = some (.ref C_Send)
  c_Send : Cls K C_Send
  f_Send_init : Addr
  d_Send_init : FuncData
  mk_Send : Mk K C_Send f_Send_init
  F_Send_init : Fun K "__init__" "Send.__init__" s_Send_init f_Send_init d_Send_init
  b_Send_init : Binds K d_Send_init P_Send_init []
  n_Send_mood : NoAttr K C_Send "mood"
  n_Send_service : NoAttr K C_Send "service"
  n_Send_mark : NoAttr K C_Send "mark"
  C_Back : Addr
  m_Back : mg "Back" = some (.ref C_Back)
  c_Back : Cls K C_Back
  f_Back_init : Addr
  d_Back_init : FuncData
  mk_Back : Mk K C_Back f_Back_init
  F_Back_init : Fun K "__init__" "Back.__init__" s_Back_init f_Back_init d_Back_init
  b_Back_init : Binds K d_Back_init P_Back_init []
  n_Back_mood : NoAttr K C_Back "mood"
  n_Back_service : NoAttr K C_Back "service"
  n_Back_sign : NoAttr K C_Back "sign"
  n_Back_then : NoAttr K C_Back "then"
  C_End : Addr
  m_End : mg "End" = some (.ref C_End)
  c_End : Cls K C_End
  f_End_init : Addr
  d_End_init : FuncData
  mk_End : Mk K C_End f_End_init
  F_End_init : Fun K "__init__" "End.__init__" s_End_init f_End_init d_End_init
  b_End_init : Binds K d_End_init P_End_init []
  n_End_mood : NoAttr K C_End "mood"
  n_End_outcome : NoAttr K C_End "outcome"
  n_End_sign : NoAttr K C_End "sign"
  n_End_part : NoAttr K C_End "part"
def spXInit (K : PySem.W.Frag) (C : Addr) : Sp := fun vs H Q _ => ∃ (a : Addr) (y : V), vs = [.ref a, y] ∧ H a = some (exo a C none) ∧
  ∀ dx, H dx = none → dx ≠ a → Q .non (upd (upd H dx (exd dx [("word", y)])) a (exo a C (some dx)))
def spNameOr (K : PySem.W.Frag) : Sp := fun vs H Q _ => ∃ (v : V) (d : PyData) (a : Addr) (l : List Str), vs = [v, .ref a] ∧ Dv K H v d ∧ SqT K H a (l.map V.str) ∧ l.all PyData.strOk = true ∧
  ∀ H', Same H H' → Q (.bl (nmD d || txD l d)) H'
section
variable {P : Program} {w : World} {K : PySem.W.Frag} {mg : Str → Option Value} {base : Heap}
theorem ok_is_name_or (T : TxRows K mg) : FnOk P w K mg base CX0 2 T.f_is_name_or T.d_is_name_or P_is_name_or (spNameOr K) := by
  have G_is_name := ok_is_name (P := P) (w := w) (base := base) T.toTxCheck
  refine T.F_is_name_or.ok sc_is_name_or (fun vs H Q E h => ?_) (fun cdv A outer s H vs Q E hr h => ?_)
  · obtain ⟨v, d, a, l, rfl, _⟩ := h
    rfl
  obtain ⟨v, d, a, l, rfl, hv, hl, ho, q⟩ := h
  refine ⟨_, (pss_one (ps_ret (pe_or (pe_call G_is_name (hr.mono (by decide)) (by rfl) T.m_is_name T.F_is_name.kp T.b_is_name .nil pass0 (pa_cons (pv 0) pa_nil)) (pe_one (pe_cmpR (op_inT K (room65 hr)) (pv 0) (pv 1) (by rfl)))))), ?_⟩
  refine ⟨_, rfl, v, rfl, hv.any, fun H' s1 => ⟨_, rfl, ?_⟩⟩
  rw [hv.nm] at *
  cases e : nmD d with
  | true =>
    have r := q H' s1
    rw [e] at r
    exact r
  | false =>
    refine ⟨_, rfl, _, rfl, d, l.map PyData.str, Dp.same s1 d v hv.dp, .tup (seqT_same s1 hl) (Dp.all_strs l), hv.sh, shaped_strs ho, ?_⟩
    have r := q H' s1
    rw [e, Bool.false_or, ← any_strs] at r
    exact r
theorem ok_xrow (T : TxRows K mg) : FnOk P w K mg base CX0 1 T.f_InvalidRow_init T.d_InvalidRow_init P_InvalidRow_init (spXInit K T.C_InvalidRow) := by
  refine T.F_InvalidRow_init.ok sc_InvalidRow_init (fun vs H Q E h => ?_) (fun cdv A outer s H vs Q E hr h => ?_)
  · obtain ⟨a, y, rfl, _⟩ := h
    rfl
  obtain ⟨a, y, rfl, ha, q⟩ := h
  refine ⟨_, (pss_one (ps_ost (pv 0) (pv 1))), ?_⟩
  exact ⟨_, rfl, _, rfl, a, T.C_InvalidRow, rfl, T.oxRow, T.nwRow, .inl ⟨ha, fun dx h1 h2 => q dx h1 h2⟩⟩
/-- raise X('word'), X's own __init__ keeping the word -/
theorem mk_word {K : PySem.W.Frag} {C : Addr} {σ : St} {H1 : Hp} {wd : Str} {Q : XK} (q : ∀ (d : Addr) (H' : Hp), Same H1 H' → H1 d = none → H' d = some (.xd [("word", .str wd)]) → Q (.ref C) (some d) H') :
    tMkO C (spXInit K C) [] (tCons (tC (.str wd)) tNil) σ H1 Q := by
  refine ⟨by show 1 ≤ 1000; decide, fun a na => ⟨a, .str wd, rfl, upd_same, fun dx h1 h2 => ⟨rfl, dx, [("word", .str wd)], upd_same, ?_, ?_, ?_⟩⟩⟩
  · rw [upd_ne h2, upd_same]
  · rw [upd_ne h2] at h1
    exact h1
  · rw [upd_ne h2] at h1
    refine q dx _ (fun b u e => ?_) h1 upd_same
    have hb : b ≠ a := ne_of_none e na
    have hd : b ≠ dx := ne_of_none e h1
    rw [upd_ne hd, del_ne hb, upd_ne hb, upd_ne hd, upd_ne hb]
    exact e
def spRow (K : PySem.W.Frag) (C CX : Addr) (names : List Str) (wr : List PyData → Option Str) : Sp := fun vs H Q E => ∃ (p dx : Addr) (as : List V) (ds : List PyData), vs = .ref p :: as ∧ as.length = names.length ∧ Paired (Dv K H) as ds ∧ H p = some (.ins C dx []) ∧
  (∀ H', wr ds = none → H' p = some (.ins C dx (names.zip as)) → (∀ b u, H b = some u → b ≠ p → H' b = some u) → Q .non H') ∧
  (∀ wd d H', wr ds = some wd → Same H H' → H d = none → H' d = some (.xd [("word", .str wd)]) → E (.ref CX) (some d) H')
theorem bnot_eq {b : Bool} (h : (!b) = true) : b = false := by simpa using h
theorem bnot_ne {b : Bool} (h : ¬ (!b) = true) : b = true := by simpa using h
def wBegin : List PyData → Option Str
  | [d0, d1, d2] => if (nmD d0 || txD ["none", "any"] d0) = false then some "mark" else if (nmD d1 || txD ["any"] d1) = false then some "kind" else if nmD d2 = false then some "mood" else none
  | _ => none
theorem ok_Begin_init (T : TxRows K mg) : FnOk P w K mg base (L2.CX P w) 3 T.f_Begin_init T.d_Begin_init P_Begin_init (spRow K T.C_Begin T.C_InvalidRow ["mark", "kind", "mood"] wBegin) := by
  have G_is_name := ok_is_name (P := P) (w := w) (base := base) T.toTxCheck
  have G_is_name_or := ok_is_name_or (P := P) (w := w) (base := base) T
  have G_InvalidRow_init := ok_xrow (P := P) (w := w) (base := base) T
  refine T.F_Begin_init.okX sc_Begin_init (fun vs H Q E h => ?_) (fun cdv A outer s H vs Q E hr h => ?_)
  · obtain ⟨p, dx, as, ds, rfl, hl, _⟩ := h
    exact congrArg Nat.succ hl
  obtain ⟨p, dx, as, ds, rfl, hl, hd, hp, q, qe⟩ := h
  obtain ⟨x0, x1, x2, rfl⟩ : ∃ x0 x1 x2, as = [x0, x1, x2] := by
    match as, hl with
    | [x0, x1, x2], _ => exact ⟨x0, x1, x2, rfl⟩
  cases hd with
  | cons h0 hd =>
  cases hd with
  | cons h1 hd =>
  cases hd with
  | cons h2 hd =>
  cases hd
  rename_i d0 d1 d2
  refine ⟨_, (pss_cons (ps_if (pt_not (pt_val (pe_call G_is_name_or (hr.mono (by decide)) (by rfl) T.m_is_name_or T.F_is_name_or.kp T.b_is_name_or .nil pass0 (pa_cons (pv 1) (pa_cons (pe_tup (pa_cons pe_str (pa_cons pe_str pa_nil))) pa_nil))))) (pss_one (ps_raise rfl (takes_of rfl rfl rfl rfl) (pmk_oex T.oxRow T.iRow T.tRow G_InvalidRow_init (hr.mono (by decide)) T.b_InvalidRow_init .nil pass0 (by rfl) T.m_InvalidRow (pa_cons pe_str pa_nil)))) pss_nil)
      (pss_cons (ps_if (pt_not (pt_val (pe_call G_is_name_or (hr.mono (by decide)) (by rfl) T.m_is_name_or T.F_is_name_or.kp T.b_is_name_or .nil pass0 (pa_cons (pv 2) (pa_cons (pe_tup (pa_cons pe_str pa_nil)) pa_nil))))) (pss_one (ps_raise rfl (takes_of rfl rfl rfl rfl) (pmk_oex T.oxRow T.iRow T.tRow G_InvalidRow_init (hr.mono (by decide)) T.b_InvalidRow_init .nil pass0 (by rfl) T.m_InvalidRow (pa_cons pe_str pa_nil)))) pss_nil)
      (pss_cons (ps_if (pt_not (pt_val (pe_call G_is_name (hr.mono (by decide)) (by rfl) T.m_is_name T.F_is_name.kp T.b_is_name .nil pass0 (pa_cons (pv 3) pa_nil)))) (pss_one (ps_raise rfl (takes_of rfl rfl rfl rfl) (pmk_oex T.oxRow T.iRow T.tRow G_InvalidRow_init (hr.mono (by decide)) T.b_InvalidRow_init .nil pass0 (by rfl) T.m_InvalidRow (pa_cons pe_str pa_nil)))) pss_nil)
      (pss_cons (ps_fld (pv 0) (pv 1) rfl)
      (pss_cons (ps_fld (pv 0) (pv 2) rfl)
      (pss_one (ps_fld (pv 0) (pv 3) rfl))))))), ?_⟩
  have s0 : Same H H := Same.refl H
  refine ⟨_, rfl, by show 2 ≤ sizeLine; decide, fun t0 ht0 => ⟨x0, d0, t0, ["none", "any"], rfl, h0.same (s0.trans (same_upd ht0 _)), SqT.of upd_same, by decide +kernel, fun H0 z0 => ⟨_, rfl, ?_⟩⟩⟩
  have s1 := s0.trans ((same_upd ht0 _).trans z0)
  refine ite2 (fun c0 => ?_) (fun c0 => ?_)
  · exact mk_word fun d H' s' n' e' => qe "mark" d H' (if_pos (bnot_eq c0)) (s1.trans s') (s1.free n') e'
  refine ⟨_, rfl, by show 1 ≤ sizeLine; decide, fun t1 ht1 => ⟨x1, d1, t1, ["any"], rfl, h1.same (s1.trans (same_upd ht1 _)), SqT.of upd_same, by decide +kernel, fun H1 z1 => ⟨_, rfl, ?_⟩⟩⟩
  have s2 := s1.trans ((same_upd ht1 _).trans z1)
  refine ite2 (fun c1 => ?_) (fun c1 => ?_)
  · exact mk_word fun d H' s' n' e' => qe "kind" d H' ((if_neg (by rw [bnot_ne c0]; decide)).trans (if_pos (bnot_eq c1))) (s2.trans s') (s2.free n') e'
  refine ⟨_, rfl, x2, rfl, (h2.same s2).any, fun H2 z2 => ⟨_, rfl, ?_⟩⟩
  rw [(h2.same s2).nm]
  have s3 := s2.trans z2
  refine ite2 (fun c2 => ?_) (fun c2 => ?_)
  · exact mk_word fun d H' s' n' e' => qe "mood" d H' ((if_neg (by rw [bnot_ne c0]; decide)).trans ((if_neg (by rw [bnot_ne c1]; decide)).trans (if_pos (bnot_eq c2)))) (s3.trans s') (s3.free n') e'
  have hp3 := s3 _ _ hp
  refine ⟨_, rfl, _, rfl, p, T.C_Begin, dx, _, rfl, hp3, T.c_Begin, T.n_Begin_mark, (by show 0 < 1000; decide), ?_⟩
  refine ⟨_, rfl, _, rfl, p, T.C_Begin, dx, _, rfl, upd_same, T.c_Begin, T.n_Begin_kind, (by show 1 < 1000; decide), ?_⟩
  refine ⟨_, rfl, _, rfl, p, T.C_Begin, dx, _, rfl, upd_same, T.c_Begin, T.n_Begin_mood, (by show 2 < 1000; decide), ?_⟩
  rw [upd_upd, upd_upd]
  refine q _ ((if_neg (by rw [bnot_ne c0]; decide)).trans ((if_neg (by rw [bnot_ne c1]; decide)).trans (if_neg (by rw [bnot_ne c2]; decide)))) upd_same fun b u e nb => ?_
  rw [upd_ne nb]
  exact s3 _ _ e
def wSend : List PyData → Option Str
  | [d0, d1, d2] => if (nmD d0 || txD ["any"] d0) = false then some "mood" else if (nmD d1 || txD ["any"] d1) = false then some "service" else if (nmD d2 || txD ["none", "same"] d2) = false then some "mark" else none
  | _ => none
theorem ok_Send_init (T : TxRows K mg) : FnOk P w K mg base (L2.CX P w) 3 T.f_Send_init T.d_Send_init P_Send_init (spRow K T.C_Send T.C_InvalidRow ["mood", "service", "mark"] wSend) := by
  have G_is_name := ok_is_name (P := P) (w := w) (base := base) T.toTxCheck
  have G_is_name_or := ok_is_name_or (P := P) (w := w) (base := base) T
  have G_InvalidRow_init := ok_xrow (P := P) (w := w) (base := base) T
  refine T.F_Send_init.okX sc_Send_init (fun vs H Q E h => ?_) (fun cdv A outer s H vs Q E hr h => ?_)
  · obtain ⟨p, dx, as, ds, rfl, hl, _⟩ := h
    exact congrArg Nat.succ hl
  obtain ⟨p, dx, as, ds, rfl, hl, hd, hp, q, qe⟩ := h
  obtain ⟨x0, x1, x2, rfl⟩ : ∃ x0 x1 x2, as = [x0, x1, x2] := by
    match as, hl with
    | [x0, x1, x2], _ => exact ⟨x0, x1, x2, rfl⟩
  cases hd with
  | cons h0 hd =>
  cases hd with
  | cons h1 hd =>
  cases hd with
  | cons h2 hd =>
  cases hd
  rename_i d0 d1 d2
  refine ⟨_, (pss_cons (ps_if (pt_not (pt_val (pe_call G_is_name_or (hr.mono (by decide)) (by rfl) T.m_is_name_or T.F_is_name_or.kp T.b_is_name_or .nil pass0 (pa_cons (pv 1) (pa_cons (pe_tup (pa_cons pe_str pa_nil)) pa_nil))))) (pss_one (ps_raise rfl (takes_of rfl rfl rfl rfl) (pmk_oex T.oxRow T.iRow T.tRow G_InvalidRow_init (hr.mono (by decide)) T.b_InvalidRow_init .nil pass0 (by rfl) T.m_InvalidRow (pa_cons pe_str pa_nil)))) pss_nil)
      (pss_cons (ps_if (pt_not (pt_val (pe_call G_is_name_or (hr.mono (by decide)) (by rfl) T.m_is_name_or T.F_is_name_or.kp T.b_is_name_or .nil pass0 (pa_cons (pv 2) (pa_cons (pe_tup (pa_cons pe_str pa_nil)) pa_nil))))) (pss_one (ps_raise rfl (takes_of rfl rfl rfl rfl) (pmk_oex T.oxRow T.iRow T.tRow G_InvalidRow_init (hr.mono (by decide)) T.b_InvalidRow_init .nil pass0 (by rfl) T.m_InvalidRow (pa_cons pe_str pa_nil)))) pss_nil)
      (pss_cons (ps_if (pt_not (pt_val (pe_call G_is_name_or (hr.mono (by decide)) (by rfl) T.m_is_name_or T.F_is_name_or.kp T.b_is_name_or .nil pass0 (pa_cons (pv 3) (pa_cons (pe_tup (pa_cons pe_str (pa_cons pe_str pa_nil))) pa_nil))))) (pss_one (ps_raise rfl (takes_of rfl rfl rfl rfl) (pmk_oex T.oxRow T.iRow T.tRow G_InvalidRow_init (hr.mono (by decide)) T.b_InvalidRow_init .nil pass0 (by rfl) T.m_InvalidRow (pa_cons pe_str pa_nil)))) pss_nil)
      (pss_cons (ps_fld (pv 0) (pv 1) rfl)
      (pss_cons (ps_fld (pv 0) (pv 2) rfl)
      (pss_one (ps_fld (pv 0) (pv 3) rfl))))))), ?_⟩
  have s0 : Same H H := Same.refl H
  refine ⟨_, rfl, by show 1 ≤ sizeLine; decide, fun t0 ht0 => ⟨x0, d0, t0, ["any"], rfl, h0.same (s0.trans (same_upd ht0 _)), SqT.of upd_same, by decide +kernel, fun H0 z0 => ⟨_, rfl, ?_⟩⟩⟩
  have s1 := s0.trans ((same_upd ht0 _).trans z0)
  refine ite2 (fun c0 => ?_) (fun c0 => ?_)
  · exact mk_word fun d H' s' n' e' => qe "mood" d H' (if_pos (bnot_eq c0)) (s1.trans s') (s1.free n') e'
  refine ⟨_, rfl, by show 1 ≤ sizeLine; decide, fun t1 ht1 => ⟨x1, d1, t1, ["any"], rfl, h1.same (s1.trans (same_upd ht1 _)), SqT.of upd_same, by decide +kernel, fun H1 z1 => ⟨_, rfl, ?_⟩⟩⟩
  have s2 := s1.trans ((same_upd ht1 _).trans z1)
  refine ite2 (fun c1 => ?_) (fun c1 => ?_)
  · exact mk_word fun d H' s' n' e' => qe "service" d H' ((if_neg (by rw [bnot_ne c0]; decide)).trans (if_pos (bnot_eq c1))) (s2.trans s') (s2.free n') e'
  refine ⟨_, rfl, by show 2 ≤ sizeLine; decide, fun t2 ht2 => ⟨x2, d2, t2, ["none", "same"], rfl, h2.same (s2.trans (same_upd ht2 _)), SqT.of upd_same, by decide +kernel, fun H2 z2 => ⟨_, rfl, ?_⟩⟩⟩
  have s3 := s2.trans ((same_upd ht2 _).trans z2)
  refine ite2 (fun c2 => ?_) (fun c2 => ?_)
  · exact mk_word fun d H' s' n' e' => qe "mark" d H' ((if_neg (by rw [bnot_ne c0]; decide)).trans ((if_neg (by rw [bnot_ne c1]; decide)).trans (if_pos (bnot_eq c2)))) (s3.trans s') (s3.free n') e'
  have hp3 := s3 _ _ hp
  refine ⟨_, rfl, _, rfl, p, T.C_Send, dx, _, rfl, hp3, T.c_Send, T.n_Send_mood, (by show 0 < 1000; decide), ?_⟩
  refine ⟨_, rfl, _, rfl, p, T.C_Send, dx, _, rfl, upd_same, T.c_Send, T.n_Send_service, (by show 1 < 1000; decide), ?_⟩
  refine ⟨_, rfl, _, rfl, p, T.C_Send, dx, _, rfl, upd_same, T.c_Send, T.n_Send_mark, (by show 2 < 1000; decide), ?_⟩
  rw [upd_upd, upd_upd]
  refine q _ ((if_neg (by rw [bnot_ne c0]; decide)).trans ((if_neg (by rw [bnot_ne c1]; decide)).trans (if_neg (by rw [bnot_ne c2]; decide)))) upd_same fun b u e nb => ?_
  rw [upd_ne nb]
  exact s3 _ _ e
def wBack : List PyData → Option Str
  | [d0, d1, d2, d3] => if (nmD d0 || txD ["any"] d0) = false then some "mood" else if (nmD d1 || txD ["any"] d1) = false then some "service" else if (nmD d2 || txD ["none", "any"] d2) = false then some "sign" else if (nmD d3 || txD ["same"] d3) = false then some "then" else none
  | _ => none
theorem ok_Back_init (T : TxRows K mg) : FnOk P w K mg base (L2.CX P w) 3 T.f_Back_init T.d_Back_init P_Back_init (spRow K T.C_Back T.C_InvalidRow ["mood", "service", "sign", "then"] wBack) := by
  have G_is_name := ok_is_name (P := P) (w := w) (base := base) T.toTxCheck
  have G_is_name_or := ok_is_name_or (P := P) (w := w) (base := base) T
  have G_InvalidRow_init := ok_xrow (P := P) (w := w) (base := base) T
  refine T.F_Back_init.okX sc_Back_init (fun vs H Q E h => ?_) (fun cdv A outer s H vs Q E hr h => ?_)
  · obtain ⟨p, dx, as, ds, rfl, hl, _⟩ := h
    exact congrArg Nat.succ hl
  obtain ⟨p, dx, as, ds, rfl, hl, hd, hp, q, qe⟩ := h
  obtain ⟨x0, x1, x2, x3, rfl⟩ : ∃ x0 x1 x2 x3, as = [x0, x1, x2, x3] := by
    match as, hl with
    | [x0, x1, x2, x3], _ => exact ⟨x0, x1, x2, x3, rfl⟩
  cases hd with
  | cons h0 hd =>
  cases hd with
  | cons h1 hd =>
  cases hd with
  | cons h2 hd =>
  cases hd with
  | cons h3 hd =>
  cases hd
  rename_i d0 d1 d2 d3
  refine ⟨_, (pss_cons (ps_if (pt_not (pt_val (pe_call G_is_name_or (hr.mono (by decide)) (by rfl) T.m_is_name_or T.F_is_name_or.kp T.b_is_name_or .nil pass0 (pa_cons (pv 1) (pa_cons (pe_tup (pa_cons pe_str pa_nil)) pa_nil))))) (pss_one (ps_raise rfl (takes_of rfl rfl rfl rfl) (pmk_oex T.oxRow T.iRow T.tRow G_InvalidRow_init (hr.mono (by decide)) T.b_InvalidRow_init .nil pass0 (by rfl) T.m_InvalidRow (pa_cons pe_str pa_nil)))) pss_nil)
      (pss_cons (ps_if (pt_not (pt_val (pe_call G_is_name_or (hr.mono (by decide)) (by rfl) T.m_is_name_or T.F_is_name_or.kp T.b_is_name_or .nil pass0 (pa_cons (pv 2) (pa_cons (pe_tup (pa_cons pe_str pa_nil)) pa_nil))))) (pss_one (ps_raise rfl (takes_of rfl rfl rfl rfl) (pmk_oex T.oxRow T.iRow T.tRow G_InvalidRow_init (hr.mono (by decide)) T.b_InvalidRow_init .nil pass0 (by rfl) T.m_InvalidRow (pa_cons pe_str pa_nil)))) pss_nil)
      (pss_cons (ps_if (pt_not (pt_val (pe_call G_is_name_or (hr.mono (by decide)) (by rfl) T.m_is_name_or T.F_is_name_or.kp T.b_is_name_or .nil pass0 (pa_cons (pv 3) (pa_cons (pe_tup (pa_cons pe_str (pa_cons pe_str pa_nil))) pa_nil))))) (pss_one (ps_raise rfl (takes_of rfl rfl rfl rfl) (pmk_oex T.oxRow T.iRow T.tRow G_InvalidRow_init (hr.mono (by decide)) T.b_InvalidRow_init .nil pass0 (by rfl) T.m_InvalidRow (pa_cons pe_str pa_nil)))) pss_nil)
      (pss_cons (ps_if (pt_not (pt_val (pe_call G_is_name_or (hr.mono (by decide)) (by rfl) T.m_is_name_or T.F_is_name_or.kp T.b_is_name_or .nil pass0 (pa_cons (pv 4) (pa_cons (pe_tup (pa_cons pe_str pa_nil)) pa_nil))))) (pss_one (ps_raise rfl (takes_of rfl rfl rfl rfl) (pmk_oex T.oxRow T.iRow T.tRow G_InvalidRow_init (hr.mono (by decide)) T.b_InvalidRow_init .nil pass0 (by rfl) T.m_InvalidRow (pa_cons pe_str pa_nil)))) pss_nil)
      (pss_cons (ps_fld (pv 0) (pv 1) rfl)
      (pss_cons (ps_fld (pv 0) (pv 2) rfl)
      (pss_cons (ps_fld (pv 0) (pv 3) rfl)
      (pss_one (ps_fld (pv 0) (pv 4) rfl))))))))), ?_⟩
  have s0 : Same H H := Same.refl H
  refine ⟨_, rfl, by show 1 ≤ sizeLine; decide, fun t0 ht0 => ⟨x0, d0, t0, ["any"], rfl, h0.same (s0.trans (same_upd ht0 _)), SqT.of upd_same, by decide +kernel, fun H0 z0 => ⟨_, rfl, ?_⟩⟩⟩
  have s1 := s0.trans ((same_upd ht0 _).trans z0)
  refine ite2 (fun c0 => ?_) (fun c0 => ?_)
  · exact mk_word fun d H' s' n' e' => qe "mood" d H' (if_pos (bnot_eq c0)) (s1.trans s') (s1.free n') e'
  refine ⟨_, rfl, by show 1 ≤ sizeLine; decide, fun t1 ht1 => ⟨x1, d1, t1, ["any"], rfl, h1.same (s1.trans (same_upd ht1 _)), SqT.of upd_same, by decide +kernel, fun H1 z1 => ⟨_, rfl, ?_⟩⟩⟩
  have s2 := s1.trans ((same_upd ht1 _).trans z1)
  refine ite2 (fun c1 => ?_) (fun c1 => ?_)
  · exact mk_word fun d H' s' n' e' => qe "service" d H' ((if_neg (by rw [bnot_ne c0]; decide)).trans (if_pos (bnot_eq c1))) (s2.trans s') (s2.free n') e'
  refine ⟨_, rfl, by show 2 ≤ sizeLine; decide, fun t2 ht2 => ⟨x2, d2, t2, ["none", "any"], rfl, h2.same (s2.trans (same_upd ht2 _)), SqT.of upd_same, by decide +kernel, fun H2 z2 => ⟨_, rfl, ?_⟩⟩⟩
  have s3 := s2.trans ((same_upd ht2 _).trans z2)
  refine ite2 (fun c2 => ?_) (fun c2 => ?_)
  · exact mk_word fun d H' s' n' e' => qe "sign" d H' ((if_neg (by rw [bnot_ne c0]; decide)).trans ((if_neg (by rw [bnot_ne c1]; decide)).trans (if_pos (bnot_eq c2)))) (s3.trans s') (s3.free n') e'
  refine ⟨_, rfl, by show 1 ≤ sizeLine; decide, fun t3 ht3 => ⟨x3, d3, t3, ["same"], rfl, h3.same (s3.trans (same_upd ht3 _)), SqT.of upd_same, by decide +kernel, fun H3 z3 => ⟨_, rfl, ?_⟩⟩⟩
  have s4 := s3.trans ((same_upd ht3 _).trans z3)
  refine ite2 (fun c3 => ?_) (fun c3 => ?_)
  · exact mk_word fun d H' s' n' e' => qe "then" d H' ((if_neg (by rw [bnot_ne c0]; decide)).trans ((if_neg (by rw [bnot_ne c1]; decide)).trans ((if_neg (by rw [bnot_ne c2]; decide)).trans (if_pos (bnot_eq c3))))) (s4.trans s') (s4.free n') e'
  have hp3 := s4 _ _ hp
  refine ⟨_, rfl, _, rfl, p, T.C_Back, dx, _, rfl, hp3, T.c_Back, T.n_Back_mood, (by show 0 < 1000; decide), ?_⟩
  refine ⟨_, rfl, _, rfl, p, T.C_Back, dx, _, rfl, upd_same, T.c_Back, T.n_Back_service, (by show 1 < 1000; decide), ?_⟩
  refine ⟨_, rfl, _, rfl, p, T.C_Back, dx, _, rfl, upd_same, T.c_Back, T.n_Back_sign, (by show 2 < 1000; decide), ?_⟩
  refine ⟨_, rfl, _, rfl, p, T.C_Back, dx, _, rfl, upd_same, T.c_Back, T.n_Back_then, (by show 3 < 1000; decide), ?_⟩
  rw [upd_upd, upd_upd, upd_upd]
  refine q _ ((if_neg (by rw [bnot_ne c0]; decide)).trans ((if_neg (by rw [bnot_ne c1]; decide)).trans ((if_neg (by rw [bnot_ne c2]; decide)).trans (if_neg (by rw [bnot_ne c3]; decide))))) upd_same fun b u e nb => ?_
  rw [upd_ne nb]
  exact s4 _ _ e
def wEnd : List PyData → Option Str
  | [d0, d1, d2, d3] => if (nmD d0 || txD ["any"] d0) = false then some "mood" else if txD ["good", "bad", "any"] d1 = false then some "outcome" else if (nmD d2 || txD ["none"] d2) = false then some "sign" else if txD ["keep", "drop"] d3 = false then some "part" else none
  | _ => none
theorem ok_End_init (T : TxRows K mg) : FnOk P w K mg base (L2.CX P w) 3 T.f_End_init T.d_End_init P_End_init (spRow K T.C_End T.C_InvalidRow ["mood", "outcome", "sign", "part"] wEnd) := by
  have G_is_name := ok_is_name (P := P) (w := w) (base := base) T.toTxCheck
  have G_is_name_or := ok_is_name_or (P := P) (w := w) (base := base) T
  have G_InvalidRow_init := ok_xrow (P := P) (w := w) (base := base) T
  refine T.F_End_init.okX sc_End_init (fun vs H Q E h => ?_) (fun cdv A outer s H vs Q E hr h => ?_)
  · obtain ⟨p, dx, as, ds, rfl, hl, _⟩ := h
    exact congrArg Nat.succ hl
  obtain ⟨p, dx, as, ds, rfl, hl, hd, hp, q, qe⟩ := h
  obtain ⟨x0, x1, x2, x3, rfl⟩ : ∃ x0 x1 x2 x3, as = [x0, x1, x2, x3] := by
    match as, hl with
    | [x0, x1, x2, x3], _ => exact ⟨x0, x1, x2, x3, rfl⟩
  cases hd with
  | cons h0 hd =>
  cases hd with
  | cons h1 hd =>
  cases hd with
  | cons h2 hd =>
  cases hd with
  | cons h3 hd =>
  cases hd
  rename_i d0 d1 d2 d3
  refine ⟨_, (pss_cons (ps_if (pt_not (pt_val (pe_call G_is_name_or (hr.mono (by decide)) (by rfl) T.m_is_name_or T.F_is_name_or.kp T.b_is_name_or .nil pass0 (pa_cons (pv 1) (pa_cons (pe_tup (pa_cons pe_str pa_nil)) pa_nil))))) (pss_one (ps_raise rfl (takes_of rfl rfl rfl rfl) (pmk_oex T.oxRow T.iRow T.tRow G_InvalidRow_init (hr.mono (by decide)) T.b_InvalidRow_init .nil pass0 (by rfl) T.m_InvalidRow (pa_cons pe_str pa_nil)))) pss_nil)
      (pss_cons (ps_if (pt_cmpR (op_notInT K (room65 hr)) (pv 2) (pe_tup (pa_cons pe_str (pa_cons pe_str (pa_cons pe_str pa_nil)))) (by rfl)) (pss_one (ps_raise rfl (takes_of rfl rfl rfl rfl) (pmk_oex T.oxRow T.iRow T.tRow G_InvalidRow_init (hr.mono (by decide)) T.b_InvalidRow_init .nil pass0 (by rfl) T.m_InvalidRow (pa_cons pe_str pa_nil)))) pss_nil)
      (pss_cons (ps_if (pt_not (pt_val (pe_call G_is_name_or (hr.mono (by decide)) (by rfl) T.m_is_name_or T.F_is_name_or.kp T.b_is_name_or .nil pass0 (pa_cons (pv 3) (pa_cons (pe_tup (pa_cons pe_str pa_nil)) pa_nil))))) (pss_one (ps_raise rfl (takes_of rfl rfl rfl rfl) (pmk_oex T.oxRow T.iRow T.tRow G_InvalidRow_init (hr.mono (by decide)) T.b_InvalidRow_init .nil pass0 (by rfl) T.m_InvalidRow (pa_cons pe_str pa_nil)))) pss_nil)
      (pss_cons (ps_if (pt_cmpR (op_notInT K (room65 hr)) (pv 4) (pe_tup (pa_cons pe_str (pa_cons pe_str pa_nil))) (by rfl)) (pss_one (ps_raise rfl (takes_of rfl rfl rfl rfl) (pmk_oex T.oxRow T.iRow T.tRow G_InvalidRow_init (hr.mono (by decide)) T.b_InvalidRow_init .nil pass0 (by rfl) T.m_InvalidRow (pa_cons pe_str pa_nil)))) pss_nil)
      (pss_cons (ps_fld (pv 0) (pv 1) rfl)
      (pss_cons (ps_fld (pv 0) (pv 2) rfl)
      (pss_cons (ps_fld (pv 0) (pv 3) rfl)
      (pss_one (ps_fld (pv 0) (pv 4) rfl))))))))), ?_⟩
  have s0 : Same H H := Same.refl H
  refine ⟨_, rfl, by show 1 ≤ sizeLine; decide, fun t0 ht0 => ⟨x0, d0, t0, ["any"], rfl, h0.same (s0.trans (same_upd ht0 _)), SqT.of upd_same, by decide +kernel, fun H0 z0 => ⟨_, rfl, ?_⟩⟩⟩
  have s1 := s0.trans ((same_upd ht0 _).trans z0)
  refine ite2 (fun c0 => ?_) (fun c0 => ?_)
  · exact mk_word fun d H' s' n' e' => qe "mood" d H' (if_pos (bnot_eq c0)) (s1.trans s') (s1.free n') e'
  refine ⟨_, rfl, by show 3 ≤ sizeLine; decide, fun t1 ht1 => ⟨d1, (["good", "bad", "any"] : List Str).map PyData.str, (h1.same (s1.trans (same_upd ht1 _))).dp, .tup (SqT.of upd_same) (Dp.all_strs ["good", "bad", "any"]), h1.sh, shaped_strs (by decide +kernel), _, rfl, ?_⟩⟩
  have s2 := s1.trans (same_upd ht1 (.tup ((["good", "bad", "any"] : List Str).map V.str)))
  refine ite2 (fun c1 => ?_) (fun c1 => ?_)
  · exact mk_word fun d H' s' n' e' => qe "outcome" d H' ((if_neg (by rw [bnot_ne c0]; decide)).trans (if_pos (by rw [← any_strs]; exact bnot_eq c1))) (s2.trans s') (s2.free n') e'
  refine ⟨_, rfl, by show 1 ≤ sizeLine; decide, fun t2 ht2 => ⟨x2, d2, t2, ["none"], rfl, h2.same (s2.trans (same_upd ht2 _)), SqT.of upd_same, by decide +kernel, fun H2 z2 => ⟨_, rfl, ?_⟩⟩⟩
  have s3 := s2.trans ((same_upd ht2 _).trans z2)
  refine ite2 (fun c2 => ?_) (fun c2 => ?_)
  · exact mk_word fun d H' s' n' e' => qe "sign" d H' ((if_neg (by rw [bnot_ne c0]; decide)).trans ((if_neg (by rw [← any_strs]; rw [bnot_ne c1]; decide)).trans (if_pos (bnot_eq c2)))) (s3.trans s') (s3.free n') e'
  refine ⟨_, rfl, by show 2 ≤ sizeLine; decide, fun t3 ht3 => ⟨d3, (["keep", "drop"] : List Str).map PyData.str, (h3.same (s3.trans (same_upd ht3 _))).dp, .tup (SqT.of upd_same) (Dp.all_strs ["keep", "drop"]), h3.sh, shaped_strs (by decide +kernel), _, rfl, ?_⟩⟩
  have s4 := s3.trans (same_upd ht3 (.tup ((["keep", "drop"] : List Str).map V.str)))
  refine ite2 (fun c3 => ?_) (fun c3 => ?_)
  · exact mk_word fun d H' s' n' e' => qe "part" d H' ((if_neg (by rw [bnot_ne c0]; decide)).trans ((if_neg (by rw [← any_strs]; rw [bnot_ne c1]; decide)).trans ((if_neg (by rw [bnot_ne c2]; decide)).trans (if_pos (by rw [← any_strs]; exact bnot_eq c3))))) (s4.trans s') (s4.free n') e'
  have hp3 := s4 _ _ hp
  refine ⟨_, rfl, _, rfl, p, T.C_End, dx, _, rfl, hp3, T.c_End, T.n_End_mood, (by show 0 < 1000; decide), ?_⟩
  refine ⟨_, rfl, _, rfl, p, T.C_End, dx, _, rfl, upd_same, T.c_End, T.n_End_outcome, (by show 1 < 1000; decide), ?_⟩
  refine ⟨_, rfl, _, rfl, p, T.C_End, dx, _, rfl, upd_same, T.c_End, T.n_End_sign, (by show 2 < 1000; decide), ?_⟩
  refine ⟨_, rfl, _, rfl, p, T.C_End, dx, _, rfl, upd_same, T.c_End, T.n_End_part, (by show 3 < 1000; decide), ?_⟩
  rw [upd_upd, upd_upd, upd_upd]
  refine q _ ((if_neg (by rw [bnot_ne c0]; decide)).trans ((if_neg (by rw [← any_strs]; rw [bnot_ne c1]; decide)).trans ((if_neg (by rw [bnot_ne c2]; decide)).trans (if_neg (by rw [← any_strs]; rw [bnot_ne c3]; decide))))) upd_same fun b u e nb => ?_
  rw [upd_ne nb]
  exact s4 _ _ e
end
end My

/-! ## Rows: their classes, the names of their fields (for a law that makes rows itself) -/
namespace My
open PySem L2
structure TxLawRow (K : PySem.W.Frag) (mg : Str → Option Value) extends TxRows K mg where
/-- a sort's class, names of its fields, the word of the first wrong argument -/
def clsOf {K : PySem.W.Frag} {mg : Str → Option Value} (T : TxRows K mg) (s : Str) : Addr := if s = "begin" then T.C_Begin else if s = "send" then T.C_Send else if s = "back" then T.C_Back else T.C_End
def fnOf (s : Str) : List Str := if s = "begin" then ["mark", "kind", "mood"] else if s = "send" then ["mood", "service", "mark"] else if s = "back" then ["mood", "service", "sign", "then"] else ["mood", "outcome", "sign", "part"]
def wrOf (s : Str) : List PyData → Option Str := if s = "begin" then wBegin else if s = "send" then wSend else if s = "back" then wBack else wEnd
def SORTS : List Str := ["begin", "send", "back", "end"]
theorem str_eq_of {a b : Str} (h : decide (V.str a = V.str b) = true) : a = b := by
  have e := of_decide_eq_true h
  cases e
  rfl
theorem str_ne_of {a b : Str} (h : ¬ decide (V.str a = V.str b) = true) : a ≠ b := fun e => h (by rw [e]; exact decide_eq_true rfl)
end My

/-! ## Rows: their texts, == -/
namespace My
open PySem L2
abbrev s_Begin_str : Stmt := inClass (top 14) 2
abbrev N_Begin_str : List Str := ["self"]
abbrev P_Begin_str : List Str := ["self"]
theorem sc_Begin_str : FnScope N_Begin_str P_Begin_str (defScope s_Begin_str) := ⟨rfl, rfl, rfl, by decide +kernel, rfl, by decide +kernel, by decide +kernel⟩
abbrev s_Send_str : Stmt := inClass (top 15) 2
abbrev N_Send_str : List Str := ["self"]
abbrev P_Send_str : List Str := ["self"]
theorem sc_Send_str : FnScope N_Send_str P_Send_str (defScope s_Send_str) := ⟨rfl, rfl, rfl, by decide +kernel, rfl, by decide +kernel, by decide +kernel⟩
abbrev s_Back_str : Stmt := inClass (top 16) 2
abbrev N_Back_str : List Str := ["self"]
abbrev P_Back_str : List Str := ["self"]
theorem sc_Back_str : FnScope N_Back_str P_Back_str (defScope s_Back_str) := ⟨rfl, rfl, rfl, by decide +kernel, rfl, by decide +kernel, by decide +kernel⟩
abbrev s_End_str : Stmt := inClass (top 17) 2
abbrev N_End_str : List Str := ["self"]
abbrev P_End_str : List Str := ["self"]
theorem sc_End_str : FnScope N_End_str P_End_str (defScope s_End_str) := ⟨rfl, rfl, rfl, by decide +kernel, rfl, by decide +kernel, by decide +kernel⟩
abbrev s_Begin_eq : Stmt := inClass (top 14) 1
abbrev N_Begin_eq : List Str := ["self", "other"]
abbrev P_Begin_eq : List Str := ["self", "other"]
theorem sc_Begin_eq : FnScope N_Begin_eq P_Begin_eq (defScope s_Begin_eq) := ⟨rfl, rfl, rfl, by decide +kernel, rfl, by decide +kernel, by decide +kernel⟩
abbrev s_Send_eq : Stmt := inClass (top 15) 1
abbrev N_Send_eq : List Str := ["self", "other"]
abbrev P_Send_eq : List Str := ["self", "other"]
theorem sc_Send_eq : FnScope N_Send_eq P_Send_eq (defScope s_Send_eq) := ⟨rfl, rfl, rfl, by decide +kernel, rfl, by decide +kernel, by decide +kernel⟩
abbrev s_Back_eq : Stmt := inClass (top 16) 1
abbrev N_Back_eq : List Str := ["self", "other"]
abbrev P_Back_eq : List Str := ["self", "other"]
theorem sc_Back_eq : FnScope N_Back_eq P_Back_eq (defScope s_Back_eq) := ⟨rfl, rfl, rfl, by decide +kernel, rfl, by decide +kernel, by decide +kernel⟩
abbrev s_End_eq : Stmt := inClass (top 17) 1
abbrev N_End_eq : List Str := ["self", "other"]
abbrev P_End_eq : List Str := ["self", "other"]
theorem sc_End_eq : FnScope N_End_eq P_End_eq (defScope s_End_eq) := ⟨rfl, rfl, rfl, by decide +kernel, rfl, by decide +kernel, by decide +kernel⟩
/-- the text of a row of a sort -/
def rowTxt (s : Str) (ws : List Str) : Str := Txt.join " " (s :: ws)
theorem txt3 (s a b c : Str) : rowTxt s [a, b, c] = s ++ " " ++ (a ++ " " ++ (b ++ " " ++ c)) := StrLaws.glued_cons " " [a, b, c] s
theorem txt4 (s a b c d : Str) : rowTxt s [a, b, c, d] = s ++ " " ++ (a ++ " " ++ (b ++ " " ++ (c ++ " " ++ d))) := StrLaws.glued_cons " " [a, b, c, d] s
/-- a row of a sort with words ws stands at a -/
structure RowAt {K : PySem.W.Frag} {mg : Str → Option Value} (T : TxRows K mg) (H : Hp) (a : Addr) (s : Str) (ws : List Str) : Prop where
  at_ : ∃ dx, H a = some (.ins (clsOf T s) dx ((fnOf s).zip (ws.map V.str)))
  len : ws.length = (fnOf s).length
  sh : ∀ y ∈ ws, y.length ≤ 10
  so : s ∈ SORTS
theorem RowAt.same {K : PySem.W.Frag} {mg : Str → Option Value} {T : TxRows K mg} {H H' : Hp} {a : Addr} {s : Str} {ws : List Str} (h : RowAt T H a s ws) (e : Same H H') : RowAt T H' a s ws := by
  obtain ⟨⟨dx, ha⟩, h1, h2, h3⟩ := h
  exact ⟨⟨dx, e _ _ ha⟩, h1, h2, h3⟩
structure TxStr (K : PySem.W.Frag) (mg : Str → Option Value) extends TxLawRow K mg where
  f_Begin_str : Addr
  d_Begin_str : FuncData
  F_Begin_str : Fun K "__str__" "Begin.__str__" s_Begin_str f_Begin_str d_Begin_str
  b_Begin_str : Binds K d_Begin_str P_Begin_str []
  si_Begin : PySem.W.findIn K (.ref C_Begin) "__str__" = some (some (.ref f_Begin_str))
  sf_Begin : PySem.W.isFn K (.ref f_Begin_str) = true
  f_Begin_eq : Addr
  d_Begin_eq : FuncData
  F_Begin_eq : Fun K "__eq__" "Begin.__eq__" s_Begin_eq f_Begin_eq d_Begin_eq
  b_Begin_eq : Binds K d_Begin_eq P_Begin_eq []
  ei_Begin : PySem.W.findIn K (.ref C_Begin) "__eq__" = some (some (.ref f_Begin_eq))
  ef_Begin : PySem.W.isFn K (.ref f_Begin_eq) = true
  en_Begin : PySem.W.findIn K (.ref C_Begin) "__ne__" = some (some (.builtin "object.__ne__"))
  eo_Begin : PySem.W.subIn K (.ref C_Begin) (.type "object") = some true
  ty_Begin : ∀ (H : Hp) (a dx : Addr) (fs : List (Str × V)), H a = some (.ins C_Begin dx fs) → TyX K H (.ref a) (.ref C_Begin)
  ks_Begin : PySem.W.kitOne K (.type "str") (.ref C_Begin) = some false
  kt_Begin : PySem.W.kitOne K (.type "tuple") (.ref C_Begin) = some false
  ns_Begin : PySem.W.notFirst K C_Begin (.type "str") = true
  nt_Begin : PySem.W.notFirst K C_Begin (.type "tuple") = true
  f_Send_str : Addr
  d_Send_str : FuncData
  F_Send_str : Fun K "__str__" "Send.__str__" s_Send_str f_Send_str d_Send_str
  b_Send_str : Binds K d_Send_str P_Send_str []
  si_Send : PySem.W.findIn K (.ref C_Send) "__str__" = some (some (.ref f_Send_str))
  sf_Send : PySem.W.isFn K (.ref f_Send_str) = true
  f_Send_eq : Addr
  d_Send_eq : FuncData
  F_Send_eq : Fun K "__eq__" "Send.__eq__" s_Send_eq f_Send_eq d_Send_eq
  b_Send_eq : Binds K d_Send_eq P_Send_eq []
  ei_Send : PySem.W.findIn K (.ref C_Send) "__eq__" = some (some (.ref f_Send_eq))
  ef_Send : PySem.W.isFn K (.ref f_Send_eq) = true
  en_Send : PySem.W.findIn K (.ref C_Send) "__ne__" = some (some (.builtin "object.__ne__"))
  eo_Send : PySem.W.subIn K (.ref C_Send) (.type "object") = some true
  ty_Send : ∀ (H : Hp) (a dx : Addr) (fs : List (Str × V)), H a = some (.ins C_Send dx fs) → TyX K H (.ref a) (.ref C_Send)
  ks_Send : PySem.W.kitOne K (.type "str") (.ref C_Send) = some false
  kt_Send : PySem.W.kitOne K (.type "tuple") (.ref C_Send) = some false
  ns_Send : PySem.W.notFirst K C_Send (.type "str") = true
  nt_Send : PySem.W.notFirst K C_Send (.type "tuple") = true
  f_Back_str : Addr
  d_Back_str : FuncData
  F_Back_str : Fun K "__str__" "Back.__str__" s_Back_str f_Back_str d_Back_str
  b_Back_str : Binds K d_Back_str P_Back_str []
  si_Back : PySem.W.findIn K (.ref C_Back) "__str__" = some (some (.ref f_Back_str))
  sf_Back : PySem.W.isFn K (.ref f_Back_str) = true
  f_Back_eq : Addr
  d_Back_eq : FuncData
  F_Back_eq : Fun K "__eq__" "Back.__eq__" s_Back_eq f_Back_eq d_Back_eq
  b_Back_eq : Binds K d_Back_eq P_Back_eq []
  ei_Back : PySem.W.findIn K (.ref C_Back) "__eq__" = some (some (.ref f_Back_eq))
  ef_Back : PySem.W.isFn K (.ref f_Back_eq) = true
  en_Back : PySem.W.findIn K (.ref C_Back) "__ne__" = some (some (.builtin "object.__ne__"))
  eo_Back : PySem.W.subIn K (.ref C_Back) (.type "object") = some true
  ty_Back : ∀ (H : Hp) (a dx : Addr) (fs : List (Str × V)), H a = some (.ins C_Back dx fs) → TyX K H (.ref a) (.ref C_Back)
  ks_Back : PySem.W.kitOne K (.type "str") (.ref C_Back) = some false
  kt_Back : PySem.W.kitOne K (.type "tuple") (.ref C_Back) = some false
  ns_Back : PySem.W.notFirst K C_Back (.type "str") = true
  nt_Back : PySem.W.notFirst K C_Back (.type "tuple") = true
  f_End_str : Addr
  d_End_str : FuncData
  F_End_str : Fun K "__str__" "End.__str__" s_End_str f_End_str d_End_str
  b_End_str : Binds K d_End_str P_End_str []
  si_End : PySem.W.findIn K (.ref C_End) "__str__" = some (some (.ref f_End_str))
  sf_End : PySem.W.isFn K (.ref f_End_str) = true
  f_End_eq : Addr
  d_End_eq : FuncData
  F_End_eq : Fun K "__eq__" "End.__eq__" s_End_eq f_End_eq d_End_eq
  b_End_eq : Binds K d_End_eq P_End_eq []
  ei_End : PySem.W.findIn K (.ref C_End) "__eq__" = some (some (.ref f_End_eq))
  ef_End : PySem.W.isFn K (.ref f_End_eq) = true
  en_End : PySem.W.findIn K (.ref C_End) "__ne__" = some (some (.builtin "object.__ne__"))
  eo_End : PySem.W.subIn K (.ref C_End) (.type "object") = some true
  ty_End : ∀ (H : Hp) (a dx : Addr) (fs : List (Str × V)), H a = some (.ins C_End dx fs) → TyX K H (.ref a) (.ref C_End)
  ks_End : PySem.W.kitOne K (.type "str") (.ref C_End) = some false
  kt_End : PySem.W.kitOne K (.type "tuple") (.ref C_End) = some false
  ns_End : PySem.W.notFirst K C_End (.type "str") = true
  nt_End : PySem.W.notFirst K C_End (.type "tuple") = true
  kk_Begin_Begin : PySem.W.kitOne K (.ref C_Begin) (.ref C_Begin) = some true
  nf_Begin_Begin : PySem.W.notFirst K C_Begin (.ref C_Begin) = true
  kk_Begin_Send : PySem.W.kitOne K (.ref C_Begin) (.ref C_Send) = some false
  nf_Begin_Send : PySem.W.notFirst K C_Begin (.ref C_Send) = true
  kk_Begin_Back : PySem.W.kitOne K (.ref C_Begin) (.ref C_Back) = some false
  nf_Begin_Back : PySem.W.notFirst K C_Begin (.ref C_Back) = true
  kk_Begin_End : PySem.W.kitOne K (.ref C_Begin) (.ref C_End) = some false
  nf_Begin_End : PySem.W.notFirst K C_Begin (.ref C_End) = true
  kk_Send_Begin : PySem.W.kitOne K (.ref C_Send) (.ref C_Begin) = some false
  nf_Send_Begin : PySem.W.notFirst K C_Send (.ref C_Begin) = true
  kk_Send_Send : PySem.W.kitOne K (.ref C_Send) (.ref C_Send) = some true
  nf_Send_Send : PySem.W.notFirst K C_Send (.ref C_Send) = true
  kk_Send_Back : PySem.W.kitOne K (.ref C_Send) (.ref C_Back) = some false
  nf_Send_Back : PySem.W.notFirst K C_Send (.ref C_Back) = true
  kk_Send_End : PySem.W.kitOne K (.ref C_Send) (.ref C_End) = some false
  nf_Send_End : PySem.W.notFirst K C_Send (.ref C_End) = true
  kk_Back_Begin : PySem.W.kitOne K (.ref C_Back) (.ref C_Begin) = some false
  nf_Back_Begin : PySem.W.notFirst K C_Back (.ref C_Begin) = true
  kk_Back_Send : PySem.W.kitOne K (.ref C_Back) (.ref C_Send) = some false
  nf_Back_Send : PySem.W.notFirst K C_Back (.ref C_Send) = true
  kk_Back_Back : PySem.W.kitOne K (.ref C_Back) (.ref C_Back) = some true
  nf_Back_Back : PySem.W.notFirst K C_Back (.ref C_Back) = true
  kk_Back_End : PySem.W.kitOne K (.ref C_Back) (.ref C_End) = some false
  nf_Back_End : PySem.W.notFirst K C_Back (.ref C_End) = true
  kk_End_Begin : PySem.W.kitOne K (.ref C_End) (.ref C_Begin) = some false
  nf_End_Begin : PySem.W.notFirst K C_End (.ref C_Begin) = true
  kk_End_Send : PySem.W.kitOne K (.ref C_End) (.ref C_Send) = some false
  nf_End_Send : PySem.W.notFirst K C_End (.ref C_Send) = true
  kk_End_Back : PySem.W.kitOne K (.ref C_End) (.ref C_Back) = some false
  nf_End_Back : PySem.W.notFirst K C_End (.ref C_Back) = true
  kk_End_End : PySem.W.kitOne K (.ref C_End) (.ref C_End) = some true
  nf_End_End : PySem.W.notFirst K C_End (.ref C_End) = true
def spStr {K : PySem.W.Frag} {mg : Str → Option Value} (T : TxRows K mg) (s : Str) : Sp := fun vs H Q _ => ∃ (a : Addr) (ws : List Str), vs = [.ref a] ∧ RowAt T H a s ws ∧ Q (.str (rowTxt s ws)) H
def spEq {K : PySem.W.Frag} {mg : Str → Option Value} (T : TxRows K mg) (s : Str) : Sp := fun vs H Q _ => ∃ (a : Addr) (ws : List Str) (y : V), vs = [.ref a, y] ∧ RowAt T H a s ws ∧
  ((∃ (b : Addr) (s2 : Str) (ws2 : List Str), y = .ref b ∧ RowAt T H b s2 ws2 ∧ Q (.bl (decide (s = s2) && decide (rowTxt s ws = rowTxt s2 ws2))) H) ∨
   ∃ t, TyX K H y t ∧ PySem.W.kitOne K t (.ref (clsOf T s)) = some false ∧ Q (.bl false) H)
section
variable {P : Program} {w : World} {K : PySem.W.Frag} {mg : Str → Option Value} {base : Heap}
theorem ok_Begin_str (T : TxStr K mg) : FnOk P w K mg base CX0 1 T.f_Begin_str T.d_Begin_str P_Begin_str (spStr T.toTxRows "begin") := by
  refine T.F_Begin_str.ok sc_Begin_str (fun vs H Q E h => ?_) (fun cdv A outer s H vs Q E hr h => ?_)
  · obtain ⟨a, ws, rfl, _⟩ := h
    rfl
  obtain ⟨a, ws, rfl, R, q⟩ := h
  obtain ⟨⟨dx, ha⟩, hl, hsh, _⟩ := R
  obtain ⟨y0, y1, y2, rfl⟩ : ∃ y0 y1 y2, ws = [y0, y1, y2] := by
    match ws, hl with
    | [y0, y1, y2], _ => exact ⟨y0, y1, y2, rfl⟩
  have l0 : y0.length ≤ 10 := hsh y0 (by simp)
  have l1 : y1.length ≤ 10 := hsh y1 (by simp)
  have l2 : y2.length ≤ 10 := hsh y2 (by simp)
  have z0 : (Str.empty : Str).length = 0 := rfl
  have z1 : (Str.ofString "begin ").length = 6 := by decide +kernel
  have z2 : (Str.ofString " ").length = 1 := by decide +kernel
  refine ⟨_, (pss_one (ps_ret (pe_joined (.cons pe_str (.cons (pe_fmt (pe_fldK K (pv 0))) (.cons pe_str (.cons (pe_fmt (pe_fldK K (pv 0))) (.cons pe_str (.cons (pe_fmt (pe_fldK K (pv 0))) .nil))))))))), ?_⟩
  refine ⟨_, rfl, (by rw [sizeLine_eq]; (try simp only [Str.length_append]); omega), _, rfl, a, T.C_Begin, dx, _, _, rfl, ha, T.c_Begin, T.n_Begin_mark, rfl, .inl ⟨_, rfl, (by rw [sizeLine_eq]; (try simp only [Str.length_append]); omega), _, rfl, (by rw [sizeLine_eq]; (try simp only [Str.length_append]); omega), _, rfl, (by rw [sizeLine_eq]; (try simp only [Str.length_append]); omega), _, rfl, a, T.C_Begin, dx, _, _, rfl, ha, T.c_Begin, T.n_Begin_kind, rfl, .inl ⟨_, rfl, (by rw [sizeLine_eq]; (try simp only [Str.length_append]); omega), _, rfl, (by rw [sizeLine_eq]; (try simp only [Str.length_append]); omega), _, rfl, (by rw [sizeLine_eq]; (try simp only [Str.length_append]); omega), _, rfl, a, T.C_Begin, dx, _, _, rfl, ha, T.c_Begin, T.n_Begin_mood, rfl, .inl ⟨_, rfl, (by rw [sizeLine_eq]; (try simp only [Str.length_append]); omega), _, rfl, (by rw [sizeLine_eq]; (try simp only [Str.length_append]); omega), ?_⟩⟩⟩⟩
  have e : rowTxt "begin" [y0, y1, y2] = _ := txt3 "begin" y0 y1 y2
  rw [e] at q
  have e2 : (Str.ofString "begin ") = "begin" ++ " " := by decide +kernel
  rw [e2]
  simp only [Str.empty_append, Str.append_assoc] at q ⊢
  exact q
theorem ok_Send_str (T : TxStr K mg) : FnOk P w K mg base CX0 1 T.f_Send_str T.d_Send_str P_Send_str (spStr T.toTxRows "send") := by
  refine T.F_Send_str.ok sc_Send_str (fun vs H Q E h => ?_) (fun cdv A outer s H vs Q E hr h => ?_)
  · obtain ⟨a, ws, rfl, _⟩ := h
    rfl
  obtain ⟨a, ws, rfl, R, q⟩ := h
  obtain ⟨⟨dx, ha⟩, hl, hsh, _⟩ := R
  obtain ⟨y0, y1, y2, rfl⟩ : ∃ y0 y1 y2, ws = [y0, y1, y2] := by
    match ws, hl with
    | [y0, y1, y2], _ => exact ⟨y0, y1, y2, rfl⟩
  have l0 : y0.length ≤ 10 := hsh y0 (by simp)
  have l1 : y1.length ≤ 10 := hsh y1 (by simp)
  have l2 : y2.length ≤ 10 := hsh y2 (by simp)
  have z0 : (Str.empty : Str).length = 0 := rfl
  have z1 : (Str.ofString "send ").length = 5 := by decide +kernel
  have z2 : (Str.ofString " ").length = 1 := by decide +kernel
  refine ⟨_, (pss_one (ps_ret (pe_joined (.cons pe_str (.cons (pe_fmt (pe_fldK K (pv 0))) (.cons pe_str (.cons (pe_fmt (pe_fldK K (pv 0))) (.cons pe_str (.cons (pe_fmt (pe_fldK K (pv 0))) .nil))))))))), ?_⟩
  refine ⟨_, rfl, (by rw [sizeLine_eq]; (try simp only [Str.length_append]); omega), _, rfl, a, T.C_Send, dx, _, _, rfl, ha, T.c_Send, T.n_Send_mood, rfl, .inl ⟨_, rfl, (by rw [sizeLine_eq]; (try simp only [Str.length_append]); omega), _, rfl, (by rw [sizeLine_eq]; (try simp only [Str.length_append]); omega), _, rfl, (by rw [sizeLine_eq]; (try simp only [Str.length_append]); omega), _, rfl, a, T.C_Send, dx, _, _, rfl, ha, T.c_Send, T.n_Send_service, rfl, .inl ⟨_, rfl, (by rw [sizeLine_eq]; (try simp only [Str.length_append]); omega), _, rfl, (by rw [sizeLine_eq]; (try simp only [Str.length_append]); omega), _, rfl, (by rw [sizeLine_eq]; (try simp only [Str.length_append]); omega), _, rfl, a, T.C_Send, dx, _, _, rfl, ha, T.c_Send, T.n_Send_mark, rfl, .inl ⟨_, rfl, (by rw [sizeLine_eq]; (try simp only [Str.length_append]); omega), _, rfl, (by rw [sizeLine_eq]; (try simp only [Str.length_append]); omega), ?_⟩⟩⟩⟩
  have e : rowTxt "send" [y0, y1, y2] = _ := txt3 "send" y0 y1 y2
  rw [e] at q
  have e2 : (Str.ofString "send ") = "send" ++ " " := by decide +kernel
  rw [e2]
  simp only [Str.empty_append, Str.append_assoc] at q ⊢
  exact q
theorem ok_Back_str (T : TxStr K mg) : FnOk P w K mg base CX0 1 T.f_Back_str T.d_Back_str P_Back_str (spStr T.toTxRows "back") := by
  refine T.F_Back_str.ok sc_Back_str (fun vs H Q E h => ?_) (fun cdv A outer s H vs Q E hr h => ?_)
  · obtain ⟨a, ws, rfl, _⟩ := h
    rfl
  obtain ⟨a, ws, rfl, R, q⟩ := h
  obtain ⟨⟨dx, ha⟩, hl, hsh, _⟩ := R
  obtain ⟨y0, y1, y2, y3, rfl⟩ : ∃ y0 y1 y2 y3, ws = [y0, y1, y2, y3] := by
    match ws, hl with
    | [y0, y1, y2, y3], _ => exact ⟨y0, y1, y2, y3, rfl⟩
  have l0 : y0.length ≤ 10 := hsh y0 (by simp)
  have l1 : y1.length ≤ 10 := hsh y1 (by simp)
  have l2 : y2.length ≤ 10 := hsh y2 (by simp)
  have l3 : y3.length ≤ 10 := hsh y3 (by simp)
  have z0 : (Str.empty : Str).length = 0 := rfl
  have z1 : (Str.ofString "back ").length = 5 := by decide +kernel
  have z2 : (Str.ofString " ").length = 1 := by decide +kernel
  refine ⟨_, (pss_one (ps_ret (pe_joined (.cons pe_str (.cons (pe_fmt (pe_fldK K (pv 0))) (.cons pe_str (.cons (pe_fmt (pe_fldK K (pv 0))) (.cons pe_str (.cons (pe_fmt (pe_fldK K (pv 0))) (.cons pe_str (.cons (pe_fmt (pe_fldK K (pv 0))) .nil))))))))))), ?_⟩
  refine ⟨_, rfl, (by rw [sizeLine_eq]; (try simp only [Str.length_append]); omega), _, rfl, a, T.C_Back, dx, _, _, rfl, ha, T.c_Back, T.n_Back_mood, rfl, .inl ⟨_, rfl, (by rw [sizeLine_eq]; (try simp only [Str.length_append]); omega), _, rfl, (by rw [sizeLine_eq]; (try simp only [Str.length_append]); omega), _, rfl, (by rw [sizeLine_eq]; (try simp only [Str.length_append]); omega), _, rfl, a, T.C_Back, dx, _, _, rfl, ha, T.c_Back, T.n_Back_service, rfl, .inl ⟨_, rfl, (by rw [sizeLine_eq]; (try simp only [Str.length_append]); omega), _, rfl, (by rw [sizeLine_eq]; (try simp only [Str.length_append]); omega), _, rfl, (by rw [sizeLine_eq]; (try simp only [Str.length_append]); omega), _, rfl, a, T.C_Back, dx, _, _, rfl, ha, T.c_Back, T.n_Back_sign, rfl, .inl ⟨_, rfl, (by rw [sizeLine_eq]; (try simp only [Str.length_append]); omega), _, rfl, (by rw [sizeLine_eq]; (try simp only [Str.length_append]); omega), _, rfl, (by rw [sizeLine_eq]; (try simp only [Str.length_append]); omega), _, rfl, a, T.C_Back, dx, _, _, rfl, ha, T.c_Back, T.n_Back_then, rfl, .inl ⟨_, rfl, (by rw [sizeLine_eq]; (try simp only [Str.length_append]); omega), _, rfl, (by rw [sizeLine_eq]; (try simp only [Str.length_append]); omega), ?_⟩⟩⟩⟩⟩
  have e : rowTxt "back" [y0, y1, y2, y3] = _ := txt4 "back" y0 y1 y2 y3
  rw [e] at q
  have e2 : (Str.ofString "back ") = "back" ++ " " := by decide +kernel
  rw [e2]
  simp only [Str.empty_append, Str.append_assoc] at q ⊢
  exact q
theorem ok_End_str (T : TxStr K mg) : FnOk P w K mg base CX0 1 T.f_End_str T.d_End_str P_End_str (spStr T.toTxRows "end") := by
  refine T.F_End_str.ok sc_End_str (fun vs H Q E h => ?_) (fun cdv A outer s H vs Q E hr h => ?_)
  · obtain ⟨a, ws, rfl, _⟩ := h
    rfl
  obtain ⟨a, ws, rfl, R, q⟩ := h
  obtain ⟨⟨dx, ha⟩, hl, hsh, _⟩ := R
  obtain ⟨y0, y1, y2, y3, rfl⟩ : ∃ y0 y1 y2 y3, ws = [y0, y1, y2, y3] := by
    match ws, hl with
    | [y0, y1, y2, y3], _ => exact ⟨y0, y1, y2, y3, rfl⟩
  have l0 : y0.length ≤ 10 := hsh y0 (by simp)
  have l1 : y1.length ≤ 10 := hsh y1 (by simp)
  have l2 : y2.length ≤ 10 := hsh y2 (by simp)
  have l3 : y3.length ≤ 10 := hsh y3 (by simp)
  have z0 : (Str.empty : Str).length = 0 := rfl
  have z1 : (Str.ofString "end ").length = 4 := by decide +kernel
  have z2 : (Str.ofString " ").length = 1 := by decide +kernel
  refine ⟨_, (pss_one (ps_ret (pe_joined (.cons pe_str (.cons (pe_fmt (pe_fldK K (pv 0))) (.cons pe_str (.cons (pe_fmt (pe_fldK K (pv 0))) (.cons pe_str (.cons (pe_fmt (pe_fldK K (pv 0))) (.cons pe_str (.cons (pe_fmt (pe_fldK K (pv 0))) .nil))))))))))), ?_⟩
  refine ⟨_, rfl, (by rw [sizeLine_eq]; (try simp only [Str.length_append]); omega), _, rfl, a, T.C_End, dx, _, _, rfl, ha, T.c_End, T.n_End_mood, rfl, .inl ⟨_, rfl, (by rw [sizeLine_eq]; (try simp only [Str.length_append]); omega), _, rfl, (by rw [sizeLine_eq]; (try simp only [Str.length_append]); omega), _, rfl, (by rw [sizeLine_eq]; (try simp only [Str.length_append]); omega), _, rfl, a, T.C_End, dx, _, _, rfl, ha, T.c_End, T.n_End_outcome, rfl, .inl ⟨_, rfl, (by rw [sizeLine_eq]; (try simp only [Str.length_append]); omega), _, rfl, (by rw [sizeLine_eq]; (try simp only [Str.length_append]); omega), _, rfl, (by rw [sizeLine_eq]; (try simp only [Str.length_append]); omega), _, rfl, a, T.C_End, dx, _, _, rfl, ha, T.c_End, T.n_End_sign, rfl, .inl ⟨_, rfl, (by rw [sizeLine_eq]; (try simp only [Str.length_append]); omega), _, rfl, (by rw [sizeLine_eq]; (try simp only [Str.length_append]); omega), _, rfl, (by rw [sizeLine_eq]; (try simp only [Str.length_append]); omega), _, rfl, a, T.C_End, dx, _, _, rfl, ha, T.c_End, T.n_End_part, rfl, .inl ⟨_, rfl, (by rw [sizeLine_eq]; (try simp only [Str.length_append]); omega), _, rfl, (by rw [sizeLine_eq]; (try simp only [Str.length_append]); omega), ?_⟩⟩⟩⟩⟩
  have e : rowTxt "end" [y0, y1, y2, y3] = _ := txt4 "end" y0 y1 y2 y3
  rw [e] at q
  have e2 : (Str.ofString "end ") = "end" ++ " " := by decide +kernel
  rw [e2]
  simp only [Str.empty_append, Str.append_assoc] at q ⊢
  exact q
theorem str_rows (T : TxStr K mg) : OwnStr P w K mg base (clsOf T.toTxRows) (· ∈ SORTS) 1 (spStr T.toTxRows) := by
  refine ⟨fun s hs => ?_⟩
  simp only [SORTS, List.mem_cons, List.not_mem_nil, or_false] at hs
  rcases hs with rfl | rfl | rfl | rfl
  · exact ⟨_, _, _, ok_Begin_str T, T.b_Begin_str, T.si_Begin, T.sf_Begin⟩
  · exact ⟨_, _, _, ok_Send_str T, T.b_Send_str, T.si_Send, T.sf_Send⟩
  · exact ⟨_, _, _, ok_Back_str T, T.b_Back_str, T.si_Back, T.sf_Back⟩
  · exact ⟨_, _, _, ok_End_str T, T.b_End_str, T.si_End, T.sf_End⟩
theorem ty_row (T : TxStr K mg) {s : Str} (hs : s ∈ SORTS) {H : Hp} {a dx : Addr} {fs : List (Str × V)} (h : H a = some (.ins (clsOf T.toTxRows s) dx fs)) : TyX K H (.ref a) (.ref (clsOf T.toTxRows s)) := by
  simp only [SORTS, List.mem_cons, List.not_mem_nil, or_false] at hs
  rcases hs with rfl | rfl | rfl | rfl
  · exact T.ty_Begin _ _ _ _ h
  · exact T.ty_Send _ _ _ _ h
  · exact T.ty_Back _ _ _ _ h
  · exact T.ty_End _ _ _ _ h
theorem kit_row (T : TxStr K mg) {s s2 : Str} (hs2 : s2 ∈ SORTS) (hs : s ∈ SORTS) : PySem.W.kitOne K (.ref (clsOf T.toTxRows s2)) (.ref (clsOf T.toTxRows s)) = some (decide (s2 = s)) := by
  simp only [SORTS, List.mem_cons, List.not_mem_nil, or_false] at hs hs2
  rcases hs with rfl | rfl | rfl | rfl <;> rcases hs2 with rfl | rfl | rfl | rfl
  · exact T.kk_Begin_Begin
  · exact T.kk_Send_Begin
  · exact T.kk_Back_Begin
  · exact T.kk_End_Begin
  · exact T.kk_Begin_Send
  · exact T.kk_Send_Send
  · exact T.kk_Back_Send
  · exact T.kk_End_Send
  · exact T.kk_Begin_Back
  · exact T.kk_Send_Back
  · exact T.kk_Back_Back
  · exact T.kk_End_Back
  · exact T.kk_Begin_End
  · exact T.kk_Send_End
  · exact T.kk_Back_End
  · exact T.kk_End_End
theorem nf_row (T : TxStr K mg) {s s2 : Str} (hs2 : s2 ∈ SORTS) (hs : s ∈ SORTS) : PySem.W.notFirst K (clsOf T.toTxRows s) (.ref (clsOf T.toTxRows s2)) = true := by
  simp only [SORTS, List.mem_cons, List.not_mem_nil, or_false] at hs hs2
  rcases hs with rfl | rfl | rfl | rfl <;> rcases hs2 with rfl | rfl | rfl | rfl
  · exact T.nf_Begin_Begin
  · exact T.nf_Begin_Send
  · exact T.nf_Begin_Back
  · exact T.nf_Begin_End
  · exact T.nf_Send_Begin
  · exact T.nf_Send_Send
  · exact T.nf_Send_Back
  · exact T.nf_Send_End
  · exact T.nf_Back_Begin
  · exact T.nf_Back_Send
  · exact T.nf_Back_Back
  · exact T.nf_Back_End
  · exact T.nf_End_Begin
  · exact T.nf_End_Send
  · exact T.nf_End_Back
  · exact T.nf_End_End
theorem ok_Begin_eq (T : TxStr K mg) : FnOk P w K mg base CX0 4 T.f_Begin_eq T.d_Begin_eq P_Begin_eq (spEq T.toTxRows "begin") := by
  have G_str := str_rows (P := P) (w := w) (base := base) T
  refine T.F_Begin_eq.ok sc_Begin_eq (fun vs H Q E h => ?_) (fun cdv A outer s H vs Q E hr h => ?_)
  · obtain ⟨a, ws, y, rfl, _⟩ := h
    rfl
  obtain ⟨a, ws, y, rfl, R, h⟩ := h
  refine ⟨_, (pss_one (ps_ret (pe_and (pe_callB (call_isiV K) (by rfl) T.z_isinstance (by decide +kernel) (pa_cons (pv 1) (pa_cons (pe_glob (v := .ref T.C_Begin) (by rfl) T.m_Begin rfl) pa_nil))) (pe_one (pe_cmpR op_eq (pe_callTy (call_strO K G_str (hr.mono (by decide))) (by rfl) T.z_str (by decide +kernel) (pa_cons (pv 0) pa_nil)) (pe_callTy (call_strO K G_str (hr.mono (by decide))) (by rfl) T.z_str (by decide +kernel) (pa_cons (pv 1) pa_nil)) (nomark _)))))), ?_⟩
  rcases h with ⟨b, s2, ws2, rfl, R2, q⟩ | ⟨t, ty, kf, q⟩
  · obtain ⟨⟨dx, ha⟩, hl, hsh, hs1⟩ := id R
    obtain ⟨⟨dx2, hb⟩, hl2, hsh2, hs2⟩ := id R2
    refine ⟨_, rfl, .ref b, .ref T.C_Begin, .ref (clsOf T.toTxRows s2), _, decide (s2 = "begin"), rfl, .own _, ty_row T hs2 hb, kit_row T (s := "begin") hs2 hs1, _, rfl, ?_⟩
    refine ite2 (fun c => ?_) (fun c => ?_)
    · have e2 : s2 = "begin" := of_decide_eq_true c
      subst e2
      refine ⟨_, rfl, a, "begin", dx, _, rfl, hs1, ha, a, ws, rfl, R, _, rfl, _, rfl, b, "begin", dx2, _, rfl, hs2, hb, b, ws2, rfl, R2, _, rfl, rfl, ?_⟩
      rw [dec_str]
      have r := q
      rw [decide_eq_true (rfl : ("begin" : Str) = "begin"), Bool.true_and] at r
      exact r
    · have r := q
      rw [decide_eq_false (fun z => c (decide_eq_true z.symm)), Bool.false_and] at r
      exact r
  · refine ⟨_, rfl, y, .ref T.C_Begin, t, _, false, rfl, .own _, ty, kf, _, rfl, ?_⟩
    exact q
theorem ok_Send_eq (T : TxStr K mg) : FnOk P w K mg base CX0 4 T.f_Send_eq T.d_Send_eq P_Send_eq (spEq T.toTxRows "send") := by
  have G_str := str_rows (P := P) (w := w) (base := base) T
  refine T.F_Send_eq.ok sc_Send_eq (fun vs H Q E h => ?_) (fun cdv A outer s H vs Q E hr h => ?_)
  · obtain ⟨a, ws, y, rfl, _⟩ := h
    rfl
  obtain ⟨a, ws, y, rfl, R, h⟩ := h
  refine ⟨_, (pss_one (ps_ret (pe_and (pe_callB (call_isiV K) (by rfl) T.z_isinstance (by decide +kernel) (pa_cons (pv 1) (pa_cons (pe_glob (v := .ref T.C_Send) (by rfl) T.m_Send rfl) pa_nil))) (pe_one (pe_cmpR op_eq (pe_callTy (call_strO K G_str (hr.mono (by decide))) (by rfl) T.z_str (by decide +kernel) (pa_cons (pv 0) pa_nil)) (pe_callTy (call_strO K G_str (hr.mono (by decide))) (by rfl) T.z_str (by decide +kernel) (pa_cons (pv 1) pa_nil)) (nomark _)))))), ?_⟩
  rcases h with ⟨b, s2, ws2, rfl, R2, q⟩ | ⟨t, ty, kf, q⟩
  · obtain ⟨⟨dx, ha⟩, hl, hsh, hs1⟩ := id R
    obtain ⟨⟨dx2, hb⟩, hl2, hsh2, hs2⟩ := id R2
    refine ⟨_, rfl, .ref b, .ref T.C_Send, .ref (clsOf T.toTxRows s2), _, decide (s2 = "send"), rfl, .own _, ty_row T hs2 hb, kit_row T (s := "send") hs2 hs1, _, rfl, ?_⟩
    refine ite2 (fun c => ?_) (fun c => ?_)
    · have e2 : s2 = "send" := of_decide_eq_true c
      subst e2
      refine ⟨_, rfl, a, "send", dx, _, rfl, hs1, ha, a, ws, rfl, R, _, rfl, _, rfl, b, "send", dx2, _, rfl, hs2, hb, b, ws2, rfl, R2, _, rfl, rfl, ?_⟩
      rw [dec_str]
      have r := q
      rw [decide_eq_true (rfl : ("send" : Str) = "send"), Bool.true_and] at r
      exact r
    · have r := q
      rw [decide_eq_false (fun z => c (decide_eq_true z.symm)), Bool.false_and] at r
      exact r
  · refine ⟨_, rfl, y, .ref T.C_Send, t, _, false, rfl, .own _, ty, kf, _, rfl, ?_⟩
    exact q
theorem ok_Back_eq (T : TxStr K mg) : FnOk P w K mg base CX0 4 T.f_Back_eq T.d_Back_eq P_Back_eq (spEq T.toTxRows "back") := by
  have G_str := str_rows (P := P) (w := w) (base := base) T
  refine T.F_Back_eq.ok sc_Back_eq (fun vs H Q E h => ?_) (fun cdv A outer s H vs Q E hr h => ?_)
  · obtain ⟨a, ws, y, rfl, _⟩ := h
    rfl
  obtain ⟨a, ws, y, rfl, R, h⟩ := h
  refine ⟨_, (pss_one (ps_ret (pe_and (pe_callB (call_isiV K) (by rfl) T.z_isinstance (by decide +kernel) (pa_cons (pv 1) (pa_cons (pe_glob (v := .ref T.C_Back) (by rfl) T.m_Back rfl) pa_nil))) (pe_one (pe_cmpR op_eq (pe_callTy (call_strO K G_str (hr.mono (by decide))) (by rfl) T.z_str (by decide +kernel) (pa_cons (pv 0) pa_nil)) (pe_callTy (call_strO K G_str (hr.mono (by decide))) (by rfl) T.z_str (by decide +kernel) (pa_cons (pv 1) pa_nil)) (nomark _)))))), ?_⟩
  rcases h with ⟨b, s2, ws2, rfl, R2, q⟩ | ⟨t, ty, kf, q⟩
  · obtain ⟨⟨dx, ha⟩, hl, hsh, hs1⟩ := id R
    obtain ⟨⟨dx2, hb⟩, hl2, hsh2, hs2⟩ := id R2
    refine ⟨_, rfl, .ref b, .ref T.C_Back, .ref (clsOf T.toTxRows s2), _, decide (s2 = "back"), rfl, .own _, ty_row T hs2 hb, kit_row T (s := "back") hs2 hs1, _, rfl, ?_⟩
    refine ite2 (fun c => ?_) (fun c => ?_)
    · have e2 : s2 = "back" := of_decide_eq_true c
      subst e2
      refine ⟨_, rfl, a, "back", dx, _, rfl, hs1, ha, a, ws, rfl, R, _, rfl, _, rfl, b, "back", dx2, _, rfl, hs2, hb, b, ws2, rfl, R2, _, rfl, rfl, ?_⟩
      rw [dec_str]
      have r := q
      rw [decide_eq_true (rfl : ("back" : Str) = "back"), Bool.true_and] at r
      exact r
    · have r := q
      rw [decide_eq_false (fun z => c (decide_eq_true z.symm)), Bool.false_and] at r
      exact r
  · refine ⟨_, rfl, y, .ref T.C_Back, t, _, false, rfl, .own _, ty, kf, _, rfl, ?_⟩
    exact q
theorem ok_End_eq (T : TxStr K mg) : FnOk P w K mg base CX0 4 T.f_End_eq T.d_End_eq P_End_eq (spEq T.toTxRows "end") := by
  have G_str := str_rows (P := P) (w := w) (base := base) T
  refine T.F_End_eq.ok sc_End_eq (fun vs H Q E h => ?_) (fun cdv A outer s H vs Q E hr h => ?_)
  · obtain ⟨a, ws, y, rfl, _⟩ := h
    rfl
  obtain ⟨a, ws, y, rfl, R, h⟩ := h
  refine ⟨_, (pss_one (ps_ret (pe_and (pe_callB (call_isiV K) (by rfl) T.z_isinstance (by decide +kernel) (pa_cons (pv 1) (pa_cons (pe_glob (v := .ref T.C_End) (by rfl) T.m_End rfl) pa_nil))) (pe_one (pe_cmpR op_eq (pe_callTy (call_strO K G_str (hr.mono (by decide))) (by rfl) T.z_str (by decide +kernel) (pa_cons (pv 0) pa_nil)) (pe_callTy (call_strO K G_str (hr.mono (by decide))) (by rfl) T.z_str (by decide +kernel) (pa_cons (pv 1) pa_nil)) (nomark _)))))), ?_⟩
  rcases h with ⟨b, s2, ws2, rfl, R2, q⟩ | ⟨t, ty, kf, q⟩
  · obtain ⟨⟨dx, ha⟩, hl, hsh, hs1⟩ := id R
    obtain ⟨⟨dx2, hb⟩, hl2, hsh2, hs2⟩ := id R2
    refine ⟨_, rfl, .ref b, .ref T.C_End, .ref (clsOf T.toTxRows s2), _, decide (s2 = "end"), rfl, .own _, ty_row T hs2 hb, kit_row T (s := "end") hs2 hs1, _, rfl, ?_⟩
    refine ite2 (fun c => ?_) (fun c => ?_)
    · have e2 : s2 = "end" := of_decide_eq_true c
      subst e2
      refine ⟨_, rfl, a, "end", dx, _, rfl, hs1, ha, a, ws, rfl, R, _, rfl, _, rfl, b, "end", dx2, _, rfl, hs2, hb, b, ws2, rfl, R2, _, rfl, rfl, ?_⟩
      rw [dec_str]
      have r := q
      rw [decide_eq_true (rfl : ("end" : Str) = "end"), Bool.true_and] at r
      exact r
    · have r := q
      rw [decide_eq_false (fun z => c (decide_eq_true z.symm)), Bool.false_and] at r
      exact r
  · refine ⟨_, rfl, y, .ref T.C_End, t, _, false, rfl, .own _, ty, kf, _, rfl, ?_⟩
    exact q
theorem eq_rows (T : TxStr K mg) : OwnEqs P w K mg base (clsOf T.toTxRows) (· ∈ SORTS) 4 (spEq T.toTxRows) := by
  refine ⟨fun s hs => ?_⟩
  simp only [SORTS, List.mem_cons, List.not_mem_nil, or_false] at hs
  rcases hs with rfl | rfl | rfl | rfl
  · exact ⟨_, _, _, ok_Begin_eq T, T.b_Begin_eq, T.ei_Begin, T.ef_Begin, T.en_Begin, T.eo_Begin⟩
  · exact ⟨_, _, _, ok_Send_eq T, T.b_Send_eq, T.ei_Send, T.ef_Send, T.en_Send, T.eo_Send⟩
  · exact ⟨_, _, _, ok_Back_eq T, T.b_Back_eq, T.ei_Back, T.ef_Back, T.en_Back, T.eo_Back⟩
  · exact ⟨_, _, _, ok_End_eq T, T.b_End_eq, T.ei_End, T.ef_End, T.en_End, T.eo_End⟩
end
end My

/-! ## Services made: words ascending, rows, the arguments kept -/
namespace My
open PySem PySem.Spec PyProof.Rows L2
abbrev s_ascending : Stmt := top 20
abbrev N_ascending : List Str := ["words", "word"]
abbrev P_ascending : List Str := ["words"]
theorem sc_ascending : FnScope N_ascending P_ascending (defScope s_ascending) := ⟨rfl, rfl, rfl, by decide +kernel, rfl, by decide +kernel, by decide +kernel⟩
abbrev s_are_rows : Stmt := top 21
abbrev N_are_rows : List Str := ["value", "row"]
abbrev P_are_rows : List Str := ["value"]
theorem sc_are_rows : FnScope N_are_rows P_are_rows (defScope s_are_rows) := ⟨rfl, rfl, rfl, by decide +kernel, rfl, by decide +kernel, by decide +kernel⟩
abbrev s_InvalidService_init : Stmt := inClass (top 10) 0
abbrev N_InvalidService_init : List Str := ["self", "word"]
abbrev P_InvalidService_init : List Str := ["self", "word"]
theorem sc_InvalidService_init : FnScope N_InvalidService_init P_InvalidService_init (defScope s_InvalidService_init) := ⟨rfl, rfl, rfl, by decide +kernel, rfl, by decide +kernel, by decide +kernel⟩
abbrev s_Service_init : Stmt := inClass (top 22) 0
abbrev N_Service_init : List Str := ["self", "name", "kinds", "waits", "leaves", "rows", "led_to", "row"]
abbrev P_Service_init : List Str := ["self", "name", "kinds", "waits", "leaves", "rows"]
theorem sc_Service_init : FnScope N_Service_init P_Service_init (defScope s_Service_init) := ⟨rfl, rfl, rfl, by decide +kernel, rfl, by decide +kernel, by decide +kernel⟩
structure TxSvc (K : PySem.W.Frag) (mg : Str → Option Value) extends TxSeq K mg, TxRows K mg where
  z_sorted : mg "sorted" = none
  f_ascending : Addr
  d_ascending : FuncData
  F_ascending : Fun K "ascending" "ascending" s_ascending f_ascending d_ascending
  m_ascending : mg "ascending" = some (.ref f_ascending)
  b_ascending : Binds K d_ascending P_ascending []
  f_are_rows : Addr
  d_are_rows : FuncData
  F_are_rows : Fun K "are_rows" "are_rows" s_are_rows f_are_rows d_are_rows
  m_are_rows : mg "are_rows" = some (.ref f_are_rows)
  b_are_rows : Binds K d_are_rows P_are_rows []
  C_Row : Addr
  m_Row : mg "Row" = some (.ref C_Row)
  ty_Begin : ∀ (H : Hp) (a dx : Addr) (fs : List (Str × V)), H a = some (.ins C_Begin dx fs) → TyX K H (.ref a) (.ref C_Begin)
  ty_Send : ∀ (H : Hp) (a dx : Addr) (fs : List (Str × V)), H a = some (.ins C_Send dx fs) → TyX K H (.ref a) (.ref C_Send)
  ty_Back : ∀ (H : Hp) (a dx : Addr) (fs : List (Str × V)), H a = some (.ins C_Back dx fs) → TyX K H (.ref a) (.ref C_Back)
  ty_End : ∀ (H : Hp) (a dx : Addr) (fs : List (Str × V)), H a = some (.ins C_End dx fs) → TyX K H (.ref a) (.ref C_End)
  kr_Begin : PySem.W.kitOne K (.ref C_Begin) (.ref C_Row) = some true
  kr_Send : PySem.W.kitOne K (.ref C_Send) (.ref C_Row) = some true
  kr_Back : PySem.W.kitOne K (.ref C_Back) (.ref C_Row) = some true
  kr_End : PySem.W.kitOne K (.ref C_End) (.ref C_Row) = some true
  kb_Begin : PySem.W.kitOne K (.ref C_Begin) (.ref C_Back) = some false
  kb_Send : PySem.W.kitOne K (.ref C_Send) (.ref C_Back) = some false
  kb_Back : PySem.W.kitOne K (.ref C_Back) (.ref C_Back) = some true
  kb_End : PySem.W.kitOne K (.ref C_End) (.ref C_Back) = some false
  C_InvalidService : Addr
  m_InvalidService : mg "InvalidService" = some (.ref C_InvalidService)
  oxSvc : OexC K C_InvalidService
  nwSvc : PySem.W.findIn K (.ref C_InvalidService) "word" = some none
  f_InvalidService_init : Addr
  d_InvalidService_init : FuncData
  iSvc : PySem.W.findIn K (.ref C_InvalidService) "__init__" = some (some (.ref f_InvalidService_init))
  tSvc : PySem.W.typeIn K (.ref f_InvalidService_init) = some (.type "function")
  F_InvalidService_init : Fun K "__init__" "InvalidService.__init__" s_InvalidService_init f_InvalidService_init d_InvalidService_init
  b_InvalidService_init : Binds K d_InvalidService_init P_InvalidService_init []
  C_Service : Addr
  m_Service : mg "Service" = some (.ref C_Service)
  c_Service : Cls K C_Service
  f_Service_init : Addr
  d_Service_init : FuncData
  mk_Service : Mk K C_Service f_Service_init
  e_waits : Addr
  e_leaves : Addr
  e_rows : Addr
  t_waits : ∀ H : Hp, SqT K H e_waits []
  t_leaves : ∀ H : Hp, SqT K H e_leaves []
  t_rows : ∀ H : Hp, SqT K H e_rows []
  F_Service_init : FunD K "__init__" "Service.__init__" (defArgs s_Service_init) (defBody s_Service_init) (defScope s_Service_init) [.ref e_waits, .ref e_leaves, .ref e_rows] [] f_Service_init d_Service_init
  n_Service_name : NoAttr K C_Service "name"
  n_Service_kinds : NoAttr K C_Service "kinds"
  n_Service_waits : NoAttr K C_Service "waits"
  n_Service_leaves : NoAttr K C_Service "leaves"
  n_Service_rows : NoAttr K C_Service "rows"
  n_Service_moods : NoAttr K C_Service "moods"
/-- words that stand for others -/
def ODDW2 : List Str := ["any", "same"]
def spAsc (K : PySem.W.Frag) : Sp := fun vs H Q _ => ∃ (a : Addr) (l : List Str), vs = [.ref a] ∧ SqA K H a (l.map V.str) ∧ l.length ≤ 60 ∧
  ∀ (ys : List Str) (p : Addr) (H' : Hp), Same H H' → H p = none → H' p = some (.tup (ys.map V.str)) → ys.Nodup → sortedS ys = true → (∀ y, y ∈ ys ↔ y ∈ l ∧ ODDW2.contains y = false) → Q (.ref p) H'
/-- a row: its mood, and where it leads to -/
inductive RwAt {K : PySem.W.Frag} {mg : Str → Option Value} (T : TxSvc K mg) (H : Hp) : V → Str × Option Str → Prop
  | beg {a dx : Addr} {fs : List (Str × V)} {m : Str} (ha : H a = some (.ins T.C_Begin dx fs)) (hm : fs.lookup ("mood" : Str) = some (.str m)) : RwAt T H (.ref a) (m, none)
  | snd {a dx : Addr} {fs : List (Str × V)} {m : Str} (ha : H a = some (.ins T.C_Send dx fs)) (hm : fs.lookup ("mood" : Str) = some (.str m)) : RwAt T H (.ref a) (m, none)
  | bck {a dx : Addr} {fs : List (Str × V)} {m t : Str} (ha : H a = some (.ins T.C_Back dx fs)) (hm : fs.lookup ("mood" : Str) = some (.str m)) (ht : fs.lookup ("then" : Str) = some (.str t)) : RwAt T H (.ref a) (m, some t)
  | end_ {a dx : Addr} {fs : List (Str × V)} {m : Str} (ha : H a = some (.ins T.C_End dx fs)) (hm : fs.lookup ("mood" : Str) = some (.str m)) : RwAt T H (.ref a) (m, none)
theorem RwAt.same {K : PySem.W.Frag} {mg : Str → Option Value} {T : TxSvc K mg} {H H' : Hp} {v : V} {r : Str × Option Str} (h : RwAt T H v r) (e : Same H H') : RwAt T H' v r := by
  cases h with
  | beg ha hm => exact .beg (e _ _ ha) hm
  | snd ha hm => exact .snd (e _ _ ha) hm
  | bck ha hm ht => exact .bck (e _ _ ha) hm ht
  | end_ ha hm => exact .end_ (e _ _ ha) hm
/-- all but what stands at p stays -/
def Kp (p : Addr) (H H' : Hp) : Prop := ∀ b u, b ≠ p → H b = some u → H' b = some u
theorem Kp.refl {p : Addr} {H : Hp} : Kp p H H := fun _ _ _ e => e
theorem Kp.same {p : Addr} {H H1 H2 : Hp} (k : Kp p H H1) (e : Same H1 H2) : Kp p H H2 := fun b u n z => e _ _ (k b u n z)
theorem Kp.put {p : Addr} {H H1 : Hp} (k : Kp p H H1) (o : HO) : Kp p H (upd H1 p o) := fun b u n z => by rw [upd_ne n]; exact k b u n z
theorem Kp.trans {p : Addr} {H H1 H2 : Hp} (x : Kp p H H1) (y : Kp p H1 H2) : Kp p H H2 := fun b u n z => y b u n (x b u n z)
theorem ins_ne {p b : Addr} {H : Hp} {C dx : Addr} {fs : List (Str × V)} {o : HO} (hp : H p = some (.ins C dx fs)) (hb : H b = some o) (n : ∀ C dx fs, o ≠ .ins C dx fs) : b ≠ p := fun e => by
  rw [e, hp] at hb
  exact n _ _ _ (Option.some.inj hb).symm
theorem SqA.kp {K : PySem.W.Frag} {p a : Addr} {H H' : Hp} {C dx : Addr} {fs : List (Str × V)} {xs : List V} (h : SqA K H a xs) (hp : H p = some (.ins C dx fs)) (k : Kp p H H') : SqA K H' a xs := by
  rcases h with ((h | ⟨o, h⟩) | h) | ((h | ⟨o, h⟩) | h)
  · exact .inl (.inl (.inl (k _ _ (ins_ne hp h (fun _ _ _ z => by cases z)) h)))
  · exact .inl (.inl (.inr ⟨o, k _ _ (ins_ne hp h (fun _ _ _ z => by cases z)) h⟩))
  · exact .inl (.inr h)
  · exact .inr (.inl (.inl (k _ _ (ins_ne hp h (fun _ _ _ z => by cases z)) h)))
  · exact .inr (.inl (.inr ⟨o, k _ _ (ins_ne hp h (fun _ _ _ z => by cases z)) h⟩))
  · exact .inr (.inr h)
theorem sqT_kp {K : PySem.W.Frag} {p a : Addr} {H H' : Hp} {C dx : Addr} {fs : List (Str × V)} {xs : List V} (h : SqT K H a xs) (hp : H p = some (.ins C dx fs)) (k : Kp p H H') : SqT K H' a xs := by
  rcases h with (h | ⟨o, h⟩) | h
  · exact .inl (.inl (k _ _ (ins_ne hp h (fun _ _ _ z => by cases z)) h))
  · exact .inl (.inr ⟨o, k _ _ (ins_ne hp h (fun _ _ _ z => by cases z)) h⟩)
  · exact .inr h
/-- a row is no service that is being made -/
theorem RwAt.kp {K : PySem.W.Frag} {mg : Str → Option Value} {T : TxSvc K mg} {H H' : Hp} {p C dx : Addr} {v : V} {r : Str × Option Str} (h : RwAt T H v r) (hp : H p = some (.ins C dx [])) (k : Kp p H H') : RwAt T H' v r := by
  have ne : ∀ {a C2 dx2 : Addr} {fs : List (Str × V)} {m : Str}, H a = some (.ins C2 dx2 fs) → fs.lookup ("mood" : Str) = some (.str m) → a ≠ p := fun {a C2 dx2 fs m} ha hm e => by
    rw [e, hp] at ha
    cases ha
    cases hm
  cases h with
  | beg ha hm => exact .beg (k _ _ (ne ha hm) ha) hm
  | snd ha hm => exact .snd (k _ _ (ne ha hm) ha) hm
  | bck ha hm ht => exact .bck (k _ _ (ne ha hm) ha) hm ht
  | end_ ha hm => exact .end_ (k _ _ (ne ha hm) ha) hm
theorem tuple_of {K : PySem.W.Frag} {H : Hp} {a : Addr} {xs : List V} {Q : VK} (h : SqA K H a xs) (q : ∀ t H', Same H H' → SqT K H' t xs → Q (.ref t) H') : rTupO K [.ref a] H Q := by
  rcases h with h | h
  · exact ⟨a, xs, rfl, .inl ⟨h, fun l hl => q l _ (same_upd hl _) (SqT.of upd_same)⟩⟩
  · exact ⟨a, xs, rfl, .inr ⟨h, q a H (Same.refl H) h⟩⟩
/-- what tuple(xs) asks -/
structure TupQ (K : PySem.W.Frag) (vs : List V) (H : Hp) (Q : VK) : Prop where
  ex : ∃ (a : Addr) (xs : List V), vs = [.ref a] ∧ SqA K H a xs ∧ ∀ t H', Same H H' → SqT K H' t xs → Q (.ref t) H'
theorem call_tupQ {X : Cx} (K : PySem.W.Frag) (hK : X.K = K := by rfl) : CallR X (.type "tuple") (TupQ K) := by
  subst hK
  intro pins s σ H xs us Q I r h
  obtain ⟨a, ys, rfl, hq, q⟩ := h.ex
  exact call_tuple_of pins s σ H _ us Q I r (tuple_of hq q)
def spAreRows {K : PySem.W.Frag} {mg : Str → Option Value} (T : TxSvc K mg) : Sp := fun vs H Q _ => ∃ (a : Addr) (xs : List V) (ms : List (Str × Option Str)), vs = [.ref a] ∧ SqA K H a xs ∧ Paired (RwAt T H) xs ms ∧ xs.length ≤ 50 ∧ ∀ H', Same H H' → Q (.bl true) H'
/-- a service that is made: the moods of its rows -/
def moodsOf (ms : List (Str × Option Str)) : List Str := "calm" :: (ms.map (·.1) ++ ms.filterMap (·.2))
def spSvcInit {K : PySem.W.Frag} {mg : Str → Option Value} (T : TxSvc K mg) : Sp := fun vs H Q E => ∃ (p dx ka wa la ra : Addr) (y : Str) (lk lw ll : List Str) (xs : List V) (ms : List (Str × Option Str)), vs = [.ref p, .str y, .ref ka, .ref wa, .ref la, .ref ra] ∧ H p = some (.ins T.C_Service dx []) ∧
  y.length ≤ 2000 ∧ SqA K H ka (lk.map V.str) ∧ SqA K H wa (lw.map V.str) ∧ SqA K H la (ll.map V.str) ∧ SqA K H ra xs ∧ Paired (RwAt T H) xs ms ∧ ms.length ≤ 25 ∧ lk.length = 1 ∧ lw.length ≤ 1 ∧ ll.length ≤ 1 ∧
  (isNm y = true → ∀ z ∈ lk ++ (lw ++ ll), isNm z = true) ∧
  (isNm y = true → ∀ (H' : Hp) (k2 w2 l2 r2 m2 : Addr) (ys : List Str), Kp p H H' → H' p = some (.ins T.C_Service dx [("name", .str y), ("kinds", .ref k2), ("waits", .ref w2), ("leaves", .ref l2), ("rows", .ref r2), ("moods", .ref m2)]) →
    SqT K H' k2 (lk.map V.str) → SqT K H' w2 (lw.map V.str) → SqT K H' l2 (ll.map V.str) → SqT K H' r2 xs → SqT K H' m2 (ys.map V.str) → ys.Nodup → sortedS ys = true → (∀ z, z ∈ ys ↔ z ∈ moodsOf ms ∧ ODDW2.contains z = false) → Q .non H') ∧
  (isNm y = false → ∀ d H', Same H H' → H d = none → H' d = some (.xd [("word", .str "name")]) → E (.ref T.C_InvalidService) (some d) H')
section
variable {X : Cx}
theorem pa_starK (K : PySem.W.Frag) {e : Expr} {es : List Expr} {te : TE} {t : TA} {p : Pos} (he : PE X e te) (hr : PA X es t) (hK : X.K = K := by rfl) (hs : starEach (.Starred e p :: es) X.env = (true, eval e X.env) :: starEach es X.env := by rfl) : PA X (.Starred e p :: es) (StX.tStar K te t) := hK ▸ StX.pa_star he hr hs
end
section
variable {P : Program} {w : World} {K : PySem.W.Frag} {mg : Str → Option Value} {base : Heap}
theorem ok_ascending (T : TxSvc K mg) : FnOk P w K mg base CX0 1 T.f_ascending T.d_ascending P_ascending (spAsc K) := by
  refine T.F_ascending.ok sc_ascending (fun vs H Q E h => ?_) (fun cdv A outer s H vs Q E hr h => ?_)
  · obtain ⟨a, l, rfl, _⟩ := h
    rfl
  obtain ⟨a, l, rfl, hS, hl, q⟩ := h
  refine ⟨_, (pss_one (ps_ret (pe_callTy (call_tupleK K) (by rfl) T.z_tuple (by decide +kernel) (pa_cons (pe_callB (cr_sortedTS rfl) (by rfl) T.z_sorted (by decide +kernel) (pa_cons (pe_setT ⟨gName 1, _, _, _⟩ (by rfl) sc_ascending.nd (pi_seqK K (pv 0)) (blkOk_by (own := [("word", 1)]) (N := N_ascending) (sc := defScope s_ascending) (by decide +kernel)) rfl (fun _ _ _ _ _ => (pg_name (i := 1) sc_ascending.nd rfl (Or.inl rfl))) (fun _ _ _ _ _ => pts_one (pt_cmpR (op_notInK K) (pv 1) (pe_tup (pa_cons pe_str (pa_cons pe_str pa_nil))) (by rfl))) (fun _ _ _ _ _ => (pv 1))) pa_nil)) pa_nil)))), ?_⟩
  refine ⟨_, rfl, a, _, rfl, hS, fun J G g0 gs wk D hD => ⟨(l.map V.str).length, fun i H' => Same H H' ∧ ∃ z : List Str, H' D = some (TSetO P w D z) ∧ z.length ≤ i ∧ ∀ y, y ∈ z ↔ y ∈ l.take i ∧ ODDW2.contains y = false, ?_, ?_, ?_⟩⟩
  · exact ⟨same_upd hD _, [], upd_same, Nat.le_refl _, fun y => by simp⟩
  · rintro H1 ⟨s1, z, hD1, zl, zm⟩
    rw [List.length_map] at zl
    refine ⟨wk.stops _ (gs _ _ s1 g0), D, z, rfl, hD1, by omega, fun ys sp pm nd so hsp => ?_⟩
    refine ⟨sp, _, rfl, .inl ⟨SqL.of upd_same, fun t ht => ?_⟩⟩
    have s2 := (s1.trans (same_upd hsp (.lst (ys.map V.str)))).trans (same_upd ht (.tup (ys.map V.str)))
    refine q ys t _ s2 ((s1.trans (same_upd hsp (.lst (ys.map V.str)))).free ht) upd_same (pm.nodup_iff.mpr nd) so fun y => ?_
    rw [pm.mem_iff, zm, List.length_map, List.take_length]
  · rintro i H1 hi ⟨s1, z, hD1, zl, zm⟩
    refine ⟨wk.goes i _ hi (gs _ _ s1 g0), fun x H2 hyy => ?_⟩
    obtain ⟨rfl, hx⟩ := wk.yields i _ _ _ hi (gs _ _ s1 g0) hyy
    rw [List.getElem?_map] at hx
    obtain ⟨y, hy, rfl⟩ : ∃ y, l[i]? = some y ∧ V.str y = x := by
      cases e : l[i]? with
      | none => rw [e] at hx; cases hx
      | some z => rw [e] at hx; cases hx; exact ⟨z, rfl, rfl⟩
    rw [List.length_map] at hi
    refine ⟨rfl, ?_⟩
    refine ⟨_, rfl, by show 2 ≤ sizeLine; decide, fun t ht => ⟨t, ODDW2.map V.str, rfl, .inr (SqT.of upd_same), rfl, by decide +kernel, _, rfl, ?_⟩⟩
    have s2 := s1.trans (same_upd ht (.tup [.str "any", .str "same"]))
    have hD2 := same_upd ht (.tup [.str "any", .str "same"]) _ _ hD1
    rw [inV_strs]
    have tk : ∀ v, v ∈ l.take (i + 1) ↔ v ∈ l.take i ∨ v = y := fun v => by
      rw [List.take_add_one, hy, List.mem_append]
      simp
    refine ⟨fun c => ?_, fun c => ⟨_, rfl, y, z, rfl, hD2, by omega, ?_⟩⟩
    · have c' : ODDW2.contains y = true := by simpa using c
      refine ⟨s2, z, hD2, by omega, fun v => ?_⟩
      rw [zm, tk]
      constructor
      · exact fun h => ⟨.inl h.1, h.2⟩
      · rintro ⟨h1 | h1, h2⟩
        · exact ⟨h1, h2⟩
        · rw [h1, c'] at h2
          cases h2
    · have c' : ODDW2.contains y = false := by simpa using c
      refine ⟨fun b o e => ?_, more z y, upd_same, ?_, fun v => ?_⟩
      · rw [upd_ne (ne_of_none e hD)]
        exact s2 b o e
      · unfold more
        split
        · omega
        · simp only [List.length_cons]
          omega
      · have mm : v ∈ more z y ↔ v ∈ z ∨ v = y := by
          unfold more
          split
          · rename_i h1
            exact ⟨.inl, fun h2 => h2.elim id fun e => e ▸ h1⟩
          · rw [List.mem_cons]
            exact Or.comm
        rw [mm, zm, tk]
        constructor
        · rintro (h1 | h1)
          · exact ⟨.inl h1.1, h1.2⟩
          · exact ⟨.inr h1, h1 ▸ c'⟩
        · rintro ⟨h1 | h1, h2⟩
          · exact .inl ⟨h1, h2⟩
          · exact .inr h1
theorem row_ty (T : TxSvc K mg) {H : Hp} {v : V} {r : Str × Option Str} (h : RwAt T H v r) : ∃ C, TyX K H v (.ref C) ∧ PySem.W.kitOne K (.ref C) (.ref T.C_Row) = some true ∧ PySem.W.kitOne K (.ref C) (.ref T.C_Back) = some r.2.isSome := by
  cases h with
  | beg ha _ => exact ⟨_, T.ty_Begin _ _ _ _ ha, T.kr_Begin, T.kb_Begin⟩
  | snd ha _ => exact ⟨_, T.ty_Send _ _ _ _ ha, T.kr_Send, T.kb_Send⟩
  | bck ha _ _ => exact ⟨_, T.ty_Back _ _ _ _ ha, T.kr_Back, T.kb_Back⟩
  | end_ ha _ => exact ⟨_, T.ty_End _ _ _ _ ha, T.kr_End, T.kb_End⟩
theorem ok_are_rows (T : TxSvc K mg) : FnOk P w K mg base CX0 2 T.f_are_rows T.d_are_rows P_are_rows (spAreRows T) := by
  have G_is_sequence := ok_is_sequence (P := P) (w := w) (base := base) T.toTxSeq
  refine T.F_are_rows.ok sc_are_rows (fun vs H Q E h => ?_) (fun cdv A outer s H vs Q E hr h => ?_)
  · obtain ⟨a, xs, ms, rfl, _⟩ := h
    rfl
  obtain ⟨a, xs, ms, rfl, hS, hR, hl, q⟩ := h
  refine ⟨_, (pss_one (ps_ret (pe_and (pe_call G_is_sequence (hr.mono (by decide)) (by rfl) T.m_is_sequence T.F_is_sequence.kp T.b_is_sequence .nil pass0 (pa_cons (pv 0) pa_nil)) (pe_one (pe_callB (cr_allK K rfl) (by rfl) T.z_all (by decide +kernel) (pa_cons (pe_lc (own := [("row", 1)]) (g := gName 1) (by rfl) sc_are_rows.nd (pi_seqK K (pv 0)) (blkOk_by (own := [("row", 1)]) (N := N_are_rows) (sc := defScope s_are_rows) (by decide +kernel)) (fun _ _ _ _ _ => (pg_name (i := 1) sc_are_rows.nd rfl (Or.inl rfl))) (fun _ _ _ _ _ => pts_nil) (fun _ _ _ _ _ => (pe_callB (call_isiV K) (by rfl) T.z_isinstance (by decide +kernel) (pa_cons (pv 1) (pa_cons (pe_glob (v := .ref T.C_Row) (by rfl) T.m_Row rfl) pa_nil))))) pa_nil)))))), ?_⟩
  refine ⟨_, rfl, a, _, rfl, hS, fun H1 s1 => ⟨_, rfl, ?_⟩⟩
  refine ⟨_, rfl, a, xs, rfl, hS.same s1, fun J G g0 gs wk D hD => ?_⟩
  refine lc_it wk (fun i H' => Same H1 H' ∧ H' D = some (.lst ((List.replicate i true).map V.bl))) ⟨same_upd hD _, upd_same⟩ (fun i H' _ h => gs _ _ h.1 g0) ?_ ?_
  · rintro i x H2 H3 hi ⟨s2, hD2⟩ ⟨rfl, hx⟩
    obtain ⟨r, _, hr1⟩ := paired_get hR hx
    obtain ⟨C, ty, kr, _⟩ := row_ty T (hr1.same (s1.trans s2))
    refine ⟨rfl, ?_⟩
    refine ⟨_, rfl, x, .ref T.C_Row, _, _, true, rfl, .own _, ty, kr, ?_⟩
    refine ⟨_, hD2, small1000 (by simp; omega), ?_, ?_⟩
    · intro b o e
      rw [upd_ne (ne_of_none e hD)]
      exact s2 b o e
    · rw [upd_same, List.replicate_succ', List.map_append]
      rfl
  · rintro H2 ⟨s2, hD2⟩
    refine ⟨D, _, rfl, SqL.of hD2, ?_⟩
    have r := q H2 (s1.trans s2)
    have e : (List.replicate xs.length true).all id = true := List.all_eq_true.mpr fun x hx => (List.mem_replicate.mp hx).2
    rw [e]
    exact r
theorem ok_xsvc (T : TxSvc K mg) : FnOk P w K mg base CX0 1 T.f_InvalidService_init T.d_InvalidService_init P_InvalidService_init (spXInit K T.C_InvalidService) := by
  refine T.F_InvalidService_init.ok sc_InvalidService_init (fun vs H Q E h => ?_) (fun cdv A outer s H vs Q E hr h => ?_)
  · obtain ⟨a, y, rfl, _⟩ := h
    rfl
  obtain ⟨a, y, rfl, ha, q⟩ := h
  refine ⟨_, (pss_one (ps_ost (pv 0) (pv 1))), ?_⟩
  exact ⟨_, rfl, _, rfl, a, T.C_InvalidService, rfl, T.oxSvc, T.nwSvc, .inl ⟨ha, fun dx h1 h2 => q dx h1 h2⟩⟩
theorem paired_rw (T : TxSvc K mg) {H H' : Hp} {p C dx : Addr} (hp : H p = some (.ins C dx [])) (k : Kp p H H') : ∀ {xs : List V} {ms : List (Str × Option Str)}, Paired (RwAt T H) xs ms → Paired (RwAt T H') xs ms
  | _, _, .nil => .nil
  | _, _, .cons r t => .cons (r.kp hp k) (paired_rw T hp k t)
theorem paired_rwS (T : TxSvc K mg) {H H' : Hp} (k : Same H H') : ∀ {xs : List V} {ms : List (Str × Option Str)}, Paired (RwAt T H) xs ms → Paired (RwAt T H') xs ms
  | _, _, .nil => .nil
  | _, _, .cons r t => .cons (r.same k) (paired_rwS T k t)
end
end My

/-! ## A service is made, or refused -/
namespace My
open PySem PySem.Spec PyProof.Rows L2
section
variable {P : Program} {w : World} {K : PySem.W.Frag} {mg : Str → Option Value} {base : Heap}
theorem row_mood (T : TxSvc K mg) {H : Hp} {v : V} {r : Str × Option Str} (h : RwAt T H v r) : ∃ (a C dx : Addr) (fs : List (Str × V)), v = .ref a ∧ H a = some (.ins C dx fs) ∧ Cls K C ∧ NoAttr K C "mood" ∧ fs.lookup ("mood" : Str) = some (.str r.1) := by
  cases h with
  | beg ha hm => exact ⟨_, _, _, _, rfl, ha, T.c_Begin, T.n_Begin_mood, hm⟩
  | snd ha hm => exact ⟨_, _, _, _, rfl, ha, T.c_Send, T.n_Send_mood, hm⟩
  | bck ha hm _ => exact ⟨_, _, _, _, rfl, ha, T.c_Back, T.n_Back_mood, hm⟩
  | end_ ha hm => exact ⟨_, _, _, _, rfl, ha, T.c_End, T.n_End_mood, hm⟩
theorem row_then (T : TxSvc K mg) {H : Hp} {v : V} {m t : Str} (h : RwAt T H v (m, some t)) : ∃ (a dx : Addr) (fs : List (Str × V)), v = .ref a ∧ H a = some (.ins T.C_Back dx fs) ∧ fs.lookup ("then" : Str) = some (.str t) := by
  cases h with
  | bck ha _ ht => exact ⟨_, _, _, rfl, ha, ht⟩
theorem paired_len2 {α β : Type} {R : α → β → Prop} : ∀ {xs : List α} {ys : List β}, Paired R xs ys → xs.length = ys.length
  | _, _, .nil => rfl
  | _, _, .cons _ t => by rw [List.length_cons, List.length_cons, paired_len2 t]
theorem ok_Service_init (T : TxSvc K mg) : FnOk P w K mg base (L2.CX P w) 5 T.f_Service_init T.d_Service_init P_Service_init (spSvcInit T) := by
  have G_is_name := ok_is_name (P := P) (w := w) (base := base) T.toTxCheck
  have G_are_names := ok_are_names (P := P) (w := w) (base := base) T.toTxSeq
  have G_are_some_names := ok_are_some_names (P := P) (w := w) (base := base) T.toTxSeq
  have G_are_rows := ok_are_rows (P := P) (w := w) (base := base) T
  have G_ascending := ok_ascending (P := P) (w := w) (base := base) T
  have G_InvalidService_init := ok_xsvc (P := P) (w := w) (base := base) T
  refine T.F_Service_init.ok sc_Service_init (fun vs H Q E h => ?_) (fun cdv A outer s H vs Q E hr h => ?_)
  · obtain ⟨p, dx, ka, wa, la, ra, y, lk, lw, ll, xs, ms, rfl, _⟩ := h
    rfl
  obtain ⟨p, dx, ka, wa, la, ra, y, lk, lw, ll, xs, ms, rfl, hp, hy, hK, hW, hL, hR, hrows, hms, l1, l2, l3, nms, q, qe⟩ := h
  have lxs := paired_len2 hrows
  refine ⟨_, (pss_cons (ps_if (pt_not (pt_val (pe_call G_is_name (hr.mono (by decide)) (by rfl) T.m_is_name T.F_is_name.kp T.b_is_name .nil pass0 (pa_cons (pv 1) pa_nil)))) (pss_one (ps_raise rfl (takes_of rfl rfl rfl rfl) (pmk_oex T.oxSvc T.iSvc T.tSvc G_InvalidService_init (hr.mono (by decide)) T.b_InvalidService_init .nil pass0 (by rfl) T.m_InvalidService (pa_cons pe_str pa_nil)))) pss_nil)
      (pss_cons (ps_if (pt_not (pt_val (pe_call G_are_some_names (hr.mono (by decide)) (by rfl) T.m_are_some_names T.F_are_some_names.kp T.b_are_some_names .nil pass0 (pa_cons (pv 2) pa_nil)))) (pss_one ps_never) pss_nil)
      (pss_cons (ps_if (pt_not (pt_val (pe_call G_are_names (hr.mono (by decide)) (by rfl) T.m_are_names T.F_are_names.kp T.b_are_names .nil pass0 (pa_cons (pv 3) pa_nil)))) (pss_one ps_never) pss_nil)
      (pss_cons (ps_if (pt_not (pt_val (pe_call G_are_names (hr.mono (by decide)) (by rfl) T.m_are_names T.F_are_names.kp T.b_are_names .nil pass0 (pa_cons (pv 4) pa_nil)))) (pss_one ps_never) pss_nil)
      (pss_cons (ps_if (pt_not (pt_val (pe_call G_are_rows (hr.mono (by decide)) (by rfl) T.m_are_rows T.F_are_rows.kp T.b_are_rows .nil pass0 (pa_cons (pv 5) pa_nil)))) (pss_one ps_never) pss_nil)
      (pss_cons (ps_fld (pv 0) (pv 1) rfl)
      (pss_cons (ps_fld (pv 0) (pe_callTy (call_tupQ K) (by rfl) T.z_tuple (by decide +kernel) (pa_cons (pv 2) pa_nil)) rfl)
      (pss_cons (ps_fld (pv 0) (pe_callTy (call_tupQ K) (by rfl) T.z_tuple (by decide +kernel) (pa_cons (pv 3) pa_nil)) rfl)
      (pss_cons (ps_fld (pv 0) (pe_callTy (call_tupQ K) (by rfl) T.z_tuple (by decide +kernel) (pa_cons (pv 4) pa_nil)) rfl)
      (pss_cons (ps_fld (pv 0) (pe_callTy (call_tupQ K) (by rfl) T.z_tuple (by decide +kernel) (pa_cons (pv 5) pa_nil)) rfl)
      (pss_cons (ps_setLc (i := 6) (own := [("row", 7)]) (g := gName 7) (by rfl) sc_Service_init.nd rfl rfl (sw_true rfl rfl rfl (by decide +kernel)) (pi_seqK K (pv 5)) (blkOk_by (own := [("row", 7)]) (N := N_Service_init) (sc := defScope s_Service_init) (by decide +kernel)) (fun _ _ _ _ _ => (pg_name (i := 7) sc_Service_init.nd rfl (Or.inl rfl))) (fun _ _ _ _ _ => pts_one (pt_val (pe_callB (call_isiV K) (by rfl) T.z_isinstance (by decide +kernel) (pa_cons (pv 7) (pa_cons (pe_glob (v := .ref T.C_Back) (by rfl) T.m_Back rfl) pa_nil))))) (fun _ _ _ _ _ => (pe_fldK K (pv 7))))
      (pss_one (ps_fld (pv 0) (pe_call G_ascending (hr.mono (by decide)) (by rfl) T.m_ascending T.F_ascending.kp T.b_ascending .nil pass0 (pa_cons (pe_lst (pa_cons pe_str (pa_starK K (pe_lc (own := [("row", 7)]) (g := gName 7) (by rfl) sc_Service_init.nd (pi_seqK K (pv 5)) (blkOk_by (own := [("row", 7)]) (N := N_Service_init) (sc := defScope s_Service_init) (by decide +kernel)) (fun _ _ _ _ _ => (pg_name (i := 7) sc_Service_init.nd rfl (Or.inl rfl))) (fun _ _ _ _ _ => pts_nil) (fun _ _ _ _ _ => (pe_fldK K (pv 7)))) (pa_starK K (pv 6) pa_nil)))) pa_nil)) rfl))))))))))))), ?_⟩
  refine ⟨_, rfl, .str y, rfl, .str y hy, fun H1 s1 => ⟨_, rfl, ?_⟩⟩
  cases hn : isNm y with
  | false =>
    refine ite2 (fun _ => ?_) (fun c => absurd (bnot_ne c) (by show ¬ isNm y = true; rw [hn]; decide))
    exact mk_word fun d H' s' n' e' => qe hn d H' (s1.trans s') (s1.free n') e'
  | true =>
    have good := nms hn
    have aK : lk.all isNm = true := List.all_eq_true.mpr fun z hz => good z (List.mem_append_left _ hz)
    have aW : lw.all isNm = true := List.all_eq_true.mpr fun z hz => good z (List.mem_append_right _ (List.mem_append_left _ hz))
    have aL : ll.all isNm = true := List.all_eq_true.mpr fun z hz => good z (List.mem_append_right _ (List.mem_append_right _ hz))
    have sh : ∀ z : Str, isNm z = true → z.length ≤ 2000 := fun z hz => by have := (isNm_len hz).2; omega
    refine ite2 (fun c => absurd (bnot_eq c) (by show ¬ isNm y = false; rw [hn]; decide)) (fun _ => ?_)
    refine ⟨_, rfl, ka, lk, rfl, hK.same s1, fun z hz => sh z (List.all_eq_true.mp aK z hz), l1, fun H2 s2 => ⟨_, rfl, ?_⟩⟩
    refine ite2 (fun c => absurd (bnot_eq c) (by rw [aK]; decide)) (fun _ => ?_)
    have t2 := s1.trans s2
    refine ⟨_, rfl, wa, lw, rfl, hW.same t2, fun z hz => sh z (List.all_eq_true.mp aW z hz), l2, fun H3 s3 => ⟨_, rfl, ?_⟩⟩
    refine ite2 (fun c => absurd (bnot_eq c) (by rw [aW]; decide)) (fun _ => ?_)
    have t3 := t2.trans s3
    refine ⟨_, rfl, la, ll, rfl, hL.same t3, fun z hz => sh z (List.all_eq_true.mp aL z hz), l3, fun H4 s4 => ⟨_, rfl, ?_⟩⟩
    refine ite2 (fun c => absurd (bnot_eq c) (by rw [aL]; decide)) (fun _ => ?_)
    have t4 := t3.trans s4
    refine ⟨_, rfl, ra, xs, ms, rfl, hR.same t4, paired_rwS T t4 hrows, by omega, fun H5 s5 => ⟨_, rfl, ?_⟩⟩
    refine ite2 (fun c => absurd (bnot_eq c) (by decide)) (fun _ => ?_)
    have t5 := t4.trans s5
    have hp5 := t5 _ _ hp
    have k5 : Kp p H5 H5 := Kp.refl
    -- the fields, one by one
    refine ⟨_, rfl, _, rfl, p, T.C_Service, dx, _, rfl, hp5, T.c_Service, T.n_Service_name, (by show 0 < 1000; decide), ?_⟩
    have k6 := k5.put (.ins T.C_Service dx [("name", .str y)])
    refine ⟨_, rfl, ⟨ka, _, rfl, (hK.same t5).kp hp5 k6, fun k2 H7 s7 c7 => ?_⟩⟩
    have p7 := s7 _ _ (upd_same (H := H5) (a := p) (o := .ins T.C_Service dx [("name", .str y)]))
    have k7 := k6.same s7
    refine ⟨_, rfl, p, T.C_Service, dx, _, rfl, p7, T.c_Service, T.n_Service_kinds, (by show 1 < 1000; decide), ?_⟩
    have k8 := k7.put (.ins T.C_Service dx [("name", .str y), ("kinds", .ref k2)])
    have j8 : Kp p H7 _ := Kp.refl.put (.ins T.C_Service dx [("name", .str y), ("kinds", .ref k2)])
    refine ⟨_, rfl, ⟨wa, _, rfl, (hW.same t5).kp hp5 k8, fun w2 H9 s9 c9 => ?_⟩⟩
    have p9 := s9 _ _ (upd_same (H := H7) (a := p) (o := .ins T.C_Service dx [("name", .str y), ("kinds", .ref k2)]))
    have k9 := k8.same s9
    have j9 := j8.same s9
    refine ⟨_, rfl, p, T.C_Service, dx, _, rfl, p9, T.c_Service, T.n_Service_waits, (by show 2 < 1000; decide), ?_⟩
    have k10 := k9.put (.ins T.C_Service dx [("name", .str y), ("kinds", .ref k2), ("waits", .ref w2)])
    have j10 : Kp p H9 _ := Kp.refl.put (.ins T.C_Service dx [("name", .str y), ("kinds", .ref k2), ("waits", .ref w2)])
    refine ⟨_, rfl, ⟨la, _, rfl, (hL.same t5).kp hp5 k10, fun e2 H11 s11 c11 => ?_⟩⟩
    have p11 := s11 _ _ (upd_same (H := H9) (a := p) (o := .ins T.C_Service dx [("name", .str y), ("kinds", .ref k2), ("waits", .ref w2)]))
    have k11 := k10.same s11
    have j11 := j10.same s11
    refine ⟨_, rfl, p, T.C_Service, dx, _, rfl, p11, T.c_Service, T.n_Service_leaves, (by show 3 < 1000; decide), ?_⟩
    have k12 := k11.put (.ins T.C_Service dx [("name", .str y), ("kinds", .ref k2), ("waits", .ref w2), ("leaves", .ref e2)])
    have j12 : Kp p H11 _ := Kp.refl.put (.ins T.C_Service dx [("name", .str y), ("kinds", .ref k2), ("waits", .ref w2), ("leaves", .ref e2)])
    refine ⟨_, rfl, ⟨ra, _, rfl, (hR.same t5).kp hp5 k12, fun r2 H13 s13 c13 => ?_⟩⟩
    have p13 := s13 _ _ (upd_same (H := H11) (a := p) (o := .ins T.C_Service dx [("name", .str y), ("kinds", .ref k2), ("waits", .ref w2), ("leaves", .ref e2)]))
    have k13 := k12.same s13
    have j13 := j12.same s13
    refine ⟨_, rfl, p, T.C_Service, dx, _, rfl, p13, T.c_Service, T.n_Service_rows, (by show 4 < 1000; decide), ?_⟩
    have k14 := k13.put (.ins T.C_Service dx [("name", .str y), ("kinds", .ref k2), ("waits", .ref w2), ("leaves", .ref e2), ("rows", .ref r2)])
    have j14 : Kp p H13 _ := Kp.refl.put (.ins T.C_Service dx [("name", .str y), ("kinds", .ref k2), ("waits", .ref w2), ("leaves", .ref e2), ("rows", .ref r2)])
    have p14 : upd H13 p (.ins T.C_Service dx [("name", .str y), ("kinds", .ref k2), ("waits", .ref w2), ("leaves", .ref e2), ("rows", .ref r2)]) p = some (.ins T.C_Service dx [("name", .str y), ("kinds", .ref k2), ("waits", .ref w2), ("leaves", .ref e2), ("rows", .ref r2)]) := upd_same
    have rows14 := paired_rw T hp5 k14 (paired_rwS T t5 hrows)
    have sq14 := (hR.same t5).kp hp5 k14
    have cK := sqT_kp (sqT_kp (sqT_kp (sqT_kp c7 p7 j9) p9 j11) p11 j13) p13 j14
    have cW := sqT_kp (sqT_kp (sqT_kp c9 p9 j11) p11 j13) p13 j14
    have cL := sqT_kp (sqT_kp c11 p11 j13) p13 j14
    have cR := sqT_kp c13 p13 j14
    have kAll : Kp p H (upd H13 p (.ins T.C_Service dx [("name", .str y), ("kinds", .ref k2), ("waits", .ref w2), ("leaves", .ref e2), ("rows", .ref r2)])) := fun b u n e => k14 b u n (t5 b u e)
    generalize hH14 : upd H13 p (.ins T.C_Service dx (putF "rows" (.ref r2) [("name", .str y), ("kinds", .ref k2), ("waits", .ref w2), ("leaves", .ref e2)])) = H14
    have e14 : upd H13 p (.ins T.C_Service dx [("name", .str y), ("kinds", .ref k2), ("waits", .ref w2), ("leaves", .ref e2), ("rows", .ref r2)]) = H14 := hH14
    rw [e14] at p14 rows14 sq14 cK cW cL cR kAll
    clear k14 j14 k13 j13 k12 j12 k11 j11 k10 j10 k9 j9 k8 j8 k7 k6 k5
    refine ⟨_, rfl, ra, xs, rfl, sq14, fun J G g0 gs wk D hD => ?_⟩
    refine lc_it wk (fun i H' => Same H14 H' ∧ H' D = some (.lst (((ms.take i).filterMap (·.2)).map V.str))) ⟨same_upd hD _, upd_same⟩ (fun i H' _ h => gs _ _ h.1 g0) ?_ ?_
    · rintro i x H2 H3 hi ⟨s2, hD2⟩ ⟨rfl, hx⟩
      obtain ⟨r, hr1, hrw⟩ := paired_get rows14 hx
      have hrw2 := hrw.same s2
      obtain ⟨C, ty, _, kb⟩ := row_ty T hrw2
      have tk : (ms.take (i + 1)).filterMap (·.2) = (ms.take i).filterMap (·.2) ++ r.2.toList := by
        rw [List.take_add_one, hr1, List.filterMap_append]
        obtain ⟨m, t⟩ := r
        cases t <;> rfl
      refine ⟨rfl, ?_⟩
      refine ⟨_, rfl, x, .ref T.C_Back, _, _, r.2.isSome, rfl, .own _, ty, kb, _, rfl, ?_⟩
      obtain ⟨m, t⟩ := r
      cases t with
      | none =>
        refine iteF ⟨s2, ?_⟩
        rw [tk, hD2]
        simp
      | some t =>
        refine iteT ?_
        obtain ⟨a, dx2, fs, rfl, ha, ht⟩ := row_then T hrw2
        have few : ((ms.take i).filterMap (·.2)).length ≤ ms.length := Nat.le_trans (List.length_filterMap_le _ _) (List.length_take_le' _ _)
        refine ⟨_, rfl, a, T.C_Back, dx2, fs, _, rfl, ha, T.c_Back, T.n_Back_then, ht, _, hD2, small1000 (by rw [List.length_map]; omega), fun b o e => ?_, ?_⟩
        · rw [upd_ne (ne_of_none e hD)]
          exact s2 b o e
        · rw [upd_same, tk, List.map_append]
          rfl
    · rintro H2 ⟨s2, hD2⟩
      have lms : xs.length = ms.length := lxs
      rw [lms, List.take_length] at hD2
      refine ⟨_, rfl, ra, xs, rfl, sq14.same s2, fun J2 G2 g2 gs2 wk2 D2 hD3 => ?_⟩
      refine lc_it wk2 (fun i H' => Same H2 H' ∧ H' D2 = some (.lst (((ms.take i).map (·.1)).map V.str))) ⟨same_upd hD3 _, upd_same⟩ (fun i H' _ h => gs2 _ _ h.1 g2) ?_ ?_
      · rintro i x H3 H4 hi ⟨s3, hD4⟩ ⟨rfl, hx⟩
        obtain ⟨r, hr1, hrw⟩ := paired_get rows14 hx
        obtain ⟨a, C, dx2, fs, rfl, ha, cl, na, hm⟩ := row_mood T (hrw.same (s2.trans s3))
        have few : ((ms.take i).map (·.1)).length ≤ ms.length := by rw [List.length_map]; exact List.length_take_le' _ _
        refine ⟨rfl, ?_⟩
        refine ⟨_, rfl, a, C, dx2, fs, _, rfl, ha, cl, na, hm, _, hD4, small1000 (by rw [List.length_map]; omega), fun b o e => ?_, ?_⟩
        · rw [upd_ne (ne_of_none e hD3)]
          exact s3 b o e
        · rw [upd_same, List.take_add_one, hr1, List.map_append, List.map_append]
          rfl
      · rintro H3 ⟨s3, hD4⟩
        rw [lms, List.take_length] at hD4
        have s23 := s2.trans s3
        have fl : (ms.filterMap (·.2)).length ≤ ms.length := List.length_filterMap_le _ _
        refine ⟨D2, _, rfl, .inr (SqL.of hD4), _, rfl, D, _, rfl, .inr (SqL.of (s3 _ _ hD2)), ?_, fun ll hll => ?_⟩
        · simp only [List.length_cons, List.length_append, List.length_map, List.length_nil]
          rw [sizeLine_eq]
          omega
        have s4 := s23.trans (same_upd hll (.lst (V.str "calm" :: (((ms.map (·.1)).map V.str) ++ (((ms.filterMap (·.2)).map V.str) ++ [])))))
        have eL : (V.str "calm" :: (((ms.map (·.1)).map V.str) ++ (((ms.filterMap (·.2)).map V.str) ++ []))) = (moodsOf ms).map V.str := by
          unfold moodsOf
          rw [List.append_nil, List.map_cons, List.map_append]
        refine ⟨ll, moodsOf ms, rfl, .inl (SqL.of (by rw [← eL]; exact upd_same)), ?_, fun ys m2 H5 s5 nm2 hm2 nd so mem => ?_⟩
        · unfold moodsOf
          simp only [List.length_cons, List.length_append, List.length_map]
          omega
        have s6 := s4.trans s5
        have p6 := s6 _ _ p14
        refine ⟨_, rfl, p, T.C_Service, dx, _, rfl, p6, T.c_Service, T.n_Service_moods, (by show 5 < 1000; decide), ?_⟩
        have j6 : Kp p H5 (upd H5 p (.ins T.C_Service dx [("name", .str y), ("kinds", .ref k2), ("waits", .ref w2), ("leaves", .ref e2), ("rows", .ref r2), ("moods", .ref m2)])) := Kp.refl.put _
        exact q hn _ k2 w2 e2 r2 m2 ys ((kAll.same s6).put _) upd_same (sqT_kp (seqT_same s6 cK) p6 j6) (sqT_kp (seqT_same s6 cW) p6 j6) (sqT_kp (seqT_same s6 cL) p6 j6) (sqT_kp (seqT_same s6 cR) p6 j6) (sqT_kp (SqT.of hm2) p6 j6) nd so mem
end
end My

/-! ## Services: their texts, ==, what they tell -/
namespace My
open PySem PySem.Spec PyProof.Rows L2
abbrev s_Service_str : Stmt := inClass (top 22) 6
abbrev N_Service_str : List Str := ["self", "lines", "row"]
abbrev P_Service_str : List Str := ["self"]
theorem sc_Service_str : FnScope N_Service_str P_Service_str (defScope s_Service_str) := ⟨rfl, rfl, rfl, by decide +kernel, rfl, by decide +kernel, by decide +kernel⟩
abbrev s_Service_eq : Stmt := inClass (top 22) 5
abbrev N_Service_eq : List Str := ["self", "other"]
abbrev P_Service_eq : List Str := ["self", "other"]
theorem sc_Service_eq : FnScope N_Service_eq P_Service_eq (defScope s_Service_eq) := ⟨rfl, rfl, rfl, by decide +kernel, rfl, by decide +kernel, by decide +kernel⟩
structure TxSvcStr (K : PySem.W.Frag) (mg : Str → Option Value) extends TxSvc K mg, TxStr K mg where
  f_Service_str : Addr
  d_Service_str : FuncData
  F_Service_str : Fun K "__str__" "Service.__str__" s_Service_str f_Service_str d_Service_str
  b_Service_str : Binds K d_Service_str P_Service_str []
  si_Service : PySem.W.findIn K (.ref C_Service) "__str__" = some (some (.ref f_Service_str))
  sf_Service : PySem.W.isFn K (.ref f_Service_str) = true
  f_Service_eq : Addr
  d_Service_eq : FuncData
  F_Service_eq : Fun K "__eq__" "Service.__eq__" s_Service_eq f_Service_eq d_Service_eq
  b_Service_eq : Binds K d_Service_eq P_Service_eq []
  ei_Service : PySem.W.findIn K (.ref C_Service) "__eq__" = some (some (.ref f_Service_eq))
  ef_Service : PySem.W.isFn K (.ref f_Service_eq) = true
  en_Service : PySem.W.findIn K (.ref C_Service) "__ne__" = some (some (.builtin "object.__ne__"))
  eo_Service : PySem.W.subIn K (.ref C_Service) (.type "object") = some true
  ty_Service : ∀ (H : Hp) (a dx : Addr) (fs : List (Str × V)), H a = some (.ins C_Service dx fs) → TyX K H (.ref a) (.ref C_Service)
  kk_Service : PySem.W.kitOne K (.ref C_Service) (.ref C_Service) = some true
  nf_Service : PySem.W.notFirst K C_Service (.ref C_Service) = true
/-- a service by its words -/
structure SvD where
  nm : Str
  kinds : List Str
  waits : List Str
  leaves : List Str
  rows : List (Str × List Str)
def headTxt (v : SvD) : Str := Txt.join " " ("service" :: v.nm :: v.kinds)
/-- the lines ahead of the rows -/
def svHead (v : SvD) : List Str := headTxt v :: ((if v.waits.isEmpty then [] else [Txt.join " " ("waits" :: v.waits)]) ++ (if v.leaves.isEmpty then [] else [Txt.join " " ("leaves" :: v.leaves)]))
def svTxt (v : SvD) : Str := Txt.join "\n" (svHead v ++ v.rows.map fun r => rowTxt r.1 r.2)
/-- it stands at p -/
structure SvcAt {K : PySem.W.Frag} {mg : Str → Option Value} (T : TxSvcStr K mg) (H : Hp) (p : Addr) (v : SvD) : Prop where
  at_ : ∃ (dx ka wa la ra ma : Addr) (xs : List V), H p = some (.ins T.C_Service dx [("name", .str v.nm), ("kinds", .ref ka), ("waits", .ref wa), ("leaves", .ref la), ("rows", .ref ra), ("moods", .ref ma)]) ∧
    SqT K H ka (v.kinds.map V.str) ∧ SqT K H wa (v.waits.map V.str) ∧ SqT K H la (v.leaves.map V.str) ∧ SqT K H ra xs ∧ Paired (fun x (r : Str × List Str) => ∃ a, x = V.ref a ∧ RowAt T.toTxRows H a r.1 r.2) xs v.rows
  nm : v.nm.length ≤ 10
  ks : v.kinds.length ≤ 10 ∧ ∀ y ∈ v.kinds, y.length ≤ 10
  ws : v.waits.length ≤ 10 ∧ ∀ y ∈ v.waits, y.length ≤ 10
  ls : v.leaves.length ≤ 10 ∧ ∀ y ∈ v.leaves, y.length ≤ 10
  rs : v.rows.length ≤ 30
theorem paired_mono {α β : Type} {R S : α → β → Prop} (h : ∀ x y, R x y → S x y) : ∀ {xs : List α} {ys : List β}, Paired R xs ys → Paired S xs ys
  | _, _, .nil => .nil
  | _, _, .cons r t => .cons (h _ _ r) (paired_mono h t)
theorem SvcAt.same {K : PySem.W.Frag} {mg : Str → Option Value} {T : TxSvcStr K mg} {H H' : Hp} {p : Addr} {v : SvD} (h : SvcAt T H p v) (e : Same H H') : SvcAt T H' p v := by
  obtain ⟨⟨dx, ka, wa, la, ra, ma, xs, h1, h2, h3, h4, h5, h6⟩, r1, r2, r3, r4, r5⟩ := h
  exact ⟨⟨dx, ka, wa, la, ra, ma, xs, e _ _ h1, seqT_same e h2, seqT_same e h3, seqT_same e h4, seqT_same e h5, paired_mono (fun x r ⟨a, e1, e2⟩ => ⟨a, e1, e2.same e⟩) h6⟩, r1, r2, r3, r4, r5⟩
theorem join_len0 (sep : Str) : ∀ l : List Str, (Str.join sep l).length ≤ (l.map (·.length)).sum + l.length * sep.length
  | [] => Nat.zero_le _
  | [x] => by
    show x.length ≤ (x.length + 0) + 1 * sep.length
    omega
  | x :: y :: l => by
    have ih := join_len0 sep (y :: l)
    have e : (Str.join sep (x :: y :: l)).length = x.length + sep.length + (Str.join sep (y :: l)).length := by
      show (x ++ sep ++ Str.join sep (y :: l)).length = _
      rw [Str.length_append, Str.length_append]
    rw [e]
    simp only [List.map_cons, List.sum_cons, List.length_cons] at ih ⊢
    have m : (l.length + 1 + 1) * sep.length = (l.length + 1) * sep.length + sep.length := Nat.succ_mul _ _
    omega
theorem join_len (sep : Str) (l : List Str) : (Txt.join sep l).length ≤ (l.map (·.length)).sum + l.length * sep.length := by
  rw [TL.join_eq]
  exact join_len0 sep l
theorem sum_le2 {α : Type} {f : α → Nat} {m : Nat} : ∀ {l : List α}, (∀ x ∈ l, f x ≤ m) → (l.map f).sum ≤ m * l.length
  | [], _ => Nat.zero_le _
  | x :: l, h => by
    have a := h x List.mem_cons_self
    have b := sum_le2 (f := f) (m := m) (l := l) fun y hy => h y (List.mem_cons_of_mem _ hy)
    rw [List.map_cons, List.sum_cons, List.length_cons, Nat.mul_succ]
    omega
/-- words of ten signs, twelve of them: their line -/
theorem line_len {l : List Str} (n : l.length ≤ 12) (h : ∀ y ∈ l, y.length ≤ 10) : (l.map (·.length)).sum ≤ 120 ∧ (Txt.join " " l).length ≤ 132 := by
  have a := sum_le2 (f := Str.length) (m := 10) h
  have b := join_len " " l
  have c : (Str.ofString " ").length = 1 := by decide +kernel
  rw [c, Nat.mul_one] at b
  have d : (l.map Str.length).sum ≤ 120 := Nat.le_trans a (by omega)
  exact ⟨d, Nat.le_trans b (by have : (l.map fun x => x.length).sum ≤ 120 := d; omega)⟩
def spSvcStr {K : PySem.W.Frag} {mg : Str → Option Value} (T : TxSvcStr K mg) : Unit → Sp := fun _ vs H Q _ => ∃ (p : Addr) (v : SvD), vs = [.ref p] ∧ SvcAt T H p v ∧ ∀ H', Same H H' → Q (.str (svTxt v)) H'
def spSvcEq {K : PySem.W.Frag} {mg : Str → Option Value} (T : TxSvcStr K mg) : Unit → Sp := fun _ vs H Q _ => ∃ (p q : Addr) (v v2 : SvD), vs = [.ref p, .ref q] ∧ SvcAt T H p v ∧ SvcAt T H q v2 ∧ ∀ H', Same H H' → Q (.bl (decide (svTxt v = svTxt v2))) H'
section
variable {P : Program} {w : World} {K : PySem.W.Frag} {mg : Str → Option Value} {base : Heap}
theorem ok_Service_str (T : TxSvcStr K mg) : FnOk P w K mg base CX0 4 T.f_Service_str T.d_Service_str P_Service_str (spSvcStr T ()) := by
  have G_str := str_rows (P := P) (w := w) (base := base) T.toTxStr
  refine T.F_Service_str.ok sc_Service_str (fun vs H Q E h => ?_) (fun cdv A outer s H vs Q E hr h => ?_)
  · obtain ⟨p, v, rfl, _⟩ := h
    rfl
  obtain ⟨p, v, rfl, sv, q⟩ := h
  obtain ⟨⟨dx, ka, wa, la, ra, ma, xs, hp, hK, hW, hL', hR, rows⟩, sn, sk, sw, sl, sr⟩ := id sv
  refine ⟨_, (pss_cons (ps_set (i := 1) sc_Service_str.nd rfl (Or.inl rfl) (pe_lst (pa_cons (pe_m1 PySem.F.slot_str_join PySem.F.type_str_join (mt_joinK K) pe_str (pe_lst (pa_cons pe_str (pa_cons (pe_fldK K (pv 0)) (pa_starK K (pe_fldK K (pv 0)) pa_nil))))) pa_nil)))
      (Evl.pss_cut (ps_if (pt_truth (pe_fldK K (pv 0)) (by intro _; rfl)) (pss_one (ps_expr (pe_bm PySem.F.plainAttrs_list PySem.F.slot_list_append PySem.F.type_list_append mt_append (pv 1) (pa_cons (pe_m1 PySem.F.slot_str_join PySem.F.type_str_join (mt_joinK K) pe_str (pe_lst (pa_cons pe_str (pa_starK K (pe_fldK K (pv 0)) pa_nil)))) pa_nil)))) pss_nil)
      (Evl.pss_cut (ps_if (pt_truth (pe_fldK K (pv 0)) (by intro _; rfl)) (pss_one (ps_expr (pe_bm PySem.F.plainAttrs_list PySem.F.slot_list_append PySem.F.type_list_append mt_append (pv 1) (pa_cons (pe_m1 PySem.F.slot_str_join PySem.F.type_str_join (mt_joinK K) pe_str (pe_lst (pa_cons pe_str (pa_starK K (pe_fldK K (pv 0)) pa_nil)))) pa_nil)))) pss_nil)
      (pss_one (ps_ret (pe_m1 PySem.F.slot_str_join PySem.F.type_str_join (mt_joinK K) pe_str (pe_lst (pa_starK K (pv 1) (pa_starK K (pe_lc (own := [("row", 2)]) (g := gName 2) (by rfl) sc_Service_str.nd (pi_seqK K (pe_fldK K (pv 0))) (blkOk_by (own := [("row", 2)]) (N := N_Service_str) (sc := defScope s_Service_str) (by decide +kernel)) (fun _ _ _ _ _ => (pg_name (i := 2) sc_Service_str.nd rfl (Or.inl rfl))) (fun _ _ _ _ _ => pts_nil) (fun _ _ _ _ _ => (pe_callTy (call_strO K G_str (hr.mono (by decide))) (by rfl) T.z_str (by decide +kernel) (pa_cons (pv 2) pa_nil)))) pa_nil))))))))), ?_⟩
  have one : (Str.ofString " ").length = 1 := by decide +kernel
  have nl : (Str.ofString "\n").length = 1 := by decide +kernel
  have w1 : ("service" : Str).length ≤ 10 := by decide +kernel
  have w2 : ("waits" : Str).length ≤ 10 := by decide +kernel
  have w3 : ("leaves" : Str).length ≤ 10 := by decide +kernel
  have fK := line_len (l := "service" :: v.nm :: v.kinds) (by simp only [List.length_cons]; omega) (fun y hy => by
    rcases List.mem_cons.mp hy with h | h
    · rw [h]; exact w1
    rcases List.mem_cons.mp h with h | h
    · rw [h]; exact sn
    · exact sk.2 y h)
  have fW := line_len (l := "waits" :: v.waits) (by simp only [List.length_cons]; omega) (fun y hy => by
    rcases List.mem_cons.mp hy with h | h
    · rw [h]; exact w2
    · exact sw.2 y h)
  have fL := line_len (l := "leaves" :: v.leaves) (by simp only [List.length_cons]; omega) (fun y hy => by
    rcases List.mem_cons.mp hy with h | h
    · rw [h]; exact w3
    · exact sl.2 y h)
  have lit : ∀ (a : Str) (l : List Str), V.str a :: (l.map V.str ++ []) = (a :: l).map V.str := fun a l => by rw [List.append_nil]; rfl
  refine ⟨⟨_, rfl⟩, _, rfl, p, T.C_Service, dx, _, _, rfl, hp, T.c_Service, T.n_Service_name, rfl, _, rfl, p, T.C_Service, dx, _, _, rfl, hp, T.c_Service, T.n_Service_kinds, rfl, ka, _, rfl, .inl hK, ?_, fun l1 h1 => ⟨" ", l1, "service" :: v.nm :: v.kinds, rfl, rfl, ?_, ?_, by show 1 ≤ sizeLine; decide, fun L hL => ?_⟩⟩
  · simp only [List.length_cons, List.length_append, List.length_map, List.length_nil]
    rw [sizeLine_eq]
    omega
  · refine .inl (SqL.of ?_)
    rw [upd_same, List.append_nil]
    rfl
  · rw [one]
    simp only [List.length_cons]
    have := fK.1
    omega
  have y1 : Same H (upd H l1 (.lst (V.str "service" :: V.str v.nm :: (v.kinds.map V.str ++ [])))) := same_upd h1 _
  have y2 := y1.trans (same_upd hL (.lst [.str (headTxt v)]))
  have t1 : upd (upd H l1 (.lst (V.str "service" :: V.str v.nm :: (v.kinds.map V.str ++ [])))) L (.lst [.str (headTxt v)]) L = some (.lst ([headTxt v].map V.str)) := upd_same
  have fresh : H L = none := y1.free hL
  refine ⟨fun σ H' => σ = [some (.ref p), some (.ref L), none] ∧ Same H H' ∧ H' L = some (.lst ((headTxt v :: (if v.waits.isEmpty then [] else [Txt.join " " ("waits" :: v.waits)])).map V.str)), ?_, ?_⟩
  · refine ⟨_, rfl, p, T.C_Service, dx, _, _, rfl, y2 _ _ hp, T.c_Service, T.n_Service_waits, rfl, _, .inr (.inl ⟨_, seqT_same y2 hW, rfl⟩), ?_⟩
    refine ite2 (fun c => ?_) (fun c => ?_)
    · have em : v.waits.isEmpty = false := by
        have c' : (!(v.waits.map V.str).isEmpty) = true := c
        rw [List.isEmpty_map] at c'
        simpa using c'
      refine ⟨_, rfl, .inl ⟨rfl, _, SqL.of t1⟩, ⟨_, rfl⟩, _, rfl, p, T.C_Service, dx, _, _, rfl, y2 _ _ hp, T.c_Service, T.n_Service_waits, rfl, wa, _, rfl, .inl (seqT_same y2 hW), ?_, fun l2 h2 => ⟨" ", l2, "waits" :: v.waits, rfl, rfl, .inl (SqL.of (by rw [upd_same, lit])), ?_, ?_⟩⟩
      · simp only [List.length_cons, List.length_append, List.length_map, List.length_nil]
        rw [sizeLine_eq]
        omega
      · rw [one]
        simp only [List.length_cons]
        have := fW.1
        omega
      · have y3 := same_upd h2 (.lst (V.str "waits" :: (v.waits.map V.str ++ [])))
        refine ⟨L, _, _, rfl, rfl, y3 _ _ t1, small1000 (by simp), rfl, fun b o e => ?_, ?_⟩
        · rw [upd_ne (ne_of_none e fresh)]
          exact y3 _ _ (y2 _ _ e)
        · rw [upd_same, em]
          rfl
    · have em : v.waits.isEmpty = true := by
        have c' : ¬ (!(v.waits.map V.str).isEmpty) = true := c
        rw [List.isEmpty_map] at c'
        simpa using c'
      refine ⟨rfl, y2, ?_⟩
      rw [em]
      exact t1
  rintro σ H2 ⟨rfl, s2, t2⟩
  refine ⟨fun σ H' => σ = [some (.ref p), some (.ref L), none] ∧ Same H H' ∧ H' L = some (.lst ((svHead v).map V.str)), ?_, ?_⟩
  · refine ⟨_, rfl, p, T.C_Service, dx, _, _, rfl, s2 _ _ hp, T.c_Service, T.n_Service_leaves, rfl, _, .inr (.inl ⟨_, seqT_same s2 hL', rfl⟩), ?_⟩
    refine ite2 (fun c => ?_) (fun c => ?_)
    · have em : v.leaves.isEmpty = false := by
        have c' : (!(v.leaves.map V.str).isEmpty) = true := c
        rw [List.isEmpty_map] at c'
        simpa using c'
      refine ⟨_, rfl, .inl ⟨rfl, _, SqL.of t2⟩, ⟨_, rfl⟩, _, rfl, p, T.C_Service, dx, _, _, rfl, s2 _ _ hp, T.c_Service, T.n_Service_leaves, rfl, la, _, rfl, .inl (seqT_same s2 hL'), ?_, fun l2 h2 => ⟨" ", l2, "leaves" :: v.leaves, rfl, rfl, .inl (SqL.of (by rw [upd_same, lit])), ?_, ?_⟩⟩
      · simp only [List.length_cons, List.length_append, List.length_map, List.length_nil]
        rw [sizeLine_eq]
        omega
      · rw [one]
        simp only [List.length_cons]
        have := fL.1
        omega
      · have y3 := same_upd h2 (.lst (V.str "leaves" :: (v.leaves.map V.str ++ [])))
        refine ⟨L, _, _, rfl, rfl, y3 _ _ t2, small1000 (by cases v.waits.isEmpty <;> simp), rfl, fun b o e => ?_, ?_⟩
        · rw [upd_ne (ne_of_none e fresh)]
          exact y3 _ _ (s2 _ _ e)
        · unfold svHead
          rw [upd_same, em, if_neg Bool.false_ne_true, ← List.cons_append, List.map_append]
          rfl
    · have em : v.leaves.isEmpty = true := by
        have c' : ¬ (!(v.leaves.map V.str).isEmpty) = true := c
        rw [List.isEmpty_map] at c'
        simpa using c'
      refine ⟨rfl, s2, ?_⟩
      unfold svHead
      rw [em, if_pos rfl, List.append_nil]
      exact t2
  rintro σ H3 ⟨rfl, s3, t3⟩
  have rows3 := paired_mono (S := fun x (r : Str × List Str) => ∃ a, x = V.ref a ∧ RowAt T.toTxRows H3 a r.1 r.2) (fun x r ⟨a, e1, e2⟩ => ⟨a, e1, e2.same s3⟩) rows
  have lxs := paired_len2 rows
  refine ⟨⟨_, rfl⟩, _, rfl, L, _, rfl, .inr (SqL.of t3), _, rfl, p, T.C_Service, dx, _, _, rfl, s3 _ _ hp, T.c_Service, T.n_Service_rows, rfl, ra, xs, rfl, .inr (seqT_same s3 hR), fun J G g0 gs wk D hD => ?_⟩
  refine lc_it wk (fun i H' => Same H3 H' ∧ H' D = some (.lst (((v.rows.take i).map fun r => rowTxt r.1 r.2).map V.str))) ⟨same_upd hD _, upd_same⟩ (fun i H' _ h => gs _ _ h.1 g0) ?_ ?_
  · rintro i x H4 H5 hi ⟨s4, hD4⟩ ⟨rfl, hx⟩
    obtain ⟨r, hr1, a, rfl, R⟩ := paired_get rows3 hx
    have R4 := R.same s4
    obtain ⟨⟨dx2, ha⟩, _, _, hso⟩ := id R4
    refine ⟨rfl, ?_⟩
    refine ⟨_, rfl, a, r.1, dx2, _, rfl, hso, ha, a, r.2, rfl, R4, _, rfl, _, hD4, small1000 (by rw [List.length_map, List.length_map, List.length_take]; omega), fun b o e => ?_, ?_⟩
    · rw [upd_ne (ne_of_none e hD)]
      exact s4 b o e
    · rw [upd_same, List.take_add_one, hr1, List.map_append, List.map_append]
      rfl
  · rintro H4 ⟨s4, hD4⟩
    rw [lxs, List.take_length] at hD4
    have hh : (svHead v).length ≤ 3 ∧ ∀ y ∈ svHead v, y.length ≤ 132 := by
      unfold svHead headTxt
      constructor
      · cases v.waits.isEmpty <;> cases v.leaves.isEmpty <;> simp
      · intro y hy
        rcases List.mem_cons.mp hy with h | h
        · rw [h]
          exact fK.2
        rcases List.mem_append.mp h with h | h
        · cases e : v.waits.isEmpty with
          | true => rw [e] at h; cases h
          | false =>
            rw [e] at h
            rw [List.mem_singleton.mp h]
            exact fW.2
        · cases e : v.leaves.isEmpty with
          | true => rw [e] at h; cases h
          | false =>
            rw [e] at h
            rw [List.mem_singleton.mp h]
            exact fL.2
    have rl : ∀ y ∈ v.rows.map (fun r => rowTxt r.1 r.2), y.length ≤ 132 := fun y hy => by
      obtain ⟨r, hr2, rfl⟩ := List.mem_map.mp hy
      obtain ⟨i, hi⟩ := List.getElem?_of_mem hr2
      have hi2 : i < xs.length := by rw [lxs]; exact (List.getElem?_eq_some_iff.mp hi).1
      obtain ⟨r', e', a, _, R⟩ := paired_get rows3 (List.getElem?_eq_getElem hi2)
      rw [hi] at e'
      cases e'
      have ln := R.len
      have l5 : ∀ s ∈ SORTS, (fnOf s).length ≤ 4 ∧ s.length ≤ 10 := by decide +kernel
      exact (line_len (l := r.1 :: r.2) (by rw [List.length_cons, ln]; have := (l5 _ R.so).1; omega) (fun y hy => by
        rcases List.mem_cons.mp hy with h | h
        · rw [h]; exact (l5 _ R.so).2
        · exact R.sh y h)).2
    have all_ : ∀ y ∈ svHead v ++ v.rows.map (fun r => rowTxt r.1 r.2), y.length ≤ 132 := fun y hy => (List.mem_append.mp hy).elim (hh.2 y) (rl y)
    have tot := sum_le2 (f := Str.length) (m := 132) all_
    have few : (svHead v ++ v.rows.map (fun r => rowTxt r.1 r.2)).length ≤ 33 := by rw [List.length_append, List.length_map]; have := hh.1; omega
    have e : (svHead v).map V.str ++ ((v.rows.map fun r => rowTxt r.1 r.2).map V.str ++ []) = (svHead v ++ v.rows.map fun r => rowTxt r.1 r.2).map V.str := by rw [List.append_nil, List.map_append]
    refine ⟨D, _, rfl, .inr (SqL.of hD4), ?_, fun l hl => ⟨"\n", l, svHead v ++ v.rows.map (fun r => rowTxt r.1 r.2), rfl, rfl, .inl (SqL.of (by rw [upd_same, e])), ?_, ?_⟩⟩
    · rw [e, List.length_map, sizeLine_eq]
      omega
    · rw [nl]
      have tot' : ((svHead v ++ v.rows.map (fun r => rowTxt r.1 r.2)).map fun x => x.length).sum ≤ 132 * 33 := Nat.le_trans tot (Nat.mul_le_mul_left _ few)
      omega
    · exact q _ ((s3.trans s4).trans (same_upd hl _))
end
end My

/-! ## Services: ==, what they tell where all rows tell of ends -/
namespace My
open PySem PySem.Spec PyProof.Rows L2
abbrev s_fits : Stmt := top 19
abbrev N_fits : List Str := ["word", "value"]
abbrev P_fits : List Str := ["word", "value"]
theorem sc_fits : FnScope N_fits P_fits (defScope s_fits) := ⟨rfl, rfl, rfl, by decide +kernel, rfl, by decide +kernel, by decide +kernel⟩
abbrev s_Service_begin : Stmt := inClass (top 22) 1
abbrev N_Service_begin : List Str := ["self", "mark", "kind", "row"]
abbrev P_Service_begin : List Str := ["self", "mark", "kind"]
theorem sc_Service_begin : FnScope N_Service_begin P_Service_begin (defScope s_Service_begin) := ⟨rfl, rfl, rfl, by decide +kernel, rfl, by decide +kernel, by decide +kernel⟩
abbrev s_Service_send : Stmt := inClass (top 22) 2
abbrev N_Service_send : List Str := ["self", "mood", "other", "mark", "row"]
abbrev P_Service_send : List Str := ["self", "mood", "other", "mark"]
theorem sc_Service_send : FnScope N_Service_send P_Service_send (defScope s_Service_send) := ⟨rfl, rfl, rfl, by decide +kernel, rfl, by decide +kernel, by decide +kernel⟩
abbrev s_Service_back : Stmt := inClass (top 22) 3
abbrev N_Service_back : List Str := ["self", "mood", "other", "sign", "row"]
abbrev P_Service_back : List Str := ["self", "mood", "other", "sign"]
theorem sc_Service_back : FnScope N_Service_back P_Service_back (defScope s_Service_back) := ⟨rfl, rfl, rfl, by decide +kernel, rfl, by decide +kernel, by decide +kernel⟩
abbrev s_Service_end : Stmt := inClass (top 22) 4
abbrev N_Service_end : List Str := ["self", "mood", "bad", "outcome", "row"]
abbrev P_Service_end : List Str := ["self", "mood", "bad"]
theorem sc_Service_end : FnScope N_Service_end P_Service_end (defScope s_Service_end) := ⟨rfl, rfl, rfl, by decide +kernel, rfl, by decide +kernel, by decide +kernel⟩
structure TxTell (K : PySem.W.Frag) (mg : Str → Option Value) extends TxSvcStr K mg where
  f_fits : Addr
  d_fits : FuncData
  F_fits : Fun K "fits" "fits" s_fits f_fits d_fits
  m_fits : mg "fits" = some (.ref f_fits)
  b_fits : Binds K d_fits P_fits []
  f_Service_begin : Addr
  d_Service_begin : FuncData
  F_Service_begin : Fun K "begin" "Service.begin" s_Service_begin f_Service_begin d_Service_begin
  mt_Service_begin : Meth K C_Service "begin" f_Service_begin
  f_Service_send : Addr
  d_Service_send : FuncData
  F_Service_send : Fun K "send" "Service.send" s_Service_send f_Service_send d_Service_send
  mt_Service_send : Meth K C_Service "send" f_Service_send
  f_Service_back : Addr
  d_Service_back : FuncData
  F_Service_back : Fun K "back" "Service.back" s_Service_back f_Service_back d_Service_back
  mt_Service_back : Meth K C_Service "back" f_Service_back
  f_Service_end : Addr
  d_Service_end : FuncData
  F_Service_end : Fun K "end" "Service.end" s_Service_end f_Service_end d_Service_end
  mt_Service_end : Meth K C_Service "end" f_Service_end
def spFits : Sp := fun vs H Q _ => ∃ a b : Str, vs = [.str a, .str b] ∧ Q (.bl (decide (a = "any") || decide (a = b))) H
def OnlyEnds (v : SvD) : Prop := ∀ r ∈ v.rows, r.1 = "end"
def spBeg {K : PySem.W.Frag} {mg : Str → Option Value} (T : TxSvcStr K mg) : Sp := fun vs H Q _ => ∃ (p : Addr) (v : SvD) (a b : Str), vs = [.ref p, .str a, .str b] ∧ SvcAt T H p v ∧ OnlyEnds v ∧ Q (.str "calm") H
def spSnd {K : PySem.W.Frag} {mg : Str → Option Value} (T : TxSvcStr K mg) : Sp := fun vs H Q _ => ∃ (p : Addr) (v : SvD) (a b c : Str), vs = [.ref p, .str a, .str b, .str c] ∧ SvcAt T H p v ∧ OnlyEnds v ∧ Q (.str "none") H
def spBck {K : PySem.W.Frag} {mg : Str → Option Value} (T : TxSvcStr K mg) : Sp := fun vs H Q _ => ∃ (p : Addr) (v : SvD) (a b c : Str), vs = [.ref p, .str a, .str b, .str c] ∧ SvcAt T H p v ∧ OnlyEnds v ∧ Q (.str a) H
def spEnd {K : PySem.W.Frag} {mg : Str → Option Value} (T : TxSvcStr K mg) : Sp := fun vs H Q _ => ∃ (p : Addr) (v : SvD) (m sg pt : Str) (bad : Bool), vs = [.ref p, .str m, .bl bad] ∧ SvcAt T H p v ∧ v.rows = [(("end" : Str), [m, "any", sg, pt])] ∧
  ∀ t, H t = none → Q (.ref t) (upd H t (.tup [.str sg, .bl (decide (pt = "keep"))]))
theorem dec_str2 {a b : Str} : decide (V.str a = V.str b) = decide (a = b) := by
  by_cases h : a = b
  · subst h
    rw [decide_eq_true rfl, decide_eq_true rfl]
  · rw [decide_eq_false h, decide_eq_false (fun z => h (by cases z; rfl))]
section
variable {P : Program} {w : World} {K : PySem.W.Frag} {mg : Str → Option Value} {base : Heap}
theorem str_svc (T : TxSvcStr K mg) : OwnStr P w K mg base (fun _ : Unit => T.C_Service) (fun _ => True) 4 (spSvcStr T) := ⟨fun _ _ => ⟨_, _, _, ok_Service_str T, T.b_Service_str, T.si_Service, T.sf_Service⟩⟩
theorem ok_Service_eq (T : TxSvcStr K mg) : FnOk P w K mg base CX0 7 T.f_Service_eq T.d_Service_eq P_Service_eq (spSvcEq T ()) := by
  have G_sstr := str_svc (P := P) (w := w) (base := base) T
  refine T.F_Service_eq.ok sc_Service_eq (fun vs H Q E h => ?_) (fun cdv A outer s H vs Q E hr h => ?_)
  · obtain ⟨p, q, v, v2, rfl, _⟩ := h
    rfl
  obtain ⟨p, o, v, v2, rfl, sv, sv2, q⟩ := h
  obtain ⟨⟨dx, _, _, _, _, _, _, hp, _⟩, _⟩ := id sv
  obtain ⟨⟨dx2, _, _, _, _, _, _, ho, _⟩, _⟩ := id sv2
  refine ⟨_, (pss_one (ps_ret (pe_and (pe_callB (call_isiV K) (by rfl) T.z_isinstance (by decide +kernel) (pa_cons (pv 1) (pa_cons (pe_glob (v := .ref T.C_Service) (by rfl) T.m_Service rfl) pa_nil))) (pe_one (pe_cmpR op_eq (pe_callTy (call_strO K G_sstr (hr.mono (by decide))) (by rfl) T.z_str (by decide +kernel) (pa_cons (pv 0) pa_nil)) (pe_callTy (call_strO K G_sstr (hr.mono (by decide))) (by rfl) T.z_str (by decide +kernel) (pa_cons (pv 1) pa_nil)) (nomark _)))))), ?_⟩
  refine ⟨_, rfl, .ref o, .ref T.C_Service, .ref T.C_Service, _, true, rfl, .own _, T.ty_Service _ _ _ _ ho, T.kk_Service, _, rfl, ?_⟩
  refine ⟨_, rfl, p, (), dx, _, rfl, trivial, hp, p, v, rfl, sv, fun H1 s1 => ⟨_, rfl, _, rfl, o, (), dx2, _, rfl, trivial, s1 _ _ ho, o, v2, rfl, sv2.same s1, fun H2 s2 => ⟨_, rfl, rfl, ?_⟩⟩⟩
  rw [dec_str2]
  exact q H2 (s1.trans s2)
theorem eq_svc (T : TxSvcStr K mg) : OwnEqs P w K mg base (fun _ : Unit => T.C_Service) (fun _ => True) 7 (spSvcEq T) := ⟨fun _ _ => ⟨_, _, _, ok_Service_eq T, T.b_Service_eq, T.ei_Service, T.ef_Service, T.en_Service, T.eo_Service⟩⟩
theorem ok_fits (T : TxTell K mg) : FnOk P w K mg base CX0 1 T.f_fits T.d_fits P_fits spFits := by
  refine T.F_fits.ok sc_fits (fun vs H Q E h => ?_) (fun cdv A outer s H vs Q E hr h => ?_)
  · obtain ⟨a, b, rfl, _⟩ := h
    rfl
  obtain ⟨a, b, rfl, q⟩ := h
  refine ⟨_, (pss_one (ps_ret (pe_or (pe_cmpR op_eq (pv 0) pe_str (nomark _)) (pe_one (pe_cmpR op_eq (pv 0) (pv 1) (nomark _)))))), ?_⟩
  refine ⟨_, rfl, rfl, _, rfl, ?_⟩
  rw [← dec_str2, ← dec_str2] at q
  refine ite2 (fun c => ?_) (fun c => ?_)
  · rw [c, Bool.true_or] at q
    exact q
  · rw [Bool.eq_false_iff.mpr c, Bool.false_or] at q
    exact ⟨_, rfl, _, rfl, rfl, q⟩
theorem ok_Service_begin (T : TxTell K mg) : FnOk P w K mg base CX0 2 T.f_Service_begin T.d_Service_begin P_Service_begin (spBeg T.toTxSvcStr) := by
  have G_fits := ok_fits (P := P) (w := w) (base := base) T
  refine T.F_Service_begin.ok sc_Service_begin (fun vs H Q E h => ?_) (fun cdv A outer s H vs Q E hr h => ?_)
  · obtain ⟨p, v, a, b, rfl, _⟩ := h
    rfl
  obtain ⟨p, v, a, b, rfl, sv, only, q⟩ := h
  obtain ⟨⟨dx, ka, wa, la, ra, ma, xs, hp, _, _, _, hR, rows⟩, _⟩ := id sv
  refine ⟨_, (pss_cons (ps_for PassesOwn.never rfl (pi_seqK K (pe_fldK K (pv 0))) (pg_name (i := 3) sc_Service_begin.nd rfl (Or.inl rfl)) (pss_one (ps_if (PW.pt (pw_and (pt_val (pe_callB (call_isiV K) (by rfl) T.z_isinstance (by decide +kernel) (pa_cons (pv 3) (pa_cons (pe_glob (v := .ref T.C_Begin) (by rfl) T.m_Begin rfl) pa_nil)))) (pw_and (pt_val (pe_call G_fits (hr.mono (by decide)) (by rfl) T.m_fits T.F_fits.kp T.b_fits .nil pass0 (pa_cons (pe_fldK K (pv 3)) (pa_cons (pv 1) pa_nil)))) (pw_and1 (pt_val (pe_call G_fits (hr.mono (by decide)) (by rfl) T.m_fits T.F_fits.kp T.b_fits .nil pass0 (pa_cons (pe_fldK K (pv 3)) (pa_cons (pv 2) pa_nil)))))))) (pss_one (ps_ret (pe_fldK K (pv 3)))) pss_nil)))
      (pss_one (ps_ret pe_str))), ?_⟩
  refine ⟨_, rfl, p, T.C_Service, dx, _, _, rfl, hp, T.c_Service, T.n_Service_rows, rfl, ra, xs, rfl, .inr hR, fun J G g0 gs wk => ?_⟩
  refine for_it wk (fun i σ H' => ∃ u : Option V, σ = [some (.ref p), some (.str a), some (.str b), u] ∧ H' = H) ⟨none, rfl, rfl⟩ (fun i σ H' _ h => by
    obtain ⟨_, _, rfl⟩ := h
    exact g0) ?_ ?_
  · rintro i x σ H1 H2 hi ⟨u, rfl, rfl⟩ ⟨rfl, hx⟩
    obtain ⟨r, hr1, o, rfl, R⟩ := paired_get rows hx
    have e := only r (List.mem_of_getElem? hr1)
    rw [e] at R
    obtain ⟨⟨dx2, ho⟩, _⟩ := R
    refine ⟨_, rfl, .ref o, .ref T.C_Begin, .ref T.C_End, _, false, rfl, .own _, T.ty_End _ _ _ _ ho, T.kk_End_Begin, _, rfl, ?_⟩
    exact ⟨_, rfl, rfl⟩
  · rintro σ H1 ⟨u, rfl, rfl⟩
    exact q
theorem ok_Service_send (T : TxTell K mg) : FnOk P w K mg base CX0 2 T.f_Service_send T.d_Service_send P_Service_send (spSnd T.toTxSvcStr) := by
  have G_fits := ok_fits (P := P) (w := w) (base := base) T
  refine T.F_Service_send.ok sc_Service_send (fun vs H Q E h => ?_) (fun cdv A outer s H vs Q E hr h => ?_)
  · obtain ⟨p, v, a, b, c, rfl, _⟩ := h
    rfl
  obtain ⟨p, v, a, b, c, rfl, sv, only, q⟩ := h
  obtain ⟨⟨dx, ka, wa, la, ra, ma, xs, hp, _, _, _, hR, rows⟩, _⟩ := id sv
  refine ⟨_, (pss_cons (ps_for PassesOwn.never rfl (pi_seqK K (pe_fldK K (pv 0))) (pg_name (i := 4) sc_Service_send.nd rfl (Or.inl rfl)) (pss_one (ps_if (PW.pt (pw_and (pt_val (pe_callB (call_isiV K) (by rfl) T.z_isinstance (by decide +kernel) (pa_cons (pv 4) (pa_cons (pe_glob (v := .ref T.C_Send) (by rfl) T.m_Send rfl) pa_nil)))) (pw_and (pt_val (pe_call G_fits (hr.mono (by decide)) (by rfl) T.m_fits T.F_fits.kp T.b_fits .nil pass0 (pa_cons (pe_fldK K (pv 4)) (pa_cons (pv 1) pa_nil)))) (pw_and1 (pt_val (pe_call G_fits (hr.mono (by decide)) (by rfl) T.m_fits T.F_fits.kp T.b_fits .nil pass0 (pa_cons (pe_fldK K (pv 4)) (pa_cons (pv 2) pa_nil)))))))) (pss_one (ps_ret (pe_ifExp (pt_cmpR op_eq (pe_fldK K (pv 4)) pe_str (nomark _)) (pv 3) (pe_fldK K (pv 4))))) pss_nil)))
      (pss_one (ps_ret pe_str))), ?_⟩
  refine ⟨_, rfl, p, T.C_Service, dx, _, _, rfl, hp, T.c_Service, T.n_Service_rows, rfl, ra, xs, rfl, .inr hR, fun J G g0 gs wk => ?_⟩
  refine for_it wk (fun i σ H' => ∃ u : Option V, σ = [some (.ref p), some (.str a), some (.str b), some (.str c), u] ∧ H' = H) ⟨none, rfl, rfl⟩ (fun i σ H' _ h => by
    obtain ⟨_, _, rfl⟩ := h
    exact g0) ?_ ?_
  · rintro i x σ H1 H2 hi ⟨u, rfl, rfl⟩ ⟨rfl, hx⟩
    obtain ⟨r, hr1, o, rfl, R⟩ := paired_get rows hx
    have e := only r (List.mem_of_getElem? hr1)
    rw [e] at R
    obtain ⟨⟨dx2, ho⟩, _⟩ := R
    refine ⟨_, rfl, .ref o, .ref T.C_Send, .ref T.C_End, _, false, rfl, .own _, T.ty_End _ _ _ _ ho, T.kk_End_Send, _, rfl, ?_⟩
    exact ⟨_, rfl, rfl⟩
  · rintro σ H1 ⟨u, rfl, rfl⟩
    exact q
theorem ok_Service_back (T : TxTell K mg) : FnOk P w K mg base CX0 2 T.f_Service_back T.d_Service_back P_Service_back (spBck T.toTxSvcStr) := by
  have G_fits := ok_fits (P := P) (w := w) (base := base) T
  refine T.F_Service_back.ok sc_Service_back (fun vs H Q E h => ?_) (fun cdv A outer s H vs Q E hr h => ?_)
  · obtain ⟨p, v, a, b, c, rfl, _⟩ := h
    rfl
  obtain ⟨p, v, a, b, c, rfl, sv, only, q⟩ := h
  obtain ⟨⟨dx, ka, wa, la, ra, ma, xs, hp, _, _, _, hR, rows⟩, _⟩ := id sv
  refine ⟨_, (pss_cons (ps_for PassesOwn.never rfl (pi_seqK K (pe_fldK K (pv 0))) (pg_name (i := 4) sc_Service_back.nd rfl (Or.inl rfl)) (pss_cons (ps_if (pt_not (pt_val (pe_callB (call_isiV K) (by rfl) T.z_isinstance (by decide +kernel) (pa_cons (pv 4) (pa_cons (pe_glob (v := .ref T.C_Back) (by rfl) T.m_Back rfl) pa_nil))))) (pss_one ps_continue) pss_nil)
      (pss_one (ps_if (PW.pt (pw_and (pt_val (pe_call G_fits (hr.mono (by decide)) (by rfl) T.m_fits T.F_fits.kp T.b_fits .nil pass0 (pa_cons (pe_fldK K (pv 4)) (pa_cons (pv 1) pa_nil)))) (pw_and (pt_val (pe_call G_fits (hr.mono (by decide)) (by rfl) T.m_fits T.F_fits.kp T.b_fits .nil pass0 (pa_cons (pe_fldK K (pv 4)) (pa_cons (pv 2) pa_nil)))) (pw_and1 (pt_val (pe_call G_fits (hr.mono (by decide)) (by rfl) T.m_fits T.F_fits.kp T.b_fits .nil pass0 (pa_cons (pe_fldK K (pv 4)) (pa_cons (pv 3) pa_nil)))))))) (pss_one (ps_ret (pe_ifExp (pt_cmpR op_eq (pe_fldK K (pv 4)) pe_str (nomark _)) (pv 1) (pe_fldK K (pv 4))))) pss_nil))))
      (pss_one (ps_ret (pv 1)))), ?_⟩
  refine ⟨_, rfl, p, T.C_Service, dx, _, _, rfl, hp, T.c_Service, T.n_Service_rows, rfl, ra, xs, rfl, .inr hR, fun J G g0 gs wk => ?_⟩
  refine for_it wk (fun i σ H' => ∃ u : Option V, σ = [some (.ref p), some (.str a), some (.str b), some (.str c), u] ∧ H' = H) ⟨none, rfl, rfl⟩ (fun i σ H' _ h => by
    obtain ⟨_, _, rfl⟩ := h
    exact g0) ?_ ?_
  · rintro i x σ H1 H2 hi ⟨u, rfl, rfl⟩ ⟨rfl, hx⟩
    obtain ⟨r, hr1, o, rfl, R⟩ := paired_get rows hx
    have e := only r (List.mem_of_getElem? hr1)
    rw [e] at R
    obtain ⟨⟨dx2, ho⟩, _⟩ := R
    refine ⟨_, rfl, .ref o, .ref T.C_Back, .ref T.C_End, _, false, rfl, .own _, T.ty_End _ _ _ _ ho, T.kk_End_Back, _, rfl, ?_⟩
    exact ⟨_, rfl, rfl⟩
  · rintro σ H1 ⟨u, rfl, rfl⟩
    exact ⟨_, rfl, q⟩
theorem ok_Service_end (T : TxTell K mg) : FnOk P w K mg base CX0 2 T.f_Service_end T.d_Service_end P_Service_end (spEnd T.toTxSvcStr) := by
  have G_fits := ok_fits (P := P) (w := w) (base := base) T
  refine T.F_Service_end.ok sc_Service_end (fun vs H Q E h => ?_) (fun cdv A outer s H vs Q E hr h => ?_)
  · obtain ⟨p, v, m, sg, pt, bad, rfl, _⟩ := h
    rfl
  obtain ⟨p, v, m, sg, pt, bad, rfl, sv, one, q⟩ := h
  obtain ⟨⟨dx, ka, wa, la, ra, ma, xs, hp, _, _, _, hR, rows⟩, _⟩ := id sv
  refine ⟨_, (Evl.pss_cut (ps_set (i := 3) sc_Service_end.nd rfl (Or.inl rfl) (pe_ifExp (pt_val (pv 2)) pe_str pe_str))
      (pss_cons (ps_for PassesOwn.never rfl (pi_seqK K (pe_fldK K (pv 0))) (pg_name (i := 4) sc_Service_end.nd rfl (Or.inl rfl)) (pss_one (ps_if (PW.pt (pw_and (pt_val (pe_callB (call_isiV K) (by rfl) T.z_isinstance (by decide +kernel) (pa_cons (pv 4) (pa_cons (pe_glob (v := .ref T.C_End) (by rfl) T.m_End rfl) pa_nil)))) (pw_and (pt_val (pe_call G_fits (hr.mono (by decide)) (by rfl) T.m_fits T.F_fits.kp T.b_fits .nil pass0 (pa_cons (pe_fldK K (pv 4)) (pa_cons (pv 1) pa_nil)))) (pw_and1 (pt_val (pe_call G_fits (hr.mono (by decide)) (by rfl) T.m_fits T.F_fits.kp T.b_fits .nil pass0 (pa_cons (pe_fldK K (pv 4)) (pa_cons (pv 3) pa_nil)))))))) (pss_one (ps_ret (pe_tup (pa_cons (pe_fldK K (pv 4)) (pa_cons (pe_cmpR op_eq (pe_fldK K (pv 4)) pe_str (nomark _)) pa_nil))))) pss_nil)))
      (pss_one (ps_ret (pe_tup (pa_cons pe_str (pa_cons pe_bl pa_nil))))))), ?_⟩
  refine ⟨fun σ H' => H' = H ∧ ∃ oc : Str, σ = [some (.ref p), some (.str m), some (.bl bad), some (.str oc), none], ?_, ?_⟩
  · refine ⟨_, rfl, _, rfl, ?_⟩
    cases bad with
    | true => exact ⟨rfl, _, rfl⟩
    | false => exact ⟨rfl, _, rfl⟩
  rintro σ H1 ⟨rfl, oc, rfl⟩
  have n1 : xs.length = 1 := by rw [paired_len2 rows, one]; rfl
  refine ⟨_, rfl, p, T.C_Service, dx, _, _, rfl, hp, T.c_Service, T.n_Service_rows, rfl, ra, xs, rfl, .inr hR, fun J G g0 gs wk => ?_⟩
  refine for_it wk (fun i σ H' => i = 0 ∧ σ = [some (.ref p), some (.str m), some (.bl bad), some (.str oc), none] ∧ H' = H1) ⟨rfl, rfl, rfl⟩ (fun i σ H' _ h => by
    obtain ⟨_, _, rfl⟩ := h
    exact g0) ?_ ?_
  · rintro i x σ H2 H3 hi ⟨rfl, rfl, rfl⟩ ⟨rfl, hx⟩
    obtain ⟨r, hr1, o, rfl, R⟩ := paired_get rows hx
    rw [one] at hr1
    cases hr1
    obtain ⟨⟨dx2, ho⟩, _⟩ := R
    have f1 : (decide (m = "any") || decide (m = m)) = true := by simp
    have f2 : (decide ((Str.ofString "any") = "any") || decide ((Str.ofString "any") = oc)) = true := by
      rw [decide_eq_true rfl, Bool.true_or]
    refine ⟨_, rfl, .ref o, .ref T.C_End, .ref T.C_End, _, true, rfl, .own _, T.ty_End _ _ _ _ ho, T.kk_End_End, _, rfl, ?_⟩
    refine ⟨_, rfl, o, T.C_End, dx2, _, _, rfl, ho, T.c_End, T.n_End_mood, rfl, _, rfl, m, m, rfl, ?_⟩
    rw [f1]
    refine ⟨_, rfl, ?_⟩
    refine ⟨_, rfl, o, T.C_End, dx2, _, _, rfl, ho, T.c_End, T.n_End_outcome, rfl, _, rfl, "any", oc, rfl, ?_⟩
    rw [f2]
    refine ⟨_, rfl, ?_⟩
    refine ⟨_, rfl, o, T.C_End, dx2, _, _, rfl, ho, T.c_End, T.n_End_sign, rfl, _, rfl, o, T.C_End, dx2, _, _, rfl, ho, T.c_End, T.n_End_part, rfl, rfl, by show 2 ≤ sizeLine; decide, fun t ht => ?_⟩
    rw [dec_str2]
    exact q t ht
  · rintro σ H2 ⟨z, _, _⟩
    rw [n1] at z
    cases z
end
end My

/-! ## Methods called with keywords; keywords bound where there are no defaults; what the laws' loops share -/
namespace My
open PySem PySem.Spec PyProof.Rows L2
/-- o.m(k = v, ..) -/
def tMethKw (C : Addr) (m : Str) (n : Nat) (sp : Sp) (gV : List V → List V → List V) (E : XK) (ta : TE) (tk : TA) : TE := fun σ H Q => ta σ H fun x H1 => ∃ (a dx : Addr) (fs : List (Str × V)), x = .ref a ∧ H1 a = some (.ins C dx fs) ∧ fs.lookup m = none ∧
  tk σ H1 fun zs H2 => zs.length = n ∧ sp (gV [.ref a] zs) H2 Q E
section
variable {X : Cx} {CX : CXT} {k : Nat} {f C : Addr} {fd : FuncData} {ps ks : List Str} {sp : Sp} {E : XK} {m : Str} {o : Expr} {kws : List Keyword} {pos apos : Pos} {ta : TE} {tk : TA} {g : List Value → List Value → List Value} {gV : List V → List V → List V}
theorem pe_methKw {pl : Sem Bool} (ho : PE X o ta) (c : Cls X.K C) (M : Meth X.K C m f) (F : FnOk X.prog X.w X.K X.mg X.base CX k f fd ps sp) (room : Room k X.A) (kb : KBn X.K fd ps 1 ks g gV) (out : Passes CX X E) (hk : PK X kws tk)
    (named : (backToKw pos (keywordEach kws X.env)).all (·.1.isSome) = true := by rfl) (names : (backToKw pos (keywordEach kws X.env)).filterMap (·.1) = ks := by rfl)
    (plain : ((backTo pos (starEach [] X.env)).any (·.1) || (backToKw pos (keywordEach kws X.env)).any (·.1.isNone)) = false := by rfl)
    (ev : eval (.Call (.Attribute o m apos) [] kws pos) X.env = (do
      let ov ← eval o X.env
      standAt apos.atName
      let (f, first) ← holding [ov] (getMethod ov m pl)
      callWith pos f first (backTo pos (starEach [] X.env)) (backToKw pos (keywordEach kws X.env))) := by rfl) : PE X (.Call (.Attribute o m apos) [] kws pos) (tMethKw C m ks.length sp gV E ta tk) := by
  constructor
  intro pins s σ H Q I h
  refine PySem.W.methodCall_KW (pl := pl) (thn (ho.run pins s σ H _ I h) ?_) ev
  rintro u s1 ⟨x, H1, I1, rx, a, dx, fs, rfl, ha, nf, todo⟩
  obtain rfl : u = Value.ref a := rx
  refine getmeth_ok I1 ha c M nf (PySem.W.callWith_KW0 (first := [.ref a]) (h₀ := X.base) I.ok.mod.kin M.kp named (thn (hk.run pos pins s1 σ H1 _ I1 todo) ?_) plain)
  rintro ws s2 ⟨zs, H2, I2, rz, l1, l2⟩
  rw [names]
  exact ⟨I2.kIn, run_fnN (us := [.ref a]) (vs := [.ref a]) F room kb out I2 (.cons rfl .nil) rz rfl l1 l2⟩
end
section
variable {K : PySem.W.Frag} {x q : Str} {st : Stmt} {f : Addr} {fd : FuncData} {ps : List Str}
theorem kbn_fun (F : Fun K x q st f fd) (n : Nat) (ks : List Str) (g : {α : Type} → List α → List α → List α) (rel : ∀ {vs zs : List V} {us ws : List Value}, Vals vs us → Vals zs ws → Vals (g vs zs) (g us ws))
    (h : ∀ (kV dc pm : Value) (an : Option Addr) (cdv ct : Value) (us ws : List Value), us.length = n → ws.length = ks.length → bindArgs (PySem.W.fnOf x q (defArgs st) (defBody st) (defScope st) .none kV dc pm an cdv ct) ⟨us, ks.zip ws⟩ = pure (ps.zip (g us ws))) :
    KBn K fd ps n ks (fun us ws => g us ws) (fun vs zs => g vs zs) := by
  obtain ⟨oc, od, kV, dc, pm, an, cdv, ct, sl, rfl, l, c⟩ := F.ex
  exact ⟨fun s us ws _ l1 l2 => .of_eq (h kV dc pm an cdv ct us ws l1 l2), rel⟩
end
/-- keywords in another order -/
def r2 {α : Type} : List α → List α → List α
  | [s], [a, b] => [s, b, a]
  | _, _ => []
def r3 {α : Type} : List α → List α → List α
  | [s], [a, b, c] => [s, c, b, a]
  | _, _ => []
def r4 {α : Type} : List α → List α → List α
  | [s], [a, b, c, d] => [s, d, c, b, a]
  | _, _ => []
def r5 {α : Type} (us _its ws : List α) : List α := us ++ ws.reverse
def r2d {α : Type} (us its ws : List α) : List α := us ++ (ws.reverse ++ its)
theorem vals_rev : ∀ {zs : List V} {ws : List Value}, Vals zs ws → Vals zs.reverse ws.reverse
  | _, _, .nil => .nil
  | _, _, .cons r t => by
    rw [List.reverse_cons, List.reverse_cons]
    exact (vals_rev t).append (.cons r .nil)
theorem r2_rel {vs zs : List V} {us ws : List Value} (h : Vals vs us) (k : Vals zs ws) : Vals (r2 vs zs) (r2 us ws) := by
  match vs, us, zs, ws, h, k with
  | [_], [_], [_, _], [_, _], .cons s .nil, .cons a (.cons b .nil) => exact .cons s (.cons b (.cons a .nil))
  | [], [], _, _, .nil, _ => exact .nil
  | _ :: _ :: _, _ :: _ :: _, _, _, _, _ => exact .nil
  | [_], [_], [], [], _, _ => exact .nil
  | [_], [_], [_], [_], _, _ => exact .nil
  | [_], [_], _ :: _ :: _ :: _, _ :: _ :: _ :: _, _, _ => exact .nil
theorem r3_rel {vs zs : List V} {us ws : List Value} (h : Vals vs us) (k : Vals zs ws) : Vals (r3 vs zs) (r3 us ws) := by
  match vs, us, zs, ws, h, k with
  | [_], [_], [_, _, _], [_, _, _], .cons s .nil, .cons a (.cons b (.cons c .nil)) => exact .cons s (.cons c (.cons b (.cons a .nil)))
  | [], [], _, _, .nil, _ => exact .nil
  | _ :: _ :: _, _ :: _ :: _, _, _, _, _ => exact .nil
  | [_], [_], [], [], _, _ => exact .nil
  | [_], [_], [_], [_], _, _ => exact .nil
  | [_], [_], [_, _], [_, _], _, _ => exact .nil
  | [_], [_], _ :: _ :: _ :: _ :: _, _ :: _ :: _ :: _ :: _, _, _ => exact .nil
theorem r4_rel {vs zs : List V} {us ws : List Value} (h : Vals vs us) (k : Vals zs ws) : Vals (r4 vs zs) (r4 us ws) := by
  match vs, us, zs, ws, h, k with
  | [_], [_], [_, _, _, _], [_, _, _, _], .cons s .nil, .cons a (.cons b (.cons c (.cons d .nil))) => exact .cons s (.cons d (.cons c (.cons b (.cons a .nil))))
  | [], [], _, _, .nil, _ => exact .nil
  | _ :: _ :: _, _ :: _ :: _, _, _, _, _ => exact .nil
  | [_], [_], [], [], _, _ => exact .nil
  | [_], [_], [_], [_], _, _ => exact .nil
  | [_], [_], [_, _], [_, _], _, _ => exact .nil
  | [_], [_], [_, _, _], [_, _, _], _, _ => exact .nil
  | [_], [_], _ :: _ :: _ :: _ :: _ :: _, _ :: _ :: _ :: _ :: _ :: _, _, _ => exact .nil
/-- max(1, min(n, len)) turns -/
theorem turns_many {n : Int} {l : Nat} (h : 1 ≤ n) (hn : n ≤ 10) : let m : Int := if (l : Int) < n then (l : Int) else n
    let t : Int := if m > 1 then m else 1
    1 ≤ t ∧ t ≤ n := by
  intro m t
  have hm : m ≤ n := by
    show (if (l : Int) < n then (l : Int) else n) ≤ n
    split <;> omega
  constructor
  · show 1 ≤ (if m > 1 then m else 1)
    split <;> omega
  · show (if m > 1 then m else 1) ≤ n
    split <;> omega
theorem box_gr {b : Addr} {H1 : Hp} {w s c : Int} : Gr b (upd H1 b (bx w s c)) (upd H1 b (bx w s c)) := ⟨fun _ _ _ e => e, w, s, c, upd_same⟩
theorem gr_own {b : Addr} {H H' : Hp} (g : Gr b H H') : Gr b H' H' := ⟨fun _ _ _ e => e, g.box⟩
theorem same_of_gr {b : Addr} {H1 H2 : Hp} {o : HO} (n : H1 b = none) (g : Gr b (upd H1 b o) H2) : Same H1 H2 := fun a u e => by
  have na : a ≠ b := ne_of_none e n
  exact g.keep a u na (by rw [upd_ne na]; exact e)
theorem gr_then {b : Addr} {H H1 H2 : Hp} (g : Gr b H H1) (s : Same H1 H2) : Gr b H H2 := by
  obtain ⟨x, y, z, e⟩ := g.box
  exact ⟨fun a o n u => s _ _ (g.keep a o n u), x, y, z, s _ _ e⟩
theorem same_made {H H' : Hp} {p dx : Addr} {o o2 : HO} (np : H p = none) (nd : H dx = none) (k : ∀ b u, (upd (upd H dx o) p o2) b = some u → b ≠ p → H' b = some u) : Same H H' := fun b u e => by
  have n1 := ne_of_none e np
  exact k b u (by rw [upd_ne n1, upd_ne (ne_of_none e nd)]; exact e) n1
theorem made_same {H : Hp} {p dx : Addr} {o o2 : HO} (np : H p = none) (nd : H dx = none) : Same H (upd (upd H dx o) p o2) := fun b u e => by
  rw [upd_ne (ne_of_none e np), upd_ne (ne_of_none e nd)]
  exact e
end My

/-! ## A service as its caller sees it: made of words, its rows all of one sort -/
namespace My
open PySem PySem.Spec PyProof.Rows L2
section
variable {K : PySem.W.Frag} {mg : Str → Option Value}
/-- the mood that a row of the sort end names -/
def endMood (r : Str × List Str) : Str × Option Str := (r.2.headD Str.empty, none)
theorem rw_end (T : TxSvcStr K mg) {H : Hp} {x : V} {r : Str × List Str} (e : r.1 = "end") (h : ∃ a, x = V.ref a ∧ RowAt T.toTxRows H a r.1 r.2) : RwAt T.toTxSvc H x (endMood r) := by
  obtain ⟨s, ws⟩ := r
  obtain rfl : s = "end" := e
  obtain ⟨a, rfl, ⟨dx, ha⟩, hl, _⟩ := h
  match ws, hl with
  | [m, o, sg, pt], _ => exact .end_ ha rfl
theorem rw_ends (T : TxSvcStr K mg) {H : Hp} : ∀ {xs : List V} {rs : List (Str × List Str)}, (∀ r ∈ rs, r.1 = "end") → Paired (fun x (r : Str × List Str) => ∃ a, x = V.ref a ∧ RowAt T.toTxRows H a r.1 r.2) xs rs → Paired (RwAt T.toTxSvc H) xs (rs.map endMood)
  | _, _, _, .nil => .nil
  | _, _, o, .cons h t => .cons (rw_end T (o _ List.mem_cons_self) h) (rw_ends T (fun r hr => o r (List.mem_cons_of_mem _ hr)) t)
/-- words of a service that is made: names, one kind, at most one to wait for, to leave -/
structure GoodS (v : SvD) : Prop where
  nm : isNm v.nm = true
  ks : v.kinds.length = 1
  ws : v.waits.length ≤ 1
  ls : v.leaves.length ≤ 1
  all : ∀ z ∈ v.kinds ++ (v.waits ++ v.leaves), isNm z = true
  ends : OnlyEnds v
  rs : v.rows.length ≤ 25
theorem svc_made (T : TxSvcStr K mg) (v : SvD) (g : GoodS v) {H : Hp} {p dx ka wa la ra : Addr} {xs : List V} {Q : Hp → Prop} {E : XK} (np : H p = none) (nd : H dx = none) (hK : SqA K H ka (v.kinds.map V.str)) (hW : SqA K H wa (v.waits.map V.str)) (hL : SqA K H la (v.leaves.map V.str)) (hR : SqA K H ra xs)
    (rows : Paired (fun x (r : Str × List Str) => ∃ a, x = V.ref a ∧ RowAt T.toTxRows H a r.1 r.2) xs v.rows) (q : ∀ H', Same H H' → SvcAt T H' p v → Q H') :
    spSvcInit T.toTxSvc [.ref p, .str v.nm, .ref ka, .ref wa, .ref la, .ref ra] (upd (upd H dx (.own p)) p (.ins T.C_Service dx [])) (fun u H2 => u = .non ∧ Q H2) E := by
  have y := made_same (o := .own p) (o2 := .ins T.C_Service dx []) np nd
  have rows' := paired_mono (S := fun x (r : Str × List Str) => ∃ a, x = V.ref a ∧ RowAt T.toTxRows (upd (upd H dx (.own p)) p (.ins T.C_Service dx [])) a r.1 r.2) (fun x r ⟨a, e1, e2⟩ => ⟨a, e1, e2.same y⟩) rows
  have sh : ∀ z : Str, isNm z = true → z.length ≤ 10 := fun z hz => by have := (isNm_len hz).2; omega
  refine ⟨p, dx, ka, wa, la, ra, v.nm, v.kinds, v.waits, v.leaves, xs, v.rows.map endMood, rfl, upd_same, by have := (isNm_len g.nm).2; omega, hK.same y, hW.same y, hL.same y, hR.same y, rw_ends T g.ends rows', by rw [List.length_map]; exact g.rs, g.ks, g.ws, g.ls, fun _ => g.all, fun _ H' k2 w2 l2 r2 m2 ys k hp c1 c2 c3 c4 _ _ _ _ => ⟨rfl, ?_⟩, fun hn => absurd g.nm (by rw [hn]; decide)⟩
  have s := same_made (o := .own p) (o2 := .ins T.C_Service dx []) np nd fun b u e n => k b u n e
  refine q H' s ⟨⟨dx, k2, w2, l2, r2, m2, xs, hp, c1, c2, c3, c4, paired_mono (fun x r ⟨a, e1, e2⟩ => ⟨a, e1, e2.same s⟩) rows⟩, sh _ g.nm, ⟨by rw [g.ks]; decide, fun z hz => sh z (g.all z (List.mem_append_left _ hz))⟩, ⟨Nat.le_trans g.ws (by decide), fun z hz => sh z (g.all z (List.mem_append_right _ (List.mem_append_left _ hz)))⟩, ⟨Nat.le_trans g.ls (by decide), fun z hz => sh z (g.all z (List.mem_append_right _ (List.mem_append_right _ hz)))⟩, Nat.le_trans g.rs (by decide)⟩
end
end My

/-! ## k05: arguments by their names; the law -/
namespace My
open PySem PySem.Spec PyProof.Rows L2
abbrev s_law : Stmt := top 27
abbrev N_law : List Str := ["_law_script", "_law_some", "_law_k", "_law_box_here", "_law_one", "_law_two", "_law_three", "_law_turn", "_law_lots", "_law_made"]
abbrev P_law : List Str := ["_law_script"]
theorem sc_law : FnScope N_law P_law (defScope s_law) := ⟨rfl, rfl, rfl, by decide +kernel, rfl, by decide +kernel, by decide +kernel⟩
structure TxK05 (K : PySem.W.Frag) (mg : Str → Option Value) extends TxTell K mg, TxDraw K mg where
  z_max : mg "max" = none
  z_min : mg "min" = none
  z_range : mg "range" = none
  f_law : Addr
  d_law : FuncData
  F_law : Fun K "law" "law" s_law f_law d_law
def SIX : List Str := ["a", "bb", "ccc", "dddd", "row", "end"]
theorem six_ok : ∀ z ∈ SIX, isNm z = true ∧ okS z = true ∧ z.length ≤ 4 ∧ SeqAt.shaped (.tuple [.str z, .bool false]) = true ∧ PyData.canLay0 (.tuple [.str z, .bool false]) = true := by decide +kernel
theorem shs (l : List Str) (h : (l.all fun y => decide (y.length ≤ 10)) = true) : ∀ y ∈ l, y.length ≤ 10 := fun y hy => of_decide_eq_true (List.all_eq_true.mp h y hy)
def spLaw (K : PySem.W.Frag) : Sp := fun vs H Q _ => ∃ (a : Addr) (ns : List Int), vs = [.ref a] ∧ SqL K H a (ns.map V.int) ∧ ns.length ≤ 63 ∧ ∀ H', Q (.bl true) H'
theorem or_nm {x : Str} {l : List Str} (h : isNm x = true) : ¬ (nmD (.str x) || txD l (.str x)) = false := by
  show ¬ (isNm x || l.contains x) = false
  rw [h, Bool.true_or]
  decide
theorem wBegin_nm {x y z : Str} (h1 : isNm x = true) (h2 : isNm y = true) (h3 : isNm z = true) : wBegin [.str x, .str y, .str z] = none := by
  show (if (nmD (.str x) || txD ["none", "any"] (.str x)) = false then (some "mark" : Option Str) else if (nmD (.str y) || txD ["any"] (.str y)) = false then some "kind" else if nmD (.str z) = false then some "mood" else none) = none
  rw [if_neg (or_nm h1), if_neg (or_nm h2), if_neg (by show ¬ isNm z = false; rw [h3]; decide)]
theorem wSend_nm {x y z : Str} (h1 : isNm x = true) (h2 : isNm y = true) (h3 : isNm z = true) : wSend [.str x, .str y, .str z] = none := by
  show (if (nmD (.str x) || txD ["any"] (.str x)) = false then (some "mood" : Option Str) else if (nmD (.str y) || txD ["any"] (.str y)) = false then some "service" else if (nmD (.str z) || txD ["none", "same"] (.str z)) = false then some "mark" else none) = none
  rw [if_neg (or_nm h1), if_neg (or_nm h2), if_neg (or_nm h3)]
theorem wBack_nm {x y z u : Str} (h1 : isNm x = true) (h2 : isNm y = true) (h3 : isNm z = true) (h4 : isNm u = true) : wBack [.str x, .str y, .str z, .str u] = none := by
  show (if (nmD (.str x) || txD ["any"] (.str x)) = false then (some "mood" : Option Str) else if (nmD (.str y) || txD ["any"] (.str y)) = false then some "service" else if (nmD (.str z) || txD ["none", "any"] (.str z)) = false then some "sign" else if (nmD (.str u) || txD ["same"] (.str u)) = false then some "then" else none) = none
  rw [if_neg (or_nm h1), if_neg (or_nm h2), if_neg (or_nm h3), if_neg (or_nm h4)]
theorem wEnd_nm {x y z u : Str} (h1 : isNm x = true) (h2 : (["good", "bad", "any"] : List Str).contains y = true) (h3 : isNm z = true) (h4 : (["keep", "drop"] : List Str).contains u = true) : wEnd [.str x, .str y, .str z, .str u] = none := by
  show (if (nmD (.str x) || txD ["any"] (.str x)) = false then (some "mood" : Option Str) else if (["good", "bad", "any"] : List Str).contains y = false then some "outcome" else if (nmD (.str z) || txD ["none"] (.str z)) = false then some "sign" else if (["keep", "drop"] : List Str).contains u = false then some "part" else none) = none
  rw [if_neg (or_nm h1), if_neg (by rw [h2]; decide), if_neg (or_nm h3), if_neg (by rw [h4]; decide)]
section
variable {P : Program} {w : World} {K : PySem.W.Frag} {mg : Str → Option Value} {base : Heap}
theorem ok_law5 (T : TxK05 K mg) : FnOk P w K mg base CX0 10 T.f_law T.d_law P_law (spLaw K) := by
  have G_box : FnOk P w K mg base CX0 1 T.f_box T.d_box P_box (spBox K) := ok_box T.toTxDraw
  have G_pick : FnOk P w K mg base CX0 2 T.f_pick T.d_pick P_pick spPickG := ok_pickG T.toTxDraw
  have G_Begin_init := ok_Begin_init (P := P) (w := w) (base := base) T.toTxRows
  have G_Send_init := ok_Send_init (P := P) (w := w) (base := base) T.toTxRows
  have G_Back_init := ok_Back_init (P := P) (w := w) (base := base) T.toTxRows
  have G_End_init := ok_End_init (P := P) (w := w) (base := base) T.toTxRows
  have G_Service_init := ok_Service_init (P := P) (w := w) (base := base) T.toTxSvc
  have G_eq := eq_rows (P := P) (w := w) (base := base) T.toTxStr
  have G_seq := eq_svc (P := P) (w := w) (base := base) T.toTxSvcStr
  have G_begin := ok_Service_begin (P := P) (w := w) (base := base) T.toTxTell
  have G_send := ok_Service_send (P := P) (w := w) (base := base) T.toTxTell
  have G_back := ok_Service_back (P := P) (w := w) (base := base) T.toTxTell
  have G_end := ok_Service_end (P := P) (w := w) (base := base) T.toTxTell
  have kbB := kbn_fun (ps := P_Begin_init) T.F_Begin_init 1 ["mood", "kind", "mark"] r3 r3_rel (fun _ _ _ _ _ _ us ws h1 h2 => match us, h1, ws, h2 with | [_], _, [_, _, _], _ => rfl)
  have kbS := kbn_fun (ps := P_Send_init) T.F_Send_init 1 ["mark", "service", "mood"] r3 r3_rel (fun _ _ _ _ _ _ us ws h1 h2 => match us, h1, ws, h2 with | [_], _, [_, _, _], _ => rfl)
  have kbK := kbn_fun (ps := P_Back_init) T.F_Back_init 1 ["then", "sign", "service", "mood"] r4 r4_rel (fun _ _ _ _ _ _ us ws h1 h2 => match us, h1, ws, h2 with | [_], _, [_, _, _, _], _ => rfl)
  have kbE := kbn_fun (ps := P_End_init) T.F_End_init 1 ["part", "sign", "outcome", "mood"] r4 r4_rel (fun _ _ _ _ _ _ us ws h1 h2 => match us, h1, ws, h2 with | [_], _, [_, _, _, _], _ => rfl)
  have kmB := kbn_fun (ps := P_Service_begin) T.F_Service_begin 1 ["kind", "mark"] r2 r2_rel (fun _ _ _ _ _ _ us ws h1 h2 => match us, h1, ws, h2 with | [_], _, [_, _], _ => rfl)
  have kmS := kbn_fun (ps := P_Service_send) T.F_Service_send 1 ["mark", "other", "mood"] r3 r3_rel (fun _ _ _ _ _ _ us ws h1 h2 => match us, h1, ws, h2 with | [_], _, [_, _, _], _ => rfl)
  have kmK := kbn_fun (ps := P_Service_back) T.F_Service_back 1 ["sign", "other", "mood"] r3 r3_rel (fun _ _ _ _ _ _ us ws h1 h2 => match us, h1, ws, h2 with | [_], _, [_, _, _], _ => rfl)
  have kmE := kbn_fun (ps := P_Service_end) T.F_Service_end 1 ["bad", "mood"] r2 r2_rel (fun _ _ _ _ _ _ us ws h1 h2 => match us, h1, ws, h2 with | [_], _, [_, _], _ => rfl)
  obtain ⟨ds6, hv6, hb6⟩ := T.F_Service_init.binds1 (ps := P_Service_init) 6 3 (by simp) rfl (fun TT kV doc pm an cdv ct us its h1 h2 => by
    match us, h1, its, h2 with
    | [_, _, _, _, _, _], _, [_, _, _], _ => exact ⟨_, rfl, rfl⟩)
  obtain ⟨is5, kb5⟩ := T.F_Service_init.kbindsD (ps := P_Service_init) 1 ["rows", "leaves", "waits", "kinds", "name"] (fun us its ws => r5 us its ws) (by simp) (fun h1 _ h3 => h1.append (vals_rev h3)) (fun TT kV doc pm an cdv ct us its ws h1 h2 h3 => by
    match us, h1, its, h2, ws, h3 with
    | [_], _, [_, _, _], _, [_, _, _, _, _], _ => exact ⟨_, rfl, rfl⟩)
  obtain ⟨is2, kb2⟩ := T.F_Service_init.kbindsD (ps := P_Service_init) 1 ["kinds", "name"] (fun us its ws => r2d us its ws) (by simp) (fun h1 h2 h3 => h1.append ((vals_rev h3).append h2)) (fun TT kV doc pm an cdv ct us its ws h1 h2 h3 => by
    match us, h1, its, h2, ws, h3 with
    | [_], _, [_, _, _], _, [_, _], _ => exact ⟨_, rfl, rfl⟩)
  refine T.F_law.ok sc_law (fun vs H Q E h => ?_) (fun cdv A outer s H vs Q E hr h => ?_)
  · obtain ⟨a, ns, rfl, _⟩ := h
    rfl
  obtain ⟨a, ns, rfl, hS, h63, q⟩ := h
  refine ⟨_, (pss_cons (ps_set (i := 1) sc_law.nd rfl (Or.inr rfl) (pe_lst (pa_cons pe_str (pa_cons pe_str (pa_cons pe_str (pa_cons pe_str (pa_cons pe_str (pa_cons pe_str pa_nil))))))))
      (pss_cons (ps_for PassesOwn.never rfl (pi_range1 (by rfl) T.z_range (pa_cons (pe_callB (call_max2 rfl) (by rfl) T.z_max (by decide +kernel) (pa_cons pe_int (pa_cons (pe_callB (call_min2 rfl) (by rfl) T.z_min (by decide +kernel) (pa_cons pe_int (pa_cons (pe_callB (call_lenK K) (by rfl) T.z_len (by decide +kernel) (pa_cons (pv 0) pa_nil)) pa_nil))) pa_nil))) pa_nil)) (pg_name (i := 2) sc_law.nd rfl (Or.inl rfl)) (pss_cons (ps_set (i := 3) sc_law.nd rfl (Or.inr rfl) (pe_call G_box (hr.mono (by decide)) (by rfl) T.m_box T.F_box.kp T.b_box .nil pass0 (pa_cons (pv 0) (pa_cons (pv 2) pa_nil))))
      (pss_cons (ps_asg (pe_lc (own := [("_law_turn", 7)]) (g := gName 7) (by rfl) sc_law.nd (pi_range1 (by rfl) T.z_range (pa_cons pe_int pa_nil)) (blkOk_by (own := [("_law_turn", 7)]) (N := N_law) (sc := defScope s_law) (by decide +kernel)) (fun _ _ _ _ _ => (pg_name (i := 7) sc_law.nd rfl (Or.inl rfl))) (fun _ _ _ _ _ => pts_nil) (fun _ _ _ _ _ => (pe_call G_pick (hr.mono (by decide)) (by rfl) T.m_pick T.F_pick.kp T.b_pick .nil pass0 (pa_cons (pv 3) (pa_cons (pv 1) pa_nil))))) (pg_lst (n := 3) rfl (pgs_cons (pg_name (i := 4) sc_law.nd rfl (Or.inl rfl)) (pgs_cons (pg_name (i := 5) sc_law.nd rfl (Or.inl rfl)) (pgs_cons (pg_name (i := 6) sc_law.nd rfl (Or.inl rfl)) pgs_nil)))))
      (pss_cons (ps_if (pt_cmpR (op_neO K G_eq (hr.mono (by decide))) (pe_makeK0 T.mk_Begin G_Begin_init (hr.mono (by decide)) (by rfl) T.m_Begin kbB passL (pk_cons (pv 4) (pk_cons (pv 5) (pk_cons (pv 6) pk_nil)))) (pe_make T.mk_Begin G_Begin_init (hr.mono (by decide)) (by rfl) T.m_Begin T.b_Begin_init .nil passL (pa_cons (pv 6) (pa_cons (pv 5) (pa_cons (pv 4) pa_nil)))) (nomark _)) (pss_one (ps_ret pe_bl)) pss_nil)
      (pss_cons (ps_if (pt_cmpR (op_neO K G_eq (hr.mono (by decide))) (pe_makeK0 T.mk_Send G_Send_init (hr.mono (by decide)) (by rfl) T.m_Send kbS passL (pk_cons (pv 4) (pk_cons (pv 5) (pk_cons (pv 6) pk_nil)))) (pe_make T.mk_Send G_Send_init (hr.mono (by decide)) (by rfl) T.m_Send T.b_Send_init .nil passL (pa_cons (pv 6) (pa_cons (pv 5) (pa_cons (pv 4) pa_nil)))) (nomark _)) (pss_one (ps_ret pe_bl)) pss_nil)
      (pss_cons (ps_if (pt_cmpR (op_neO K G_eq (hr.mono (by decide))) (pe_makeK0 T.mk_Back G_Back_init (hr.mono (by decide)) (by rfl) T.m_Back kbK passL (pk_cons (pv 4) (pk_cons (pv 5) (pk_cons (pv 6) (pk_cons (pv 4) pk_nil))))) (pe_make T.mk_Back G_Back_init (hr.mono (by decide)) (by rfl) T.m_Back T.b_Back_init .nil passL (pa_cons (pv 4) (pa_cons (pv 6) (pa_cons (pv 5) (pa_cons (pv 4) pa_nil))))) (nomark _)) (pss_one (ps_ret pe_bl)) pss_nil)
      (pss_cons (ps_if (pt_cmpR (op_neO K G_eq (hr.mono (by decide))) (pe_makeK0 T.mk_End G_End_init (hr.mono (by decide)) (by rfl) T.m_End kbE passL (pk_cons pe_str (pk_cons (pv 4) (pk_cons pe_str (pk_cons (pv 5) pk_nil))))) (pe_make T.mk_End G_End_init (hr.mono (by decide)) (by rfl) T.m_End T.b_End_init .nil passL (pa_cons (pv 5) (pa_cons pe_str (pa_cons (pv 4) (pa_cons pe_str pa_nil))))) (nomark _)) (pss_one (ps_ret pe_bl)) pss_nil)
      (pss_cons (ps_set (i := 8) sc_law.nd rfl (Or.inl rfl) (pe_lst (pa_cons (pe_makeK0 T.mk_End G_End_init (hr.mono (by decide)) (by rfl) T.m_End kbE passL (pk_cons pe_str (pk_cons (pv 4) (pk_cons pe_str (pk_cons (pv 5) pk_nil))))) pa_nil)))
      (pss_cons (ps_set (i := 9) sc_law.nd rfl (Or.inl rfl) (pe_makeK0 T.mk_Service G_Service_init (hr.mono (by decide)) (by rfl) T.m_Service kb5 passL (pk_cons (pv 8) (pk_cons (pe_lst (pa_cons (pv 4) pa_nil)) (pk_cons (pe_tup (pa_cons (pv 5) pa_nil)) (pk_cons (pe_lst (pa_cons (pv 6) pa_nil)) (pk_cons (pv 4) pk_nil)))))))
      (pss_cons (ps_if (pt_cmpR (op_neO K G_seq (hr.mono (by decide))) (pv 9) (pe_make T.mk_Service G_Service_init (hr.mono (by decide)) (by rfl) T.m_Service hb6 hv6 passL (pa_cons (pv 4) (pa_cons (pe_lst (pa_cons (pv 6) pa_nil)) (pa_cons (pe_lst (pa_cons (pv 5) pa_nil)) (pa_cons (pe_lst (pa_cons (pv 4) pa_nil)) (pa_cons (pv 8) pa_nil)))))) (nomark _)) (pss_one (ps_ret pe_bl)) pss_nil)
      (pss_cons (ps_if (pt_cmpR (op_neO K G_seq (hr.mono (by decide))) (pe_makeK0 T.mk_Service G_Service_init (hr.mono (by decide)) (by rfl) T.m_Service kb2 passL (pk_cons (pe_tup (pa_cons (pv 5) pa_nil)) (pk_cons (pv 4) pk_nil))) (pe_make T.mk_Service G_Service_init (hr.mono (by decide)) (by rfl) T.m_Service hb6 hv6 passL (pa_cons (pv 4) (pa_cons (pe_lst (pa_cons (pv 5) pa_nil)) (pa_cons (pe_lst pa_nil) (pa_cons (pe_lst pa_nil) (pa_cons (pe_tup pa_nil) pa_nil)))))) (nomark _)) (pss_one (ps_ret pe_bl)) pss_nil)
      (pss_cons (ps_if (PW.pt (pw_or (pt_cmpR op_ne (pe_methKw (pv 9) T.c_Service T.mt_Service_begin G_begin (hr.mono (by decide)) kmB pass0 (pk_cons (pv 6) (pk_cons (pv 4) pk_nil))) pe_str (nomark _)) (pw_or1 (pt_cmpR op_ne (pe_methKw (pv 9) T.c_Service T.mt_Service_send G_send (hr.mono (by decide)) kmS pass0 (pk_cons (pv 4) (pk_cons (pv 5) (pk_cons (pv 6) pk_nil)))) pe_str (nomark _))))) (pss_one (ps_ret pe_bl)) pss_nil)
      (pss_one (ps_if (PW.pt (pw_or (pt_cmpR op_ne (pe_methKw (pv 9) T.c_Service T.mt_Service_back G_back (hr.mono (by decide)) kmK pass0 (pk_cons (pv 4) (pk_cons (pv 5) (pk_cons (pv 6) pk_nil)))) (pv 6) (nomark _)) (pw_or1 (pt_cmpR (op_neDK K hr.units) (pe_methKw (pv 9) T.c_Service T.mt_Service_end G_end (hr.mono (by decide)) kmE pass0 (pk_cons pe_bl (pk_cons (pv 5) pk_nil))) (pe_tup (pa_cons (pv 4) (pa_cons pe_bl pa_nil))) (nomark _))))) (pss_one (ps_ret pe_bl)) pss_nil))))))))))))))
      (pss_one (ps_ret pe_bl)))), ?_⟩
  refine ⟨by show 6 ≤ sizeLine; decide, fun sm hsm => ?_⟩
  have s0 := same_upd hsm (.lst (SIX.map V.str))
  have b0 : upd H sm (.lst (SIX.map V.str)) sm = some (.lst (SIX.map V.str)) := upd_same
  obtain ⟨mt1, mt2⟩ := turns_many (n := 5) (l := (ns.map V.int).length) (by decide) (by decide)
  refine ⟨_, rfl, _, _, rfl, .inl (s0.seq hS), _, _, rfl, _, _, rfl, _, rfl, by omega, by omega, for_range (lo := 0) (fun i σ H' => ∃ (v2 v3 v4 v5 v6 v7 v8 v9 : Option V), σ = [some (.ref a), some (.ref sm), v2, v3, v4, v5, v6, v7, v8, v9] ∧ Same (upd H sm (.lst (SIX.map V.str))) H') ⟨none, none, none, none, none, none, none, none, rfl, Same.refl _⟩ ?_ ?_⟩
  · rintro i0 σ H4 hi ⟨v2, v3, v4, v5, v6, v7, v8, v9, rfl, s4⟩
    refine ⟨_, rfl, _, rfl, a, ns, _, rfl, (s0.trans s4).seq hS, h63, by omega, fun b bw bs hb => ?_⟩
    have nb : sm ≠ b := ne_of_none (s4 _ _ b0) hb
    have g0 : Gr b (upd H4 b (bx bw bs 0)) (upd H4 b (bx bw bs 0)) := box_gr
    have asm : At b (upd H4 b (bx bw bs 0)) sm (.lst (SIX.map V.str)) := ⟨nb, by rw [upd_ne nb]; exact s4 _ _ b0⟩
    refine ⟨3, rfl, by decide, by decide, fun D hD => lc_range (lo := 0) (n := 3) (fun i H' => Gr b (upd H4 b (bx bw bs 0)) H' ∧ ∃ ys : List Str, H' D = some (.lst (ys.map V.str)) ∧ ys.length = i ∧ ∀ y ∈ ys, y ∈ SIX) ⟨g0.new hD _, [], upd_same, rfl, fun _ z => nomatch z⟩ ?_ ?_⟩
    · rintro i H5 hi2 ⟨g5, ys, hD5, ly, my⟩
      have nDb : D ≠ b := g0.ne_new hD
      refine ⟨rfl, ?_⟩
      refine ⟨_, rfl, _, rfl, b, sm, _, rfl, gr_own g5, asm.gr g5, by decide, by decide, fun x H6 hx g6 => ?_⟩
      obtain ⟨y, hy, rfl⟩ := List.mem_map.mp hx
      have hD6 := g6.keep D _ nDb hD5
      refine ⟨_, hD6, small1000 (by rw [List.length_map]; omega), (g5.trans g6).mut hD nDb _, ys ++ [y], by rw [upd_same, List.map_append]; rfl, by rw [List.length_append, ly]; rfl, fun z hz => ?_⟩
      rcases List.mem_append.mp hz with h | h
      · exact my z h
      · rw [List.mem_singleton.mp h]
        exact hy
    · rintro H5 ⟨g5, ys, hD5, ly, my⟩
      obtain ⟨x1, x2, x3, rfl⟩ : ∃ x1 x2 x3, ys = [x1, x2, x3] := by
        match ys, ly with
        | [x1, x2, x3], _ => exact ⟨x1, x2, x3, rfl⟩
      obtain ⟨m1, o1, l1, c1, d1⟩ := six_ok x1 (my x1 (by simp))
      obtain ⟨m2, o2, l2, c2, d2⟩ := six_ok x2 (my x2 (by simp))
      obtain ⟨m3, o3, l3, c3, d3⟩ := six_ok x3 (my x3 (by simp))
      refine ⟨D, _, rfl, SqL.of hD5, rfl, _, _, rfl, _, _, rfl, _, _, rfl, rfl, ?_⟩
      have dv : ∀ {z : Str} (_ : okS z = true) (H : Hp), Dv K H (.str z) (.str z) := fun h H => Dv.str h
      have fin : ∀ H', Same H5 H' → Gr b (upd H4 b (bx bw bs 0)) H' := fun H' s' => gr_then g5 s'
      have dbad : ∀ H, Dv K H (.str "bad") (.str "bad") := fun H => Dv.str (by decide +kernel)
      have dkeep : ∀ H, Dv K H (.str "keep") (.str "keep") := fun H => Dv.str (by decide +kernel)
      have dany : ∀ H, Dv K H (.str "any") (.str "any") := fun H => Dv.str (by decide +kernel)
      have ddrop : ∀ H, Dv K H (.str "drop") (.str "drop") := fun H => Dv.str (by decide +kernel)
      have z0 : Same H5 H5 := Same.refl _
      -- Begin
      refine ⟨_, rfl, _, rfl, _, rfl, rfl, rfl, fun p0 dx0 np0 nd0 _ => ⟨p0, dx0, [.str x3, .str x2, .str x1], _, rfl, rfl, .cons (dv o3 _) (.cons (dv o2 _) (.cons (dv o1 _) (.nil))), upd_same, fun A0 _ e0 k0 => ⟨rfl, ?_⟩, fun wd d H6 e6 _ _ _ => nomatch (wBegin_nm m3 m2 m1).symm.trans e6⟩⟩
      have u0 : Same H5 A0 := same_made np0 nd0 k0
      refine ⟨_, rfl, _, rfl, _, rfl, fun q0 dy0 nq0 ny0 _ => ⟨q0, dy0, [.str x3, .str x2, .str x1], _, rfl, rfl, .cons (dv o3 _) (.cons (dv o2 _) (.cons (dv o1 _) (.nil))), upd_same, fun B0 _ f0 j0 => ⟨rfl, ?_⟩, fun wd d H6 e6 _ _ _ => nomatch (wBegin_nm m3 m2 m1).symm.trans e6⟩⟩
      have v0 : Same A0 B0 := same_made nq0 ny0 j0
      have R0 : RowAt T.toTxStr.toTxRows B0 p0 "begin" [x3, x2, x1] := ⟨⟨dx0, v0 _ _ e0⟩, rfl, shs [x3, x2, x1] (by simp only [List.all_cons, List.all_nil, decide_eq_true_eq, Bool.and_eq_true]; refine ⟨by omega, by omega, by omega, trivial⟩), by decide⟩
      have S0 : RowAt T.toTxStr.toTxRows B0 q0 "begin" [x3, x2, x1] := ⟨⟨dy0, f0⟩, R0.len, R0.sh, R0.so⟩
      refine ⟨p0, "begin", dx0, _, _, rfl, R0.so, v0 _ _ e0, ty_row T.toTxStr R0.so f0, nf_row T.toTxStr R0.so R0.so, p0, [x3, x2, x1], .ref q0, rfl, R0, .inl ⟨q0, "begin", [x3, x2, x1], rfl, S0, _, rfl, _, rfl, ite2 (fun c => absurd c (by rw [decide_eq_true (rfl : ("begin" : Str) = "begin"), decide_eq_true rfl]; decide)) (fun _ => ?_)⟩⟩
      have z1 := (z0.trans u0).trans v0
      -- Send
      refine ⟨_, rfl, _, rfl, _, rfl, rfl, rfl, fun p1 dx1 np1 nd1 _ => ⟨p1, dx1, [.str x3, .str x2, .str x1], _, rfl, rfl, .cons (dv o3 _) (.cons (dv o2 _) (.cons (dv o1 _) (.nil))), upd_same, fun A1 _ e1 k1 => ⟨rfl, ?_⟩, fun wd d H6 e6 _ _ _ => nomatch (wSend_nm m3 m2 m1).symm.trans e6⟩⟩
      have u1 : Same B0 A1 := same_made np1 nd1 k1
      refine ⟨_, rfl, _, rfl, _, rfl, fun q1 dy1 nq1 ny1 _ => ⟨q1, dy1, [.str x3, .str x2, .str x1], _, rfl, rfl, .cons (dv o3 _) (.cons (dv o2 _) (.cons (dv o1 _) (.nil))), upd_same, fun B1 _ f1 j1 => ⟨rfl, ?_⟩, fun wd d H6 e6 _ _ _ => nomatch (wSend_nm m3 m2 m1).symm.trans e6⟩⟩
      have v1 : Same A1 B1 := same_made nq1 ny1 j1
      have R1 : RowAt T.toTxStr.toTxRows B1 p1 "send" [x3, x2, x1] := ⟨⟨dx1, v1 _ _ e1⟩, rfl, shs [x3, x2, x1] (by simp only [List.all_cons, List.all_nil, decide_eq_true_eq, Bool.and_eq_true]; refine ⟨by omega, by omega, by omega, trivial⟩), by decide⟩
      have S1 : RowAt T.toTxStr.toTxRows B1 q1 "send" [x3, x2, x1] := ⟨⟨dy1, f1⟩, R1.len, R1.sh, R1.so⟩
      refine ⟨p1, "send", dx1, _, _, rfl, R1.so, v1 _ _ e1, ty_row T.toTxStr R1.so f1, nf_row T.toTxStr R1.so R1.so, p1, [x3, x2, x1], .ref q1, rfl, R1, .inl ⟨q1, "send", [x3, x2, x1], rfl, S1, _, rfl, _, rfl, ite2 (fun c => absurd c (by rw [decide_eq_true (rfl : ("send" : Str) = "send"), decide_eq_true rfl]; decide)) (fun _ => ?_)⟩⟩
      have z2 := (z1.trans u1).trans v1
      -- Back
      refine ⟨_, rfl, _, rfl, _, rfl, _, rfl, rfl, rfl, fun p2 dx2 np2 nd2 _ => ⟨p2, dx2, [.str x1, .str x3, .str x2, .str x1], _, rfl, rfl, .cons (dv o1 _) (.cons (dv o3 _) (.cons (dv o2 _) (.cons (dv o1 _) (.nil)))), upd_same, fun A2 _ e2 k2 => ⟨rfl, ?_⟩, fun wd d H6 e6 _ _ _ => nomatch (wBack_nm m1 m3 m2 m1).symm.trans e6⟩⟩
      have u2 : Same B1 A2 := same_made np2 nd2 k2
      refine ⟨_, rfl, _, rfl, _, rfl, _, rfl, fun q2 dy2 nq2 ny2 _ => ⟨q2, dy2, [.str x1, .str x3, .str x2, .str x1], _, rfl, rfl, .cons (dv o1 _) (.cons (dv o3 _) (.cons (dv o2 _) (.cons (dv o1 _) (.nil)))), upd_same, fun B2 _ f2 j2 => ⟨rfl, ?_⟩, fun wd d H6 e6 _ _ _ => nomatch (wBack_nm m1 m3 m2 m1).symm.trans e6⟩⟩
      have v2 : Same A2 B2 := same_made nq2 ny2 j2
      have R2 : RowAt T.toTxStr.toTxRows B2 p2 "back" [x1, x3, x2, x1] := ⟨⟨dx2, v2 _ _ e2⟩, rfl, shs [x1, x3, x2, x1] (by simp only [List.all_cons, List.all_nil, decide_eq_true_eq, Bool.and_eq_true]; refine ⟨by omega, by omega, by omega, by omega, trivial⟩), by decide⟩
      have S2 : RowAt T.toTxStr.toTxRows B2 q2 "back" [x1, x3, x2, x1] := ⟨⟨dy2, f2⟩, R2.len, R2.sh, R2.so⟩
      refine ⟨p2, "back", dx2, _, _, rfl, R2.so, v2 _ _ e2, ty_row T.toTxStr R2.so f2, nf_row T.toTxStr R2.so R2.so, p2, [x1, x3, x2, x1], .ref q2, rfl, R2, .inl ⟨q2, "back", [x1, x3, x2, x1], rfl, S2, _, rfl, _, rfl, ite2 (fun c => absurd c (by rw [decide_eq_true (rfl : ("back" : Str) = "back"), decide_eq_true rfl]; decide)) (fun _ => ?_)⟩⟩
      have z3 := (z2.trans u2).trans v2
      -- End
      refine ⟨_, rfl, _, rfl, rfl, rfl, fun p3 dx3 np3 nd3 _ => ⟨p3, dx3, [.str x2, .str "bad", .str x1, .str "keep"], _, rfl, rfl, .cons (dv o2 _) (.cons (dbad _) (.cons (dv o1 _) (.cons (dkeep _) (.nil)))), upd_same, fun A3 _ e3 k3 => ⟨rfl, ?_⟩, fun wd d H6 e6 _ _ _ => nomatch (wEnd_nm m2 (by decide +kernel) m1 (by decide +kernel)).symm.trans e6⟩⟩
      have u3 : Same B2 A3 := same_made np3 nd3 k3
      refine ⟨_, rfl, _, rfl, fun q3 dy3 nq3 ny3 _ => ⟨q3, dy3, [.str x2, .str "bad", .str x1, .str "keep"], _, rfl, rfl, .cons (dv o2 _) (.cons (dbad _) (.cons (dv o1 _) (.cons (dkeep _) (.nil)))), upd_same, fun B3 _ f3 j3 => ⟨rfl, ?_⟩, fun wd d H6 e6 _ _ _ => nomatch (wEnd_nm m2 (by decide +kernel) m1 (by decide +kernel)).symm.trans e6⟩⟩
      have v3 : Same A3 B3 := same_made nq3 ny3 j3
      have R3 : RowAt T.toTxStr.toTxRows B3 p3 "end" [x2, "bad", x1, "keep"] := ⟨⟨dx3, v3 _ _ e3⟩, rfl, shs [x2, "bad", x1, "keep"] (by simp only [List.all_cons, List.all_nil, decide_eq_true_eq, Bool.and_eq_true]; refine ⟨by omega, by decide +kernel, by omega, by decide +kernel, trivial⟩), by decide⟩
      have S3 : RowAt T.toTxStr.toTxRows B3 q3 "end" [x2, "bad", x1, "keep"] := ⟨⟨dy3, f3⟩, R3.len, R3.sh, R3.so⟩
      refine ⟨p3, "end", dx3, _, _, rfl, R3.so, v3 _ _ e3, ty_row T.toTxStr R3.so f3, nf_row T.toTxStr R3.so R3.so, p3, [x2, "bad", x1, "keep"], .ref q3, rfl, R3, .inl ⟨q3, "end", [x2, "bad", x1, "keep"], rfl, S3, _, rfl, _, rfl, ite2 (fun c => absurd c (by rw [decide_eq_true (rfl : ("end" : Str) = "end"), decide_eq_true rfl]; decide)) (fun _ => ?_)⟩⟩
      have z4 := (z3.trans u3).trans v3
      -- the rows of the services
      refine ⟨_, rfl, _, rfl, rfl, rfl, fun p4 dx4 np4 nd4 _ => ⟨p4, dx4, [.str x2, .str "any", .str x1, .str "drop"], _, rfl, rfl, .cons (dv o2 _) (.cons (dany _) (.cons (dv o1 _) (.cons (ddrop _) .nil))), upd_same, fun A4 _ e4 k4 => ⟨rfl, ?_⟩, fun wd d H6 e6 _ _ _ => nomatch (wEnd_nm m2 (by decide +kernel) m1 (by decide +kernel)).symm.trans e6⟩⟩
      have u4 : Same B3 A4 := same_made np4 nd4 k4
      have R4 : RowAt T.toTxStr.toTxRows A4 p4 "end" [x2, "any", x1, "drop"] := ⟨⟨dx4, e4⟩, rfl, shs [x2, "any", x1, "drop"] (by simp only [List.all_cons, List.all_nil, decide_eq_true_eq, Bool.and_eq_true]; refine ⟨by omega, by decide +kernel, by omega, by decide +kernel, trivial⟩), by decide⟩
      refine ⟨by show 1 ≤ sizeLine; decide, fun lo hlo => ?_⟩
      have y4 := same_upd hlo (.lst [.ref p4])
      have lot : upd A4 lo (.lst [.ref p4]) lo = some (.lst [.ref p4]) := upd_same
      have z5 := (z4.trans u4).trans y4
      generalize hC : upd A4 lo (.lst [.ref p4]) = C at y4 lot z5
      have one : ∀ H', Same C H' → Paired (fun x (r : Str × List Str) => ∃ a, x = V.ref a ∧ RowAt T.toTxSvcStr.toTxRows H' a r.1 r.2) [.ref p4] [(("end" : Str), [x2, "any", x1, "drop"])] := fun H' s' => .cons ⟨p4, rfl, (R4.same y4).same s'⟩ .nil
      have gv : GoodS ⟨x1, [x3], [x2], [x1], [(("end" : Str), [x2, "any", x1, "drop"])]⟩ := ⟨m1, rfl, Nat.le_refl 1, Nat.le_refl 1, fun z hz => by
        simp only [List.mem_append, List.mem_singleton] at hz
        rcases hz with h | h | h <;> rw [h] <;> assumption, fun r hr => by rw [List.mem_singleton.mp hr], (by show 1 ≤ 25; decide)⟩
      have gw : GoodS ⟨x1, [x2], [], [], []⟩ := ⟨m1, rfl, Nat.zero_le _, Nat.zero_le _, fun z hz => by
        simp only [List.mem_append, List.mem_singleton, List.not_mem_nil, or_false] at hz
        rw [hz]
        assumption, (fun r hr => nomatch hr), Nat.zero_le _⟩
      -- a service by keywords
      refine ⟨_, rfl, _, rfl, by show 1 ≤ sizeLine; decide, fun a1 h1 => ⟨_, rfl, by show 1 ≤ sizeLine; decide, fun a2 h2 => ⟨_, rfl, by show 1 ≤ sizeLine; decide, fun a3 h3 => ⟨_, rfl, rfl, rfl, fun p5 dx5 np5 nd5 _ => ?_⟩⟩⟩⟩
      have w1 := same_upd h1 (.lst [.str x1])
      have w2 := same_upd h2 (.tup [.str x2])
      have w3 := same_upd h3 (.lst [.str x3])
      refine svc_made T.toTxSvcStr ⟨x1, [x3], [x2], [x1], [(("end" : Str), [x2, "any", x1, "drop"])]⟩ gv np5 nd5 (.inl (SqL.of upd_same)) (.inr (SqT.of (w3 _ _ upd_same))) (.inl (SqL.of (w3 _ _ (w2 _ _ upd_same)))) (.inl (SqL.of (w3 _ _ (w2 _ _ (w1 _ _ lot))))) (one _ ((w1.trans w2).trans w3)) fun C5 s5 sv5 => ?_
      have t5 : Same C C5 := ((w1.trans w2).trans w3).trans s5
      -- .. and by place
      refine ⟨_, rfl, _, rfl, _, rfl, by show 1 ≤ sizeLine; decide, fun a4 h4 => ⟨_, rfl, by show 1 ≤ sizeLine; decide, fun a5 h5 => ⟨_, rfl, by show 1 ≤ sizeLine; decide, fun a6 h6 => ⟨_, rfl, fun p6 dx6 np6 nd6 _ => ?_⟩⟩⟩⟩
      have w4 := same_upd h4 (.lst [.str x3])
      have w5 := same_upd h5 (.lst [.str x2])
      have w6 := same_upd h6 (.lst [.str x1])
      have w46 := (w4.trans w5).trans w6
      refine svc_made T.toTxSvcStr ⟨x1, [x3], [x2], [x1], [(("end" : Str), [x2, "any", x1, "drop"])]⟩ gv np6 nd6 (.inl (SqL.of (w6 _ _ (w5 _ _ upd_same)))) (.inl (SqL.of (w6 _ _ upd_same))) (.inl (SqL.of upd_same)) (.inl (SqL.of (w46 _ _ (t5 _ _ lot)))) (one _ (t5.trans w46)) fun C6 s6 sv6 => ?_
      have t6 := w46.trans s6
      have sv56 := sv5.same t6
      obtain ⟨⟨dxv, _, _, _, _, _, _, hp5, _⟩, _⟩ := id sv56
      obtain ⟨⟨dxu, _, _, _, _, _, _, hp6, _⟩, _⟩ := id sv6
      refine ⟨p5, (), dxv, _, _, rfl, trivial, hp5, T.ty_Service _ _ _ _ hp6, T.nf_Service, p5, p6, _, _, rfl, sv56, sv6, fun D6 s7 => ⟨_, rfl, _, rfl, ite2 (fun c => absurd c (by rw [decide_eq_true rfl]; decide)) (fun _ => ?_)⟩⟩
      -- defaults
      refine ⟨_, rfl, by show 1 ≤ sizeLine; decide, fun b1 g1 => ⟨_, rfl, rfl, rfl, fun p7 dx7 np7 nd7 _ => ?_⟩⟩
      have w7 := same_upd g1 (.tup [.str x2])
      refine svc_made T.toTxSvcStr ⟨x1, [x2], [], [], []⟩ gw np7 nd7 (.inr (SqT.of upd_same)) (.inr (T.t_waits _)) (.inr (T.t_leaves _)) (.inr (T.t_rows _)) .nil fun C7 s8 sv7 => ?_
      refine ⟨_, rfl, _, rfl, by show 1 ≤ sizeLine; decide, fun b2 g2 => ⟨Nat.zero_le _, fun b3 g3 => ⟨Nat.zero_le _, fun b4 g4 => ⟨Nat.zero_le _, fun b5 g5 p8 dx8 np8 nd8 _ => ?_⟩⟩⟩⟩
      have w8 := same_upd g2 (.lst [.str x2])
      have w9 := same_upd g3 (.lst [])
      have w10 := same_upd g4 (.lst [])
      have w11 := same_upd g5 (.tup [])
      refine svc_made T.toTxSvcStr ⟨x1, [x2], [], [], []⟩ gw np8 nd8 (.inl (SqL.of (w11 _ _ (w10 _ _ (w9 _ _ upd_same))))) (.inl (SqL.of (w11 _ _ (w10 _ _ upd_same)))) (.inl (SqL.of (w11 _ _ upd_same))) (.inr (SqT.of upd_same)) .nil fun C8 s9 sv8 => ?_
      have t8 := (((w8.trans w9).trans w10).trans w11).trans s9
      have sv78 := sv7.same t8
      obtain ⟨⟨dxw, _, _, _, _, _, _, hp7, _⟩, _⟩ := id sv78
      obtain ⟨⟨dxz, _, _, _, _, _, _, hp8, _⟩, _⟩ := id sv8
      refine ⟨p7, (), dxw, _, _, rfl, trivial, hp7, T.ty_Service _ _ _ _ hp8, T.nf_Service, p7, p8, _, _, rfl, sv78, sv8, fun D8 s10 => ⟨_, rfl, _, rfl, ite2 (fun c => absurd c (by rw [decide_eq_true rfl]; decide)) (fun _ => ?_)⟩⟩
      have t9 : Same C D8 := ((((t5.trans t6).trans s7).trans (w7.trans s8)).trans t8).trans s10
      have svF : SvcAt T.toTxSvcStr D8 p5 ⟨x1, [x3], [x2], [x1], [(("end" : Str), [x2, "any", x1, "drop"])]⟩ := sv56.same (((s7.trans (w7.trans s8)).trans t8).trans s10)
      obtain ⟨⟨dxf, _, _, _, _, _, _, hpF, _⟩, _⟩ := id svF
      -- what it tells
      refine ⟨_, rfl, p5, dxf, _, rfl, hpF, rfl, _, rfl, _, rfl, rfl, p5, _, x1, x3, rfl, svF, gv.ends, rfl, _, rfl, ite2 (fun c => absurd c (by rw [decide_eq_true rfl]; decide)) (fun _ => ?_)⟩
      refine ⟨_, rfl, p5, dxf, _, rfl, hpF, rfl, _, rfl, _, rfl, _, rfl, rfl, p5, _, x3, x2, x1, rfl, svF, gv.ends, rfl, _, rfl, ite2 (fun c => absurd c (by rw [decide_eq_true rfl]; decide)) (fun _ => ?_)⟩
      refine ⟨_, rfl, p5, dxf, _, rfl, hpF, rfl, _, rfl, _, rfl, _, rfl, rfl, p5, _, x3, x2, x1, rfl, svF, gv.ends, _, rfl, rfl, _, rfl, ite2 (fun c => absurd c (by rw [decide_eq_true rfl]; decide)) (fun _ => ?_)⟩
      refine ⟨_, rfl, p5, dxf, _, rfl, hpF, rfl, _, rfl, rfl, p5, _, x2, x1, "drop", true, rfl, svF, rfl, fun e1 k1 => ⟨_, rfl, by show 2 ≤ sizeLine; decide, fun e2 k2 => ?_⟩⟩
      have ek : decide (("drop" : Str) = "keep") = false := by decide +kernel
      have w12 := same_upd k1 (.tup [.str x1, .bl (decide (("drop" : Str) = "keep"))])
      have w13 := same_upd k2 (.tup [.str x1, .bl false])
      refine ⟨.tuple [.str x1, .bool false], .tuple [.str x1, .bool false], .tup (xs := [.str x1, .bl false]) (SqT.of (w13 _ _ (by rw [upd_same, ek]))) (.cons (.str _) (.cons (.bl _) .nil)), .tup (xs := [.str x1, .bl false]) (SqT.of upd_same) (.cons (.str _) (.cons (.bl _) .nil)), c1, c1, _, rfl, ite2 (fun c => absurd c (by rw [SeqAt.eqv_refl _ d1]; decide)) (fun _ => ?_)⟩
      exact ⟨_, _, _, _, _, _, _, _, rfl, s4.trans (same_of_gr hb (fin _ (z5.trans ((t9.trans w12).trans w13))))⟩
  · rintro σ H4 _
    exact q H4
end
end My

/-! ## The end: what the top has written, the theorem -/
namespace My
open PySem L2
theorem kit_yes {K : PySem.W.Frag} {t : Value} {C : Addr} (h1 : PySem.W.isClsIn K C = true) (h2 : PySem.W.typeIn K (.ref C) = some (.type "type")) (h3 : PySem.W.subIn K t (.ref C) = some true) : PySem.W.kitOne K t (.ref C) = some true := by
  have e : ((PySem.W.clsIn K C).isSome && PySem.W.typeIn K (.ref C) == some (.type "type")) = true := by
    have h1' : (PySem.W.clsIn K C).isSome = true := h1
    rw [h1', h2] <;> rfl
  unfold PySem.W.kitOne
  split
  · rfl
  · show (if ((PySem.W.clsIn K C).isSome && PySem.W.typeIn K (.ref C) == some (.type "type")) = true then PySem.W.subIn K t (.ref C) else none) = some true
    rw [if_pos e]
    exact h3
theorem kit_no {K : PySem.W.Frag} {A C : Addr} {b : Bool} (h1 : PySem.W.isClsIn K C = true) (h2 : PySem.W.typeIn K (.ref C) = some (.type "type")) (h3 : PySem.W.subIn K (.ref A) (.ref C) = some b) (n : A ≠ C) : PySem.W.kitOne K (.ref A) (.ref C) = some b := by
  have e : ((PySem.W.clsIn K C).isSome && PySem.W.typeIn K (.ref C) == some (.type "type")) = true := by
    have h1' : (PySem.W.clsIn K C).isSome = true := h1
    rw [h1', h2] <;> rfl
  unfold PySem.W.kitOne
  rw [if_neg (fun z => n (by have z2 := beq_iff_eq.mp z; cases z2; rfl))]
  show (if ((PySem.W.clsIn K C).isSome && PySem.W.typeIn K (.ref C) == some (.type "type")) = true then PySem.W.subIn K (.ref A) (.ref C) else none) = some b
  rw [if_pos e]
  exact h3
theorem kit_tyno {K : PySem.W.Frag} {A : String} {C : Addr} {b : Bool} (h1 : PySem.W.isClsIn K C = true) (h2 : PySem.W.typeIn K (.ref C) = some (.type "type")) (h3 : PySem.W.subIn K (.type A) (.ref C) = some b) : PySem.W.kitOne K (.type A) (.ref C) = some b := by
  have e : ((PySem.W.clsIn K C).isSome && PySem.W.typeIn K (.ref C) == some (.type "type")) = true := by
    have h1' : (PySem.W.clsIn K C).isSome = true := h1
    rw [h1', h2] <;> rfl
  unfold PySem.W.kitOne
  rw [if_neg (fun z => by have z2 := beq_iff_eq.mp z; cases z2)]
  show (if ((PySem.W.clsIn K C).isSome && PySem.W.typeIn K (.ref C) == some (.type "type")) = true then PySem.W.subIn K (.type A) (.ref C) else none) = some b
  rw [if_pos e]
  exact h3
theorem exm_mk {K : PySem.W.Frag} {t : Value} {C : Addr} {b : Bool} (h0 : PySem.W.subIn K (.ref C) (.type "BaseException") = some true) (h1 : PySem.W.isClsIn K C = true) (h2 : PySem.W.typeIn K (.ref C) = some (.type "type")) (h3 : PySem.W.subIn K t (.ref C) = some b) : PySem.W.exmOne K t (.ref C) = some b := by
  have e : ((PySem.W.clsIn K C).isSome && PySem.W.typeIn K (.ref C) == some (.type "type")) = true := by
    have h1' : (PySem.W.clsIn K C).isSome = true := h1
    rw [h1', h2] <;> rfl
  have e0 : (PySem.W.subIn K (.ref C) (.type "BaseException") == some true) = true := by rw [h0] <;> rfl
  unfold PySem.W.exmOne
  rw [if_pos e0]
  show (if ((PySem.W.clsIn K C).isSome && PySem.W.typeIn K (.ref C) == some (.type "type")) = true then PySem.W.subIn K t (.ref C) else none) = some b
  rw [if_pos e]
  exact h3
theorem ve_one {C : Addr} : PySem.HandSPX.refsVE [.ref C, .type "ValueError", .type "Exception", .type "BaseException", .type "object"] = true := by
  show PySem.HandSPX.refsVE [.type "ValueError", .type "Exception", .type "BaseException", .type "object"] = true
  decide +kernel
theorem all_mk {P : Program} {w : World} {K : PySem.W.Frag} {h : Heap} {mg : Str → Option Value} {fa : Addr} (X : K.In h) (G : h.Ns mainGlobals mg) (hfa : mg "law" = some (.ref fa))
    {oc_is_name kV_is_name dc_is_name pm_is_name cd_is_name ct_is_name oc_is_sequence kV_is_sequence dc_is_sequence pm_is_sequence cd_is_sequence ct_is_sequence oc_are_names kV_are_names dc_are_names pm_are_names cd_are_names ct_are_names oc_are_some_names kV_are_some_names dc_are_some_names pm_are_some_names cd_are_some_names ct_are_some_names oc_is_name_or kV_is_name_or dc_is_name_or pm_is_name_or cd_is_name_or ct_is_name_or oc_InvalidRow_init kV_InvalidRow_init dc_InvalidRow_init pm_InvalidRow_init cd_InvalidRow_init ct_InvalidRow_init oc_Begin_init kV_Begin_init dc_Begin_init pm_Begin_init cd_Begin_init ct_Begin_init oc_Send_init kV_Send_init dc_Send_init pm_Send_init cd_Send_init ct_Send_init oc_Back_init kV_Back_init dc_Back_init pm_Back_init cd_Back_init ct_Back_init oc_End_init kV_End_init dc_End_init pm_End_init cd_End_init ct_End_init oc_ascending kV_ascending dc_ascending pm_ascending cd_ascending ct_ascending oc_are_rows kV_are_rows dc_are_rows pm_are_rows cd_are_rows ct_are_rows oc_InvalidService_init kV_InvalidService_init dc_InvalidService_init pm_InvalidService_init cd_InvalidService_init ct_InvalidService_init oc_Begin_str kV_Begin_str dc_Begin_str pm_Begin_str cd_Begin_str ct_Begin_str oc_Begin_eq kV_Begin_eq dc_Begin_eq pm_Begin_eq cd_Begin_eq ct_Begin_eq oc_Send_str kV_Send_str dc_Send_str pm_Send_str cd_Send_str ct_Send_str oc_Send_eq kV_Send_eq dc_Send_eq pm_Send_eq cd_Send_eq ct_Send_eq oc_Back_str kV_Back_str dc_Back_str pm_Back_str cd_Back_str ct_Back_str oc_Back_eq kV_Back_eq dc_Back_eq pm_Back_eq cd_Back_eq ct_Back_eq oc_End_str kV_End_str dc_End_str pm_End_str cd_End_str ct_End_str oc_End_eq kV_End_eq dc_End_eq pm_End_eq cd_End_eq ct_End_eq oc_Service_str kV_Service_str dc_Service_str pm_Service_str cd_Service_str ct_Service_str oc_Service_eq kV_Service_eq dc_Service_eq pm_Service_eq cd_Service_eq ct_Service_eq oc_fits kV_fits dc_fits pm_fits cd_fits ct_fits oc_Service_begin kV_Service_begin dc_Service_begin pm_Service_begin cd_Service_begin ct_Service_begin oc_Service_send kV_Service_send dc_Service_send pm_Service_send cd_Service_send ct_Service_send oc_Service_back kV_Service_back dc_Service_back pm_Service_back cd_Service_back ct_Service_back oc_Service_end kV_Service_end dc_Service_end pm_Service_end cd_Service_end ct_Service_end oc_take kV_take dc_take pm_take cd_take ct_take oc_box kV_box dc_box pm_box cd_box ct_box oc_pick kV_pick dc_pick pm_pick cd_pick ct_pick oc_law kV_law dc_law pm_law cd_law ct_law oc_Service_init kV_Service_init dc_Service_init pm_Service_init cd_Service_init ct_Service_init : Value}
    {od_is_name an_is_name od_is_sequence an_is_sequence od_are_names an_are_names od_are_some_names an_are_some_names od_is_name_or an_is_name_or od_InvalidRow_init an_InvalidRow_init od_Begin_init an_Begin_init od_Send_init an_Send_init od_Back_init an_Back_init od_End_init an_End_init od_ascending an_ascending od_are_rows an_are_rows od_InvalidService_init an_InvalidService_init od_Begin_str an_Begin_str od_Begin_eq an_Begin_eq od_Send_str an_Send_str od_Send_eq an_Send_eq od_Back_str an_Back_str od_Back_eq an_Back_eq od_End_str an_End_str od_End_eq an_End_eq od_Service_str an_Service_str od_Service_eq an_Service_eq od_fits an_fits od_Service_begin an_Service_begin od_Service_send an_Service_send od_Service_back an_Service_back od_Service_end an_Service_end od_take an_take od_box an_box od_pick an_pick od_law an_law dt_aNO dd_C_InvalidRow dd_C_InvalidService dt_e_waits dt_e_leaves dt_e_rows od_Service_init an_Service_init dtD_Service_init : Option Addr}
    {sl_is_name sl_is_sequence sl_are_names sl_are_some_names sl_is_name_or sl_InvalidRow_init sl_Begin_init sl_Send_init sl_Back_init sl_End_init sl_ascending sl_are_rows sl_InvalidService_init sl_Begin_str sl_Begin_eq sl_Send_str sl_Send_eq sl_Back_str sl_Back_eq sl_End_str sl_End_eq sl_Service_str sl_Service_eq sl_fits sl_Service_begin sl_Service_send sl_Service_back sl_Service_end sl_take sl_box sl_pick sl_law so_aNO so_e_waits so_e_leaves so_e_rows sl_Service_init soD_Service_init : Array (Option Value)}
    {letT w0_aNO w1_aNO w2_aNO w3_aNO w4_aNO w5_aNO w6_aNO w7_aNO w8_aNO w9_aNO : Tok}
    {aNO f_is_name f_is_sequence f_are_names f_are_some_names f_is_name_or C_InvalidRow N_C_InvalidRow bC_C_InvalidRow f_InvalidRow_init C_Begin f_Begin_init C_Send f_Send_init C_Back f_Back_init C_End f_End_init f_ascending f_are_rows C_Row C_InvalidService N_C_InvalidService bC_C_InvalidService f_InvalidService_init C_Service f_Service_init e_waits e_leaves e_rows dT_Service_init f_Begin_str f_Begin_eq f_Send_str f_Send_eq f_Back_str f_Back_eq f_End_str f_End_eq f_Service_str f_Service_eq f_fits f_Service_begin f_Service_send f_Service_back f_Service_end f_take f_box f_pick f_law : Addr}
    {sz_aNO sz_e_waits sz_e_leaves sz_e_rows szD_Service_init : Nat}
    {nm_C_InvalidRow qn_C_InvalidRow nm_C_InvalidService qn_C_InvalidService : Str}
    {bs_C_InvalidRow sb_C_InvalidRow bs_C_InvalidService sb_C_InvalidService : List Value}
    {sn_C_InvalidRow sn_C_InvalidService : List Str}
    {ab_C_InvalidRow ab_C_InvalidService : Bool}
    {co_C_InvalidRow co_C_InvalidService : Option Bool}
    {m0_C_InvalidRow m1_C_InvalidRow m2_C_InvalidRow m3_C_InvalidRow m5_C_InvalidRow m0_C_InvalidService m1_C_InvalidService m2_C_InvalidService m3_C_InvalidService m5_C_InvalidService : Option Value}
    (a_law : PySem.W.nsIn K mainGlobals "law" = some (some (.ref f_law)))
    (a_LETTERS : PySem.W.nsIn K mainGlobals "LETTERS" = some (some (.str ABC letT)))
    (a_NO_NAMES : PySem.W.nsIn K mainGlobals "NO_NAMES" = some (some (.ref aNO)))
    (a_is_name : PySem.W.nsIn K mainGlobals "is_name" = some (some (.ref f_is_name)))
    (a_is_sequence : PySem.W.nsIn K mainGlobals "is_sequence" = some (some (.ref f_is_sequence)))
    (a_are_names : PySem.W.nsIn K mainGlobals "are_names" = some (some (.ref f_are_names)))
    (a_are_some_names : PySem.W.nsIn K mainGlobals "are_some_names" = some (some (.ref f_are_some_names)))
    (a_is_name_or : PySem.W.nsIn K mainGlobals "is_name_or" = some (some (.ref f_is_name_or)))
    (a_InvalidRow : PySem.W.nsIn K mainGlobals "InvalidRow" = some (some (.ref C_InvalidRow)))
    (a_Begin : PySem.W.nsIn K mainGlobals "Begin" = some (some (.ref C_Begin)))
    (a_Send : PySem.W.nsIn K mainGlobals "Send" = some (some (.ref C_Send)))
    (a_Back : PySem.W.nsIn K mainGlobals "Back" = some (some (.ref C_Back)))
    (a_End : PySem.W.nsIn K mainGlobals "End" = some (some (.ref C_End)))
    (a_ascending : PySem.W.nsIn K mainGlobals "ascending" = some (some (.ref f_ascending)))
    (a_are_rows : PySem.W.nsIn K mainGlobals "are_rows" = some (some (.ref f_are_rows)))
    (a_Row : PySem.W.nsIn K mainGlobals "Row" = some (some (.ref C_Row)))
    (a_InvalidService : PySem.W.nsIn K mainGlobals "InvalidService" = some (some (.ref C_InvalidService)))
    (a_Service : PySem.W.nsIn K mainGlobals "Service" = some (some (.ref C_Service)))
    (a_fits : PySem.W.nsIn K mainGlobals "fits" = some (some (.ref f_fits)))
    (a__law_take : PySem.W.nsIn K mainGlobals "_law_take" = some (some (.ref f_take)))
    (a__law_box : PySem.W.nsIn K mainGlobals "_law_box" = some (some (.ref f_box)))
    (a__law_pick : PySem.W.nsIn K mainGlobals "_law_pick" = some (some (.ref f_pick)))
    (in_f_InvalidRow_init : PySem.W.findIn K (.ref C_InvalidRow) "__init__" = some (some (.ref f_InvalidRow_init)))
    (in_f_Begin_init : PySem.W.findIn K (.ref C_Begin) "__init__" = some (some (.ref f_Begin_init)))
    (in_f_Send_init : PySem.W.findIn K (.ref C_Send) "__init__" = some (some (.ref f_Send_init)))
    (in_f_Back_init : PySem.W.findIn K (.ref C_Back) "__init__" = some (some (.ref f_Back_init)))
    (in_f_End_init : PySem.W.findIn K (.ref C_End) "__init__" = some (some (.ref f_End_init)))
    (in_f_InvalidService_init : PySem.W.findIn K (.ref C_InvalidService) "__init__" = some (some (.ref f_InvalidService_init)))
    (in_f_Service_init : PySem.W.findIn K (.ref C_Service) "__init__" = some (some (.ref f_Service_init)))
    (q_si_Begin : PySem.W.findIn K (.ref C_Begin) "__str__" = some (some (.ref f_Begin_str)))
    (q_ei_Begin : PySem.W.findIn K (.ref C_Begin) "__eq__" = some (some (.ref f_Begin_eq)))
    (q_si_Send : PySem.W.findIn K (.ref C_Send) "__str__" = some (some (.ref f_Send_str)))
    (q_ei_Send : PySem.W.findIn K (.ref C_Send) "__eq__" = some (some (.ref f_Send_eq)))
    (q_si_Back : PySem.W.findIn K (.ref C_Back) "__str__" = some (some (.ref f_Back_str)))
    (q_ei_Back : PySem.W.findIn K (.ref C_Back) "__eq__" = some (some (.ref f_Back_eq)))
    (q_si_End : PySem.W.findIn K (.ref C_End) "__str__" = some (some (.ref f_End_str)))
    (q_ei_End : PySem.W.findIn K (.ref C_End) "__eq__" = some (some (.ref f_End_eq)))
    (q_si_Service : PySem.W.findIn K (.ref C_Service) "__str__" = some (some (.ref f_Service_str)))
    (q_ei_Service : PySem.W.findIn K (.ref C_Service) "__eq__" = some (some (.ref f_Service_eq)))
    (i_f_Service_begin : PySem.W.findIn K (.ref C_Service) "begin" = some (some (.ref f_Service_begin)))
    (i_f_Service_send : PySem.W.findIn K (.ref C_Service) "send" = some (some (.ref f_Service_send)))
    (i_f_Service_back : PySem.W.findIn K (.ref C_Service) "back" = some (some (.ref f_Service_back)))
    (i_f_Service_end : PySem.W.findIn K (.ref C_Service) "end" = some (some (.ref f_Service_end)))
    (l_is_name : K.lookup f_is_name = some ⟨oc_is_name, od_is_name, .func (PySem.W.fnOf "is_name" "is_name" (defArgs s_is_name) (defBody s_is_name) (defScope s_is_name) .none kV_is_name dc_is_name pm_is_name an_is_name cd_is_name ct_is_name), sl_is_name⟩)
    (l_is_sequence : K.lookup f_is_sequence = some ⟨oc_is_sequence, od_is_sequence, .func (PySem.W.fnOf "is_sequence" "is_sequence" (defArgs s_is_sequence) (defBody s_is_sequence) (defScope s_is_sequence) .none kV_is_sequence dc_is_sequence pm_is_sequence an_is_sequence cd_is_sequence ct_is_sequence), sl_is_sequence⟩)
    (l_are_names : K.lookup f_are_names = some ⟨oc_are_names, od_are_names, .func (PySem.W.fnOf "are_names" "are_names" (defArgs s_are_names) (defBody s_are_names) (defScope s_are_names) .none kV_are_names dc_are_names pm_are_names an_are_names cd_are_names ct_are_names), sl_are_names⟩)
    (l_are_some_names : K.lookup f_are_some_names = some ⟨oc_are_some_names, od_are_some_names, .func (PySem.W.fnOf "are_some_names" "are_some_names" (defArgs s_are_some_names) (defBody s_are_some_names) (defScope s_are_some_names) .none kV_are_some_names dc_are_some_names pm_are_some_names an_are_some_names cd_are_some_names ct_are_some_names), sl_are_some_names⟩)
    (l_is_name_or : K.lookup f_is_name_or = some ⟨oc_is_name_or, od_is_name_or, .func (PySem.W.fnOf "is_name_or" "is_name_or" (defArgs s_is_name_or) (defBody s_is_name_or) (defScope s_is_name_or) .none kV_is_name_or dc_is_name_or pm_is_name_or an_is_name_or cd_is_name_or ct_is_name_or), sl_is_name_or⟩)
    (l_InvalidRow_init : K.lookup f_InvalidRow_init = some ⟨oc_InvalidRow_init, od_InvalidRow_init, .func (PySem.W.fnOf "__init__" "InvalidRow.__init__" (defArgs s_InvalidRow_init) (defBody s_InvalidRow_init) (defScope s_InvalidRow_init) .none kV_InvalidRow_init dc_InvalidRow_init pm_InvalidRow_init an_InvalidRow_init cd_InvalidRow_init ct_InvalidRow_init), sl_InvalidRow_init⟩)
    (l_Begin_init : K.lookup f_Begin_init = some ⟨oc_Begin_init, od_Begin_init, .func (PySem.W.fnOf "__init__" "Begin.__init__" (defArgs s_Begin_init) (defBody s_Begin_init) (defScope s_Begin_init) .none kV_Begin_init dc_Begin_init pm_Begin_init an_Begin_init cd_Begin_init ct_Begin_init), sl_Begin_init⟩)
    (l_Send_init : K.lookup f_Send_init = some ⟨oc_Send_init, od_Send_init, .func (PySem.W.fnOf "__init__" "Send.__init__" (defArgs s_Send_init) (defBody s_Send_init) (defScope s_Send_init) .none kV_Send_init dc_Send_init pm_Send_init an_Send_init cd_Send_init ct_Send_init), sl_Send_init⟩)
    (l_Back_init : K.lookup f_Back_init = some ⟨oc_Back_init, od_Back_init, .func (PySem.W.fnOf "__init__" "Back.__init__" (defArgs s_Back_init) (defBody s_Back_init) (defScope s_Back_init) .none kV_Back_init dc_Back_init pm_Back_init an_Back_init cd_Back_init ct_Back_init), sl_Back_init⟩)
    (l_End_init : K.lookup f_End_init = some ⟨oc_End_init, od_End_init, .func (PySem.W.fnOf "__init__" "End.__init__" (defArgs s_End_init) (defBody s_End_init) (defScope s_End_init) .none kV_End_init dc_End_init pm_End_init an_End_init cd_End_init ct_End_init), sl_End_init⟩)
    (l_ascending : K.lookup f_ascending = some ⟨oc_ascending, od_ascending, .func (PySem.W.fnOf "ascending" "ascending" (defArgs s_ascending) (defBody s_ascending) (defScope s_ascending) .none kV_ascending dc_ascending pm_ascending an_ascending cd_ascending ct_ascending), sl_ascending⟩)
    (l_are_rows : K.lookup f_are_rows = some ⟨oc_are_rows, od_are_rows, .func (PySem.W.fnOf "are_rows" "are_rows" (defArgs s_are_rows) (defBody s_are_rows) (defScope s_are_rows) .none kV_are_rows dc_are_rows pm_are_rows an_are_rows cd_are_rows ct_are_rows), sl_are_rows⟩)
    (l_InvalidService_init : K.lookup f_InvalidService_init = some ⟨oc_InvalidService_init, od_InvalidService_init, .func (PySem.W.fnOf "__init__" "InvalidService.__init__" (defArgs s_InvalidService_init) (defBody s_InvalidService_init) (defScope s_InvalidService_init) .none kV_InvalidService_init dc_InvalidService_init pm_InvalidService_init an_InvalidService_init cd_InvalidService_init ct_InvalidService_init), sl_InvalidService_init⟩)
    (l_Begin_str : K.lookup f_Begin_str = some ⟨oc_Begin_str, od_Begin_str, .func (PySem.W.fnOf "__str__" "Begin.__str__" (defArgs s_Begin_str) (defBody s_Begin_str) (defScope s_Begin_str) .none kV_Begin_str dc_Begin_str pm_Begin_str an_Begin_str cd_Begin_str ct_Begin_str), sl_Begin_str⟩)
    (l_Begin_eq : K.lookup f_Begin_eq = some ⟨oc_Begin_eq, od_Begin_eq, .func (PySem.W.fnOf "__eq__" "Begin.__eq__" (defArgs s_Begin_eq) (defBody s_Begin_eq) (defScope s_Begin_eq) .none kV_Begin_eq dc_Begin_eq pm_Begin_eq an_Begin_eq cd_Begin_eq ct_Begin_eq), sl_Begin_eq⟩)
    (l_Send_str : K.lookup f_Send_str = some ⟨oc_Send_str, od_Send_str, .func (PySem.W.fnOf "__str__" "Send.__str__" (defArgs s_Send_str) (defBody s_Send_str) (defScope s_Send_str) .none kV_Send_str dc_Send_str pm_Send_str an_Send_str cd_Send_str ct_Send_str), sl_Send_str⟩)
    (l_Send_eq : K.lookup f_Send_eq = some ⟨oc_Send_eq, od_Send_eq, .func (PySem.W.fnOf "__eq__" "Send.__eq__" (defArgs s_Send_eq) (defBody s_Send_eq) (defScope s_Send_eq) .none kV_Send_eq dc_Send_eq pm_Send_eq an_Send_eq cd_Send_eq ct_Send_eq), sl_Send_eq⟩)
    (l_Back_str : K.lookup f_Back_str = some ⟨oc_Back_str, od_Back_str, .func (PySem.W.fnOf "__str__" "Back.__str__" (defArgs s_Back_str) (defBody s_Back_str) (defScope s_Back_str) .none kV_Back_str dc_Back_str pm_Back_str an_Back_str cd_Back_str ct_Back_str), sl_Back_str⟩)
    (l_Back_eq : K.lookup f_Back_eq = some ⟨oc_Back_eq, od_Back_eq, .func (PySem.W.fnOf "__eq__" "Back.__eq__" (defArgs s_Back_eq) (defBody s_Back_eq) (defScope s_Back_eq) .none kV_Back_eq dc_Back_eq pm_Back_eq an_Back_eq cd_Back_eq ct_Back_eq), sl_Back_eq⟩)
    (l_End_str : K.lookup f_End_str = some ⟨oc_End_str, od_End_str, .func (PySem.W.fnOf "__str__" "End.__str__" (defArgs s_End_str) (defBody s_End_str) (defScope s_End_str) .none kV_End_str dc_End_str pm_End_str an_End_str cd_End_str ct_End_str), sl_End_str⟩)
    (l_End_eq : K.lookup f_End_eq = some ⟨oc_End_eq, od_End_eq, .func (PySem.W.fnOf "__eq__" "End.__eq__" (defArgs s_End_eq) (defBody s_End_eq) (defScope s_End_eq) .none kV_End_eq dc_End_eq pm_End_eq an_End_eq cd_End_eq ct_End_eq), sl_End_eq⟩)
    (l_Service_str : K.lookup f_Service_str = some ⟨oc_Service_str, od_Service_str, .func (PySem.W.fnOf "__str__" "Service.__str__" (defArgs s_Service_str) (defBody s_Service_str) (defScope s_Service_str) .none kV_Service_str dc_Service_str pm_Service_str an_Service_str cd_Service_str ct_Service_str), sl_Service_str⟩)
    (l_Service_eq : K.lookup f_Service_eq = some ⟨oc_Service_eq, od_Service_eq, .func (PySem.W.fnOf "__eq__" "Service.__eq__" (defArgs s_Service_eq) (defBody s_Service_eq) (defScope s_Service_eq) .none kV_Service_eq dc_Service_eq pm_Service_eq an_Service_eq cd_Service_eq ct_Service_eq), sl_Service_eq⟩)
    (l_fits : K.lookup f_fits = some ⟨oc_fits, od_fits, .func (PySem.W.fnOf "fits" "fits" (defArgs s_fits) (defBody s_fits) (defScope s_fits) .none kV_fits dc_fits pm_fits an_fits cd_fits ct_fits), sl_fits⟩)
    (l_Service_begin : K.lookup f_Service_begin = some ⟨oc_Service_begin, od_Service_begin, .func (PySem.W.fnOf "begin" "Service.begin" (defArgs s_Service_begin) (defBody s_Service_begin) (defScope s_Service_begin) .none kV_Service_begin dc_Service_begin pm_Service_begin an_Service_begin cd_Service_begin ct_Service_begin), sl_Service_begin⟩)
    (l_Service_send : K.lookup f_Service_send = some ⟨oc_Service_send, od_Service_send, .func (PySem.W.fnOf "send" "Service.send" (defArgs s_Service_send) (defBody s_Service_send) (defScope s_Service_send) .none kV_Service_send dc_Service_send pm_Service_send an_Service_send cd_Service_send ct_Service_send), sl_Service_send⟩)
    (l_Service_back : K.lookup f_Service_back = some ⟨oc_Service_back, od_Service_back, .func (PySem.W.fnOf "back" "Service.back" (defArgs s_Service_back) (defBody s_Service_back) (defScope s_Service_back) .none kV_Service_back dc_Service_back pm_Service_back an_Service_back cd_Service_back ct_Service_back), sl_Service_back⟩)
    (l_Service_end : K.lookup f_Service_end = some ⟨oc_Service_end, od_Service_end, .func (PySem.W.fnOf "end" "Service.end" (defArgs s_Service_end) (defBody s_Service_end) (defScope s_Service_end) .none kV_Service_end dc_Service_end pm_Service_end an_Service_end cd_Service_end ct_Service_end), sl_Service_end⟩)
    (l_take : K.lookup f_take = some ⟨oc_take, od_take, .func (PySem.W.fnOf "_law_take" "_law_take" (defArgs s_take) (defBody s_take) (defScope s_take) .none kV_take dc_take pm_take an_take cd_take ct_take), sl_take⟩)
    (l_box : K.lookup f_box = some ⟨oc_box, od_box, .func (PySem.W.fnOf "_law_box" "_law_box" (defArgs s_box) (defBody s_box) (defScope s_box) .none kV_box dc_box pm_box an_box cd_box ct_box), sl_box⟩)
    (l_pick : K.lookup f_pick = some ⟨oc_pick, od_pick, .func (PySem.W.fnOf "_law_pick" "_law_pick" (defArgs s_pick) (defBody s_pick) (defScope s_pick) .none kV_pick dc_pick pm_pick an_pick cd_pick ct_pick), sl_pick⟩)
    (l_law : K.lookup f_law = some ⟨oc_law, od_law, .func (PySem.W.fnOf "law" "law" (defArgs s_law) (defBody s_law) (defScope s_law) .none kV_law dc_law pm_law an_law cd_law ct_law), sl_law⟩)
    (l_aNO : K.lookup aNO = some ⟨.type "tuple", dt_aNO, .seq #[.str "none" w0_aNO, .str "any" w1_aNO, .str "same" w2_aNO, .str "keep" w3_aNO, .str "drop" w4_aNO, .str "good" w5_aNO, .str "bad" w6_aNO, .str "old" w7_aNO, .str "new" w8_aNO, .str "both" w9_aNO] sz_aNO, so_aNO⟩)
    (xL_C_InvalidRow : K.lookup C_InvalidRow = some (excClassObj nm_C_InvalidRow qn_C_InvalidRow C_InvalidRow N_C_InvalidRow bs_C_InvalidRow [.ref bC_C_InvalidRow, .type "ValueError", .type "Exception", .type "BaseException", .type "object"] true sn_C_InvalidRow sb_C_InvalidRow ab_C_InvalidRow co_C_InvalidRow dd_C_InvalidRow m0_C_InvalidRow m1_C_InvalidRow m2_C_InvalidRow m3_C_InvalidRow m5_C_InvalidRow "ValueError.__new__"))
    (xL_C_InvalidService : K.lookup C_InvalidService = some (excClassObj nm_C_InvalidService qn_C_InvalidService C_InvalidService N_C_InvalidService bs_C_InvalidService [.ref bC_C_InvalidService, .type "ValueError", .type "Exception", .type "BaseException", .type "object"] true sn_C_InvalidService sb_C_InvalidService ab_C_InvalidService co_C_InvalidService dd_C_InvalidService m0_C_InvalidService m1_C_InvalidService m2_C_InvalidService m3_C_InvalidService m5_C_InvalidService "ValueError.__new__"))
    (l_Service_init : K.lookup f_Service_init = some ⟨oc_Service_init, od_Service_init, .func (PySem.W.fnOf "__init__" "Service.__init__" (defArgs s_Service_init) (defBody s_Service_init) (defScope s_Service_init) (.ref dT_Service_init) kV_Service_init dc_Service_init pm_Service_init an_Service_init cd_Service_init ct_Service_init), sl_Service_init⟩)
    (dl_Service_init : K.lookup dT_Service_init = some ⟨.type "tuple", dtD_Service_init, .seq #[.ref e_waits, .ref e_leaves, .ref e_rows] szD_Service_init, soD_Service_init⟩)
    (l_e_waits : K.lookup e_waits = some ⟨.type "tuple", dt_e_waits, .seq #[] sz_e_waits, so_e_waits⟩)
    (l_e_leaves : K.lookup e_leaves = some ⟨.type "tuple", dt_e_leaves, .seq #[] sz_e_leaves, so_e_leaves⟩)
    (l_e_rows : K.lookup e_rows = some ⟨.type "tuple", dt_e_rows, .seq #[] sz_e_rows, so_e_rows⟩)
    (cc_is_name : PySem.W.codeIn K cd_is_name "is_name" = true)
    (k_is_name : PySem.W.keepIn K (.ref f_is_name) = true)
    (cc_is_sequence : PySem.W.codeIn K cd_is_sequence "is_sequence" = true)
    (k_is_sequence : PySem.W.keepIn K (.ref f_is_sequence) = true)
    (cc_are_names : PySem.W.codeIn K cd_are_names "are_names" = true)
    (k_are_names : PySem.W.keepIn K (.ref f_are_names) = true)
    (cc_are_some_names : PySem.W.codeIn K cd_are_some_names "are_some_names" = true)
    (k_are_some_names : PySem.W.keepIn K (.ref f_are_some_names) = true)
    (cc_is_name_or : PySem.W.codeIn K cd_is_name_or "is_name_or" = true)
    (k_is_name_or : PySem.W.keepIn K (.ref f_is_name_or) = true)
    (cc_InvalidRow_init : PySem.W.codeIn K cd_InvalidRow_init "InvalidRow.__init__" = true)
    (k_InvalidRow_init : PySem.W.keepIn K (.ref f_InvalidRow_init) = true)
    (cc_Begin_init : PySem.W.codeIn K cd_Begin_init "Begin.__init__" = true)
    (k_Begin_init : PySem.W.keepIn K (.ref f_Begin_init) = true)
    (cc_Send_init : PySem.W.codeIn K cd_Send_init "Send.__init__" = true)
    (k_Send_init : PySem.W.keepIn K (.ref f_Send_init) = true)
    (cc_Back_init : PySem.W.codeIn K cd_Back_init "Back.__init__" = true)
    (k_Back_init : PySem.W.keepIn K (.ref f_Back_init) = true)
    (cc_End_init : PySem.W.codeIn K cd_End_init "End.__init__" = true)
    (k_End_init : PySem.W.keepIn K (.ref f_End_init) = true)
    (cc_ascending : PySem.W.codeIn K cd_ascending "ascending" = true)
    (k_ascending : PySem.W.keepIn K (.ref f_ascending) = true)
    (cc_are_rows : PySem.W.codeIn K cd_are_rows "are_rows" = true)
    (k_are_rows : PySem.W.keepIn K (.ref f_are_rows) = true)
    (cc_InvalidService_init : PySem.W.codeIn K cd_InvalidService_init "InvalidService.__init__" = true)
    (k_InvalidService_init : PySem.W.keepIn K (.ref f_InvalidService_init) = true)
    (cc_Begin_str : PySem.W.codeIn K cd_Begin_str "Begin.__str__" = true)
    (k_Begin_str : PySem.W.keepIn K (.ref f_Begin_str) = true)
    (cc_Begin_eq : PySem.W.codeIn K cd_Begin_eq "Begin.__eq__" = true)
    (k_Begin_eq : PySem.W.keepIn K (.ref f_Begin_eq) = true)
    (cc_Send_str : PySem.W.codeIn K cd_Send_str "Send.__str__" = true)
    (k_Send_str : PySem.W.keepIn K (.ref f_Send_str) = true)
    (cc_Send_eq : PySem.W.codeIn K cd_Send_eq "Send.__eq__" = true)
    (k_Send_eq : PySem.W.keepIn K (.ref f_Send_eq) = true)
    (cc_Back_str : PySem.W.codeIn K cd_Back_str "Back.__str__" = true)
    (k_Back_str : PySem.W.keepIn K (.ref f_Back_str) = true)
    (cc_Back_eq : PySem.W.codeIn K cd_Back_eq "Back.__eq__" = true)
    (k_Back_eq : PySem.W.keepIn K (.ref f_Back_eq) = true)
    (cc_End_str : PySem.W.codeIn K cd_End_str "End.__str__" = true)
    (k_End_str : PySem.W.keepIn K (.ref f_End_str) = true)
    (cc_End_eq : PySem.W.codeIn K cd_End_eq "End.__eq__" = true)
    (k_End_eq : PySem.W.keepIn K (.ref f_End_eq) = true)
    (cc_Service_str : PySem.W.codeIn K cd_Service_str "Service.__str__" = true)
    (k_Service_str : PySem.W.keepIn K (.ref f_Service_str) = true)
    (cc_Service_eq : PySem.W.codeIn K cd_Service_eq "Service.__eq__" = true)
    (k_Service_eq : PySem.W.keepIn K (.ref f_Service_eq) = true)
    (cc_fits : PySem.W.codeIn K cd_fits "fits" = true)
    (k_fits : PySem.W.keepIn K (.ref f_fits) = true)
    (cc_Service_begin : PySem.W.codeIn K cd_Service_begin "Service.begin" = true)
    (k_Service_begin : PySem.W.keepIn K (.ref f_Service_begin) = true)
    (cc_Service_send : PySem.W.codeIn K cd_Service_send "Service.send" = true)
    (k_Service_send : PySem.W.keepIn K (.ref f_Service_send) = true)
    (cc_Service_back : PySem.W.codeIn K cd_Service_back "Service.back" = true)
    (k_Service_back : PySem.W.keepIn K (.ref f_Service_back) = true)
    (cc_Service_end : PySem.W.codeIn K cd_Service_end "Service.end" = true)
    (k_Service_end : PySem.W.keepIn K (.ref f_Service_end) = true)
    (cc_take : PySem.W.codeIn K cd_take "_law_take" = true)
    (k_take : PySem.W.keepIn K (.ref f_take) = true)
    (cc_box : PySem.W.codeIn K cd_box "_law_box" = true)
    (k_box : PySem.W.keepIn K (.ref f_box) = true)
    (cc_pick : PySem.W.codeIn K cd_pick "_law_pick" = true)
    (k_pick : PySem.W.keepIn K (.ref f_pick) = true)
    (cc_law : PySem.W.codeIn K cd_law "law" = true)
    (k_law : PySem.W.keepIn K (.ref f_law) = true)
    (z_len : PySem.W.nsIn K mainGlobals "len" = some none)
    (z_isinstance : PySem.W.nsIn K mainGlobals "isinstance" = some none)
    (z_str : PySem.W.nsIn K mainGlobals "str" = some none)
    (z_all : PySem.W.nsIn K mainGlobals "all" = some none)
    (z_list : PySem.W.nsIn K mainGlobals "list" = some none)
    (z_tuple : PySem.W.nsIn K mainGlobals "tuple" = some none)
    (z_set : PySem.W.nsIn K mainGlobals "set" = some none)
    (sa_C_InvalidRow : PySem.W.findIn K (.ref C_InvalidRow) "__setattr__" = some (some (.builtin "object.__setattr__")))
    (eb_C_InvalidRow : PySem.W.subIn K (.ref C_InvalidRow) (.type "BaseException") = some true)
    (tyC_C_InvalidRow : PySem.W.typeIn K (.ref C_InvalidRow) = some (.type "type"))
    (kc_C_InvalidRow : PySem.W.keepIn K (.ref C_InvalidRow) = true)
    (q_nwRow : PySem.W.findIn K (.ref C_InvalidRow) "word" = some none)
    (q_tRow : PySem.W.typeIn K (.ref f_InvalidRow_init) = some (.type "function"))
    (pg_C_Begin : PySem.W.plainGet K C_Begin Str.empty = true)
    (hd_C_Begin : PySem.W.hasDictIn K C_Begin = true)
    (po_C_Begin : PySem.W.plainOver K C_Begin = true)
    (sa_C_Begin : PySem.W.findIn K (.ref C_Begin) "__setattr__" = some (some (.builtin "object.__setattr__")))
    (mk_C_Begin : PySem.W.makesIn K C_Begin = true)
    (fi_f_Begin_init : PySem.W.isFn K (.ref f_Begin_init) = true)
    (kc_C_Begin : PySem.W.keepIn K (.ref C_Begin) = true)
    (n_C_Begin_mark : PySem.W.findIn K (.ref C_Begin) "mark" = some none)
    (n_C_Begin_kind : PySem.W.findIn K (.ref C_Begin) "kind" = some none)
    (n_C_Begin_mood : PySem.W.findIn K (.ref C_Begin) "mood" = some none)
    (pg_C_Send : PySem.W.plainGet K C_Send Str.empty = true)
    (hd_C_Send : PySem.W.hasDictIn K C_Send = true)
    (po_C_Send : PySem.W.plainOver K C_Send = true)
    (sa_C_Send : PySem.W.findIn K (.ref C_Send) "__setattr__" = some (some (.builtin "object.__setattr__")))
    (mk_C_Send : PySem.W.makesIn K C_Send = true)
    (fi_f_Send_init : PySem.W.isFn K (.ref f_Send_init) = true)
    (kc_C_Send : PySem.W.keepIn K (.ref C_Send) = true)
    (n_C_Send_mood : PySem.W.findIn K (.ref C_Send) "mood" = some none)
    (n_C_Send_service : PySem.W.findIn K (.ref C_Send) "service" = some none)
    (n_C_Send_mark : PySem.W.findIn K (.ref C_Send) "mark" = some none)
    (pg_C_Back : PySem.W.plainGet K C_Back Str.empty = true)
    (hd_C_Back : PySem.W.hasDictIn K C_Back = true)
    (po_C_Back : PySem.W.plainOver K C_Back = true)
    (sa_C_Back : PySem.W.findIn K (.ref C_Back) "__setattr__" = some (some (.builtin "object.__setattr__")))
    (mk_C_Back : PySem.W.makesIn K C_Back = true)
    (fi_f_Back_init : PySem.W.isFn K (.ref f_Back_init) = true)
    (kc_C_Back : PySem.W.keepIn K (.ref C_Back) = true)
    (n_C_Back_mood : PySem.W.findIn K (.ref C_Back) "mood" = some none)
    (n_C_Back_service : PySem.W.findIn K (.ref C_Back) "service" = some none)
    (n_C_Back_sign : PySem.W.findIn K (.ref C_Back) "sign" = some none)
    (n_C_Back_then : PySem.W.findIn K (.ref C_Back) "then" = some none)
    (pg_C_End : PySem.W.plainGet K C_End Str.empty = true)
    (hd_C_End : PySem.W.hasDictIn K C_End = true)
    (po_C_End : PySem.W.plainOver K C_End = true)
    (sa_C_End : PySem.W.findIn K (.ref C_End) "__setattr__" = some (some (.builtin "object.__setattr__")))
    (mk_C_End : PySem.W.makesIn K C_End = true)
    (fi_f_End_init : PySem.W.isFn K (.ref f_End_init) = true)
    (kc_C_End : PySem.W.keepIn K (.ref C_End) = true)
    (n_C_End_mood : PySem.W.findIn K (.ref C_End) "mood" = some none)
    (n_C_End_outcome : PySem.W.findIn K (.ref C_End) "outcome" = some none)
    (n_C_End_sign : PySem.W.findIn K (.ref C_End) "sign" = some none)
    (n_C_End_part : PySem.W.findIn K (.ref C_End) "part" = some none)
    (z_sorted : PySem.W.nsIn K mainGlobals "sorted" = some none)
    (ca_C_Begin : PySem.W.findIn K (.ref C_Begin) "__class__" = some (some (.builtin "object.__class__")))
    (cg_ : PySem.W.specialIn K (.builtin "object.__class__") "__get__" = some (some (.builtin "getset_descriptor.__get__")))
    (ck_ : PySem.W.takesIn K (.builtin "object.__class__") = some true)
    (cm_C_Begin : PySem.W.mroIn K C_Begin (.type "object") = some true)
    (ca_C_Send : PySem.W.findIn K (.ref C_Send) "__class__" = some (some (.builtin "object.__class__")))
    (cm_C_Send : PySem.W.mroIn K C_Send (.type "object") = some true)
    (ca_C_Back : PySem.W.findIn K (.ref C_Back) "__class__" = some (some (.builtin "object.__class__")))
    (cm_C_Back : PySem.W.mroIn K C_Back (.type "object") = some true)
    (ca_C_End : PySem.W.findIn K (.ref C_End) "__class__" = some (some (.builtin "object.__class__")))
    (cm_C_End : PySem.W.mroIn K C_End (.type "object") = some true)
    (isC_C_Row : PySem.W.isClsIn K C_Row = true)
    (tyC_C_Row : PySem.W.typeIn K (.ref C_Row) = some (.type "type"))
    (sub_C_Begin_C_Row : PySem.W.subIn K (.ref C_Begin) (.ref C_Row) = some true)
    (sub_C_Send_C_Row : PySem.W.subIn K (.ref C_Send) (.ref C_Row) = some true)
    (sub_C_Back_C_Row : PySem.W.subIn K (.ref C_Back) (.ref C_Row) = some true)
    (sub_C_End_C_Row : PySem.W.subIn K (.ref C_End) (.ref C_Row) = some true)
    (isC_C_Back : PySem.W.isClsIn K C_Back = true)
    (tyC_C_Back : PySem.W.typeIn K (.ref C_Back) = some (.type "type"))
    (sub_C_Begin_C_Back : PySem.W.subIn K (.ref C_Begin) (.ref C_Back) = some false)
    (ne_C_Begin_C_Back : C_Begin ≠ C_Back)
    (sub_C_Send_C_Back : PySem.W.subIn K (.ref C_Send) (.ref C_Back) = some false)
    (ne_C_Send_C_Back : C_Send ≠ C_Back)
    (sub_C_Back_C_Back : PySem.W.subIn K (.ref C_Back) (.ref C_Back) = some true)
    (sub_C_End_C_Back : PySem.W.subIn K (.ref C_End) (.ref C_Back) = some false)
    (ne_C_End_C_Back : C_End ≠ C_Back)
    (sa_C_InvalidService : PySem.W.findIn K (.ref C_InvalidService) "__setattr__" = some (some (.builtin "object.__setattr__")))
    (eb_C_InvalidService : PySem.W.subIn K (.ref C_InvalidService) (.type "BaseException") = some true)
    (tyC_C_InvalidService : PySem.W.typeIn K (.ref C_InvalidService) = some (.type "type"))
    (kc_C_InvalidService : PySem.W.keepIn K (.ref C_InvalidService) = true)
    (q_nwSvc : PySem.W.findIn K (.ref C_InvalidService) "word" = some none)
    (q_tSvc : PySem.W.typeIn K (.ref f_InvalidService_init) = some (.type "function"))
    (pg_C_Service : PySem.W.plainGet K C_Service Str.empty = true)
    (hd_C_Service : PySem.W.hasDictIn K C_Service = true)
    (po_C_Service : PySem.W.plainOver K C_Service = true)
    (sa_C_Service : PySem.W.findIn K (.ref C_Service) "__setattr__" = some (some (.builtin "object.__setattr__")))
    (mk_C_Service : PySem.W.makesIn K C_Service = true)
    (fi_f_Service_init : PySem.W.isFn K (.ref f_Service_init) = true)
    (kc_C_Service : PySem.W.keepIn K (.ref C_Service) = true)
    (cc_Service_init : PySem.W.codeIn K cd_Service_init "Service.__init__" = true)
    (k_Service_init : PySem.W.keepIn K (.ref f_Service_init) = true)
    (n_C_Service_name : PySem.W.findIn K (.ref C_Service) "name" = some none)
    (n_C_Service_kinds : PySem.W.findIn K (.ref C_Service) "kinds" = some none)
    (n_C_Service_waits : PySem.W.findIn K (.ref C_Service) "waits" = some none)
    (n_C_Service_leaves : PySem.W.findIn K (.ref C_Service) "leaves" = some none)
    (n_C_Service_rows : PySem.W.findIn K (.ref C_Service) "rows" = some none)
    (n_C_Service_moods : PySem.W.findIn K (.ref C_Service) "moods" = some none)
    (q_sf_Begin : PySem.W.isFn K (.ref f_Begin_str) = true)
    (q_ef_Begin : PySem.W.isFn K (.ref f_Begin_eq) = true)
    (q_en_Begin : PySem.W.findIn K (.ref C_Begin) "__ne__" = some (some (.builtin "object.__ne__")))
    (q_eo_Begin : PySem.W.subIn K (.ref C_Begin) (.type "object") = some true)
    (isC_C_Begin : PySem.W.isClsIn K C_Begin = true)
    (tyC_C_Begin : PySem.W.typeIn K (.ref C_Begin) = some (.type "type"))
    (sub_Tstr_C_Begin : PySem.W.subIn K (.type "str") (.ref C_Begin) = some false)
    (sub_Ttuple_C_Begin : PySem.W.subIn K (.type "tuple") (.ref C_Begin) = some false)
    (q_ns_Begin : PySem.W.notFirst K C_Begin (.type "str") = true)
    (q_nt_Begin : PySem.W.notFirst K C_Begin (.type "tuple") = true)
    (q_sf_Send : PySem.W.isFn K (.ref f_Send_str) = true)
    (q_ef_Send : PySem.W.isFn K (.ref f_Send_eq) = true)
    (q_en_Send : PySem.W.findIn K (.ref C_Send) "__ne__" = some (some (.builtin "object.__ne__")))
    (q_eo_Send : PySem.W.subIn K (.ref C_Send) (.type "object") = some true)
    (isC_C_Send : PySem.W.isClsIn K C_Send = true)
    (tyC_C_Send : PySem.W.typeIn K (.ref C_Send) = some (.type "type"))
    (sub_Tstr_C_Send : PySem.W.subIn K (.type "str") (.ref C_Send) = some false)
    (sub_Ttuple_C_Send : PySem.W.subIn K (.type "tuple") (.ref C_Send) = some false)
    (q_ns_Send : PySem.W.notFirst K C_Send (.type "str") = true)
    (q_nt_Send : PySem.W.notFirst K C_Send (.type "tuple") = true)
    (q_sf_Back : PySem.W.isFn K (.ref f_Back_str) = true)
    (q_ef_Back : PySem.W.isFn K (.ref f_Back_eq) = true)
    (q_en_Back : PySem.W.findIn K (.ref C_Back) "__ne__" = some (some (.builtin "object.__ne__")))
    (q_eo_Back : PySem.W.subIn K (.ref C_Back) (.type "object") = some true)
    (sub_Tstr_C_Back : PySem.W.subIn K (.type "str") (.ref C_Back) = some false)
    (sub_Ttuple_C_Back : PySem.W.subIn K (.type "tuple") (.ref C_Back) = some false)
    (q_ns_Back : PySem.W.notFirst K C_Back (.type "str") = true)
    (q_nt_Back : PySem.W.notFirst K C_Back (.type "tuple") = true)
    (q_sf_End : PySem.W.isFn K (.ref f_End_str) = true)
    (q_ef_End : PySem.W.isFn K (.ref f_End_eq) = true)
    (q_en_End : PySem.W.findIn K (.ref C_End) "__ne__" = some (some (.builtin "object.__ne__")))
    (q_eo_End : PySem.W.subIn K (.ref C_End) (.type "object") = some true)
    (isC_C_End : PySem.W.isClsIn K C_End = true)
    (tyC_C_End : PySem.W.typeIn K (.ref C_End) = some (.type "type"))
    (sub_Tstr_C_End : PySem.W.subIn K (.type "str") (.ref C_End) = some false)
    (sub_Ttuple_C_End : PySem.W.subIn K (.type "tuple") (.ref C_End) = some false)
    (q_ns_End : PySem.W.notFirst K C_End (.type "str") = true)
    (q_nt_End : PySem.W.notFirst K C_End (.type "tuple") = true)
    (sub_C_Begin_C_Begin : PySem.W.subIn K (.ref C_Begin) (.ref C_Begin) = some true)
    (q_nf_Begin_Begin : PySem.W.notFirst K C_Begin (.ref C_Begin) = true)
    (sub_C_Begin_C_Send : PySem.W.subIn K (.ref C_Begin) (.ref C_Send) = some false)
    (ne_C_Begin_C_Send : C_Begin ≠ C_Send)
    (q_nf_Begin_Send : PySem.W.notFirst K C_Begin (.ref C_Send) = true)
    (q_nf_Begin_Back : PySem.W.notFirst K C_Begin (.ref C_Back) = true)
    (sub_C_Begin_C_End : PySem.W.subIn K (.ref C_Begin) (.ref C_End) = some false)
    (ne_C_Begin_C_End : C_Begin ≠ C_End)
    (q_nf_Begin_End : PySem.W.notFirst K C_Begin (.ref C_End) = true)
    (sub_C_Send_C_Begin : PySem.W.subIn K (.ref C_Send) (.ref C_Begin) = some false)
    (ne_C_Send_C_Begin : C_Send ≠ C_Begin)
    (q_nf_Send_Begin : PySem.W.notFirst K C_Send (.ref C_Begin) = true)
    (sub_C_Send_C_Send : PySem.W.subIn K (.ref C_Send) (.ref C_Send) = some true)
    (q_nf_Send_Send : PySem.W.notFirst K C_Send (.ref C_Send) = true)
    (q_nf_Send_Back : PySem.W.notFirst K C_Send (.ref C_Back) = true)
    (sub_C_Send_C_End : PySem.W.subIn K (.ref C_Send) (.ref C_End) = some false)
    (ne_C_Send_C_End : C_Send ≠ C_End)
    (q_nf_Send_End : PySem.W.notFirst K C_Send (.ref C_End) = true)
    (sub_C_Back_C_Begin : PySem.W.subIn K (.ref C_Back) (.ref C_Begin) = some false)
    (ne_C_Back_C_Begin : C_Back ≠ C_Begin)
    (q_nf_Back_Begin : PySem.W.notFirst K C_Back (.ref C_Begin) = true)
    (sub_C_Back_C_Send : PySem.W.subIn K (.ref C_Back) (.ref C_Send) = some false)
    (ne_C_Back_C_Send : C_Back ≠ C_Send)
    (q_nf_Back_Send : PySem.W.notFirst K C_Back (.ref C_Send) = true)
    (q_nf_Back_Back : PySem.W.notFirst K C_Back (.ref C_Back) = true)
    (sub_C_Back_C_End : PySem.W.subIn K (.ref C_Back) (.ref C_End) = some false)
    (ne_C_Back_C_End : C_Back ≠ C_End)
    (q_nf_Back_End : PySem.W.notFirst K C_Back (.ref C_End) = true)
    (sub_C_End_C_Begin : PySem.W.subIn K (.ref C_End) (.ref C_Begin) = some false)
    (ne_C_End_C_Begin : C_End ≠ C_Begin)
    (q_nf_End_Begin : PySem.W.notFirst K C_End (.ref C_Begin) = true)
    (sub_C_End_C_Send : PySem.W.subIn K (.ref C_End) (.ref C_Send) = some false)
    (ne_C_End_C_Send : C_End ≠ C_Send)
    (q_nf_End_Send : PySem.W.notFirst K C_End (.ref C_Send) = true)
    (q_nf_End_Back : PySem.W.notFirst K C_End (.ref C_Back) = true)
    (sub_C_End_C_End : PySem.W.subIn K (.ref C_End) (.ref C_End) = some true)
    (q_nf_End_End : PySem.W.notFirst K C_End (.ref C_End) = true)
    (q_sf_Service : PySem.W.isFn K (.ref f_Service_str) = true)
    (q_ef_Service : PySem.W.isFn K (.ref f_Service_eq) = true)
    (q_en_Service : PySem.W.findIn K (.ref C_Service) "__ne__" = some (some (.builtin "object.__ne__")))
    (q_eo_Service : PySem.W.subIn K (.ref C_Service) (.type "object") = some true)
    (ca_C_Service : PySem.W.findIn K (.ref C_Service) "__class__" = some (some (.builtin "object.__class__")))
    (cm_C_Service : PySem.W.mroIn K C_Service (.type "object") = some true)
    (isC_C_Service : PySem.W.isClsIn K C_Service = true)
    (tyC_C_Service : PySem.W.typeIn K (.ref C_Service) = some (.type "type"))
    (sub_C_Service_C_Service : PySem.W.subIn K (.ref C_Service) (.ref C_Service) = some true)
    (q_nf_Service : PySem.W.notFirst K C_Service (.ref C_Service) = true)
    (fi_f_Service_begin : PySem.W.isFn K (.ref f_Service_begin) = true)
    (kf_f_Service_begin : PySem.W.keepIn K (.ref f_Service_begin) = true)
    (fi_f_Service_send : PySem.W.isFn K (.ref f_Service_send) = true)
    (kf_f_Service_send : PySem.W.keepIn K (.ref f_Service_send) = true)
    (fi_f_Service_back : PySem.W.isFn K (.ref f_Service_back) = true)
    (kf_f_Service_back : PySem.W.keepIn K (.ref f_Service_back) = true)
    (fi_f_Service_end : PySem.W.isFn K (.ref f_Service_end) = true)
    (kf_f_Service_end : PySem.W.keepIn K (.ref f_Service_end) = true)
    (z_int : PySem.W.nsIn K mainGlobals "int" = some none)
    (z_abs : PySem.W.nsIn K mainGlobals "abs" = some none)
    (z_max : PySem.W.nsIn K mainGlobals "max" = some none)
    (z_min : PySem.W.nsIn K mainGlobals "min" = some none)
    (z_range : PySem.W.nsIn K mainGlobals "range" = some none)
    : ∃ fd : FuncData, (∀ (s : Shared) (v : Value), BindsTo s fd ⟨[v], []⟩ [("_law_script", v)]) ∧ ∀ base : Heap, K.In base → base.Ns mainGlobals mg → FnOk P w K mg base CX0 10 fa fd ["_law_script"] (spLaw K) := by
  have e := hfa.symm.trans (PySem.W.mg_of X G a_law)
  have e2 : f_law = fa := by
    cases e
    rfl
  subst e2
  have F_is_name := (fun_mk (st := s_is_name) l_is_name cc_is_name k_is_name)
  have F_is_sequence := (fun_mk (st := s_is_sequence) l_is_sequence cc_is_sequence k_is_sequence)
  have F_are_names := (fun_mk (st := s_are_names) l_are_names cc_are_names k_are_names)
  have F_are_some_names := (fun_mk (st := s_are_some_names) l_are_some_names cc_are_some_names k_are_some_names)
  have F_is_name_or := (fun_mk (st := s_is_name_or) l_is_name_or cc_is_name_or k_is_name_or)
  have F_InvalidRow_init := (fun_mk (st := s_InvalidRow_init) l_InvalidRow_init cc_InvalidRow_init k_InvalidRow_init)
  have F_Begin_init := (fun_mk (st := s_Begin_init) l_Begin_init cc_Begin_init k_Begin_init)
  have F_Send_init := (fun_mk (st := s_Send_init) l_Send_init cc_Send_init k_Send_init)
  have F_Back_init := (fun_mk (st := s_Back_init) l_Back_init cc_Back_init k_Back_init)
  have F_End_init := (fun_mk (st := s_End_init) l_End_init cc_End_init k_End_init)
  have F_ascending := (fun_mk (st := s_ascending) l_ascending cc_ascending k_ascending)
  have F_are_rows := (fun_mk (st := s_are_rows) l_are_rows cc_are_rows k_are_rows)
  have F_InvalidService_init := (fun_mk (st := s_InvalidService_init) l_InvalidService_init cc_InvalidService_init k_InvalidService_init)
  have F_Begin_str := (fun_mk (st := s_Begin_str) l_Begin_str cc_Begin_str k_Begin_str)
  have F_Begin_eq := (fun_mk (st := s_Begin_eq) l_Begin_eq cc_Begin_eq k_Begin_eq)
  have F_Send_str := (fun_mk (st := s_Send_str) l_Send_str cc_Send_str k_Send_str)
  have F_Send_eq := (fun_mk (st := s_Send_eq) l_Send_eq cc_Send_eq k_Send_eq)
  have F_Back_str := (fun_mk (st := s_Back_str) l_Back_str cc_Back_str k_Back_str)
  have F_Back_eq := (fun_mk (st := s_Back_eq) l_Back_eq cc_Back_eq k_Back_eq)
  have F_End_str := (fun_mk (st := s_End_str) l_End_str cc_End_str k_End_str)
  have F_End_eq := (fun_mk (st := s_End_eq) l_End_eq cc_End_eq k_End_eq)
  have F_Service_str := (fun_mk (st := s_Service_str) l_Service_str cc_Service_str k_Service_str)
  have F_Service_eq := (fun_mk (st := s_Service_eq) l_Service_eq cc_Service_eq k_Service_eq)
  have F_fits := (fun_mk (st := s_fits) l_fits cc_fits k_fits)
  have F_Service_begin := (fun_mk (st := s_Service_begin) l_Service_begin cc_Service_begin k_Service_begin)
  have F_Service_send := (fun_mk (st := s_Service_send) l_Service_send cc_Service_send k_Service_send)
  have F_Service_back := (fun_mk (st := s_Service_back) l_Service_back cc_Service_back k_Service_back)
  have F_Service_end := (fun_mk (st := s_Service_end) l_Service_end cc_Service_end k_Service_end)
  have F_take := (fun_mk (st := s_take) l_take cc_take k_take)
  have F_box := (fun_mk (st := s_box) l_box cc_box k_box)
  have F_pick := (fun_mk (st := s_pick) l_pick cc_pick k_pick)
  have F_law := (fun_mk (st := s_law) l_law cc_law k_law)
  have b_is_name := F_is_name.binds (ps := P_is_name) fun _ _ _ _ _ _ us hl => match us, hl with | [_], _ => rfl
  have b_is_sequence := F_is_sequence.binds (ps := P_is_sequence) fun _ _ _ _ _ _ us hl => match us, hl with | [_], _ => rfl
  have b_are_names := F_are_names.binds (ps := P_are_names) fun _ _ _ _ _ _ us hl => match us, hl with | [_], _ => rfl
  have b_are_some_names := F_are_some_names.binds (ps := P_are_some_names) fun _ _ _ _ _ _ us hl => match us, hl with | [_], _ => rfl
  have b_is_name_or := F_is_name_or.binds (ps := P_is_name_or) fun _ _ _ _ _ _ us hl => match us, hl with | [_, _], _ => rfl
  have b_InvalidRow_init := F_InvalidRow_init.binds (ps := P_InvalidRow_init) fun _ _ _ _ _ _ us hl => match us, hl with | [_, _], _ => rfl
  have b_Begin_init := F_Begin_init.binds (ps := P_Begin_init) fun _ _ _ _ _ _ us hl => match us, hl with | [_, _, _, _], _ => rfl
  have b_Send_init := F_Send_init.binds (ps := P_Send_init) fun _ _ _ _ _ _ us hl => match us, hl with | [_, _, _, _], _ => rfl
  have b_Back_init := F_Back_init.binds (ps := P_Back_init) fun _ _ _ _ _ _ us hl => match us, hl with | [_, _, _, _, _], _ => rfl
  have b_End_init := F_End_init.binds (ps := P_End_init) fun _ _ _ _ _ _ us hl => match us, hl with | [_, _, _, _, _], _ => rfl
  have b_ascending := F_ascending.binds (ps := P_ascending) fun _ _ _ _ _ _ us hl => match us, hl with | [_], _ => rfl
  have b_are_rows := F_are_rows.binds (ps := P_are_rows) fun _ _ _ _ _ _ us hl => match us, hl with | [_], _ => rfl
  have b_InvalidService_init := F_InvalidService_init.binds (ps := P_InvalidService_init) fun _ _ _ _ _ _ us hl => match us, hl with | [_, _], _ => rfl
  have b_Begin_str := F_Begin_str.binds (ps := P_Begin_str) fun _ _ _ _ _ _ us hl => match us, hl with | [_], _ => rfl
  have b_Begin_eq := F_Begin_eq.binds (ps := P_Begin_eq) fun _ _ _ _ _ _ us hl => match us, hl with | [_, _], _ => rfl
  have b_Send_str := F_Send_str.binds (ps := P_Send_str) fun _ _ _ _ _ _ us hl => match us, hl with | [_], _ => rfl
  have b_Send_eq := F_Send_eq.binds (ps := P_Send_eq) fun _ _ _ _ _ _ us hl => match us, hl with | [_, _], _ => rfl
  have b_Back_str := F_Back_str.binds (ps := P_Back_str) fun _ _ _ _ _ _ us hl => match us, hl with | [_], _ => rfl
  have b_Back_eq := F_Back_eq.binds (ps := P_Back_eq) fun _ _ _ _ _ _ us hl => match us, hl with | [_, _], _ => rfl
  have b_End_str := F_End_str.binds (ps := P_End_str) fun _ _ _ _ _ _ us hl => match us, hl with | [_], _ => rfl
  have b_End_eq := F_End_eq.binds (ps := P_End_eq) fun _ _ _ _ _ _ us hl => match us, hl with | [_, _], _ => rfl
  have b_Service_str := F_Service_str.binds (ps := P_Service_str) fun _ _ _ _ _ _ us hl => match us, hl with | [_], _ => rfl
  have b_Service_eq := F_Service_eq.binds (ps := P_Service_eq) fun _ _ _ _ _ _ us hl => match us, hl with | [_, _], _ => rfl
  have b_fits := F_fits.binds (ps := P_fits) fun _ _ _ _ _ _ us hl => match us, hl with | [_, _], _ => rfl
  have b_take := F_take.binds (ps := P_take) fun _ _ _ _ _ _ us hl => match us, hl with | [_, _], _ => rfl
  have b_box := F_box.binds (ps := P_box) fun _ _ _ _ _ _ us hl => match us, hl with | [_, _], _ => rfl
  have b_pick := F_pick.binds (ps := P_pick) fun _ _ _ _ _ _ us hl => match us, hl with | [_, _], _ => rfl
  let T : TxK05 K mg := {
    z_len := PySem.W.mg_none_of X G z_len
    z_isinstance := PySem.W.mg_none_of X G z_isinstance
    z_str := PySem.W.mg_none_of X G z_str
    z_all := PySem.W.mg_none_of X G z_all
    letT := letT
    m_LET := PySem.W.mg_of X G a_LETTERS
    aNO := aNO
    m_NO := PySem.W.mg_of X G a_NO_NAMES
    t_NO := fun H => .inr ⟨_, _, _, l_aNO, rfl, rfl, by show 10 ≤ sizeLine; decide, .cons ⟨_, rfl⟩ (.cons ⟨_, rfl⟩ (.cons ⟨_, rfl⟩ (.cons ⟨_, rfl⟩ (.cons ⟨_, rfl⟩ (.cons ⟨_, rfl⟩ (.cons ⟨_, rfl⟩ (.cons ⟨_, rfl⟩ (.cons ⟨_, rfl⟩ (.cons ⟨_, rfl⟩ (.nil))))))))))⟩
    f_is_name := f_is_name
    d_is_name := _
    F_is_name := F_is_name
    m_is_name := PySem.W.mg_of X G a_is_name
    b_is_name := b_is_name
    z_list := PySem.W.mg_none_of X G z_list
    z_tuple := PySem.W.mg_none_of X G z_tuple
    z_set := PySem.W.mg_none_of X G z_set
    f_is_sequence := f_is_sequence
    d_is_sequence := _
    F_is_sequence := F_is_sequence
    m_is_sequence := PySem.W.mg_of X G a_is_sequence
    b_is_sequence := b_is_sequence
    f_are_names := f_are_names
    d_are_names := _
    F_are_names := F_are_names
    m_are_names := PySem.W.mg_of X G a_are_names
    b_are_names := b_are_names
    f_are_some_names := f_are_some_names
    d_are_some_names := _
    F_are_some_names := F_are_some_names
    m_are_some_names := PySem.W.mg_of X G a_are_some_names
    b_are_some_names := b_are_some_names
    f_is_name_or := f_is_name_or
    d_is_name_or := _
    F_is_name_or := F_is_name_or
    m_is_name_or := PySem.W.mg_of X G a_is_name_or
    b_is_name_or := b_is_name_or
    C_InvalidRow := C_InvalidRow
    m_InvalidRow := PySem.W.mg_of X G a_InvalidRow
    oxRow := ⟨⟨_, _, _, _, _, _, _, _, _, _, _, _, _, _, _, xL_C_InvalidRow, ve_one⟩, sa_C_InvalidRow, eb_C_InvalidRow, tyC_C_InvalidRow, kc_C_InvalidRow⟩
    nwRow := q_nwRow
    f_InvalidRow_init := f_InvalidRow_init
    d_InvalidRow_init := _
    iRow := in_f_InvalidRow_init
    tRow := q_tRow
    F_InvalidRow_init := F_InvalidRow_init
    b_InvalidRow_init := b_InvalidRow_init
    C_Begin := C_Begin
    m_Begin := PySem.W.mg_of X G a_Begin
    c_Begin := ⟨pg_C_Begin, hd_C_Begin, po_C_Begin, sa_C_Begin⟩
    f_Begin_init := f_Begin_init
    d_Begin_init := _
    mk_Begin := ⟨mk_C_Begin, in_f_Begin_init, fi_f_Begin_init, kc_C_Begin⟩
    F_Begin_init := F_Begin_init
    b_Begin_init := b_Begin_init
    n_Begin_mark := n_C_Begin_mark
    n_Begin_kind := n_C_Begin_kind
    n_Begin_mood := n_C_Begin_mood
    C_Send := C_Send
    m_Send := PySem.W.mg_of X G a_Send
    c_Send := ⟨pg_C_Send, hd_C_Send, po_C_Send, sa_C_Send⟩
    f_Send_init := f_Send_init
    d_Send_init := _
    mk_Send := ⟨mk_C_Send, in_f_Send_init, fi_f_Send_init, kc_C_Send⟩
    F_Send_init := F_Send_init
    b_Send_init := b_Send_init
    n_Send_mood := n_C_Send_mood
    n_Send_service := n_C_Send_service
    n_Send_mark := n_C_Send_mark
    C_Back := C_Back
    m_Back := PySem.W.mg_of X G a_Back
    c_Back := ⟨pg_C_Back, hd_C_Back, po_C_Back, sa_C_Back⟩
    f_Back_init := f_Back_init
    d_Back_init := _
    mk_Back := ⟨mk_C_Back, in_f_Back_init, fi_f_Back_init, kc_C_Back⟩
    F_Back_init := F_Back_init
    b_Back_init := b_Back_init
    n_Back_mood := n_C_Back_mood
    n_Back_service := n_C_Back_service
    n_Back_sign := n_C_Back_sign
    n_Back_then := n_C_Back_then
    C_End := C_End
    m_End := PySem.W.mg_of X G a_End
    c_End := ⟨pg_C_End, hd_C_End, po_C_End, sa_C_End⟩
    f_End_init := f_End_init
    d_End_init := _
    mk_End := ⟨mk_C_End, in_f_End_init, fi_f_End_init, kc_C_End⟩
    F_End_init := F_End_init
    b_End_init := b_End_init
    n_End_mood := n_C_End_mood
    n_End_outcome := n_C_End_outcome
    n_End_sign := n_C_End_sign
    n_End_part := n_C_End_part
    z_sorted := PySem.W.mg_none_of X G z_sorted
    f_ascending := f_ascending
    d_ascending := _
    F_ascending := F_ascending
    m_ascending := PySem.W.mg_of X G a_ascending
    b_ascending := b_ascending
    f_are_rows := f_are_rows
    d_are_rows := _
    F_are_rows := F_are_rows
    m_are_rows := PySem.W.mg_of X G a_are_rows
    b_are_rows := b_are_rows
    C_Row := C_Row
    m_Row := PySem.W.mg_of X G a_Row
    ty_Begin := fun H a dx fs e => .base (.ins e ⟨pg_C_Begin, hd_C_Begin, po_C_Begin, sa_C_Begin⟩ ca_C_Begin cg_ ck_ cm_C_Begin)
    ty_Send := fun H a dx fs e => .base (.ins e ⟨pg_C_Send, hd_C_Send, po_C_Send, sa_C_Send⟩ ca_C_Send cg_ ck_ cm_C_Send)
    ty_Back := fun H a dx fs e => .base (.ins e ⟨pg_C_Back, hd_C_Back, po_C_Back, sa_C_Back⟩ ca_C_Back cg_ ck_ cm_C_Back)
    ty_End := fun H a dx fs e => .base (.ins e ⟨pg_C_End, hd_C_End, po_C_End, sa_C_End⟩ ca_C_End cg_ ck_ cm_C_End)
    kr_Begin := kit_yes isC_C_Row tyC_C_Row sub_C_Begin_C_Row
    kr_Send := kit_yes isC_C_Row tyC_C_Row sub_C_Send_C_Row
    kr_Back := kit_yes isC_C_Row tyC_C_Row sub_C_Back_C_Row
    kr_End := kit_yes isC_C_Row tyC_C_Row sub_C_End_C_Row
    kb_Begin := kit_no isC_C_Back tyC_C_Back sub_C_Begin_C_Back ne_C_Begin_C_Back
    kb_Send := kit_no isC_C_Back tyC_C_Back sub_C_Send_C_Back ne_C_Send_C_Back
    kb_Back := kit_yes isC_C_Back tyC_C_Back sub_C_Back_C_Back
    kb_End := kit_no isC_C_Back tyC_C_Back sub_C_End_C_Back ne_C_End_C_Back
    C_InvalidService := C_InvalidService
    m_InvalidService := PySem.W.mg_of X G a_InvalidService
    oxSvc := ⟨⟨_, _, _, _, _, _, _, _, _, _, _, _, _, _, _, xL_C_InvalidService, ve_one⟩, sa_C_InvalidService, eb_C_InvalidService, tyC_C_InvalidService, kc_C_InvalidService⟩
    nwSvc := q_nwSvc
    f_InvalidService_init := f_InvalidService_init
    d_InvalidService_init := _
    iSvc := in_f_InvalidService_init
    tSvc := q_tSvc
    F_InvalidService_init := F_InvalidService_init
    b_InvalidService_init := b_InvalidService_init
    C_Service := C_Service
    m_Service := PySem.W.mg_of X G a_Service
    c_Service := ⟨pg_C_Service, hd_C_Service, po_C_Service, sa_C_Service⟩
    f_Service_init := f_Service_init
    d_Service_init := _
    mk_Service := ⟨mk_C_Service, in_f_Service_init, fi_f_Service_init, kc_C_Service⟩
    e_waits := e_waits
    e_leaves := e_leaves
    e_rows := e_rows
    t_waits := fun H => .inr ⟨_, _, _, l_e_waits, rfl, rfl, by show 0 ≤ sizeLine; decide, .nil⟩
    t_leaves := fun H => .inr ⟨_, _, _, l_e_leaves, rfl, rfl, by show 0 ≤ sizeLine; decide, .nil⟩
    t_rows := fun H => .inr ⟨_, _, _, l_e_rows, rfl, rfl, by show 0 ≤ sizeLine; decide, .nil⟩
    F_Service_init := ⟨⟨_, _, _, _, _, _, _, _, _, _, rfl, l_Service_init, cc_Service_init, .inr ⟨by simp, _, _, [.ref e_waits, .ref e_leaves, .ref e_rows], _, rfl, dl_Service_init, rfl, .cons rfl (.cons rfl (.cons rfl (.nil)))⟩, .inl rfl⟩, k_Service_init⟩
    n_Service_name := n_C_Service_name
    n_Service_kinds := n_C_Service_kinds
    n_Service_waits := n_C_Service_waits
    n_Service_leaves := n_C_Service_leaves
    n_Service_rows := n_C_Service_rows
    n_Service_moods := n_C_Service_moods
    f_Begin_str := f_Begin_str
    d_Begin_str := _
    F_Begin_str := F_Begin_str
    b_Begin_str := b_Begin_str
    si_Begin := q_si_Begin
    sf_Begin := q_sf_Begin
    f_Begin_eq := f_Begin_eq
    d_Begin_eq := _
    F_Begin_eq := F_Begin_eq
    b_Begin_eq := b_Begin_eq
    ei_Begin := q_ei_Begin
    ef_Begin := q_ef_Begin
    en_Begin := q_en_Begin
    eo_Begin := q_eo_Begin
    ks_Begin := kit_tyno isC_C_Begin tyC_C_Begin sub_Tstr_C_Begin
    kt_Begin := kit_tyno isC_C_Begin tyC_C_Begin sub_Ttuple_C_Begin
    ns_Begin := q_ns_Begin
    nt_Begin := q_nt_Begin
    f_Send_str := f_Send_str
    d_Send_str := _
    F_Send_str := F_Send_str
    b_Send_str := b_Send_str
    si_Send := q_si_Send
    sf_Send := q_sf_Send
    f_Send_eq := f_Send_eq
    d_Send_eq := _
    F_Send_eq := F_Send_eq
    b_Send_eq := b_Send_eq
    ei_Send := q_ei_Send
    ef_Send := q_ef_Send
    en_Send := q_en_Send
    eo_Send := q_eo_Send
    ks_Send := kit_tyno isC_C_Send tyC_C_Send sub_Tstr_C_Send
    kt_Send := kit_tyno isC_C_Send tyC_C_Send sub_Ttuple_C_Send
    ns_Send := q_ns_Send
    nt_Send := q_nt_Send
    f_Back_str := f_Back_str
    d_Back_str := _
    F_Back_str := F_Back_str
    b_Back_str := b_Back_str
    si_Back := q_si_Back
    sf_Back := q_sf_Back
    f_Back_eq := f_Back_eq
    d_Back_eq := _
    F_Back_eq := F_Back_eq
    b_Back_eq := b_Back_eq
    ei_Back := q_ei_Back
    ef_Back := q_ef_Back
    en_Back := q_en_Back
    eo_Back := q_eo_Back
    ks_Back := kit_tyno isC_C_Back tyC_C_Back sub_Tstr_C_Back
    kt_Back := kit_tyno isC_C_Back tyC_C_Back sub_Ttuple_C_Back
    ns_Back := q_ns_Back
    nt_Back := q_nt_Back
    f_End_str := f_End_str
    d_End_str := _
    F_End_str := F_End_str
    b_End_str := b_End_str
    si_End := q_si_End
    sf_End := q_sf_End
    f_End_eq := f_End_eq
    d_End_eq := _
    F_End_eq := F_End_eq
    b_End_eq := b_End_eq
    ei_End := q_ei_End
    ef_End := q_ef_End
    en_End := q_en_End
    eo_End := q_eo_End
    ks_End := kit_tyno isC_C_End tyC_C_End sub_Tstr_C_End
    kt_End := kit_tyno isC_C_End tyC_C_End sub_Ttuple_C_End
    ns_End := q_ns_End
    nt_End := q_nt_End
    kk_Begin_Begin := kit_yes isC_C_Begin tyC_C_Begin sub_C_Begin_C_Begin
    nf_Begin_Begin := q_nf_Begin_Begin
    kk_Begin_Send := kit_no isC_C_Send tyC_C_Send sub_C_Begin_C_Send ne_C_Begin_C_Send
    nf_Begin_Send := q_nf_Begin_Send
    kk_Begin_Back := kit_no isC_C_Back tyC_C_Back sub_C_Begin_C_Back ne_C_Begin_C_Back
    nf_Begin_Back := q_nf_Begin_Back
    kk_Begin_End := kit_no isC_C_End tyC_C_End sub_C_Begin_C_End ne_C_Begin_C_End
    nf_Begin_End := q_nf_Begin_End
    kk_Send_Begin := kit_no isC_C_Begin tyC_C_Begin sub_C_Send_C_Begin ne_C_Send_C_Begin
    nf_Send_Begin := q_nf_Send_Begin
    kk_Send_Send := kit_yes isC_C_Send tyC_C_Send sub_C_Send_C_Send
    nf_Send_Send := q_nf_Send_Send
    kk_Send_Back := kit_no isC_C_Back tyC_C_Back sub_C_Send_C_Back ne_C_Send_C_Back
    nf_Send_Back := q_nf_Send_Back
    kk_Send_End := kit_no isC_C_End tyC_C_End sub_C_Send_C_End ne_C_Send_C_End
    nf_Send_End := q_nf_Send_End
    kk_Back_Begin := kit_no isC_C_Begin tyC_C_Begin sub_C_Back_C_Begin ne_C_Back_C_Begin
    nf_Back_Begin := q_nf_Back_Begin
    kk_Back_Send := kit_no isC_C_Send tyC_C_Send sub_C_Back_C_Send ne_C_Back_C_Send
    nf_Back_Send := q_nf_Back_Send
    kk_Back_Back := kit_yes isC_C_Back tyC_C_Back sub_C_Back_C_Back
    nf_Back_Back := q_nf_Back_Back
    kk_Back_End := kit_no isC_C_End tyC_C_End sub_C_Back_C_End ne_C_Back_C_End
    nf_Back_End := q_nf_Back_End
    kk_End_Begin := kit_no isC_C_Begin tyC_C_Begin sub_C_End_C_Begin ne_C_End_C_Begin
    nf_End_Begin := q_nf_End_Begin
    kk_End_Send := kit_no isC_C_Send tyC_C_Send sub_C_End_C_Send ne_C_End_C_Send
    nf_End_Send := q_nf_End_Send
    kk_End_Back := kit_no isC_C_Back tyC_C_Back sub_C_End_C_Back ne_C_End_C_Back
    nf_End_Back := q_nf_End_Back
    kk_End_End := kit_yes isC_C_End tyC_C_End sub_C_End_C_End
    nf_End_End := q_nf_End_End
    f_Service_str := f_Service_str
    d_Service_str := _
    F_Service_str := F_Service_str
    b_Service_str := b_Service_str
    si_Service := q_si_Service
    sf_Service := q_sf_Service
    f_Service_eq := f_Service_eq
    d_Service_eq := _
    F_Service_eq := F_Service_eq
    b_Service_eq := b_Service_eq
    ei_Service := q_ei_Service
    ef_Service := q_ef_Service
    en_Service := q_en_Service
    eo_Service := q_eo_Service
    ty_Service := fun H a dx fs e => .base (.ins e ⟨pg_C_Service, hd_C_Service, po_C_Service, sa_C_Service⟩ ca_C_Service cg_ ck_ cm_C_Service)
    kk_Service := kit_yes isC_C_Service tyC_C_Service sub_C_Service_C_Service
    nf_Service := q_nf_Service
    f_fits := f_fits
    d_fits := _
    F_fits := F_fits
    m_fits := PySem.W.mg_of X G a_fits
    b_fits := b_fits
    f_Service_begin := f_Service_begin
    d_Service_begin := _
    F_Service_begin := F_Service_begin
    mt_Service_begin := ⟨i_f_Service_begin, fi_f_Service_begin, kf_f_Service_begin⟩
    f_Service_send := f_Service_send
    d_Service_send := _
    F_Service_send := F_Service_send
    mt_Service_send := ⟨i_f_Service_send, fi_f_Service_send, kf_f_Service_send⟩
    f_Service_back := f_Service_back
    d_Service_back := _
    F_Service_back := F_Service_back
    mt_Service_back := ⟨i_f_Service_back, fi_f_Service_back, kf_f_Service_back⟩
    f_Service_end := f_Service_end
    d_Service_end := _
    F_Service_end := F_Service_end
    mt_Service_end := ⟨i_f_Service_end, fi_f_Service_end, kf_f_Service_end⟩
    z_int := PySem.W.mg_none_of X G z_int
    z_abs := PySem.W.mg_none_of X G z_abs
    f_take := f_take
    d_take := _
    F_take := F_take
    m_take := PySem.W.mg_of X G a__law_take
    b_take := b_take
    f_box := f_box
    d_box := _
    F_box := F_box
    m_box := PySem.W.mg_of X G a__law_box
    b_box := b_box
    f_pick := f_pick
    d_pick := _
    F_pick := F_pick
    m_pick := PySem.W.mg_of X G a__law_pick
    b_pick := b_pick
    z_max := PySem.W.mg_none_of X G z_max
    z_min := PySem.W.mg_none_of X G z_min
    z_range := PySem.W.mg_none_of X G z_range
    f_law := f_law
    d_law := _
    F_law := F_law
  }
  exact ⟨PySem.W.fnOf "law" "law" (defArgs s_law) (defBody s_law) (defScope s_law) .none kV_law dc_law pm_law an_law cd_law ct_law, fun s v => .of_eq rfl, fun base _ _ => ok_law5 T⟩
theorem walk {l : PySem.W.OpenLaw} {q : Program} {loose : List Str} {XP : (Str → Option Value) → Heap → Prop} {YP : World → Heap → Prop} {d : DefRec} {K : Params → PySem.W.Frag} (hn : l.most = some 63) (hdf : d.params.defaults = [])
    (hY : ∀ (w : World) (h : Heap), YP w h → (K w.params).In h)
    (F : ∀ (w : World) (mg : Str → Option Value) (fa : Addr) (h : Heap), (K w.params).In h → h.Ns mainGlobals mg → mg d.name = some (.ref fa) →
      ∃ fd : FuncData, (∀ (s : Shared) (u : Value), BindsTo s fd ⟨[u], []⟩ [("_law_script", u)]) ∧ ∀ base : Heap, (K w.params).In base → base.Ns mainGlobals mg → FnOk l.prog w (K w.params) mg base CX0 10 fa fd ["_law_script"] (spLaw (K w.params))) :
    PySem.W.WalkO q loose XP YP l.row.toRowW d [] (fun f vs => PySem.call f vs) :=
  L2.walk_of (n := 63) (k := 10) (x := "_law_script") (CX := fun _ => CX0) (sp := fun w => spLaw (K w.params)) hn (by decide) hdf ⟨rfl, by decide, by decide⟩ hY F (fun _ _ a ns hl _ hS => ⟨a, ns, rfl, hS, hl, fun _ => rfl⟩) fun _ _ _ _ _ z => z
end My
open PySem PySem.W PyProof.Rows
set_option maxRecDepth 100000 in
set_option maxHeartbeats 0 in
theorem PySem.Challenge.cw_wholetraces_k05_arguments_of_rows_by_nam_holds : PySem.Challenge.rw_wholetraces_k05_arguments_of_rows_by_nam.Holds := by
  w_on; o_law; k_head; (case hw => w_witness2)
  k_fill
  refine My.walk (l := PySem.Challenge.rw_wholetraces_k05_arguments_of_rows_by_nam) rfl rfl (fun w h Y => PySem.W.kIn_of Y) ?F
  case F =>
    intro w mg fa h KX G hmg
    refine' My.all_mk KX G hmg ?a_law ?a_LETTERS ?a_NO_NAMES ?a_is_name ?a_is_sequence ?a_are_names ?a_are_some_names ?a_is_name_or ?a_InvalidRow ?a_Begin ?a_Send ?a_Back ?a_End ?a_ascending ?a_are_rows ?a_Row ?a_InvalidService ?a_Service ?a_fits ?a__law_take ?a__law_box ?a__law_pick ?in_f_InvalidRow_init ?in_f_Begin_init ?in_f_Send_init ?in_f_Back_init ?in_f_End_init ?in_f_InvalidService_init ?in_f_Service_init ?q_si_Begin ?q_ei_Begin ?q_si_Send ?q_ei_Send ?q_si_Back ?q_ei_Back ?q_si_End ?q_ei_End ?q_si_Service ?q_ei_Service ?i_f_Service_begin ?i_f_Service_send ?i_f_Service_back ?i_f_Service_end ?l_is_name ?l_is_sequence ?l_are_names ?l_are_some_names ?l_is_name_or ?l_InvalidRow_init ?l_Begin_init ?l_Send_init ?l_Back_init ?l_End_init ?l_ascending ?l_are_rows ?l_InvalidService_init ?l_Begin_str ?l_Begin_eq ?l_Send_str ?l_Send_eq ?l_Back_str ?l_Back_eq ?l_End_str ?l_End_eq ?l_Service_str ?l_Service_eq ?l_fits ?l_Service_begin ?l_Service_send ?l_Service_back ?l_Service_end ?l_take ?l_box ?l_pick ?l_law ?l_aNO ?xL_C_InvalidRow ?xL_C_InvalidService ?l_Service_init ?dl_Service_init ?l_e_waits ?l_e_leaves ?l_e_rows ?cc_is_name ?k_is_name ?cc_is_sequence ?k_is_sequence ?cc_are_names ?k_are_names ?cc_are_some_names ?k_are_some_names ?cc_is_name_or ?k_is_name_or ?cc_InvalidRow_init ?k_InvalidRow_init ?cc_Begin_init ?k_Begin_init ?cc_Send_init ?k_Send_init ?cc_Back_init ?k_Back_init ?cc_End_init ?k_End_init ?cc_ascending ?k_ascending ?cc_are_rows ?k_are_rows ?cc_InvalidService_init ?k_InvalidService_init ?cc_Begin_str ?k_Begin_str ?cc_Begin_eq ?k_Begin_eq ?cc_Send_str ?k_Send_str ?cc_Send_eq ?k_Send_eq ?cc_Back_str ?k_Back_str ?cc_Back_eq ?k_Back_eq ?cc_End_str ?k_End_str ?cc_End_eq ?k_End_eq ?cc_Service_str ?k_Service_str ?cc_Service_eq ?k_Service_eq ?cc_fits ?k_fits ?cc_Service_begin ?k_Service_begin ?cc_Service_send ?k_Service_send ?cc_Service_back ?k_Service_back ?cc_Service_end ?k_Service_end ?cc_take ?k_take ?cc_box ?k_box ?cc_pick ?k_pick ?cc_law ?k_law ?z_len ?z_isinstance ?z_str ?z_all ?z_list ?z_tuple ?z_set ?sa_C_InvalidRow ?eb_C_InvalidRow ?tyC_C_InvalidRow ?kc_C_InvalidRow ?q_nwRow ?q_tRow ?pg_C_Begin ?hd_C_Begin ?po_C_Begin ?sa_C_Begin ?mk_C_Begin ?fi_f_Begin_init ?kc_C_Begin ?n_C_Begin_mark ?n_C_Begin_kind ?n_C_Begin_mood ?pg_C_Send ?hd_C_Send ?po_C_Send ?sa_C_Send ?mk_C_Send ?fi_f_Send_init ?kc_C_Send ?n_C_Send_mood ?n_C_Send_service ?n_C_Send_mark ?pg_C_Back ?hd_C_Back ?po_C_Back ?sa_C_Back ?mk_C_Back ?fi_f_Back_init ?kc_C_Back ?n_C_Back_mood ?n_C_Back_service ?n_C_Back_sign ?n_C_Back_then ?pg_C_End ?hd_C_End ?po_C_End ?sa_C_End ?mk_C_End ?fi_f_End_init ?kc_C_End ?n_C_End_mood ?n_C_End_outcome ?n_C_End_sign ?n_C_End_part ?z_sorted ?ca_C_Begin ?cg_ ?ck_ ?cm_C_Begin ?ca_C_Send ?cm_C_Send ?ca_C_Back ?cm_C_Back ?ca_C_End ?cm_C_End ?isC_C_Row ?tyC_C_Row ?sub_C_Begin_C_Row ?sub_C_Send_C_Row ?sub_C_Back_C_Row ?sub_C_End_C_Row ?isC_C_Back ?tyC_C_Back ?sub_C_Begin_C_Back ?ne_C_Begin_C_Back ?sub_C_Send_C_Back ?ne_C_Send_C_Back ?sub_C_Back_C_Back ?sub_C_End_C_Back ?ne_C_End_C_Back ?sa_C_InvalidService ?eb_C_InvalidService ?tyC_C_InvalidService ?kc_C_InvalidService ?q_nwSvc ?q_tSvc ?pg_C_Service ?hd_C_Service ?po_C_Service ?sa_C_Service ?mk_C_Service ?fi_f_Service_init ?kc_C_Service ?cc_Service_init ?k_Service_init ?n_C_Service_name ?n_C_Service_kinds ?n_C_Service_waits ?n_C_Service_leaves ?n_C_Service_rows ?n_C_Service_moods ?q_sf_Begin ?q_ef_Begin ?q_en_Begin ?q_eo_Begin ?isC_C_Begin ?tyC_C_Begin ?sub_Tstr_C_Begin ?sub_Ttuple_C_Begin ?q_ns_Begin ?q_nt_Begin ?q_sf_Send ?q_ef_Send ?q_en_Send ?q_eo_Send ?isC_C_Send ?tyC_C_Send ?sub_Tstr_C_Send ?sub_Ttuple_C_Send ?q_ns_Send ?q_nt_Send ?q_sf_Back ?q_ef_Back ?q_en_Back ?q_eo_Back ?sub_Tstr_C_Back ?sub_Ttuple_C_Back ?q_ns_Back ?q_nt_Back ?q_sf_End ?q_ef_End ?q_en_End ?q_eo_End ?isC_C_End ?tyC_C_End ?sub_Tstr_C_End ?sub_Ttuple_C_End ?q_ns_End ?q_nt_End ?sub_C_Begin_C_Begin ?q_nf_Begin_Begin ?sub_C_Begin_C_Send ?ne_C_Begin_C_Send ?q_nf_Begin_Send ?q_nf_Begin_Back ?sub_C_Begin_C_End ?ne_C_Begin_C_End ?q_nf_Begin_End ?sub_C_Send_C_Begin ?ne_C_Send_C_Begin ?q_nf_Send_Begin ?sub_C_Send_C_Send ?q_nf_Send_Send ?q_nf_Send_Back ?sub_C_Send_C_End ?ne_C_Send_C_End ?q_nf_Send_End ?sub_C_Back_C_Begin ?ne_C_Back_C_Begin ?q_nf_Back_Begin ?sub_C_Back_C_Send ?ne_C_Back_C_Send ?q_nf_Back_Send ?q_nf_Back_Back ?sub_C_Back_C_End ?ne_C_Back_C_End ?q_nf_Back_End ?sub_C_End_C_Begin ?ne_C_End_C_Begin ?q_nf_End_Begin ?sub_C_End_C_Send ?ne_C_End_C_Send ?q_nf_End_Send ?q_nf_End_Back ?sub_C_End_C_End ?q_nf_End_End ?q_sf_Service ?q_ef_Service ?q_en_Service ?q_eo_Service ?ca_C_Service ?cm_C_Service ?isC_C_Service ?tyC_C_Service ?sub_C_Service_C_Service ?q_nf_Service ?fi_f_Service_begin ?kf_f_Service_begin ?fi_f_Service_send ?kf_f_Service_send ?fi_f_Service_back ?kf_f_Service_back ?fi_f_Service_end ?kf_f_Service_end ?z_int ?z_abs ?z_max ?z_min ?z_range
    (case a_law => k_is)
    (case a_LETTERS => k_is)
    (case a_NO_NAMES => k_is)
    (case a_is_name => k_is)
    (case a_is_sequence => k_is)
    (case a_are_names => k_is)
    (case a_are_some_names => k_is)
    (case a_is_name_or => k_is)
    (case a_InvalidRow => k_is)
    (case a_Begin => k_is)
    (case a_Send => k_is)
    (case a_Back => k_is)
    (case a_End => k_is)
    (case a_ascending => k_is)
    (case a_are_rows => k_is)
    (case a_Row => k_is)
    (case a_InvalidService => k_is)
    (case a_Service => k_is)
    (case a_fits => k_is)
    (case a__law_take => k_is)
    (case a__law_box => k_is)
    (case a__law_pick => k_is)
    (case in_f_InvalidRow_init => k_is)
    (case in_f_Begin_init => k_is)
    (case in_f_Send_init => k_is)
    (case in_f_Back_init => k_is)
    (case in_f_End_init => k_is)
    (case in_f_InvalidService_init => k_is)
    (case in_f_Service_init => k_is)
    (case q_si_Begin => k_is)
    (case q_ei_Begin => k_is)
    (case q_si_Send => k_is)
    (case q_ei_Send => k_is)
    (case q_si_Back => k_is)
    (case q_ei_Back => k_is)
    (case q_si_End => k_is)
    (case q_ei_End => k_is)
    (case q_si_Service => k_is)
    (case q_ei_Service => k_is)
    (case i_f_Service_begin => k_is)
    (case i_f_Service_send => k_is)
    (case i_f_Service_back => k_is)
    (case i_f_Service_end => k_is)
    (case l_is_name => k_is)
    (case l_is_sequence => k_is)
    (case l_are_names => k_is)
    (case l_are_some_names => k_is)
    (case l_is_name_or => k_is)
    (case l_InvalidRow_init => k_is)
    (case l_Begin_init => k_is)
    (case l_Send_init => k_is)
    (case l_Back_init => k_is)
    (case l_End_init => k_is)
    (case l_ascending => k_is)
    (case l_are_rows => k_is)
    (case l_InvalidService_init => k_is)
    (case l_Begin_str => k_is)
    (case l_Begin_eq => k_is)
    (case l_Send_str => k_is)
    (case l_Send_eq => k_is)
    (case l_Back_str => k_is)
    (case l_Back_eq => k_is)
    (case l_End_str => k_is)
    (case l_End_eq => k_is)
    (case l_Service_str => k_is)
    (case l_Service_eq => k_is)
    (case l_fits => k_is)
    (case l_Service_begin => k_is)
    (case l_Service_send => k_is)
    (case l_Service_back => k_is)
    (case l_Service_end => k_is)
    (case l_take => k_is)
    (case l_box => k_is)
    (case l_pick => k_is)
    (case l_law => k_is)
    (case l_aNO => k_is)
    (case xL_C_InvalidRow => k_is)
    (case xL_C_InvalidService => k_is)
    (case l_Service_init => k_is)
    (case dl_Service_init => k_is)
    (case l_e_waits => k_is)
    (case l_e_leaves => k_is)
    (case l_e_rows => k_is)
    (case cc_is_name => k_is)
    (case k_is_name => k_is)
    (case cc_is_sequence => k_is)
    (case k_is_sequence => k_is)
    (case cc_are_names => k_is)
    (case k_are_names => k_is)
    (case cc_are_some_names => k_is)
    (case k_are_some_names => k_is)
    (case cc_is_name_or => k_is)
    (case k_is_name_or => k_is)
    (case cc_InvalidRow_init => k_is)
    (case k_InvalidRow_init => k_is)
    (case cc_Begin_init => k_is)
    (case k_Begin_init => k_is)
    (case cc_Send_init => k_is)
    (case k_Send_init => k_is)
    (case cc_Back_init => k_is)
    (case k_Back_init => k_is)
    (case cc_End_init => k_is)
    (case k_End_init => k_is)
    (case cc_ascending => k_is)
    (case k_ascending => k_is)
    (case cc_are_rows => k_is)
    (case k_are_rows => k_is)
    (case cc_InvalidService_init => k_is)
    (case k_InvalidService_init => k_is)
    (case cc_Begin_str => k_is)
    (case k_Begin_str => k_is)
    (case cc_Begin_eq => k_is)
    (case k_Begin_eq => k_is)
    (case cc_Send_str => k_is)
    (case k_Send_str => k_is)
    (case cc_Send_eq => k_is)
    (case k_Send_eq => k_is)
    (case cc_Back_str => k_is)
    (case k_Back_str => k_is)
    (case cc_Back_eq => k_is)
    (case k_Back_eq => k_is)
    (case cc_End_str => k_is)
    (case k_End_str => k_is)
    (case cc_End_eq => k_is)
    (case k_End_eq => k_is)
    (case cc_Service_str => k_is)
    (case k_Service_str => k_is)
    (case cc_Service_eq => k_is)
    (case k_Service_eq => k_is)
    (case cc_fits => k_is)
    (case k_fits => k_is)
    (case cc_Service_begin => k_is)
    (case k_Service_begin => k_is)
    (case cc_Service_send => k_is)
    (case k_Service_send => k_is)
    (case cc_Service_back => k_is)
    (case k_Service_back => k_is)
    (case cc_Service_end => k_is)
    (case k_Service_end => k_is)
    (case cc_take => k_is)
    (case k_take => k_is)
    (case cc_box => k_is)
    (case k_box => k_is)
    (case cc_pick => k_is)
    (case k_pick => k_is)
    (case cc_law => k_is)
    (case k_law => k_is)
    (case z_len => k_is)
    (case z_isinstance => k_is)
    (case z_str => k_is)
    (case z_all => k_is)
    (case z_list => k_is)
    (case z_tuple => k_is)
    (case z_set => k_is)
    (case sa_C_InvalidRow => k_is)
    (case eb_C_InvalidRow => k_is)
    (case tyC_C_InvalidRow => k_is)
    (case kc_C_InvalidRow => k_is)
    (case q_nwRow => k_is)
    (case q_tRow => k_is)
    (case pg_C_Begin => k_is)
    (case hd_C_Begin => k_is)
    (case po_C_Begin => k_is)
    (case sa_C_Begin => k_is)
    (case mk_C_Begin => k_is)
    (case fi_f_Begin_init => k_is)
    (case kc_C_Begin => k_is)
    (case n_C_Begin_mark => k_is)
    (case n_C_Begin_kind => k_is)
    (case n_C_Begin_mood => k_is)
    (case pg_C_Send => k_is)
    (case hd_C_Send => k_is)
    (case po_C_Send => k_is)
    (case sa_C_Send => k_is)
    (case mk_C_Send => k_is)
    (case fi_f_Send_init => k_is)
    (case kc_C_Send => k_is)
    (case n_C_Send_mood => k_is)
    (case n_C_Send_service => k_is)
    (case n_C_Send_mark => k_is)
    (case pg_C_Back => k_is)
    (case hd_C_Back => k_is)
    (case po_C_Back => k_is)
    (case sa_C_Back => k_is)
    (case mk_C_Back => k_is)
    (case fi_f_Back_init => k_is)
    (case kc_C_Back => k_is)
    (case n_C_Back_mood => k_is)
    (case n_C_Back_service => k_is)
    (case n_C_Back_sign => k_is)
    (case n_C_Back_then => k_is)
    (case pg_C_End => k_is)
    (case hd_C_End => k_is)
    (case po_C_End => k_is)
    (case sa_C_End => k_is)
    (case mk_C_End => k_is)
    (case fi_f_End_init => k_is)
    (case kc_C_End => k_is)
    (case n_C_End_mood => k_is)
    (case n_C_End_outcome => k_is)
    (case n_C_End_sign => k_is)
    (case n_C_End_part => k_is)
    (case z_sorted => k_is)
    (case ca_C_Begin => k_is)
    (case cg_ => k_is)
    (case ck_ => k_is)
    (case cm_C_Begin => k_is)
    (case ca_C_Send => k_is)
    (case cm_C_Send => k_is)
    (case ca_C_Back => k_is)
    (case cm_C_Back => k_is)
    (case ca_C_End => k_is)
    (case cm_C_End => k_is)
    (case isC_C_Row => k_is)
    (case tyC_C_Row => k_is)
    (case sub_C_Begin_C_Row => first | k_is | rfl)
    (case sub_C_Send_C_Row => first | k_is | rfl)
    (case sub_C_Back_C_Row => first | k_is | rfl)
    (case sub_C_End_C_Row => first | k_is | rfl)
    (case isC_C_Back => k_is)
    (case tyC_C_Back => k_is)
    (case sub_C_Begin_C_Back => first | k_is | rfl)
    (case ne_C_Begin_C_Back => decide)
    (case sub_C_Send_C_Back => first | k_is | rfl)
    (case ne_C_Send_C_Back => decide)
    (case sub_C_Back_C_Back => first | k_is | rfl)
    (case sub_C_End_C_Back => first | k_is | rfl)
    (case ne_C_End_C_Back => decide)
    (case sa_C_InvalidService => k_is)
    (case eb_C_InvalidService => k_is)
    (case tyC_C_InvalidService => k_is)
    (case kc_C_InvalidService => k_is)
    (case q_nwSvc => k_is)
    (case q_tSvc => k_is)
    (case pg_C_Service => k_is)
    (case hd_C_Service => k_is)
    (case po_C_Service => k_is)
    (case sa_C_Service => k_is)
    (case mk_C_Service => k_is)
    (case fi_f_Service_init => k_is)
    (case kc_C_Service => k_is)
    (case cc_Service_init => k_is)
    (case k_Service_init => k_is)
    (case n_C_Service_name => k_is)
    (case n_C_Service_kinds => k_is)
    (case n_C_Service_waits => k_is)
    (case n_C_Service_leaves => k_is)
    (case n_C_Service_rows => k_is)
    (case n_C_Service_moods => k_is)
    (case q_sf_Begin => k_is)
    (case q_ef_Begin => k_is)
    (case q_en_Begin => k_is)
    (case q_eo_Begin => k_is)
    (case isC_C_Begin => k_is)
    (case tyC_C_Begin => k_is)
    (case sub_Tstr_C_Begin => first | k_is | rfl)
    (case sub_Ttuple_C_Begin => first | k_is | rfl)
    (case q_ns_Begin => k_is)
    (case q_nt_Begin => k_is)
    (case q_sf_Send => k_is)
    (case q_ef_Send => k_is)
    (case q_en_Send => k_is)
    (case q_eo_Send => k_is)
    (case isC_C_Send => k_is)
    (case tyC_C_Send => k_is)
    (case sub_Tstr_C_Send => first | k_is | rfl)
    (case sub_Ttuple_C_Send => first | k_is | rfl)
    (case q_ns_Send => k_is)
    (case q_nt_Send => k_is)
    (case q_sf_Back => k_is)
    (case q_ef_Back => k_is)
    (case q_en_Back => k_is)
    (case q_eo_Back => k_is)
    (case sub_Tstr_C_Back => first | k_is | rfl)
    (case sub_Ttuple_C_Back => first | k_is | rfl)
    (case q_ns_Back => k_is)
    (case q_nt_Back => k_is)
    (case q_sf_End => k_is)
    (case q_ef_End => k_is)
    (case q_en_End => k_is)
    (case q_eo_End => k_is)
    (case isC_C_End => k_is)
    (case tyC_C_End => k_is)
    (case sub_Tstr_C_End => first | k_is | rfl)
    (case sub_Ttuple_C_End => first | k_is | rfl)
    (case q_ns_End => k_is)
    (case q_nt_End => k_is)
    (case sub_C_Begin_C_Begin => first | k_is | rfl)
    (case q_nf_Begin_Begin => k_is)
    (case sub_C_Begin_C_Send => first | k_is | rfl)
    (case ne_C_Begin_C_Send => decide)
    (case q_nf_Begin_Send => k_is)
    (case q_nf_Begin_Back => k_is)
    (case sub_C_Begin_C_End => first | k_is | rfl)
    (case ne_C_Begin_C_End => decide)
    (case q_nf_Begin_End => k_is)
    (case sub_C_Send_C_Begin => first | k_is | rfl)
    (case ne_C_Send_C_Begin => decide)
    (case q_nf_Send_Begin => k_is)
    (case sub_C_Send_C_Send => first | k_is | rfl)
    (case q_nf_Send_Send => k_is)
    (case q_nf_Send_Back => k_is)
    (case sub_C_Send_C_End => first | k_is | rfl)
    (case ne_C_Send_C_End => decide)
    (case q_nf_Send_End => k_is)
    (case sub_C_Back_C_Begin => first | k_is | rfl)
    (case ne_C_Back_C_Begin => decide)
    (case q_nf_Back_Begin => k_is)
    (case sub_C_Back_C_Send => first | k_is | rfl)
    (case ne_C_Back_C_Send => decide)
    (case q_nf_Back_Send => k_is)
    (case q_nf_Back_Back => k_is)
    (case sub_C_Back_C_End => first | k_is | rfl)
    (case ne_C_Back_C_End => decide)
    (case q_nf_Back_End => k_is)
    (case sub_C_End_C_Begin => first | k_is | rfl)
    (case ne_C_End_C_Begin => decide)
    (case q_nf_End_Begin => k_is)
    (case sub_C_End_C_Send => first | k_is | rfl)
    (case ne_C_End_C_Send => decide)
    (case q_nf_End_Send => k_is)
    (case q_nf_End_Back => k_is)
    (case sub_C_End_C_End => first | k_is | rfl)
    (case q_nf_End_End => k_is)
    (case q_sf_Service => k_is)
    (case q_ef_Service => k_is)
    (case q_en_Service => k_is)
    (case q_eo_Service => k_is)
    (case ca_C_Service => k_is)
    (case cm_C_Service => k_is)
    (case isC_C_Service => k_is)
    (case tyC_C_Service => k_is)
    (case sub_C_Service_C_Service => first | k_is | rfl)
    (case q_nf_Service => k_is)
    (case fi_f_Service_begin => k_is)
    (case kf_f_Service_begin => k_is)
    (case fi_f_Service_send => k_is)
    (case kf_f_Service_send => k_is)
    (case fi_f_Service_back => k_is)
    (case kf_f_Service_back => k_is)
    (case fi_f_Service_end => k_is)
    (case kf_f_Service_end => k_is)
    (case z_int => k_is)
    (case z_abs => k_is)
    (case z_max => k_is)
    (case z_min => k_is)
    (case z_range => k_is)
