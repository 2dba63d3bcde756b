import PyProof.Rows.All
import Wide.All
import OpenK.AllK
import Wide.FinOn
import HandS.ForMost
import HandS.Evl
import HandS.Style
import HandS.Walk
import HandS.IsInst
import HandS.Deep
import HandS.StrMore
import HandS.More
import PySem.Challenge.RW_wholetraces_k03_rows_refused
import HandS.ExcInit
import HandS.ExcField
import HandS.TryOnly
import HandS.WordsExc
import HandS.ExcIs
set_option Elab.async false
set_option maxRecDepth 100000
set_option maxHeartbeats 4000000
set_option linter.all false
/-! ## Words of my own that speak of no program -/
namespace My
open PySem L2
/-- the box of draws: three ints -/
def bx (w s c : Int) : HO := .lst [.int w, .int s, .int c]
theorem small_ {n : Nat} (h : n ≤ 1000) : n ≤ sizeLine := Nat.le_of_lt (small1000 h)
theorem at_some {xs : List V} {k : Int} (h0 : 0 ≤ k) (h1 : k < (xs.length : Int)) : ∃ v : V, atI xs k = some v ∧ xs[k.toNat]? = some v := by
  have hk : k.toNat < xs.length := by omega
  have h2 : xs[k.toNat]? = some xs[k.toNat] := List.getElem?_eq_getElem hk
  have h3 := atI_nat h2
  rw [show ((k.toNat : Nat) : Int) = k by omega] at h3
  exact ⟨_, h3, h2⟩
theorem int_at {ns : List Int} {k : Int} (h0 : 0 ≤ k) (h1 : k < (ns.length : Int)) : ∃ z : Int, atI (ns.map V.int) k = some (.int z) := by
  obtain ⟨v, h, e⟩ := at_some (xs := ns.map V.int) h0 (by rw [List.length_map]; exact h1)
  rw [List.getElem?_map] at e
  cases q : ns[k.toNat]? with
  | none => rw [q] at e; cases e
  | some z => rw [q] at e; cases e; exact ⟨z, h⟩
/-! ### the heap grows, the box alone changes -/
structure Gr (b : Addr) (H H' : Hp) : Prop where
  keep : ∀ a o, a ≠ b → H a = some o → H' a = some o
  box : ∃ w s c, H' b = some (bx w s c)
/-- at a, which is not the box, stands o -/
structure At (b : Addr) (H : Hp) (a : Addr) (o : HO) : Prop where
  ne : a ≠ b
  at_ : H a = some o
theorem Gr.refl {b : Addr} {H : Hp} {w s c : Int} (h : H b = some (bx w s c)) : Gr b H H := ⟨fun _ _ _ e => e, w, s, c, h⟩
theorem Gr.trans {b : Addr} {H H1 H2 : Hp} (x : Gr b H H1) (y : Gr b H1 H2) : Gr b H H2 := ⟨fun a o n e => y.keep a o n (x.keep a o n e), y.box⟩
theorem Gr.draw {b : Addr} {H H1 : Hp} (x : Gr b H H1) (w s c : Int) : Gr b H (upd H1 b (bx w s c)) := ⟨fun a o n e => by rw [upd_ne n]; exact x.keep a o n e, w, s, c, upd_same⟩
theorem Gr.ne_new {b p : Addr} {H H1 : Hp} (x : Gr b H H1) (h : H1 p = none) : p ≠ b := fun e => by
  obtain ⟨w, s, c, q⟩ := x.box
  rw [e, q] at h
  cases h
theorem Gr.free {b p : Addr} {H H1 : Hp} (x : Gr b H H1) (h : H1 p = none) : H p = none := by
  cases q : H p with
  | none => rfl
  | some o =>
    rw [x.keep p o (x.ne_new h) q] at h
    cases h
theorem Gr.new {b p : Addr} {H H1 : Hp} (x : Gr b H H1) (h : H1 p = none) (o : HO) : Gr b H (upd H1 p o) := by
  have np := x.ne_new h
  refine ⟨fun a u n e => ?_, ?_⟩
  · rw [upd_ne (ne_of_none (x.keep a u n e) h)]
    exact x.keep a u n e
  · obtain ⟨w, s, c, q⟩ := x.box
    exact ⟨w, s, c, by rw [upd_ne np.symm]; exact q⟩
/-- what H does not know may be changed -/
theorem Gr.mut {b p : Addr} {H H1 : Hp} (x : Gr b H H1) (h : H p = none) (np : p ≠ b) (o : HO) : Gr b H (upd H1 p o) := by
  refine ⟨fun a u n e => ?_, ?_⟩
  · rw [upd_ne (ne_of_none e h)]
    exact x.keep a u n e
  · obtain ⟨w, s, c, q⟩ := x.box
    exact ⟨w, s, c, by rw [upd_ne np.symm]; exact q⟩
theorem At.gr {b a : Addr} {H H' : Hp} {o : HO} (h : At b H a o) (g : Gr b H H') : At b H' a o := ⟨h.ne, g.keep a o h.ne h.at_⟩
theorem At.l {K : PySem.W.Frag} {b a : Addr} {H : Hp} {xs : List V} (h : At b H a (.lst xs)) : SqL K H a xs := SqL.of h.at_
theorem At.t {K : PySem.W.Frag} {b a : Addr} {H : Hp} {xs : List V} (h : At b H a (.tup xs)) : SqT K H a xs := SqT.of h.at_
theorem Gr.at_new {b p : Addr} {H H1 : Hp} (x : Gr b H H1) (h : H1 p = none) (o : HO) : At b (upd H1 p o) p o := ⟨x.ne_new h, upd_same⟩
theorem At.new {b a p : Addr} {H : Hp} {o u : HO} (h : At b H a o) (hp : H p = none) : At b (upd H p u) a o := ⟨h.ne, by rw [upd_ne (ne_of_none h.at_ hp)]; exact h.at_⟩
theorem At.nep {b a p : Addr} {H : Hp} {o : HO} (h : At b H a o) (hp : H p = none) : a ≠ p := ne_of_none h.at_ hp
theorem Gr.of_new {b p : Addr} {H : Hp} {w s c : Int} (hb : H b = some (bx w s c)) (h : H p = none) (o : HO) : Gr b H (upd H p o) := (Gr.refl hb).new h o
theorem At.mk_new {b p : Addr} {H H1 : Hp} (x : Gr b H H1) (h : H1 p = none) (o : HO) : At b (upd H1 p o) p o := ⟨x.ne_new h, upd_same⟩
theorem Same.gr {b : Addr} {H H' : Hp} {w s c : Int} (e : Same H H') (h : H b = some (bx w s c)) : Gr b H H' := ⟨fun a o _ q => e a o q, w, s, c, e _ _ h⟩
theorem same_upd {H : Hp} {p : Addr} (h : H p = none) (o : HO) : Same H (upd H p o) := fun b u q => by rw [upd_ne (ne_of_none q h)]; exact q

/-! ### a list against an empty list -/
section
variable {X : Cx}
def rEqE (K : PySem.W.Frag) (neg : Bool) : R2 := fun x y H Q => ∃ (a q : Addr) (xs : List V), x = .ref a ∧ y = .ref q ∧ SqL K H a xs ∧ SqL K H q [] ∧ Q (.bl (if neg then !xs.isEmpty else xs.isEmpty)) H
theorem op_eqE (hu : X.A.units < cLine) : OpR X (compareOp .Eq) (rEqE X.K false) := by
  intro pins s σ H x y u v Q I rx ry h
  obtain ⟨a, q, xs, rfl, rfl, h1, h2, k⟩ := h
  cases rx
  cases ry
  obtain ⟨is, r, p, _⟩ := I.list h1
  obtain ⟨js, r', p', _⟩ := I.list h2
  cases r'
  cases xs with
  | nil =>
    cases r
    exact SeqAt.RcAt.lists (e := fun _ => true) p.isList p'.isList rfl hu (fun j h1 _ => absurd h1 (by simp)) X.prog X.w X.xe _ ⟨.bl true, H, I, rfl, k⟩
  | cons x xs =>
    cases r with
    | cons r1 r2 => exact SeqAt.RcAt.lists_lengths p.isList p'.isList (by simp) hu X.prog X.w X.xe _ ⟨.bl false, H, I, rfl, k⟩
theorem op_neE (hu : X.A.units < cLine) : OpR X (compareOp .NotEq) (rEqE X.K true) := by
  intro pins s σ H x y u v Q I rx ry h
  obtain ⟨a, q, xs, rfl, rfl, h1, h2, k⟩ := h
  cases rx
  cases ry
  obtain ⟨is, r, p, _⟩ := I.list h1
  obtain ⟨js, r', p', _⟩ := I.list h2
  cases r'
  cases xs with
  | nil =>
    cases r
    exact SeqAt.RcNeAt.lists (e := fun _ => true) p.isList p'.isList rfl hu (fun j h1 _ => absurd h1 (by simp)) X.prog X.w X.xe _ ⟨.bl false, H, I, rfl, k⟩
  | cons x xs =>
    cases r with
    | cons r1 r2 => exact SeqAt.RcNeAt.lists_lengths p.isList p'.isList (by simp) hu X.prog X.w X.xe _ ⟨.bl true, H, I, rfl, k⟩
/-- a text so many times -/
def timesL (x : List Nat) : Nat → List Nat
  | 0 => []
  | n + 1 => x ++ timesL x n
end
end My

/-! ## Further rules of my own: a text so many times -/
namespace My
open PySem L2
theorem timesL_one (x : List Nat) : timesL x 1 = x := by simp [timesL]
theorem fold_times (x : Array Nat) : ∀ (n : Nat) (acc : Array Nat), ((List.replicate n x).foldl (· ++ ·) acc).toList = acc.toList ++ timesL x.toList n
  | 0, acc => by simp [timesL]
  | n + 1, acc => by
    rw [List.replicate_succ, List.foldl_cons, fold_times x n, Array.toList_append, List.append_assoc]
    rfl
theorem timesL_len (x : List Nat) : ∀ n : Nat, (timesL x n).length = n * x.length
  | 0 => by simp [timesL]
  | n + 1 => by
    show (x ++ timesL x n).length = (n + 1) * x.length
    rw [List.length_append, timesL_len x n, Nat.add_mul, Nat.one_mul, Nat.add_comm]
theorem timesL_nil : ∀ n : Nat, timesL [] n = []
  | 0 => rfl
  | n + 1 => by
    show [] ++ timesL [] n = []
    rw [timesL_nil n]
    rfl
section
variable {X : Cx}
theorem op_mul_str : OpR X (binaryOp .Mult) (fun x y H Q => ∃ (z : Str) (n : Int), x = .str z ∧ y = .int n ∧ 0 ≤ n ∧ n ≤ 1000 ∧ z.length ≤ 1000 ∧ Q (.str ⟨(timesL z.cps.toList n.toNat).toArray⟩) H) := by
  intro pins s σ H x y v u Q I rx ry h
  obtain ⟨z, n, rfl, rfl, h0, h1, hz, k⟩ := h
  obtain ⟨t, rfl⟩ := rx
  obtain ⟨t', rfl⟩ := ry
  have hs : z.cps.size ≤ 1000 := hz
  refine PySem.P.mul_str (by rw [decide_eq_false (by omega), decide_eq_false (by omega)]; rfl) (fun h2 _ => ?_) (fun h2 _ => ?_) ?_
  · have h3 : (1000 : Int) ≤ (2 ^ 63 - 1) / n := by
      rw [Int.le_ediv_iff_mul_le (by omega)]
      have : (1000 : Int) * n ≤ 1000000 := by omega
      omega
    omega
  · have h3 : z.length * n.toNat ≤ 1000 * 1000 := Nat.mul_le_mul hz (by omega)
    have h4 : z.length * n.toNat ≤ sizeLine := by rw [sizeLine_eq]; omega
    show decide (z.length * n.toNat > sizeLine) = false
    exact decide_eq_false (by omega)
  · by_cases n0 : n < 1
    · have e : n = 0 := by omega
      subst e
      exact ⟨Nat.zero_le _, .str ⟨#[]⟩, H, I.tok _, ⟨_, rfl⟩, k⟩
    · rw [if_neg n0]
      by_cases e : (n == 1 || z.length == 0) = true
      · rw [if_pos e]
        have q : timesL z.cps.toList n.toNat = z.cps.toList := by
          rcases Bool.or_eq_true_iff.mp e with e | e
          · have e' : n = 1 := by simpa using e
            subst e'
            exact timesL_one _
          · have e' : z.cps.toList = [] := by
              have : z.cps.size = 0 := by simpa [Str.length] using e
              exact List.eq_nil_of_length_eq_zero (by simpa using this)
            rw [e', timesL_nil]
        rw [q] at k
        exact ⟨.str z, H, I, ⟨t, rfl⟩, by simpa using k⟩
      · rw [if_neg e]
        have q : (⟨(List.replicate n.toNat z.cps).foldl (· ++ ·) #[]⟩ : Str) = ⟨(timesL z.cps.toList n.toNat).toArray⟩ := by
          have f := fold_times z.cps n.toNat #[]
          have g : (List.replicate n.toNat z.cps).foldl (· ++ ·) #[] = (timesL z.cps.toList n.toNat).toArray := by
            apply Array.toList_inj.mp
            rw [f]
            simp
          rw [g]
        rw [← q] at k
        refine ⟨?_, .str _, H, I.tok _, ⟨_, rfl⟩, k⟩
        show ((List.replicate n.toNat z.cps).foldl (· ++ ·) #[]).size ≤ sizeLine
        rw [← Array.length_toList, fold_times, List.length_append, timesL_len]
        have h3 : n.toNat * z.cps.toList.length ≤ 1000 * 1000 := Nat.mul_le_mul (by omega) (by simpa using hs)
        rw [sizeLine_eq]
        simpa using (by omega : n.toNat * z.cps.toList.length ≤ 16777216)
end
end My

/-! ## The rules that read the written part, with it named (within a comprehension's block it must not hang on the block) -/
namespace My
open PySem L2
section
variable {X : Cx} {e a b o : Expr} {es : List Expr} {te ta tb to : TE} {t : TA} {f name : Str} {pos cpos p apos : Pos} {id T : String}
theorem pe_fldK (K : PySem.W.Frag) (he : PE X e ta) (hK : X.K = K := by rfl) (hb : attributeBase e f X.env (eval e X.env) = eval e X.env := by rfl) : PE X (.Attribute e f pos) (tFld K ta f) := hK ▸ pe_fld he hb
theorem ix_listK (K : PySem.W.Frag) (hK : X.K = K := by rfl) : IxR X (rIxL K) := hK ▸ ix_list
theorem ix_tupK (K : PySem.W.Frag) (hK : X.K = K := by rfl) : IxR X (rIxT K) := hK ▸ ix_tup
theorem sl_listK (K : PySem.W.Frag) (hK : X.K = K := by rfl) : SlR X (rSlL K) := hK ▸ sl_list
theorem sl_tupK (K : PySem.W.Frag) (hK : X.K = K := by rfl) : SlR X (rSlT K) := hK ▸ sl_tup
def rLenS (K : PySem.W.Frag) : List V → Hp → VK → Prop := fun xs H Q => ∃ p ys, xs = [.ref p] ∧ (SqL K H p ys ∨ SqT K H p ys) ∧ Q (.int ys.length) H
theorem call_lenK (K : PySem.W.Frag) (hK : X.K = K := by rfl) : CallR X (.builtin "len") (rLenS K) := hK ▸ call_len_seq
def rListO (K : PySem.W.Frag) : List V → Hp → VK → Prop := fun xs H Q => ∃ p ys, xs = [.ref p] ∧ (SqL K H p ys ∨ SqT K H p ys) ∧ ∀ l, H l = none → Q (.ref l) (upd H l (.lst ys))
theorem call_listK (K : PySem.W.Frag) (hK : X.K = K := by rfl) : CallR X (.type "list") (rListO K) := hK ▸ call_list_of
def rTupO (K : PySem.W.Frag) : List V → Hp → VK → Prop := fun xs H Q => ∃ p ys, xs = [.ref p] ∧ ((SqL K H p ys ∧ ∀ l, H l = none → Q (.ref l) (upd H l (.tup ys))) ∨ (SqT K H p ys ∧ Q (.ref p) H))
theorem call_tupleK (K : PySem.W.Frag) (hK : X.K = K := by rfl) : CallR X (.type "tuple") (rTupO K) := hK ▸ call_tuple_of
theorem op_inK (K : PySem.W.Frag) (hK : X.K = K := by rfl) : OpR X (compareOp .In) (rIn K false) := hK ▸ op_in_seq
theorem op_notInK (K : PySem.W.Frag) (hK : X.K = K := by rfl) : OpR X (compareOp .NotIn) (rIn K true) := hK ▸ op_notIn_seq
theorem op_eqDK (K : PySem.W.Frag) (hu : X.A.units + 64 < cLine) (hK : X.K = K := by rfl) : OpR X (compareOp .Eq) (rEqD K) := hK ▸ op_eqD hu
theorem op_neDK (K : PySem.W.Frag) (hu : X.A.units + 64 < cLine) (hK : X.K = K := by rfl) : OpR X (compareOp .NotEq) (rNeD K) := hK ▸ op_neD hu
theorem op_eqEK (K : PySem.W.Frag) (hu : X.A.units < cLine) (hK : X.K = K := by rfl) : OpR X (compareOp .Eq) (rEqE K false) := hK ▸ op_eqE hu
theorem op_neEK (K : PySem.W.Frag) (hu : X.A.units < cLine) (hK : X.K = K := by rfl) : OpR X (compareOp .NotEq) (rEqE K true) := hK ▸ op_neE hu
def rJoin (K : PySem.W.Frag) : V → List V → Hp → VK → Prop := fun x xs H Q => ∃ a p, ∃ ys : List Str, x = .str a ∧ xs = [.ref p] ∧ (SqL K H p (ys.map V.str) ∨ SqT K H p (ys.map V.str)) ∧
  (ys.map (·.length)).sum + ys.length * a.length ≤ 16777216 ∧ Q (.str (Txt.join a ys)) H
theorem mt_joinK (K : PySem.W.Frag) (hK : X.K = K := by rfl) : MtR X "str.join" (rJoin K) := hK ▸ mt_join
theorem pi_listK (K : PySem.W.Frag) {tg : Expr} (hl : PE X e te) (hK : X.K = K := by rfl) : PI X tg e (iList K te) := hK ▸ pi_list hl
theorem pi_tupK (K : PySem.W.Frag) {tg : Expr} (hl : PE X e te) (hK : X.K = K := by rfl) : PI X tg e (iTup K te) := hK ▸ pi_tup hl
theorem call_isiV (K : PySem.W.Frag) (hK : X.K = K := by rfl) : CallR X (.builtin "isinstance") (rIsi K) := hK ▸ call_isi
theorem call_isiTV (K : PySem.W.Frag) (hK : X.K = K := by rfl) : CallR X (.builtin "isinstance") (rIsiT K) := hK ▸ call_isiT
theorem cr_allK (K : PySem.W.Frag) (hc : X.calm = true) (hK : X.K = K := by rfl) : CallR X (.builtin "all") (rAll K) := hK ▸ cr_all hc
end
end My

/-! ## Data: values that are nested lists and tuples -/
namespace My
open PySem L2
mutual
theorem Dp.same {K : PySem.W.Frag} {H H' : Hp} (e : Same H H') : ∀ (d : PyData) (v : V), Dp K H v d → Dp K H' v d
  | .none, _, h => by cases h; exact .non
  | .bool b, _, h => by cases h; exact .bl b
  | .int i, _, h => by cases h; exact .int i
  | .str x, _, h => by cases h; exact .str x
  | .list ds, _, h => by
    cases h with
    | lst hs ha => exact .lst (e.seq hs) (DpAll.same e ds _ ha)
  | .tuple ds, _, h => by
    cases h with
    | tup hs ha =>
      refine .tup ?_ (DpAll.same e ds _ ha)
      rcases hs with (hs | ⟨o, hs⟩) | hs
      · exact .inl (.inl (e _ _ hs))
      · exact .inl (.inr ⟨o, e _ _ hs⟩)
      · exact .inr hs
  | .dict _, _, h => by cases h
theorem DpAll.same {K : PySem.W.Frag} {H H' : Hp} (e : Same H H') : ∀ (ds : List PyData) (vs : List V), DpAll K H vs ds → DpAll K H' vs ds
  | [], _, h => by cases h; exact .nil
  | d :: ds, _, h => by
    cases h with
    | cons h1 h2 => exact .cons (Dp.same e d _ h1) (DpAll.same e ds _ h2)
end
theorem seqL_same {K : PySem.W.Frag} {H H' : Hp} (e : Same H H') {a : Addr} {xs : List V} (h : SqL K H a xs) : SqL K H' a xs := e.seq h
theorem seqT_same {K : PySem.W.Frag} {H H' : Hp} (e : Same H H') {a : Addr} {xs : List V} (hs : SqT K H a xs) : SqT K H' a xs := by
  rcases hs with (hs | ⟨o, hs⟩) | hs
  · exact .inl (.inl (e _ _ hs))
  · exact .inl (.inr ⟨o, e _ _ hs⟩)
  · exact .inr hs
theorem tyL {K : PySem.W.Frag} {H : Hp} {a : Addr} {xs : List V} (h : SqL K H a xs) : TyX K H (.ref a) (.type "list") := by
  rcases h with (h | ⟨o, h⟩) | ⟨o, its, n, h, hc, _⟩
  · exact .base (.lst h)
  · exact .base (.frz h)
  · exact .kList h hc
theorem tyT {K : PySem.W.Frag} {H : Hp} {a : Addr} {xs : List V} (h : SqT K H a xs) : TyX K H (.ref a) (.type "tuple") := by
  rcases h with (h | ⟨o, h⟩) | ⟨o, its, n, h, hc, _⟩
  · exact .base (.tup h)
  · exact .fTuple h
  · exact .kTuple h hc
/-- the type of a datum -/
def tyD : PyData → String
  | .none => "NoneType"
  | .bool _ => "bool"
  | .int _ => "int"
  | .str _ => "str"
  | .list _ => "list"
  | .tuple _ => "tuple"
  | .dict _ => "dict"
theorem Dp.ty {K : PySem.W.Frag} {H : Hp} {v : V} {d : PyData} (h : Dp K H v d) : TyX K H v (.type (tyD d)) := by
  cases h with
  | non => exact .base .non
  | bl b => exact .base (.bl b)
  | int i => exact .base (.int i)
  | str x => exact .base (.str x)
  | lst hs _ => exact tyL hs
  | tup hs _ => exact tyT hs
/-- a datum of bounded depth whose text, if it is one, is short -/
structure Dv (K : PySem.W.Frag) (H : Hp) (v : V) (d : PyData) : Prop where
  dp : Dp K H v d
  sh : SeqAt.shaped d = true
  tx : ∀ x, d = .str x → x.length ≤ 2000
theorem Dv.same {K : PySem.W.Frag} {H H' : Hp} {v : V} {d : PyData} (h : Dv K H v d) (e : Same H H') : Dv K H' v d := ⟨Dp.same e d v h.dp, h.sh, h.tx⟩
/-- a short text of code points -/
def okS (x : Str) : Bool := decide (x.length ≤ 2000) && PyData.strOk x
theorem shaped_str {x : Str} (h : PyData.strOk x = true) : SeqAt.shaped (.str x) = true := by
  unfold SeqAt.shaped
  simp [PyData.canLay0, PyData.depth, h]
theorem Dv.str {K : PySem.W.Frag} {H : Hp} {x : Str} (h : okS x = true) : Dv K H (.str x) (.str x) := by
  have h' := Bool.and_eq_true_iff.mp h
  exact ⟨.str x, shaped_str h'.2, fun y e => by cases e; exact of_decide_eq_true h'.1⟩
theorem Dp.all_strs {K : PySem.W.Frag} {H : Hp} : ∀ l : List Str, DpAll K H (l.map V.str) (l.map PyData.str)
  | [] => .nil
  | x :: l => .cons (.str x) (Dp.all_strs l)
/-- a datum as a text among some -/
def txD (l : List Str) : PyData → Bool
  | .str x => l.contains x
  | _ => false
theorem any_strs (l : List Str) (d : PyData) : ((l.map PyData.str).any fun z => PyData.eqv z d) = txD l d := by
  induction l with
  | nil => cases d <;> rfl
  | cons y l ih =>
    rw [List.map_cons, List.any_cons, ih]
    cases d with
    | str x =>
      show (PyData.eqv (.str y) (.str x) || l.contains x) = (y :: l).contains x
      rw [List.contains_cons, show PyData.eqv (.str y) (.str x) = (y == x) from by simp [PyData.eqv], BEq.comm]
    | _ =>
      show (PyData.eqv (.str y) _ || false) = false
      simp [PyData.eqv]
theorem canLay_strs : ∀ l : List Str, (l.all PyData.strOk) = true → PyData.canLayAll0 (l.map PyData.str) = true
  | [], _ => rfl
  | y :: l, h => by
    rw [List.all_cons, Bool.and_eq_true] at h
    have ih := canLay_strs l h.2
    simp [PyData.canLayAll0, PyData.canLay0, h.1, ih]
theorem depth_strs : ∀ l : List Str, PyData.depthAll (l.map PyData.str) = 0
  | [] => by simp [PyData.depthAll]
  | y :: l => by
    have ih := depth_strs l
    simp [PyData.depthAll, PyData.depth, ih]
theorem shaped_strs {l : List Str} (h : (l.all PyData.strOk) = true) : SeqAt.shaped (.tuple (l.map PyData.str)) = true := by
  unfold SeqAt.shaped
  simp [PyData.canLay0, PyData.depth, canLay_strs l h, depth_strs l]
theorem shapedL_strs {l : List Str} (h : (l.all PyData.strOk) = true) : SeqAt.shaped (.list (l.map PyData.str)) = true := by
  unfold SeqAt.shaped
  simp [PyData.canLay0, PyData.depth, canLay_strs l h, depth_strs l]
section
variable {X : Cx}
def rInT (K : PySem.W.Frag) (neg : Bool) : R2 := fun x y H Q => ∃ d ds, Dp K H x d ∧ Dp K H y (.tuple ds) ∧ SeqAt.shaped d = true ∧ SeqAt.shaped (.tuple ds) = true ∧ Q (.bl (if neg then !ds.any fun z => PyData.eqv z d else ds.any fun z => PyData.eqv z d)) H
theorem op_inT (K : PySem.W.Frag) (hu : X.A.units + 65 < cLine) (hK : X.K = K := by rfl) : OpR X (compareOp .In) (rInT K false) := by
  subst hK
  intro pins s σ H x y v u Q I rx ry h
  obtain ⟨d, ds, hd, he, sd, se, q⟩ := h
  obtain ⟨as, r1⟩ := Dp.reads I d x v hd rx
  obtain ⟨bs, r2⟩ := Dp.reads I (.tuple ds) y u he ry
  exact SeqAt.in_tuple_reads r2 r1 (by simpa [PyData.canLay0] using SeqAt.canLay_of_shaped se) (SeqAt.canLay_of_shaped sd) (by have := SeqAt.depth_of_shaped sd; have := Nat.min_le_right (PyData.depthAll ds) d.depth; omega) ⟨.bl _, H, I, rfl, q⟩
theorem op_notInT (K : PySem.W.Frag) (hu : X.A.units + 65 < cLine) (hK : X.K = K := by rfl) : OpR X (compareOp .NotIn) (rInT K true) := by
  subst hK
  intro pins s σ H x y v u Q I rx ry h
  obtain ⟨d, ds, hd, he, sd, se, q⟩ := h
  obtain ⟨as, r1⟩ := Dp.reads I d x v hd rx
  obtain ⟨bs, r2⟩ := Dp.reads I (.tuple ds) y u he ry
  exact SeqAt.notIn_tuple_reads r2 r1 (by simpa [PyData.canLay0] using SeqAt.canLay_of_shaped se) (SeqAt.canLay_of_shaped sd) (by have := SeqAt.depth_of_shaped sd; have := Nat.min_le_right (PyData.depthAll ds) d.depth; omega) ⟨.bl _, H, I, rfl, q⟩
end
theorem room65 {k : Nat} {A : Around} (r : Room k A) : A.units + 65 < cLine := by have := r.un; omega
end My

/-! ## The law's draws: the box, a draw, a pick -/
namespace My
open PySem L2
def top (i : Nat) : Stmt := PySem.Challenge.pw_wholetraces_k03_rows_refused.main.body.getD i (.Pass ⟨0, 0, 0, 0⟩)
abbrev s_box : Stmt := top 15
abbrev N_box : List Str := ["_law_script", "_law_k", "_law_cell", "_law_seed", "_law_wide"]
abbrev P_box : List Str := ["_law_script", "_law_k"]
theorem sc_box : FnScope N_box P_box (defScope s_box) := ⟨rfl, rfl, rfl, by decide +kernel, rfl, by decide +kernel, by decide +kernel⟩
abbrev s_take : Stmt := top 16
abbrev N_take : List Str := ["_law_box_here", "_law_many", "_law_digit", "_law_near"]
abbrev P_take : List Str := ["_law_box_here", "_law_many"]
theorem sc_take : FnScope N_take P_take (defScope s_take) := ⟨rfl, rfl, rfl, by decide +kernel, rfl, by decide +kernel, by decide +kernel⟩
abbrev s_pick : Stmt := top 17
abbrev N_pick : List Str := ["_law_box_here", "_law_some"]
abbrev P_pick : List Str := ["_law_box_here", "_law_some"]
theorem sc_pick : FnScope N_pick P_pick (defScope s_pick) := ⟨rfl, rfl, rfl, by decide +kernel, rfl, by decide +kernel, by decide +kernel⟩
structure TxDraw (w : World) (K : PySem.W.Frag) (mg : Str → Option Value) where
  z_len : mg "len" = none
  z_int : mg "int" = none
  z_abs : mg "abs" = none
  f_take : Addr
  d_take : FuncData
  F_take : Fun K "_law_take" "_law_take" s_take f_take d_take
  m_take : mg "_law_take" = some (.ref f_take)
  b_take : Binds K d_take P_take []
  f_box : Addr
  d_box : FuncData
  F_box : Fun K "_law_box" "_law_box" s_box f_box d_box
  m_box : mg "_law_box" = some (.ref f_box)
  b_box : Binds K d_box P_box []
  f_pick : Addr
  d_pick : FuncData
  F_pick : Fun K "_law_pick" "_law_pick" s_pick f_pick d_pick
  m_pick : mg "_law_pick" = some (.ref f_pick)
  b_pick : Binds K d_pick P_pick []
def spBox (K : PySem.W.Frag) : Sp := fun vs H Q _ => ∃ (a : Addr) (ns : List Int) (k : Int), vs = [.ref a, .int k] ∧ SqL K H a (ns.map V.int) ∧ ns.length ≤ 63 ∧ 0 ≤ k ∧
  ∀ (b : Addr) (w s : Int), H b = none → Q (.ref b) (upd H b (bx w s 0))
def spTake : Sp := fun vs H Q _ => ∃ (b : Addr) (w s c m : Int), vs = [.ref b, .int m] ∧ H b = some (bx w s c) ∧ 0 < m ∧ m < 1073741824 ∧
  ∀ (d w' s' c' : Int), 0 ≤ d → d < m → Q (.int d) (upd H b (bx w' s' c'))
/-- an item of a list that stands at a, another object than the box -/
def spPick (K : PySem.W.Frag) : Sp := fun vs H Q _ => ∃ (b a : Addr) (w s c : Int) (xs : List V), vs = [.ref b, .ref a] ∧ H b = some (bx w s c) ∧ SqL K H a xs ∧ (∀ u, SqL K (upd H b u) a xs) ∧ xs ≠ [] ∧ xs.length ≤ 1000 ∧
  ∀ (x : V) (w' s' c' : Int), x ∈ xs → Q x (upd H b (bx w' s' c'))
section
variable {P : Program} {w : World} {K : PySem.W.Frag} {mg : Str → Option Value} {base : Heap}
theorem ok_take (T : TxDraw w K mg) : FnOk P w K mg base CX0 1 T.f_take T.d_take P_take spTake := by
  refine T.F_take.ok sc_take (fun vs H Q E h => ?_) (fun cdv A outer s H vs Q E hr h => ?_)
  · obtain ⟨b, w, s, c, m, rfl, _⟩ := h
    rfl
  obtain ⟨b, w, s, c, m, rfl, hb, m0, m1, k⟩ := h
  refine ⟨_, (pss_cons (ps_if (pt_cmpR op_gt (pe_ix (ix_listK K) (pv 0) pe_int (fun _ _ => rfl)) pe_int (nomark _)) (pss_cons (ps_set (i := 2) sc_take.nd rfl (Or.inl rfl) (pe_op op_mod (pe_callTy call_int1 (by rfl) T.z_int (by decide +kernel) (pa_cons (pe_ix (ix_listK K) (pv 0) pe_int (fun _ _ => rfl)) pa_nil)) (pv 1)))
      (pss_cons (ps_asg (pe_op op_fdiv (pe_ix (ix_listK K) (pv 0) pe_int (fun _ _ => rfl)) (pv 1)) (pg_sub (pv 0) pe_int set_list))
      (pss_one (ps_ret (pv 2))))) pss_nil)
      (pss_cons (ps_asg (pe_op op_add (pe_ix (ix_listK K) (pv 0) pe_int (fun _ _ => rfl)) pe_int) (pg_sub (pv 0) pe_int set_list))
      (pss_cons (ps_set (i := 3) sc_take.nd rfl (Or.inl rfl) (pe_op op_mod (pe_callTy call_int1 (by rfl) T.z_int (by decide +kernel) (pa_cons (pe_op op_mul (pe_op op_add (pe_ix (ix_listK K) (pv 0) pe_int (fun _ _ => rfl)) (pe_op op_mul pe_int (pe_ix (ix_listK K) (pv 0) pe_int (fun _ _ => rfl)))) pe_int) pa_nil)) pe_int))
      (pss_cons (ps_asg (pe_op op_add (pe_op op_mod (pe_callTy call_int1 (by rfl) T.z_int (by decide +kernel) (pa_cons (pe_op op_add (pe_op op_mul (pv 3) pe_int) pe_int) pa_nil)) pe_int) pe_int) (pg_sub (pv 0) pe_int set_list))
      (pss_one (ps_ret (pe_op op_mod (pe_callTy call_int1 (by rfl) T.z_int (by decide +kernel) (pa_cons (pe_op op_fdiv (pe_op op_add (pe_op op_mul (pv 3) pe_int) (pe_ix (ix_listK K) (pv 0) pe_int (fun _ _ => rfl))) pe_int) pa_nil)) (pv 1)))))))), ?_⟩
  refine ⟨_, rfl, _, _, _, _, rfl, rfl, SqL.of hb, rfl, _, _, rfl, rfl, _, rfl, ?_⟩
  refine ite2 (fun h => ?_) (fun h => ?_)
  · refine ⟨_, rfl, _, _, _, _, rfl, rfl, SqL.of hb, rfl, .inl ⟨_, rfl, _, rfl, _, _, rfl, rfl, m0, ?_⟩⟩
    refine ⟨_, rfl, _, _, _, _, rfl, rfl, SqL.of hb, rfl, _, rfl, _, _, rfl, rfl, ⟨m0, m1⟩, _, rfl, b, _, _, 0, rfl, rfl, hb, rfl, _, rfl, ?_⟩
    exact k _ _ _ _ (Int.emod_nonneg _ (by omega)) (Int.emod_lt_of_pos _ m0)
  · refine ⟨_, rfl, _, _, _, _, rfl, rfl, SqL.of hb, rfl, _, _, rfl, rfl, _, rfl, b, _, _, 2, rfl, rfl, hb, rfl, ?_⟩
    refine ⟨_, rfl, _, _, _, _, rfl, rfl, SqL.of upd_same, rfl, _, rfl, _, _, _, _, rfl, rfl, SqL.of upd_same, rfl, _, _, rfl, rfl, .inl ⟨by decide, by decide⟩, _, _, rfl, rfl, _, _, rfl, rfl, .inr ⟨by decide, by decide⟩, .inl ⟨_, rfl, _, _, rfl, rfl, (by show (0 : Int) < _; decide), ?_⟩⟩
    refine ⟨_, rfl, _, _, rfl, rfl, .inr ⟨by decide, by decide⟩, _, _, rfl, rfl, .inl ⟨_, rfl, _, _, rfl, rfl, (by show (0 : Int) < _; decide), _, _, rfl, rfl, _, rfl, b, _, _, 1, rfl, rfl, upd_same, rfl, ?_⟩⟩
    rw [upd_upd]
    refine ⟨_, rfl, _, _, rfl, rfl, .inr ⟨by decide, by decide⟩, _, rfl, _, _, _, _, rfl, rfl, SqL.of upd_same, rfl, _, _, rfl, rfl, _, _, rfl, rfl, ⟨by decide, by decide⟩, .inl ⟨_, rfl, _, rfl, _, _, rfl, rfl, m0, ?_⟩⟩
    exact k _ _ _ _ (Int.emod_nonneg _ (by omega)) (Int.emod_lt_of_pos _ m0)
theorem ok_box (T : TxDraw w K mg) : FnOk P w K mg base CX0 1 T.f_box T.d_box P_box (spBox K) := by
  refine T.F_box.ok sc_box (fun vs H Q E h => ?_) (fun cdv A outer s H vs Q E hr h => ?_)
  · obtain ⟨a, ns, k, rfl, _⟩ := h
    rfl
  obtain ⟨a, ns, k, rfl, hS, h63, k0, q⟩ := h
  have hl : (ns.map V.int).length = ns.length := List.length_map _
  refine ⟨_, (pss_cons (ps_set (i := 2) sc_box.nd rfl (Or.inl rfl) (pe_op op_add (pe_op op_mul pe_int (pv 1)) pe_int))
      (Evl.pss_cut (ps_if (pt_cmpR op_lt (pv 1) (pe_callB (call_lenK K) (by rfl) T.z_len (by decide +kernel) (pa_cons (pv 0) pa_nil)) (nomark _)) (pss_one (ps_set (i := 2) sc_box.nd rfl (Or.inl rfl) (pe_callB call_abs (by rfl) T.z_abs (by decide +kernel) (pa_cons (pe_callTy call_int1 (by rfl) T.z_int (by decide +kernel) (pa_cons (pe_ix (ix_listK K) (pv 0) (pv 1) (fun _ _ => rfl)) pa_nil)) pa_nil)))) (pss_one (ps_if (pt_cmpR op_gt (pe_callB (call_lenK K) (by rfl) T.z_len (by decide +kernel) (pa_cons (pv 0) pa_nil)) pe_int (nomark _)) (pss_one (ps_set (i := 2) sc_box.nd rfl (Or.inl rfl) (pe_op op_add (pv 2) (pe_op op_mul (pe_op op_mod (pe_callTy call_int1 (by rfl) T.z_int (by decide +kernel) (pa_cons (pe_ix (ix_listK K) (pv 0) (pe_op op_mod (pe_callTy call_int1 (by rfl) T.z_int (by decide +kernel) (pa_cons (pv 1) pa_nil)) (pe_callB (call_lenK K) (by rfl) T.z_len (by decide +kernel) (pa_cons (pv 0) pa_nil))) (fun _ _ => rfl)) pa_nil)) pe_int) pe_int)))) pss_nil)))
      (pss_cons (ps_set (i := 3) sc_box.nd rfl (Or.inl rfl) (pe_op op_add (pe_op op_mod (pe_callTy call_int1 (by rfl) T.z_int (by decide +kernel) (pa_cons (pe_op op_add (pe_op op_add (pe_op op_mul (pe_op op_mod (pe_callTy call_int1 (by rfl) T.z_int (by decide +kernel) (pa_cons (pv 2) pa_nil)) pe_int) pe_int) (pe_op op_mul pe_int (pv 1))) pe_int) pa_nil)) pe_int) pe_int))
      (pss_cons (ps_set (i := 4) sc_box.nd rfl (Or.inl rfl) (pe_ifExp (pt_cmpR op_ge (pv 2) (pe_op op_pow pe_int pe_int) (nomark _)) (pv 2) pe_int))
      (pss_one (ps_ret (pe_lst (pa_cons (pv 4) (pa_cons (pv 3) (pa_cons pe_int pa_nil)))))))))), ?_⟩
  refine ⟨_, rfl, _, _, rfl, rfl, .inl ⟨by decide, by decide⟩, _, _, rfl, rfl, ?_⟩
  refine ⟨fun σ H' => H' = H ∧ ∃ cell : Int, σ = [some (.ref a), some (.int k), some (.int cell), none, none], ?_, ?_⟩
  · refine ⟨_, rfl, _, rfl, _, _, rfl, .inl hS, _, _, rfl, rfl, _, rfl, ?_⟩
    refine ite2 (fun h => ?_) (fun h => ?_)
    · have h' := of_decide_eq_true h
      rw [hl] at h'
      obtain ⟨z, hz⟩ := int_at k0 h'
      exact ⟨_, rfl, _, rfl, _, _, _, _, rfl, rfl, hS, hz, .inl ⟨_, rfl, _, rfl, rfl, _, rfl⟩⟩
    · refine ⟨_, rfl, _, _, rfl, .inl hS, _, _, rfl, rfl, _, rfl, ?_⟩
      refine ite2 (fun h2 => ?_) (fun h2 => ?_)
      · have h2' := of_decide_eq_true h2
        obtain ⟨z, hz⟩ := int_at (ns := ns) (k := k % (((ns.map V.int).length : Nat) : Int)) (Int.emod_nonneg _ (by omega)) (by rw [hl] at h2' ⊢; exact Int.emod_lt_of_pos _ h2')
        exact ⟨_, rfl, _, rfl, _, rfl, .inl ⟨_, rfl, _, rfl, _, _, rfl, .inl hS, _, _, rfl, rfl, h2', _, _, _, _, rfl, rfl, hS, hz, .inl ⟨_, rfl, _, _, rfl, rfl, (by show (0 : Int) < _; decide), _, _, rfl, rfl, .inr ⟨by decide, by decide⟩, _, _, rfl, rfl, rfl, _, rfl⟩⟩⟩
      · exact ⟨rfl, _, rfl⟩
  · rintro σ H' ⟨rfl, cell, rfl⟩
    refine ⟨_, rfl, .inl ⟨_, rfl, _, _, rfl, rfl, (by show (0 : Int) < _; decide), _, _, rfl, rfl, .inr ⟨by decide, by decide⟩, _, rfl, _, _, rfl, rfl, .inl ⟨by decide, by decide⟩, _, _, rfl, rfl, _, _, rfl, rfl, .inl ⟨_, rfl, _, _, rfl, rfl, (by show (0 : Int) < _; decide), _, _, rfl, rfl, ?_⟩⟩⟩
    refine ⟨_, rfl, _, _, rfl, rfl, ⟨by decide, by decide, by decide⟩, _, _, rfl, rfl, _, rfl, ?_⟩
    refine ite2 (fun h => ?_) (fun h => ?_)
    · exact ⟨_, rfl, _, rfl, _, rfl, by show 3 ≤ sizeLine; decide, fun b hb => q b _ _ hb⟩
    · exact ⟨_, rfl, _, rfl, by show 3 ≤ sizeLine; decide, fun b hb => q b _ _ hb⟩
theorem ok_pick (T : TxDraw w K mg) : FnOk P w K mg base CX0 2 T.f_pick T.d_pick P_pick (spPick K) := by
  have G_take : FnOk P w K mg base CX0 1 T.f_take T.d_take P_take spTake := ok_take T
  refine T.F_pick.ok sc_pick (fun vs H Q E h => ?_) (fun cdv A outer s H vs Q E hr h => ?_)
  · obtain ⟨b, a, w, s, c, xs, rfl, _⟩ := h
    rfl
  obtain ⟨b, a, w, s, c, xs, rfl, hb, hS, hk, hne, hlen, q⟩ := h
  refine ⟨_, (pss_one (ps_ret (pe_ix (ix_listK K) (pv 1) (pe_call G_take (hr.mono (by decide)) (by rfl) T.m_take T.F_take.kp T.b_take .nil pass0 (pa_cons (pv 0) (pa_cons (pe_callB (call_lenK K) (by rfl) T.z_len (by decide +kernel) (pa_cons (pv 1) pa_nil)) pa_nil))) (fun _ _ => rfl)))), ?_⟩
  have hp : 0 < xs.length := List.length_pos_iff.mpr hne
  refine ⟨_, rfl, _, rfl, _, rfl, _, _, rfl, .inl hS, b, w, s, c, _, rfl, hb, by omega, by omega, fun d w' s' c' d0 d1 => ?_⟩
  obtain ⟨v, hv, he⟩ := at_some (xs := xs) d0 d1
  exact ⟨_, _, _, _, rfl, rfl, hk _, hv, q v w' s' c' (List.mem_of_getElem? he)⟩
/-- the same, the heap behind told by what stands -/
def spTakeG : Sp := fun vs H Q _ => ∃ (b : Addr) (m : Int), vs = [.ref b, .int m] ∧ Gr b H H ∧ 0 < m ∧ m < 1073741824 ∧
  ∀ (d : Int) (H' : Hp), 0 ≤ d → d < m → Gr b H H' → Q (.int d) H'
def spPickG : Sp := fun vs H Q _ => ∃ (b a : Addr) (xs : List V), vs = [.ref b, .ref a] ∧ Gr b H H ∧ At b H a (.lst xs) ∧ xs ≠ [] ∧ xs.length ≤ 1000 ∧
  ∀ (x : V) (H' : Hp), x ∈ xs → Gr b H H' → Q x H'
theorem ok_takeG (T : TxDraw w K mg) : FnOk P w K mg base CX0 1 T.f_take T.d_take P_take spTakeG := (ok_take T).imp fun vs H Q E h => by
  obtain ⟨b, m, rfl, g, m0, m1, k⟩ := h
  obtain ⟨w, s, c, hb⟩ := g.box
  exact ⟨b, w, s, c, m, rfl, hb, m0, m1, fun d w' s' c' d0 d1 => k d _ d0 d1 (g.draw _ _ _)⟩
theorem ok_pickG (T : TxDraw w K mg) : FnOk P w K mg base CX0 2 T.f_pick T.d_pick P_pick spPickG := (ok_pick T).imp fun vs H Q E h => by
  obtain ⟨b, a, xs, rfl, g, ha, hne, hl, k⟩ := h
  obtain ⟨w, s, c, hb⟩ := g.box
  exact ⟨b, a, w, s, c, xs, rfl, hb, ha.l, fun u => SqL.of (by rw [upd_ne ha.ne]; exact ha.at_), hne, hl, fun x w' s' c' hx => k x _ hx (g.draw _ _ _)⟩
end
end My

/-! ## Names: what a name is, lists mixed, names drawn -/
namespace My
open PySem L2
/-- the words that are no names -/
def BAR : List Str := ["none", "any", "same", "keep", "drop", "good", "bad", "old", "new", "both"]
def ABC : Str := "abcdefghijklmnopqrstuvwxyz"
/-- a name: one to four small letters, none of those words -/
def isNm (x : Str) : Bool := decide (1 ≤ x.length) && decide (x.length ≤ 4) && !(BAR.contains x) && x.cps.toList.all fun c => decide (c ∈ ABC.cps.toList)
theorem isNm_len {x : Str} (h : isNm x = true) : 1 ≤ x.length ∧ x.length ≤ 4 := by
  unfold isNm at h
  simp only [Bool.and_eq_true, decide_eq_true_eq] at h
  exact h.1.1
abbrev s_mixed : Stmt := top 18
abbrev N_mixed : List Str := ["_law_box_here", "_law_some", "_law_left", "_law_found"]
abbrev P_mixed : List Str := ["_law_box_here", "_law_some"]
theorem sc_mixed : FnScope N_mixed P_mixed (defScope s_mixed) := ⟨rfl, rfl, rfl, by decide +kernel, rfl, by decide +kernel, by decide +kernel⟩
abbrev s_names : Stmt := top 19
abbrev N_names : List Str := ["_law_box_here", "_law_many", "_law_words_here", "_law_letters", "_law_form", "_law_spot", "_law_k"]
abbrev P_names : List Str := ["_law_box_here", "_law_many"]
theorem sc_names : FnScope N_names P_names (defScope s_names) := ⟨rfl, rfl, rfl, by decide +kernel, rfl, by decide +kernel, by decide +kernel⟩
structure TxNames (w : World) (K : PySem.W.Frag) (mg : Str → Option Value) extends TxDraw w K mg where
  z_list : mg "list" = none
  z_range : mg "range" = none
  f_mixed : Addr
  d_mixed : FuncData
  F_mixed : Fun K "_law_mixed" "_law_mixed" s_mixed f_mixed d_mixed
  m_mixed : mg "_law_mixed" = some (.ref f_mixed)
  b_mixed : Binds K d_mixed P_mixed []
  f_names : Addr
  d_names : FuncData
  F_names : Fun K "_law_names" "_law_names" s_names f_names d_names
  m_names : mg "_law_names" = some (.ref f_names)
  b_names : Binds K d_names P_names []
def spMixed : Sp := fun vs H Q _ => ∃ (b a : Addr) (xs : List V), vs = [.ref b, .ref a] ∧ Gr b H H ∧ At b H a (.lst xs) ∧ xs.length ≤ 1000 ∧
  ∀ (p : Addr) (ys : List V) (H' : Hp), Gr b H H' → H p = none → At b H' p (.lst ys) → ys.Perm xs → Q (.ref p) H'
def spNames : Sp := fun vs H Q _ => ∃ (b : Addr) (n : Int), vs = [.ref b, .int n] ∧ Gr b H H ∧ 0 ≤ n ∧ n ≤ 12 ∧
  ∀ (p : Addr) (ys : List Str) (H' : Hp), Gr b H H' → H p = none → At b H' p (.lst (ys.map V.str)) → (ys.length : Int) = n → ys.Nodup → (∀ y ∈ ys, isNm y = true) → Q (.ref p) H'
/-- the same, and that none of them is the word of a stranger -/
def spNamesZ : Sp := fun vs H Q _ => ∃ (b : Addr) (n : Int), vs = [.ref b, .int n] ∧ Gr b H H ∧ 0 ≤ n ∧ n ≤ 12 ∧
  ∀ (p : Addr) (ys : List Str) (H' : Hp), Gr b H H' → H p = none → At b H' p (.lst (ys.map V.str)) → (ys.length : Int) = n → ys.Nodup → (∀ y ∈ ys, isNm y = true ∧ y ≠ "zx") → Q (.ref p) H'
theorem eraseIdx_perm {xs : List V} {k : Nat} {y : V} (h : xs[k]? = some y) : (y :: xs.eraseIdx k).Perm xs := by
  induction xs generalizing k with
  | nil => simp at h
  | cons x xs ih =>
    cases k with
    | zero =>
      simp at h
      subst h
      exact List.Perm.refl _
    | succ k =>
      simp at h
      exact (List.Perm.swap x y _).trans ((ih h).cons x)
theorem seq_ix {d : Int} {n : Nat} (h0 : 0 ≤ d) (h1 : d < (n : Int)) : seqIndex? d n = some d.toNat := by
  unfold seqIndex?
  rw [if_neg (by omega : ¬ d < 0)]
  have e : (decide (0 ≤ d) && decide (d < (n : Int))) = true := by rw [decide_eq_true h0, decide_eq_true h1]; rfl
  exact if_pos e
theorem perm_of_map {α β : Type} {f : α → β} {ys xs' : List β} (h : ys.Perm xs') : ∀ xs : List α, xs' = xs.map f → ∃ zs : List α, ys = zs.map f ∧ zs.Perm xs := by
  induction h with
  | nil =>
    intro xs e
    cases xs with
    | nil => exact ⟨[], rfl, .refl _⟩
    | cons a t => cases e
  | cons x h ih =>
    intro xs e
    cases xs with
    | nil => cases e
    | cons a t =>
      injection e with e1 e2
      obtain ⟨zs, e3, p⟩ := ih t e2
      exact ⟨a :: zs, by rw [List.map_cons, e1, e3], p.cons a⟩
  | swap x y l =>
    intro xs e
    cases xs with
    | nil => cases e
    | cons a t =>
      cases t with
      | nil => injection e with _ e2; cases e2
      | cons c t =>
        injection e with e1 e2
        injection e2 with e2 e3
        exact ⟨c :: a :: t, by rw [List.map_cons, List.map_cons, e1, e2, e3], .swap a c t⟩
  | trans h1 h2 ih1 ih2 =>
    intro xs e
    obtain ⟨zs, e1, p1⟩ := ih2 xs e
    obtain ⟨ws, e2, p2⟩ := ih1 zs e1
    exact ⟨ws, e2, p2.trans p1⟩
section
variable {P : Program} {w : World} {K : PySem.W.Frag} {mg : Str → Option Value} {base : Heap}
theorem ok_mixed (T : TxNames w K mg) : FnOk P w K mg base CX0 2 T.f_mixed T.d_mixed P_mixed spMixed := by
  have G_take : FnOk P w K mg base CX0 1 T.f_take T.d_take P_take spTake := ok_take T.toTxDraw
  refine T.F_mixed.ok sc_mixed (fun vs H Q E h => ?_) (fun cdv A outer s H vs Q E hr h => ?_)
  · obtain ⟨b, a, xs, rfl, _⟩ := h
    rfl
  obtain ⟨b, a, xs, rfl, g0, ha, hlen, q⟩ := h
  refine ⟨_, (pss_cons (ps_par (i := 2) (j := 3) (by rfl) sc_mixed.nd rfl rfl (by decide) rfl rfl (pa_cons (pe_callTy (call_listK K) (by rfl) T.z_list (by decide +kernel) (pa_cons (pv 1) pa_nil)) (pa_cons (pe_lst pa_nil) pa_nil)) (by rfl))
      (pss_cons (ps_while PassesOwn.never (pt_cmpR (op_neEK K hr.units0) (pv 2) (pe_lst pa_nil) (nomark _)) (pss_one (ps_expr (pe_bm PySem.F.plainAttrs_list PySem.F.slot_list_append PySem.F.type_list_append mt_append (pv 3) (pa_cons (pe_bm PySem.F.plainAttrs_list PySem.F.slot_list_pop PySem.F.type_list_pop mt_popAt (pv 2) (pa_cons (pe_call G_take (hr.mono (by decide)) (by rfl) T.m_take T.F_take.kp T.b_take .nil pass0 (pa_cons (pv 0) (pa_cons (pe_callB (call_lenK K) (by rfl) T.z_len (by decide +kernel) (pa_cons (pv 2) pa_nil)) pa_nil))) pa_nil)) pa_nil)))))
      (pss_one (ps_ret (pv 3))))), ?_⟩
  refine ⟨_, rfl, a, _, rfl, .inl ha.l, fun l hl => ⟨Nat.zero_le _, fun p hp => ?_⟩⟩
  have g1 : Gr b H (upd H l (.lst xs)) := g0.new hl _
  have g2 : Gr b H (upd (upd H l (.lst xs)) p (.lst [])) := g1.new hp _
  have nlb := g0.ne_new hl
  have npb := g1.ne_new hp
  have hp0 := g1.free hp
  have npl : p ≠ l := fun e => by rw [e, upd_same] at hp; cases hp
  refine ⟨_, _, rfl, while_by (fun σ H' => ∃ ls fs : List V, σ = [some (.ref b), some (.ref a), some (.ref l), some (.ref p)] ∧ Gr b H H' ∧ H' l = some (.lst ls) ∧ H' p = some (.lst fs) ∧ (fs ++ ls).Perm xs)
    (fun σ H' => match H' l with | some (.lst ls) => ls.length | _ => 0) ⟨xs, [], rfl, g2, by rw [upd_ne npl.symm, upd_same], upd_same, List.Perm.refl _⟩ ?_ ?_⟩
  · rintro σ H1 ⟨ls, fs, rfl, g3, h1, h2, pm⟩
    refine ⟨_, rfl, Nat.zero_le _, fun e he => ⟨l, e, ls, rfl, rfl, SqL.of (by rw [upd_ne (ne_of_none h1 he)]; exact h1), SqL.of upd_same, _, rfl, ?_⟩⟩
    have ple : fs.length + ls.length = xs.length := by rw [← List.length_append]; exact pm.length_eq
    cases ls with
    | nil =>
      refine iteF ?_
      have g4 := g3.new he (.lst [])
      refine ⟨_, rfl, q p fs _ g4 hp0 ⟨npb, by rw [upd_ne (ne_of_none h2 he)]; exact h2⟩ (by rw [List.append_nil] at pm; exact pm)⟩
    | cons x ls =>
      refine iteT ?_
      obtain ⟨w3, s3, c3, hb3⟩ := g3.box
      have g4 := g3.new he (.lst [])
      have neb : e ≠ b := g3.ne_new he
      have h1e : upd H1 e (.lst []) l = some (.lst (x :: ls)) := by rw [upd_ne (ne_of_none h1 he)]; exact h1
      have h2e : upd H1 e (.lst []) p = some (.lst fs) := by rw [upd_ne (ne_of_none h2 he)]; exact h2
      have hbe : upd H1 e (.lst []) b = some (bx w3 s3 c3) := by rw [upd_ne neb.symm]; exact hb3
      refine ⟨_, rfl, .inl ⟨rfl, _, SqL.of h2e⟩, _, rfl, .inl ⟨rfl, _, SqL.of h1e⟩, _, rfl, _, rfl, _, _, rfl, .inl (SqL.of h1e), b, w3, s3, c3, _, rfl, hbe, by rw [List.length_cons]; omega, by rw [List.length_cons] at ple ⊢; omega, fun d w' s' c' d0 d1 => ?_⟩
      obtain ⟨v, _, hv⟩ := at_some (xs := x :: ls) d0 d1
      refine ⟨l, x :: ls, d, d.toNat, v, rfl, rfl, by rw [upd_ne nlb]; exact h1e, by omega, by rw [List.length_cons] at ple d1; omega, seq_ix d0 d1, hv, ?_⟩
      refine ⟨p, fs, v, rfl, rfl, by rw [upd_ne npl, upd_ne npb]; exact h2e, ?_, ?_⟩
      · rw [List.length_cons] at ple
        exact small1000 (by omega)
      · have er : ((x :: ls).eraseIdx d.toNat).length < (x :: ls).length := by
          rw [List.length_eraseIdx_of_lt (by rw [List.length_cons] at d1 ⊢; omega), List.length_cons]
          omega
        refine ⟨⟨(x :: ls).eraseIdx d.toNat, fs ++ [v], rfl, ((g4.draw _ _ _).mut (g0.free hl) nlb _).mut hp0 npb _, by rw [upd_ne npl.symm, upd_same], upd_same, ?_⟩, ?_⟩
        · rw [List.append_assoc]
          exact ((eraseIdx_perm hv).append_left fs).trans pm
        · rw [upd_ne npl.symm, upd_same, h1]
          exact er
  · rintro σ H1 Q1 Q2 imp ⟨v, hv, h0, h⟩
    exact ⟨v, hv, h0, fun e he => by
      obtain ⟨a', q', xs', e1, e2, e3, e4, k, e5, h5⟩ := h e he
      exact ⟨a', q', xs', e1, e2, e3, e4, k, e5, imp _ _ h5⟩⟩
/-- the words of the first kind of names -/
def WORDS : List Str := ["send", "back", "end", "root", "wait", "a", "ab", "abc", "zzzz", "row", "hear", "x"]
/-- the k-th of the first kind from a start, of the third kind, of the second -/
def wd (sp : Int) (k : Nat) : Str := WORDS.getD ((sp + 5 * (k : Int)) % 12).toNat Str.empty
def lt (sp : Int) (k : Nat) : Str := ⟨#[ABC.cps.toList.getD ((sp + 7 * (k : Int)) % 26).toNat 0]⟩ ++ ⟨(timesL [118] (sp % 4).toNat).toArray⟩
def tt (k : Nat) : Str := cutS "tttt" none (some ((k : Int) + 1))
theorem at_getD {l : List Str} {k : Int} (h0 : 0 ≤ k) (h1 : k < (l.length : Int)) : atI (l.map V.str) k = some (.str (l.getD k.toNat Str.empty)) := by
  have hk : k.toNat < l.length := by omega
  have h3 : atI (l.map V.str) ((k.toNat : Nat) : Int) = some (.str (l.getD k.toNat Str.empty)) := atI_nat (by rw [List.getElem?_map]; simp [hk, List.getD])
  rwa [show ((k.toNat : Nat) : Int) = k by omega] at h3
theorem at_getN {l : List Nat} {k : Int} (h0 : 0 ≤ k) (h1 : k < (l.length : Int)) : atI l k = some (l.getD k.toNat 0) := by
  have hk : k.toNat < l.length := by omega
  have h3 : atI l ((k.toNat : Nat) : Int) = some (l.getD k.toNat 0) := atI_nat (by simp [hk, List.getD])
  rwa [show ((k.toNat : Nat) : Int) = k by omega] at h3
theorem range_more {α : Type} (f : Nat → α) (i : Nat) : (List.range (i + 1)).map f = (List.range i).map f ++ [f i] := by rw [List.range_succ, List.map_append]; rfl
/-- names by their number: no two alike -/
theorem nodup_map {α : Type} {f : Nat → α} {n : Nat} (h : ∀ i j, i < n → j < n → f i = f j → i = j) : ((List.range n).map f).Nodup := by
  rw [List.Nodup, List.pairwise_map]
  exact List.Pairwise.imp_of_mem (fun {a b} ha hb hab e => hab (h a b (List.mem_range.mp ha) (List.mem_range.mp hb) e)) List.nodup_range
theorem WORDS_nd : ∀ i < 12, ∀ j < 12, WORDS.getD i Str.empty = WORDS.getD j Str.empty → i = j := by decide +kernel
theorem WORDS_nm : ∀ i < 12, isNm (WORDS.getD i Str.empty) = true := by decide +kernel
theorem wd_nd {sp : Int} {i j : Nat} (hi : i < 12) (hj : j < 12) (h : wd sp i = wd sp j) : i = j := by
  have e := WORDS_nd _ (by omega) _ (by omega) h
  omega
theorem wd_nm {sp : Int} {i : Nat} : isNm (wd sp i) = true := WORDS_nm _ (by omega)
theorem tt_nd : ∀ i < 4, ∀ j < 4, tt i = tt j → i = j := by decide +kernel
theorem tt_nm : ∀ i < 4, isNm (tt i) = true := by decide +kernel
theorem lt_nm0 : ∀ i < 26, ∀ k < 4, isNm (⟨#[ABC.cps.toList.getD i 0]⟩ ++ ⟨(timesL [118] k).toArray⟩) = true := by decide +kernel
theorem lt_nd0 : ∀ i < 26, ∀ j < 26, ∀ k < 4, (⟨#[ABC.cps.toList.getD i 0]⟩ ++ ⟨(timesL [118] k).toArray⟩ : Str) = ⟨#[ABC.cps.toList.getD j 0]⟩ ++ ⟨(timesL [118] k).toArray⟩ → i = j := by decide +kernel
theorem lt_nm {sp : Int} {i : Nat} : isNm (lt sp i) = true := lt_nm0 _ (by omega) _ (by omega)
theorem lt_nd {sp : Int} {i j : Nat} (hi : i < 12) (hj : j < 12) (h : lt sp i = lt sp j) : i = j := by
  have e := lt_nd0 _ (by omega) _ (by omega) _ (by omega) h
  omega
theorem WORDS_zx : ∀ i < 12, WORDS.getD i Str.empty ≠ "zx" := by decide +kernel
theorem wd_zx {sp : Int} {i : Nat} : wd sp i ≠ "zx" := WORDS_zx _ (by omega)
theorem tt_zx : ∀ i < 4, tt i ≠ "zx" := by decide +kernel
theorem lt_zx0 : ∀ i < 26, ∀ k < 4, (⟨#[ABC.cps.toList.getD i 0]⟩ ++ ⟨(timesL [118] k).toArray⟩ : Str) ≠ "zx" := by decide +kernel
theorem lt_zx {sp : Int} {i : Nat} : lt sp i ≠ "zx" := lt_zx0 _ (by omega) _ (by omega)
theorem ok_namesZ (T : TxNames w K mg) : FnOk P w K mg base CX0 3 T.f_names T.d_names P_names spNamesZ := by
  have G_take : FnOk P w K mg base CX0 1 T.f_take T.d_take P_take spTakeG := ok_takeG T.toTxDraw
  have G_mixed : FnOk P w K mg base CX0 2 T.f_mixed T.d_mixed P_mixed spMixed := ok_mixed T
  refine T.F_names.ok sc_names (fun vs H Q E h => ?_) (fun cdv A outer s H vs Q E hr h => ?_)
  · obtain ⟨b, n, rfl, _⟩ := h
    rfl
  obtain ⟨b, n, rfl, g0, n0, n12, q⟩ := h
  refine ⟨_, (pss_cons (ps_set (i := 2) sc_names.nd rfl (Or.inr rfl) (pe_lst (pa_cons pe_str (pa_cons pe_str (pa_cons pe_str (pa_cons pe_str (pa_cons pe_str (pa_cons pe_str (pa_cons pe_str (pa_cons pe_str (pa_cons pe_str (pa_cons pe_str (pa_cons pe_str (pa_cons pe_str pa_nil))))))))))))))
      (pss_cons (ps_asg (pe_tup (pa_cons pe_str (pa_cons (pe_call G_take (hr.mono (by decide)) (by rfl) T.m_take T.F_take.kp T.b_take .nil pass0 (pa_cons (pv 0) (pa_cons pe_int pa_nil))) (pa_cons (pe_call G_take (hr.mono (by decide)) (by rfl) T.m_take T.F_take.kp T.b_take .nil pass0 (pa_cons (pv 0) (pa_cons pe_int pa_nil))) pa_nil)))) (pg_tup rfl (pgs_cons (pg_name (i := 3) sc_names.nd rfl (Or.inr rfl)) (pgs_cons (pg_name (i := 4) sc_names.nd rfl (Or.inl rfl)) (pgs_cons (pg_name (i := 5) sc_names.nd rfl (Or.inr rfl)) pgs_nil)))))
      (pss_cons (ps_if (pt_cmpR op_eq (pv 4) pe_int (nomark _)) (pss_one (ps_ret (pe_lc (own := [("_law_k", 6)]) (g := gName 6) (by rfl) sc_names.nd (pi_range1 (by rfl) T.z_range (pa_cons (pv 1) pa_nil)) (blkOk_by (own := [("_law_k", 6)]) (N := N_names) (sc := defScope s_names) (by decide +kernel)) (fun _ _ _ _ _ => (pg_name (i := 6) sc_names.nd rfl (Or.inl rfl))) (fun _ _ _ _ _ => pts_nil) (fun _ _ _ _ _ => (pe_ix (ix_listK K) (pv 2) (pe_op op_mod (pe_callTy call_int1 (by rfl) T.z_int (by decide +kernel) (pa_cons (pe_op op_add (pv 5) (pe_op op_mul pe_int (pv 6))) pa_nil)) pe_int) (fun _ _ => rfl)))))) pss_nil)
      (pss_cons (ps_if (PW.pt (pw_and (pt_cmpR op_eq (pv 4) pe_int (nomark _)) (pw_and1 (pt_cmpR op_lt (pv 1) pe_int (nomark _))))) (pss_one (ps_ret (pe_call G_mixed (hr.mono (by decide)) (by rfl) T.m_mixed T.F_mixed.kp T.b_mixed .nil pass0 (pa_cons (pv 0) (pa_cons (pe_lc (own := [("_law_k", 6)]) (g := gName 6) (by rfl) sc_names.nd (pi_range1 (by rfl) T.z_range (pa_cons (pv 1) pa_nil)) (blkOk_by (own := [("_law_k", 6)]) (N := N_names) (sc := defScope s_names) (by decide +kernel)) (fun _ _ _ _ _ => (pg_name (i := 6) sc_names.nd rfl (Or.inl rfl))) (fun _ _ _ _ _ => pts_nil) (fun _ _ _ _ _ => (pe_slice sl_str pe_str po_none (po_some (pe_op op_add (pv 6) pe_int))))) pa_nil))))) pss_nil)
      (pss_one (ps_ret (pe_lc (own := [("_law_k", 6)]) (g := gName 6) (by rfl) sc_names.nd (pi_range1 (by rfl) T.z_range (pa_cons (pv 1) pa_nil)) (blkOk_by (own := [("_law_k", 6)]) (N := N_names) (sc := defScope s_names) (by decide +kernel)) (fun _ _ _ _ _ => (pg_name (i := 6) sc_names.nd rfl (Or.inl rfl))) (fun _ _ _ _ _ => pts_nil) (fun _ _ _ _ _ => (pe_op op_add_str (pe_ix ix_str (pv 3) (pe_op op_mod (pe_callTy call_int1 (by rfl) T.z_int (by decide +kernel) (pa_cons (pe_op op_add (pv 5) (pe_op op_mul pe_int (pv 6))) pa_nil)) pe_int) (fun _ _ => rfl)) (pe_op op_mul_str pe_str (pe_op op_mod (pe_callTy call_int1 (by rfl) T.z_int (by decide +kernel) (pa_cons (pv 5) pa_nil)) pe_int))))))))))), ?_⟩
  refine ⟨by show 12 ≤ sizeLine; decide, fun wa hwa => ?_⟩
  have a1 : At b _ wa (.lst (WORDS.map V.str)) := .mk_new g0 hwa _
  have g1 := g0.new hwa (.lst (WORDS.map V.str))
  refine ⟨_, rfl, b, _, rfl, ⟨fun _ _ _ e => e, g1.box⟩, by decide, by decide, fun fo H2 fo0 fo1 g2 => ?_⟩
  refine ⟨_, rfl, b, _, rfl, ⟨fun _ _ _ e => e, g2.box⟩, by decide, by decide, fun sp H3 sp0 sp1 g3 => ?_⟩
  refine ⟨by show 3 ≤ sizeLine; decide, fun tp htp => ⟨tp, _, rfl, SqT.of upd_same, rfl, _, _, rfl, _, _, rfl, _, _, rfl, rfl, ?_⟩⟩
  have a4 := ((a1.gr g2).gr g3).new (u := .tup [.str ABC, .int fo, .int sp]) htp
  have g4 := ((g1.trans g2).trans g3).new htp (.tup [.str ABC, .int fo, .int sp])
  refine ⟨_, rfl, rfl, _, rfl, ?_⟩
  refine ite2 (fun c1 => ?_) (fun c1 => ?_)
  · refine ⟨_, rfl, n, rfl, by omega, by omega, fun D hD => lc_range (lo := 0) (n := n.toNat) (fun i H' => Gr b H H' ∧ At b H' wa (.lst (WORDS.map V.str)) ∧ At b H' D (.lst (((List.range i).map (wd sp)).map V.str))) ⟨g4.new hD _, a4.new hD, .mk_new g4 hD _⟩ ?_ ?_⟩
    · rintro i H' hi ⟨g5, aw, aD⟩
      refine ⟨rfl, ?_⟩
      refine ⟨_, rfl, _, rfl, _, rfl, _, _, rfl, rfl, .inl ⟨by decide, by decide⟩, _, _, rfl, rfl, .inl ⟨_, rfl, _, _, rfl, rfl, (by show (0 : Int) < _; decide), wa, _, _, _, rfl, rfl, aw.l, at_getD (Int.emod_nonneg _ (by decide)) (Int.emod_lt_of_pos _ (by decide)), _, aD.at_, small1000 (by simp; omega), ?_⟩⟩
      refine ⟨g5.mut (g4.free hD) aD.ne _, ⟨aw.ne, by rw [upd_ne (a4.nep hD)]; exact aw.at_⟩, aD.ne, ?_⟩
      rw [upd_same, range_more, List.map_append]
      simp [wd]
    · rintro H' ⟨g5, _, a5⟩
      exact q D _ H' g5 (g4.free hD) a5 (by simp; omega) (nodup_map fun i j hi hj => wd_nd (by omega) (by omega)) (fun y hy => by
        obtain ⟨i, _, rfl⟩ := List.mem_map.mp hy
        exact ⟨wd_nm, wd_zx⟩)
  · have three : ∀ (H5 : Hp) (σ : St), σ = [some (.ref b), some (.int n), some (.ref wa), some (.str ABC), some (.int fo), some (.int sp), none] → Gr b H H5 →
        tRet (tLc (iRng1 (tCons (tVar 1) tNil)) (gName 6) tYes (tOp (fun x y H Q => ∃ i j, x = V.str i ∧ y = V.str j ∧ i.length + j.length ≤ sizeLine ∧ Q (V.str (i ++ j)) H)
          (tOp rIxS (tVar 3) (tOp (rI (fun x j => 0 < j) fun i j => V.int (i % j)) (tCB (fun xs H Q => (∃ i, xs = [V.int i] ∧ Q (V.int i) H) ∨ ∃ k, xs = [V.bl k] ∧ Q (V.int (if k = true then 1 else 0)) H)
            (tCons (tOp (rI0 fun i j => V.int (i + j)) (tVar 5) (tOp (rI CMul fun i j => V.int (i * j)) (tC (V.int 7)) (tVar 6))) tNil)) (tC (V.int 26))))
          (tOp (fun x y H Q => ∃ z n, x = V.str z ∧ y = V.int n ∧ 0 ≤ n ∧ n ≤ 1000 ∧ z.length ≤ 1000 ∧ Q (V.str { cps := (timesL z.cps.toList n.toNat).toArray }) H) (tC (V.str (Str.ofString "v")))
            (tOp (rI (fun x j => 0 < j) fun i j => V.int (i % j)) (tCB (fun xs H Q => (∃ i, xs = [V.int i] ∧ Q (V.int i) H) ∨ ∃ k, xs = [V.bl k] ∧ Q (V.int (if k = true then 1 else 0)) H) (tCons (tVar 5) tNil)) (tC (V.int 4)))))
          (List.map (fun x => x.snd) [(Str.ofString "_law_k", 6)])) { nx := fun _ H' => Q .non H', rt := Q } σ H5 := by
      rintro H5 σ rfl g5
      refine ⟨_, rfl, n, rfl, by omega, by omega, fun D hD => lc_range (lo := 0) (n := n.toNat) (fun i H' => Gr b H H' ∧ At b H' D (.lst (((List.range i).map (lt sp)).map V.str))) ⟨g5.new hD _, .mk_new g5 hD _⟩ ?_ ?_⟩
      · rintro i H' hi ⟨g6, aD⟩
        refine ⟨rfl, ?_⟩
        refine ⟨_, rfl, _, rfl, _, rfl, _, _, rfl, rfl, .inl ⟨by decide, by decide⟩, _, _, rfl, rfl, .inl ⟨_, rfl, _, _, rfl, rfl, (by show (0 : Int) < _; decide), ABC, _, _, rfl, rfl, by decide +kernel, at_getN (Int.emod_nonneg _ (by decide)) (Int.emod_lt_of_pos _ (by decide)), ?_⟩⟩
        refine ⟨_, rfl, .inl ⟨_, rfl, _, _, rfl, rfl, (by show (0 : Int) < _; decide), _, _, rfl, rfl, Int.emod_nonneg _ (by decide), by have := Int.emod_lt_of_pos sp (show (0 : Int) < 4 by decide); omega, by decide +kernel, _, _, rfl, rfl, ?_, _, aD.at_, small1000 (by simp; omega), ?_⟩⟩
        · show 1 + (timesL [118] (sp % 4).toNat).toArray.size ≤ sizeLine
          rw [List.size_toArray, timesL_len, sizeLine_eq]
          have := Int.emod_lt_of_pos sp (show (0 : Int) < 4 by decide)
          simp only [List.length_singleton]
          omega
        · refine ⟨g6.mut (g5.free hD) aD.ne _, aD.ne, ?_⟩
          rw [upd_same, range_more, List.map_append]
          simp [lt]
          rfl
      · rintro H' ⟨g6, a6⟩
        exact q D _ H' g6 (g5.free hD) a6 (by simp; omega) (nodup_map fun i j hi hj => lt_nd (by omega) (by omega)) (fun y hy => by
          obtain ⟨i, _, rfl⟩ := List.mem_map.mp hy
          exact ⟨lt_nm, lt_zx⟩)
    refine ⟨_, rfl, rfl, _, rfl, ?_⟩
    refine ite2 (fun c2 => ?_) (fun c2 => ?_)
    · refine ⟨_, rfl, _, _, rfl, rfl, _, rfl, ?_⟩
      refine ite2 (fun c3 => ?_) (fun c3 => ?_)
      · have n5 : n < 5 := of_decide_eq_true c3
        refine ⟨_, rfl, _, rfl, n, rfl, by omega, by omega, fun D hD => lc_range (lo := 0) (n := n.toNat) (fun i H' => Gr b H H' ∧ At b H' D (.lst (((List.range i).map tt).map V.str))) ⟨g4.new hD _, .mk_new g4 hD _⟩ ?_ ?_⟩
        · rintro i H' hi ⟨g6, aD⟩
          refine ⟨rfl, ?_⟩
          refine ⟨_, rfl, _, _, rfl, rfl, _, rfl, _, rfl, by decide +kernel, _, aD.at_, small1000 (by simp; omega), ?_⟩
          refine ⟨g6.mut (g4.free hD) aD.ne _, aD.ne, ?_⟩
          rw [upd_same, range_more, List.map_append]
          simp [tt]
        · rintro H' ⟨g6, a6⟩
          refine ⟨b, D, _, rfl, ⟨fun _ _ _ e => e, g6.box⟩, a6, by simp; omega, fun p ys H7 g7 hp a7 pm => ?_⟩
          obtain ⟨zs, e, pm2⟩ : ∃ zs : List Str, ys = zs.map V.str ∧ zs.Perm ((List.range n.toNat).map tt) := perm_of_map pm _ rfl
          subst e
          exact q p zs H7 (g6.trans g7) (g6.free hp) a7 (by rw [pm2.length_eq]; simp; omega) (pm2.nodup_iff.mpr (nodup_map fun i j hi hj => tt_nd i (by omega) j (by omega))) (fun y hy => by
            obtain ⟨i, hi, rfl⟩ := List.mem_map.mp (pm2.mem_iff.mp hy)
            exact ⟨tt_nm i (by have := List.mem_range.mp hi; omega), tt_zx i (by have := List.mem_range.mp hi; omega)⟩)
      · exact three _ _ rfl g4
    · exact three _ _ rfl g4
theorem ok_names (T : TxNames w K mg) : FnOk P w K mg base CX0 3 T.f_names T.d_names P_names spNames := (ok_namesZ T).imp fun vs H Q E h => by
  obtain ⟨b, n, e, g, n0, n1, q⟩ := h
  exact ⟨b, n, e, g, n0, n1, fun p ys H' g' hp a l nd m => q p ys H' g' hp a l nd fun y hy => (m y hy).1⟩
end
end My

/-! ## The program: what is a name -/
namespace My
open PySem L2
abbrev s_is_name : Stmt := top 2
abbrev N_is_name : List Str := ["value"]
abbrev P_is_name : List Str := ["value"]
theorem sc_is_name : FnScope N_is_name P_is_name (defScope s_is_name) := ⟨rfl, rfl, rfl, by decide +kernel, rfl, by decide +kernel, by decide +kernel⟩
/-- a text, or a thing that is none -/
inductive AnyV (K : PySem.W.Frag) (H : Hp) : V → Prop where
  | str (x : Str) (h : x.length ≤ 2000) : AnyV K H (.str x)
  | oth {v : V} {t : Value} (n : ∀ x, v ≠ .str x) (ty : TyX K H v t) (k : PySem.W.kitOne K t (.type "str") = some false) : AnyV K H v
def nmV : V → Bool
  | .str x => isNm x
  | _ => false
def nmD : PyData → Bool
  | .str x => isNm x
  | _ => false
/-- the dict whose keys are the words that are no names -/
structure NoD (w : World) (K : PySem.W.Frag) (a : Addr) : Prop where
  ex : ∃ es n, KDict K w a es n
  has : ∀ z : Str, ∃ r, PySem.W.nsIn K a z = some r ∧ r.isSome = BAR.contains z
structure TxCheck (w : World) (K : PySem.W.Frag) (mg : Str → Option Value) where
  z_len : mg "len" = none
  z_isinstance : mg "isinstance" = none
  z_str : mg "str" = none
  z_all : mg "all" = none
  aNO : Addr
  m_NO : mg "NO_NAMES" = some (.ref aNO)
  t_NO : NoD w K aNO
  f_is_name : Addr
  d_is_name : FuncData
  F_is_name : Fun K "is_name" "is_name" s_is_name f_is_name d_is_name
  m_is_name : mg "is_name" = some (.ref f_is_name)
  b_is_name : Binds K d_is_name P_is_name []
def spIsName (K : PySem.W.Frag) : Sp := fun vs H Q _ => ∃ v : V, vs = [v] ∧ AnyV K H v ∧ ∀ H', Same H H' → Q (.bl (nmV v)) H'
theorem inV_strs (x : Str) : ∀ l : List Str, inV (.str x) (l.map V.str) = l.contains x
  | [] => rfl
  | y :: l => by
    have h := inV_strs x l
    show (y == x || inV (.str x) (l.map V.str)) = (y :: l).contains x
    rw [h, List.contains_cons, BEq.comm]
theorem Dv.any {K : PySem.W.Frag} {H : Hp} {v : V} {d : PyData} (h : Dv K H v d) : AnyV K H v := by
  have t := Dp.ty h.dp
  cases h.dp with
  | str x => exact .str x (h.tx x rfl)
  | non => exact .oth (fun _ e => by cases e) t (kit_ty (by decide +kernel))
  | bl b => exact .oth (fun _ e => by cases e) t (kit_ty (show kitB "bool" "str" = some false by decide +kernel))
  | int i => exact .oth (fun _ e => by cases e) t (kit_ty (show kitB "int" "str" = some false by decide +kernel))
  | lst _ _ => exact .oth (fun _ e => by cases e) t (kit_ty (show kitB "list" "str" = some false by decide +kernel))
  | tup _ _ => exact .oth (fun _ e => by cases e) t (kit_ty (show kitB "tuple" "str" = some false by decide +kernel))
theorem Dv.nm {K : PySem.W.Frag} {H : Hp} {v : V} {d : PyData} (h : Dv K H v d) : nmV v = nmD d := by
  cases h.dp <;> rfl
/-- of the signs below 128 the small letters are those that are letters and lower -/
theorem abcC_is : ∀ c < 128, decide (c ∈ ABC.cps.toList) = (PySem.Unicode.isAlpha c && PySem.Unicode.isLower c) := by decide +kernel
theorem lowC_only : ∀ c < 128, PySem.Unicode.isAlpha c = true → (PySem.Unicode.isLower c = !(PySem.Unicode.isUpper c || PySem.Unicode.isTitle c)) := by decide +kernel
theorem abcC_lt : ∀ c ∈ ABC.cps.toList, c < 128 := by decide +kernel
theorem isNm_is (x : Str) : isNm x = (decide (1 ≤ x.length) && decide (x.length ≤ 4) && Txt.isascii x && (Txt.isalpha x && (Txt.islower x && !(BAR.contains x)))) := by
  by_cases h1 : 1 ≤ x.length
  · have e : (x.cps.toList.all fun c => decide (c ∈ ABC.cps.toList)) = (Txt.isascii x && (Txt.isalpha x && Txt.islower x)) := by
      rw [Bool.eq_iff_iff]
      simp only [Txt.isascii, Txt.isalpha, Txt.islower, ← Array.all_toList, ← Array.any_toList, Bool.and_eq_true, List.all_eq_true, List.any_eq_true, decide_eq_true_eq, Bool.not_eq_true', ← Bool.not_eq_true, not_exists, not_and]
      constructor
      · intro h
        have hh : ∀ c ∈ x.cps.toList, c < 128 ∧ PySem.Unicode.isAlpha c = true ∧ PySem.Unicode.isLower c = true := fun c hc => by
          have l := abcC_lt c (h c hc)
          have q := abcC_is c l
          rw [decide_eq_true (h c hc)] at q
          have q2 := Bool.and_eq_true_iff.mp q.symm
          exact ⟨l, q2.1, q2.2⟩
        refine ⟨fun c hc => (hh c hc).1, ⟨by omega, fun c hc => (hh c hc).2.1⟩, ?_, fun c hc => ?_⟩
        · have hz : 0 < x.cps.toList.length := by
            have : x.cps.size = x.length := rfl
            simp
            omega
          obtain ⟨c, hc⟩ := List.exists_mem_of_length_pos hz
          exact ⟨c, hc, (hh c hc).2.2⟩
        · obtain ⟨l, q1, q2⟩ := hh c hc
          have q3 := lowC_only c l q1
          rw [q2] at q3
          intro z
          rw [z] at q3
          cases q3
      · rintro ⟨h2, ⟨_, h3⟩, _, h4⟩ c hc
        have l := h2 c hc
        have q1 := h3 c hc
        have q3 := lowC_only c l q1
        have q4 : (PySem.Unicode.isUpper c || PySem.Unicode.isTitle c) = false := by simpa using h4 c hc
        rw [q4] at q3
        have q := abcC_is c l
        rw [q1, q3] at q
        exact of_decide_eq_true q
    unfold isNm
    rw [e]
    simp only [Bool.and_assoc]
    cases decide (1 ≤ x.length) <;> cases decide (x.length ≤ 4) <;> cases BAR.contains x <;> cases Txt.isascii x <;> cases Txt.isalpha x <;> cases Txt.islower x <;> rfl
  · unfold isNm
    rw [decide_eq_false h1]
    rfl
section
variable {P : Program} {w : World} {K : PySem.W.Frag} {mg : Str → Option Value} {base : Heap}
theorem ok_is_name (T : TxCheck w K mg) : FnOk P w K mg base CX0 1 T.f_is_name T.d_is_name P_is_name (spIsName K) := by
  refine T.F_is_name.ok sc_is_name (fun vs H Q E h => ?_) (fun cdv A outer s H vs Q E hr h => ?_)
  · obtain ⟨v, rfl, _⟩ := h
    rfl
  obtain ⟨v, rfl, hv, q⟩ := h
  obtain ⟨es, nn, D⟩ := T.t_NO.ex
  refine ⟨_, (pss_cons (ps_if (PW.pt (pw_or (pt_not (pt_val (pe_callB (call_isiV K) (by rfl) T.z_isinstance (by decide +kernel) (pa_cons (pv 0) (pa_cons (pe_bltn (v := .ty "str") (by rfl) T.z_str (by decide +kernel) rfl) pa_nil))))) (pw_or (pt_not (pt_chain op_le op_le pe_int (pe_callB call_len_str (by rfl) T.z_len (by decide +kernel) (pa_cons (pv 0) pa_nil)) pe_int)) (pw_or1 (pt_not (pt_val (pe_bm0 PySem.F.plainAttrs_str PySem.F.slot_str_isascii PySem.F.type_str_isascii mt_isascii (pv 0)))))))) (pss_one (ps_ret pe_bl)) pss_nil)
      (pss_one (ps_ret (pe_and (pe_bm0 PySem.F.plainAttrs_str PySem.F.slot_str_isalpha PySem.F.type_str_isalpha mt_isalpha (pv 0)) (pe_and (pe_bm0 PySem.F.plainAttrs_str PySem.F.slot_str_islower PySem.F.type_str_islower mt_islower (pv 0)) (pe_one (pe_cmpR (op_notIn_kd D) (pv 0) (pe_glob (v := .ref T.aNO) (by rfl) T.m_NO rfl) (by rfl)))))))), ?_⟩
  cases hv with
  | oth n ty k =>
    have e : nmV v = false := by cases v <;> first | rfl | exact absurd rfl (n _)
    refine ⟨_, rfl, v, .ty "str", _, _, _, rfl, .ty _, ty, k, _, rfl, ?_⟩
    have r := q H (Same.refl H)
    rw [e] at r
    exact r
  | str x hx =>
    have hz : x.length ≤ sizeLine := by rw [sizeLine_eq]; omega
    have no : isNm x = false → Q (.bl false) H := fun e => by
      have r := q H (Same.refl H)
      rwa [show nmV (.str x) = false from e] at r
    refine ⟨_, rfl, .str x, .ty "str", _, _, true, rfl, .ty _, .base (.str x), kit_ty (by decide +kernel), _, rfl, ?_⟩
    refine ⟨_, rfl, x, rfl, hz, _, _, rfl, rfl, _, rfl, ?_⟩
    refine ite2 (fun c => ?_) (fun c => ?_)
    · have h1 : (1 : Int) ≤ (x.length : Int) := of_decide_eq_true c
      refine ⟨_, _, rfl, rfl, _, rfl, ?_⟩
      refine ite2 (fun c => ?_) (fun c => ?_)
      · have h4 : ¬ (x.length : Int) ≤ 4 := of_decide_eq_false (by simpa using c)
        exact no (by unfold isNm; rw [show decide (x.length ≤ 4) = false from decide_eq_false (by omega)]; simp)
      · have h4 : (x.length : Int) ≤ 4 := of_decide_eq_true (by simpa using c)
        refine ⟨_, rfl, rfl, x, rfl, rfl, trivial, _, rfl, ?_⟩
        refine ite2 (fun c => ?_) (fun c => ?_)
        · have ha : Txt.isascii x = false := by simpa using c
          exact no (by rw [isNm_is, ha]; simp)
        · have ha : Txt.isascii x = true := by simpa using c
          have yes : isNm x = (Txt.isalpha x && (Txt.islower x && !(BAR.contains x))) := by
            rw [isNm_is, ha, decide_eq_true (show 1 ≤ x.length by omega), decide_eq_true (show x.length ≤ 4 by omega)]
            rfl
          refine ⟨_, rfl, rfl, x, rfl, rfl, trivial, _, rfl, ?_⟩
          refine ite2 (fun c => ?_) (fun c => ?_)
          · refine ⟨_, rfl, rfl, x, rfl, rfl, trivial, _, rfl, ?_⟩
            refine ite2 (fun c2 => ?_) (fun c2 => ?_)
            · obtain ⟨r, hr1, hr2⟩ := T.t_NO.has x
              refine ⟨_, rfl, x, r, rfl, rfl, hr1, ?_⟩
              have z := q H (Same.refl H)
              rw [show nmV (.str x) = isNm x from rfl, yes, c, c2] at z
              rw [hr2]
              exact z
            · exact no (by rw [yes, Bool.eq_false_iff.mpr c2]; simp)
          · exact no (by rw [yes, Bool.eq_false_iff.mpr c]; simp)
    · have h1 : ¬ (1 : Int) ≤ (x.length : Int) := of_decide_eq_false (Bool.eq_false_iff.mpr c)
      refine ⟨_, rfl, ?_⟩
      exact no (by unfold isNm; rw [show decide (1 ≤ x.length) = false from decide_eq_false (by omega)]; simp)
end
end My
namespace My
open PySem L2
inductive KeyStrs : List DictEntry → List Str → Prop where
  | nil : KeyStrs [] []
  | cons {h : Int} {k : Str} {t : Tok} {v : Value} {es : List DictEntry} {ks : List Str} (r : KeyStrs es ks) : KeyStrs (⟨h, .str k t, v⟩ :: es) (k :: ks)
theorem KeyStrs.find {es : List DictEntry} {ks : List Str} (r : KeyStrs es ks) (z : Str) : (es.find? fun e => e.key.isStr z).isSome = ks.contains z ∧ (es.any fun e => e.refKey) = false := by
  induction r with
  | nil => exact ⟨rfl, rfl⟩
  | @cons h k t v es ks r ih =>
    refine ⟨?_, ?_⟩
    · rw [List.find?_cons, List.contains_cons]
      have e : (Value.str k t).isStr z = (z == k) := by
        show (k == z) = (z == k)
        exact BEq.comm
      show (match (Value.str k t).isStr z with | true => some _ | false => _).isSome = _
      rw [e]
      cases z == k with
      | true => rfl
      | false => exact ih.1
    · rw [List.any_cons, ih.2]
      rfl
theorem noD_mk {w : World} {K : PySem.W.Frag} {a : Addr} {es : List DictEntry} {n : Nat} (l : K.lookup a = some ⟨.type "dict", none, .dict es.toArray n, #[]⟩) (kl : PySem.W.KeysLit w.params es) (sm : (a == sysModules) = false) (ks : KeyStrs es BAR := by exact .cons (.cons (.cons (.cons (.cons (.cons (.cons (.cons (.cons (.cons .nil)))))))))) : NoD w K a := by
  refine ⟨⟨es.toArray, n, l, kl, sm⟩, fun z => ?_⟩
  obtain ⟨h1, h2⟩ := ks.find z
  unfold PySem.W.nsIn
  rw [l]
  show ∃ r, (match es.find? fun e => e.key.isStr z with | some e => some (some e.val) | none => if (es.any fun e => e.refKey) = true then none else some none) = some r ∧ _
  cases q : es.find? fun e => e.key.isStr z with
  | some e =>
    rw [q] at h1
    exact ⟨some e.val, rfl, h1⟩
  | none =>
    rw [q] at h1
    rw [h2]
    exact ⟨none, rfl, h1⟩
end My

/-! ## The program: rows -/
namespace My
open PySem L2
abbrev s_is_name_or : Stmt := top 8
abbrev N_is_name_or : List Str := ["value", "words"]
abbrev P_is_name_or : List Str := ["value", "words"]
theorem sc_is_name_or : FnScope N_is_name_or P_is_name_or (defScope s_is_name_or) := ⟨rfl, rfl, rfl, by decide +kernel, rfl, by decide +kernel, by decide +kernel⟩
abbrev s_InvalidRow_init : Stmt := inClass (top 5) 0
abbrev N_InvalidRow_init : List Str := ["self", "word"]
abbrev P_InvalidRow_init : List Str := ["self", "word"]
theorem sc_InvalidRow_init : FnScope N_InvalidRow_init P_InvalidRow_init (defScope s_InvalidRow_init) := ⟨rfl, rfl, rfl, by decide +kernel, rfl, by decide +kernel, by decide +kernel⟩
abbrev s_Begin_init : Stmt := inClass (top 10) 0
abbrev N_Begin_init : List Str := ["self", "mark", "kind", "mood"]
abbrev P_Begin_init : List Str := ["self", "mark", "kind", "mood"]
theorem sc_Begin_init : FnScope N_Begin_init P_Begin_init (defScope s_Begin_init) := ⟨rfl, rfl, rfl, by decide +kernel, rfl, by decide +kernel, by decide +kernel⟩
abbrev s_Send_init : Stmt := inClass (top 11) 0
abbrev N_Send_init : List Str := ["self", "mood", "service", "mark"]
abbrev P_Send_init : List Str := ["self", "mood", "service", "mark"]
theorem sc_Send_init : FnScope N_Send_init P_Send_init (defScope s_Send_init) := ⟨rfl, rfl, rfl, by decide +kernel, rfl, by decide +kernel, by decide +kernel⟩
abbrev s_Back_init : Stmt := inClass (top 12) 0
abbrev N_Back_init : List Str := ["self", "mood", "service", "sign", "then"]
abbrev P_Back_init : List Str := ["self", "mood", "service", "sign", "then"]
theorem sc_Back_init : FnScope N_Back_init P_Back_init (defScope s_Back_init) := ⟨rfl, rfl, rfl, by decide +kernel, rfl, by decide +kernel, by decide +kernel⟩
abbrev s_End_init : Stmt := inClass (top 13) 0
abbrev N_End_init : List Str := ["self", "mood", "outcome", "sign", "part"]
abbrev P_End_init : List Str := ["self", "mood", "outcome", "sign", "part"]
theorem sc_End_init : FnScope N_End_init P_End_init (defScope s_End_init) := ⟨rfl, rfl, rfl, by decide +kernel, rfl, by decide +kernel, by decide +kernel⟩
structure TxRows (w : World) (K : PySem.W.Frag) (mg : Str → Option Value) extends TxCheck w K mg where
  f_is_name_or : Addr
  d_is_name_or : FuncData
  F_is_name_or : Fun K "is_name_or" "is_name_or" s_is_name_or f_is_name_or d_is_name_or
  m_is_name_or : mg "is_name_or" = some (.ref f_is_name_or)
  b_is_name_or : Binds K d_is_name_or P_is_name_or []
  C_InvalidRow : Addr
  m_InvalidRow : mg "InvalidRow" = some (.ref C_InvalidRow)
  oxRow : OexC K C_InvalidRow
  nwRow : PySem.W.findIn K (.ref C_InvalidRow) "word" = some none
  f_InvalidRow_init : Addr
  d_InvalidRow_init : FuncData
  iRow : PySem.W.findIn K (.ref C_InvalidRow) "__init__" = some (some (.ref f_InvalidRow_init))
  tRow : PySem.W.typeIn K (.ref f_InvalidRow_init) = some (.type "function")
  F_InvalidRow_init : Fun K "__init__" "InvalidRow.__init__" s_InvalidRow_init f_InvalidRow_init d_InvalidRow_init
  b_InvalidRow_init : Binds K d_InvalidRow_init P_InvalidRow_init []
  C_Begin : Addr
  m_Begin : mg "Begin" = some (.ref C_Begin)
  c_Begin : Cls K C_Begin
  f_Begin_init : Addr
  d_Begin_init : FuncData
  mk_Begin : Mk K C_Begin f_Begin_init
  F_Begin_init : Fun K "__init__" "Begin.__init__" s_Begin_init f_Begin_init d_Begin_init
  b_Begin_init : Binds K d_Begin_init P_Begin_init []
  n_Begin_mark : NoAttr K C_Begin "mark"
  n_Begin_kind : NoAttr K C_Begin "kind"
  n_Begin_mood : NoAttr K C_Begin "mood"
  C_Send : Addr
  m_Send : mg "Send" = some (.ref C_Send)
  c_Send : Cls K C_Send
  f_Send_init : Addr
  d_Send_init : FuncData
  mk_Send : Mk K C_Send f_Send_init
  F_Send_init : Fun K "__init__" "Send.__init__" s_Send_init f_Send_init d_Send_init
  b_Send_init : Binds K d_Send_init P_Send_init []
  n_Send_mood : NoAttr K C_Send "mood"
  n_Send_service : NoAttr K C_Send "service"
  n_Send_mark : NoAttr K C_Send "mark"
  C_Back : Addr
  m_Back : mg "Back" = some (.ref C_Back)
  c_Back : Cls K C_Back
  f_Back_init : Addr
  d_Back_init : FuncData
  mk_Back : Mk K C_Back f_Back_init
  F_Back_init : Fun K "__init__" "Back.__init__" s_Back_init f_Back_init d_Back_init
  b_Back_init : Binds K d_Back_init P_Back_init []
  n_Back_mood : NoAttr K C_Back "mood"
  n_Back_service : NoAttr K C_Back "service"
  n_Back_sign : NoAttr K C_Back "sign"
  n_Back_then : NoAttr K C_Back "then"
  C_End : Addr
  m_End : mg "End" = some (.ref C_End)
  c_End : Cls K C_End
  f_End_init : Addr
  d_End_init : FuncData
  mk_End : Mk K C_End f_End_init
  F_End_init : Fun K "__init__" "End.__init__" s_End_init f_End_init d_End_init
  b_End_init : Binds K d_End_init P_End_init []
  n_End_mood : NoAttr K C_End "mood"
  n_End_outcome : NoAttr K C_End "outcome"
  n_End_sign : NoAttr K C_End "sign"
  n_End_part : NoAttr K C_End "part"
def spXInit (K : PySem.W.Frag) (C : Addr) : Sp := fun vs H Q _ => ∃ (a : Addr) (y : V), vs = [.ref a, y] ∧ H a = some (exo a C none) ∧
  ∀ dx, H dx = none → dx ≠ a → Q .non (upd (upd H dx (exd dx [("word", y)])) a (exo a C (some dx)))
def spNameOr (K : PySem.W.Frag) : Sp := fun vs H Q _ => ∃ (v : V) (d : PyData) (a : Addr) (l : List Str), vs = [v, .ref a] ∧ Dv K H v d ∧ SqT K H a (l.map V.str) ∧ l.all PyData.strOk = true ∧
  ∀ H', Same H H' → Q (.bl (nmD d || txD l d)) H'
section
variable {P : Program} {w : World} {K : PySem.W.Frag} {mg : Str → Option Value} {base : Heap}
theorem ok_is_name_or (T : TxRows w K mg) : FnOk P w K mg base CX0 2 T.f_is_name_or T.d_is_name_or P_is_name_or (spNameOr K) := by
  have G_is_name := ok_is_name (P := P) (w := w) (base := base) T.toTxCheck
  refine T.F_is_name_or.ok sc_is_name_or (fun vs H Q E h => ?_) (fun cdv A outer s H vs Q E hr h => ?_)
  · obtain ⟨v, d, a, l, rfl, _⟩ := h
    rfl
  obtain ⟨v, d, a, l, rfl, hv, hl, ho, q⟩ := h
  refine ⟨_, (pss_one (ps_ret (pe_or (pe_call G_is_name (hr.mono (by decide)) (by rfl) T.m_is_name T.F_is_name.kp T.b_is_name .nil pass0 (pa_cons (pv 0) pa_nil)) (pe_one (pe_cmpR (op_inT K (room65 hr)) (pv 0) (pv 1) (by rfl)))))), ?_⟩
  refine ⟨_, rfl, v, rfl, hv.any, fun H' s1 => ⟨_, rfl, ?_⟩⟩
  rw [hv.nm] at *
  cases e : nmD d with
  | true =>
    have r := q H' s1
    rw [e] at r
    exact r
  | false =>
    refine ⟨_, rfl, _, rfl, d, l.map PyData.str, Dp.same s1 d v hv.dp, .tup (seqT_same s1 hl) (Dp.all_strs l), hv.sh, shaped_strs ho, ?_⟩
    have r := q H' s1
    rw [e, Bool.false_or, ← any_strs] at r
    exact r
theorem ok_xrow (T : TxRows w K mg) : FnOk P w K mg base CX0 1 T.f_InvalidRow_init T.d_InvalidRow_init P_InvalidRow_init (spXInit K T.C_InvalidRow) := by
  refine T.F_InvalidRow_init.ok sc_InvalidRow_init (fun vs H Q E h => ?_) (fun cdv A outer s H vs Q E hr h => ?_)
  · obtain ⟨a, y, rfl, _⟩ := h
    rfl
  obtain ⟨a, y, rfl, ha, q⟩ := h
  refine ⟨_, (pss_one (ps_ost (pv 0) (pv 1))), ?_⟩
  exact ⟨_, rfl, _, rfl, a, T.C_InvalidRow, rfl, T.oxRow, T.nwRow, .inl ⟨ha, fun dx h1 h2 => q dx h1 h2⟩⟩
/-- raise X('word'), X's own __init__ keeping the word -/
theorem mk_word {K : PySem.W.Frag} {C : Addr} {σ : St} {H1 : Hp} {wd : Str} {Q : XK} (q : ∀ (d : Addr) (H' : Hp), Same H1 H' → H1 d = none → H' d = some (.xd [("word", .str wd)]) → Q (.ref C) (some d) H') :
    tMkO C (spXInit K C) [] (tCons (tC (.str wd)) tNil) σ H1 Q := by
  refine ⟨by show 1 ≤ 1000; decide, fun a na => ⟨a, .str wd, rfl, upd_same, fun dx h1 h2 => ⟨rfl, dx, [("word", .str wd)], upd_same, ?_, ?_, ?_⟩⟩⟩
  · rw [upd_ne h2, upd_same]
  · rw [upd_ne h2] at h1
    exact h1
  · rw [upd_ne h2] at h1
    refine q dx _ (fun b u e => ?_) h1 upd_same
    have hb : b ≠ a := ne_of_none e na
    have hd : b ≠ dx := ne_of_none e h1
    rw [upd_ne hd, del_ne hb, upd_ne hb, upd_ne hd, upd_ne hb]
    exact e
def spRow (K : PySem.W.Frag) (C CX : Addr) (names : List Str) (wr : List PyData → Option Str) : Sp := fun vs H Q E => ∃ (p dx : Addr) (as : List V) (ds : List PyData), vs = .ref p :: as ∧ as.length = names.length ∧ Paired (Dv K H) as ds ∧ H p = some (.ins C dx []) ∧
  (∀ H', wr ds = none → H' p = some (.ins C dx (names.zip as)) → (∀ b u, H b = some u → b ≠ p → H' b = some u) → Q .non H') ∧
  (∀ wd d H', wr ds = some wd → Same H H' → H d = none → H' d = some (.xd [("word", .str wd)]) → E (.ref CX) (some d) H')
theorem bnot_eq {b : Bool} (h : (!b) = true) : b = false := by simpa using h
theorem bnot_ne {b : Bool} (h : ¬ (!b) = true) : b = true := by simpa using h
def wBegin : List PyData → Option Str
  | [d0, d1, d2] => if (nmD d0 || txD ["none", "any"] d0) = false then some "mark" else if (nmD d1 || txD ["any"] d1) = false then some "kind" else if nmD d2 = false then some "mood" else none
  | _ => none
theorem ok_Begin_init (T : TxRows w K mg) : FnOk P w K mg base (L2.CX P w) 3 T.f_Begin_init T.d_Begin_init P_Begin_init (spRow K T.C_Begin T.C_InvalidRow ["mark", "kind", "mood"] wBegin) := by
  have G_is_name := ok_is_name (P := P) (w := w) (base := base) T.toTxCheck
  have G_is_name_or := ok_is_name_or (P := P) (w := w) (base := base) T
  have G_InvalidRow_init := ok_xrow (P := P) (w := w) (base := base) T
  refine T.F_Begin_init.okX sc_Begin_init (fun vs H Q E h => ?_) (fun cdv A outer s H vs Q E hr h => ?_)
  · obtain ⟨p, dx, as, ds, rfl, hl, _⟩ := h
    exact congrArg Nat.succ hl
  obtain ⟨p, dx, as, ds, rfl, hl, hd, hp, q, qe⟩ := h
  obtain ⟨x0, x1, x2, rfl⟩ : ∃ x0 x1 x2, as = [x0, x1, x2] := by
    match as, hl with
    | [x0, x1, x2], _ => exact ⟨x0, x1, x2, rfl⟩
  cases hd with
  | cons h0 hd =>
  cases hd with
  | cons h1 hd =>
  cases hd with
  | cons h2 hd =>
  cases hd
  rename_i d0 d1 d2
  refine ⟨_, (pss_cons (ps_if (pt_not (pt_val (pe_call G_is_name_or (hr.mono (by decide)) (by rfl) T.m_is_name_or T.F_is_name_or.kp T.b_is_name_or .nil pass0 (pa_cons (pv 1) (pa_cons (pe_tup (pa_cons pe_str (pa_cons pe_str pa_nil))) pa_nil))))) (pss_one (ps_raise rfl (takes_of rfl rfl rfl rfl) (pmk_oex T.oxRow T.iRow T.tRow G_InvalidRow_init (hr.mono (by decide)) T.b_InvalidRow_init .nil pass0 (by rfl) T.m_InvalidRow (pa_cons pe_str pa_nil)))) pss_nil)
      (pss_cons (ps_if (pt_not (pt_val (pe_call G_is_name_or (hr.mono (by decide)) (by rfl) T.m_is_name_or T.F_is_name_or.kp T.b_is_name_or .nil pass0 (pa_cons (pv 2) (pa_cons (pe_tup (pa_cons pe_str pa_nil)) pa_nil))))) (pss_one (ps_raise rfl (takes_of rfl rfl rfl rfl) (pmk_oex T.oxRow T.iRow T.tRow G_InvalidRow_init (hr.mono (by decide)) T.b_InvalidRow_init .nil pass0 (by rfl) T.m_InvalidRow (pa_cons pe_str pa_nil)))) pss_nil)
      (pss_cons (ps_if (pt_not (pt_val (pe_call G_is_name (hr.mono (by decide)) (by rfl) T.m_is_name T.F_is_name.kp T.b_is_name .nil pass0 (pa_cons (pv 3) pa_nil)))) (pss_one (ps_raise rfl (takes_of rfl rfl rfl rfl) (pmk_oex T.oxRow T.iRow T.tRow G_InvalidRow_init (hr.mono (by decide)) T.b_InvalidRow_init .nil pass0 (by rfl) T.m_InvalidRow (pa_cons pe_str pa_nil)))) pss_nil)
      (pss_cons (ps_fld (pv 0) (pv 1) rfl)
      (pss_cons (ps_fld (pv 0) (pv 2) rfl)
      (pss_one (ps_fld (pv 0) (pv 3) rfl))))))), ?_⟩
  have s0 : Same H H := Same.refl H
  refine ⟨_, rfl, by show 2 ≤ sizeLine; decide, fun t0 ht0 => ⟨x0, d0, t0, ["none", "any"], rfl, h0.same (s0.trans (same_upd ht0 _)), SqT.of upd_same, by decide +kernel, fun H0 z0 => ⟨_, rfl, ?_⟩⟩⟩
  have s1 := s0.trans ((same_upd ht0 _).trans z0)
  refine ite2 (fun c0 => ?_) (fun c0 => ?_)
  · exact mk_word fun d H' s' n' e' => qe "mark" d H' (if_pos (bnot_eq c0)) (s1.trans s') (s1.free n') e'
  refine ⟨_, rfl, by show 1 ≤ sizeLine; decide, fun t1 ht1 => ⟨x1, d1, t1, ["any"], rfl, h1.same (s1.trans (same_upd ht1 _)), SqT.of upd_same, by decide +kernel, fun H1 z1 => ⟨_, rfl, ?_⟩⟩⟩
  have s2 := s1.trans ((same_upd ht1 _).trans z1)
  refine ite2 (fun c1 => ?_) (fun c1 => ?_)
  · exact mk_word fun d H' s' n' e' => qe "kind" d H' ((if_neg (by rw [bnot_ne c0]; decide)).trans (if_pos (bnot_eq c1))) (s2.trans s') (s2.free n') e'
  refine ⟨_, rfl, x2, rfl, (h2.same s2).any, fun H2 z2 => ⟨_, rfl, ?_⟩⟩
  rw [(h2.same s2).nm]
  have s3 := s2.trans z2
  refine ite2 (fun c2 => ?_) (fun c2 => ?_)
  · exact mk_word fun d H' s' n' e' => qe "mood" d H' ((if_neg (by rw [bnot_ne c0]; decide)).trans ((if_neg (by rw [bnot_ne c1]; decide)).trans (if_pos (bnot_eq c2)))) (s3.trans s') (s3.free n') e'
  have hp3 := s3 _ _ hp
  refine ⟨_, rfl, _, rfl, p, T.C_Begin, dx, _, rfl, hp3, T.c_Begin, T.n_Begin_mark, (by show 0 < 1000; decide), ?_⟩
  refine ⟨_, rfl, _, rfl, p, T.C_Begin, dx, _, rfl, upd_same, T.c_Begin, T.n_Begin_kind, (by show 1 < 1000; decide), ?_⟩
  refine ⟨_, rfl, _, rfl, p, T.C_Begin, dx, _, rfl, upd_same, T.c_Begin, T.n_Begin_mood, (by show 2 < 1000; decide), ?_⟩
  rw [upd_upd, upd_upd]
  refine q _ ((if_neg (by rw [bnot_ne c0]; decide)).trans ((if_neg (by rw [bnot_ne c1]; decide)).trans (if_neg (by rw [bnot_ne c2]; decide)))) upd_same fun b u e nb => ?_
  rw [upd_ne nb]
  exact s3 _ _ e
def wSend : List PyData → Option Str
  | [d0, d1, d2] => if (nmD d0 || txD ["any"] d0) = false then some "mood" else if (nmD d1 || txD ["any"] d1) = false then some "service" else if (nmD d2 || txD ["none", "same"] d2) = false then some "mark" else none
  | _ => none
theorem ok_Send_init (T : TxRows w K mg) : FnOk P w K mg base (L2.CX P w) 3 T.f_Send_init T.d_Send_init P_Send_init (spRow K T.C_Send T.C_InvalidRow ["mood", "service", "mark"] wSend) := by
  have G_is_name := ok_is_name (P := P) (w := w) (base := base) T.toTxCheck
  have G_is_name_or := ok_is_name_or (P := P) (w := w) (base := base) T
  have G_InvalidRow_init := ok_xrow (P := P) (w := w) (base := base) T
  refine T.F_Send_init.okX sc_Send_init (fun vs H Q E h => ?_) (fun cdv A outer s H vs Q E hr h => ?_)
  · obtain ⟨p, dx, as, ds, rfl, hl, _⟩ := h
    exact congrArg Nat.succ hl
  obtain ⟨p, dx, as, ds, rfl, hl, hd, hp, q, qe⟩ := h
  obtain ⟨x0, x1, x2, rfl⟩ : ∃ x0 x1 x2, as = [x0, x1, x2] := by
    match as, hl with
    | [x0, x1, x2], _ => exact ⟨x0, x1, x2, rfl⟩
  cases hd with
  | cons h0 hd =>
  cases hd with
  | cons h1 hd =>
  cases hd with
  | cons h2 hd =>
  cases hd
  rename_i d0 d1 d2
  refine ⟨_, (pss_cons (ps_if (pt_not (pt_val (pe_call G_is_name_or (hr.mono (by decide)) (by rfl) T.m_is_name_or T.F_is_name_or.kp T.b_is_name_or .nil pass0 (pa_cons (pv 1) (pa_cons (pe_tup (pa_cons pe_str pa_nil)) pa_nil))))) (pss_one (ps_raise rfl (takes_of rfl rfl rfl rfl) (pmk_oex T.oxRow T.iRow T.tRow G_InvalidRow_init (hr.mono (by decide)) T.b_InvalidRow_init .nil pass0 (by rfl) T.m_InvalidRow (pa_cons pe_str pa_nil)))) pss_nil)
      (pss_cons (ps_if (pt_not (pt_val (pe_call G_is_name_or (hr.mono (by decide)) (by rfl) T.m_is_name_or T.F_is_name_or.kp T.b_is_name_or .nil pass0 (pa_cons (pv 2) (pa_cons (pe_tup (pa_cons pe_str pa_nil)) pa_nil))))) (pss_one (ps_raise rfl (takes_of rfl rfl rfl rfl) (pmk_oex T.oxRow T.iRow T.tRow G_InvalidRow_init (hr.mono (by decide)) T.b_InvalidRow_init .nil pass0 (by rfl) T.m_InvalidRow (pa_cons pe_str pa_nil)))) pss_nil)
      (pss_cons (ps_if (pt_not (pt_val (pe_call G_is_name_or (hr.mono (by decide)) (by rfl) T.m_is_name_or T.F_is_name_or.kp T.b_is_name_or .nil pass0 (pa_cons (pv 3) (pa_cons (pe_tup (pa_cons pe_str (pa_cons pe_str pa_nil))) pa_nil))))) (pss_one (ps_raise rfl (takes_of rfl rfl rfl rfl) (pmk_oex T.oxRow T.iRow T.tRow G_InvalidRow_init (hr.mono (by decide)) T.b_InvalidRow_init .nil pass0 (by rfl) T.m_InvalidRow (pa_cons pe_str pa_nil)))) pss_nil)
      (pss_cons (ps_fld (pv 0) (pv 1) rfl)
      (pss_cons (ps_fld (pv 0) (pv 2) rfl)
      (pss_one (ps_fld (pv 0) (pv 3) rfl))))))), ?_⟩
  have s0 : Same H H := Same.refl H
  refine ⟨_, rfl, by show 1 ≤ sizeLine; decide, fun t0 ht0 => ⟨x0, d0, t0, ["any"], rfl, h0.same (s0.trans (same_upd ht0 _)), SqT.of upd_same, by decide +kernel, fun H0 z0 => ⟨_, rfl, ?_⟩⟩⟩
  have s1 := s0.trans ((same_upd ht0 _).trans z0)
  refine ite2 (fun c0 => ?_) (fun c0 => ?_)
  · exact mk_word fun d H' s' n' e' => qe "mood" d H' (if_pos (bnot_eq c0)) (s1.trans s') (s1.free n') e'
  refine ⟨_, rfl, by show 1 ≤ sizeLine; decide, fun t1 ht1 => ⟨x1, d1, t1, ["any"], rfl, h1.same (s1.trans (same_upd ht1 _)), SqT.of upd_same, by decide +kernel, fun H1 z1 => ⟨_, rfl, ?_⟩⟩⟩
  have s2 := s1.trans ((same_upd ht1 _).trans z1)
  refine ite2 (fun c1 => ?_) (fun c1 => ?_)
  · exact mk_word fun d H' s' n' e' => qe "service" d H' ((if_neg (by rw [bnot_ne c0]; decide)).trans (if_pos (bnot_eq c1))) (s2.trans s') (s2.free n') e'
  refine ⟨_, rfl, by show 2 ≤ sizeLine; decide, fun t2 ht2 => ⟨x2, d2, t2, ["none", "same"], rfl, h2.same (s2.trans (same_upd ht2 _)), SqT.of upd_same, by decide +kernel, fun H2 z2 => ⟨_, rfl, ?_⟩⟩⟩
  have s3 := s2.trans ((same_upd ht2 _).trans z2)
  refine ite2 (fun c2 => ?_) (fun c2 => ?_)
  · exact mk_word fun d H' s' n' e' => qe "mark" d H' ((if_neg (by rw [bnot_ne c0]; decide)).trans ((if_neg (by rw [bnot_ne c1]; decide)).trans (if_pos (bnot_eq c2)))) (s3.trans s') (s3.free n') e'
  have hp3 := s3 _ _ hp
  refine ⟨_, rfl, _, rfl, p, T.C_Send, dx, _, rfl, hp3, T.c_Send, T.n_Send_mood, (by show 0 < 1000; decide), ?_⟩
  refine ⟨_, rfl, _, rfl, p, T.C_Send, dx, _, rfl, upd_same, T.c_Send, T.n_Send_service, (by show 1 < 1000; decide), ?_⟩
  refine ⟨_, rfl, _, rfl, p, T.C_Send, dx, _, rfl, upd_same, T.c_Send, T.n_Send_mark, (by show 2 < 1000; decide), ?_⟩
  rw [upd_upd, upd_upd]
  refine q _ ((if_neg (by rw [bnot_ne c0]; decide)).trans ((if_neg (by rw [bnot_ne c1]; decide)).trans (if_neg (by rw [bnot_ne c2]; decide)))) upd_same fun b u e nb => ?_
  rw [upd_ne nb]
  exact s3 _ _ e
def wBack : List PyData → Option Str
  | [d0, d1, d2, d3] => if (nmD d0 || txD ["any"] d0) = false then some "mood" else if (nmD d1 || txD ["any"] d1) = false then some "service" else if (nmD d2 || txD ["none", "any"] d2) = false then some "sign" else if (nmD d3 || txD ["same"] d3) = false then some "then" else none
  | _ => none
theorem ok_Back_init (T : TxRows w K mg) : FnOk P w K mg base (L2.CX P w) 3 T.f_Back_init T.d_Back_init P_Back_init (spRow K T.C_Back T.C_InvalidRow ["mood", "service", "sign", "then"] wBack) := by
  have G_is_name := ok_is_name (P := P) (w := w) (base := base) T.toTxCheck
  have G_is_name_or := ok_is_name_or (P := P) (w := w) (base := base) T
  have G_InvalidRow_init := ok_xrow (P := P) (w := w) (base := base) T
  refine T.F_Back_init.okX sc_Back_init (fun vs H Q E h => ?_) (fun cdv A outer s H vs Q E hr h => ?_)
  · obtain ⟨p, dx, as, ds, rfl, hl, _⟩ := h
    exact congrArg Nat.succ hl
  obtain ⟨p, dx, as, ds, rfl, hl, hd, hp, q, qe⟩ := h
  obtain ⟨x0, x1, x2, x3, rfl⟩ : ∃ x0 x1 x2 x3, as = [x0, x1, x2, x3] := by
    match as, hl with
    | [x0, x1, x2, x3], _ => exact ⟨x0, x1, x2, x3, rfl⟩
  cases hd with
  | cons h0 hd =>
  cases hd with
  | cons h1 hd =>
  cases hd with
  | cons h2 hd =>
  cases hd with
  | cons h3 hd =>
  cases hd
  rename_i d0 d1 d2 d3
  refine ⟨_, (pss_cons (ps_if (pt_not (pt_val (pe_call G_is_name_or (hr.mono (by decide)) (by rfl) T.m_is_name_or T.F_is_name_or.kp T.b_is_name_or .nil pass0 (pa_cons (pv 1) (pa_cons (pe_tup (pa_cons pe_str pa_nil)) pa_nil))))) (pss_one (ps_raise rfl (takes_of rfl rfl rfl rfl) (pmk_oex T.oxRow T.iRow T.tRow G_InvalidRow_init (hr.mono (by decide)) T.b_InvalidRow_init .nil pass0 (by rfl) T.m_InvalidRow (pa_cons pe_str pa_nil)))) pss_nil)
      (pss_cons (ps_if (pt_not (pt_val (pe_call G_is_name_or (hr.mono (by decide)) (by rfl) T.m_is_name_or T.F_is_name_or.kp T.b_is_name_or .nil pass0 (pa_cons (pv 2) (pa_cons (pe_tup (pa_cons pe_str pa_nil)) pa_nil))))) (pss_one (ps_raise rfl (takes_of rfl rfl rfl rfl) (pmk_oex T.oxRow T.iRow T.tRow G_InvalidRow_init (hr.mono (by decide)) T.b_InvalidRow_init .nil pass0 (by rfl) T.m_InvalidRow (pa_cons pe_str pa_nil)))) pss_nil)
      (pss_cons (ps_if (pt_not (pt_val (pe_call G_is_name_or (hr.mono (by decide)) (by rfl) T.m_is_name_or T.F_is_name_or.kp T.b_is_name_or .nil pass0 (pa_cons (pv 3) (pa_cons (pe_tup (pa_cons pe_str (pa_cons pe_str pa_nil))) pa_nil))))) (pss_one (ps_raise rfl (takes_of rfl rfl rfl rfl) (pmk_oex T.oxRow T.iRow T.tRow G_InvalidRow_init (hr.mono (by decide)) T.b_InvalidRow_init .nil pass0 (by rfl) T.m_InvalidRow (pa_cons pe_str pa_nil)))) pss_nil)
      (pss_cons (ps_if (pt_not (pt_val (pe_call G_is_name_or (hr.mono (by decide)) (by rfl) T.m_is_name_or T.F_is_name_or.kp T.b_is_name_or .nil pass0 (pa_cons (pv 4) (pa_cons (pe_tup (pa_cons pe_str pa_nil)) pa_nil))))) (pss_one (ps_raise rfl (takes_of rfl rfl rfl rfl) (pmk_oex T.oxRow T.iRow T.tRow G_InvalidRow_init (hr.mono (by decide)) T.b_InvalidRow_init .nil pass0 (by rfl) T.m_InvalidRow (pa_cons pe_str pa_nil)))) pss_nil)
      (pss_cons (ps_fld (pv 0) (pv 1) rfl)
      (pss_cons (ps_fld (pv 0) (pv 2) rfl)
      (pss_cons (ps_fld (pv 0) (pv 3) rfl)
      (pss_one (ps_fld (pv 0) (pv 4) rfl))))))))), ?_⟩
  have s0 : Same H H := Same.refl H
  refine ⟨_, rfl, by show 1 ≤ sizeLine; decide, fun t0 ht0 => ⟨x0, d0, t0, ["any"], rfl, h0.same (s0.trans (same_upd ht0 _)), SqT.of upd_same, by decide +kernel, fun H0 z0 => ⟨_, rfl, ?_⟩⟩⟩
  have s1 := s0.trans ((same_upd ht0 _).trans z0)
  refine ite2 (fun c0 => ?_) (fun c0 => ?_)
  · exact mk_word fun d H' s' n' e' => qe "mood" d H' (if_pos (bnot_eq c0)) (s1.trans s') (s1.free n') e'
  refine ⟨_, rfl, by show 1 ≤ sizeLine; decide, fun t1 ht1 => ⟨x1, d1, t1, ["any"], rfl, h1.same (s1.trans (same_upd ht1 _)), SqT.of upd_same, by decide +kernel, fun H1 z1 => ⟨_, rfl, ?_⟩⟩⟩
  have s2 := s1.trans ((same_upd ht1 _).trans z1)
  refine ite2 (fun c1 => ?_) (fun c1 => ?_)
  · exact mk_word fun d H' s' n' e' => qe "service" d H' ((if_neg (by rw [bnot_ne c0]; decide)).trans (if_pos (bnot_eq c1))) (s2.trans s') (s2.free n') e'
  refine ⟨_, rfl, by show 2 ≤ sizeLine; decide, fun t2 ht2 => ⟨x2, d2, t2, ["none", "any"], rfl, h2.same (s2.trans (same_upd ht2 _)), SqT.of upd_same, by decide +kernel, fun H2 z2 => ⟨_, rfl, ?_⟩⟩⟩
  have s3 := s2.trans ((same_upd ht2 _).trans z2)
  refine ite2 (fun c2 => ?_) (fun c2 => ?_)
  · exact mk_word fun d H' s' n' e' => qe "sign" d H' ((if_neg (by rw [bnot_ne c0]; decide)).trans ((if_neg (by rw [bnot_ne c1]; decide)).trans (if_pos (bnot_eq c2)))) (s3.trans s') (s3.free n') e'
  refine ⟨_, rfl, by show 1 ≤ sizeLine; decide, fun t3 ht3 => ⟨x3, d3, t3, ["same"], rfl, h3.same (s3.trans (same_upd ht3 _)), SqT.of upd_same, by decide +kernel, fun H3 z3 => ⟨_, rfl, ?_⟩⟩⟩
  have s4 := s3.trans ((same_upd ht3 _).trans z3)
  refine ite2 (fun c3 => ?_) (fun c3 => ?_)
  · exact mk_word fun d H' s' n' e' => qe "then" d H' ((if_neg (by rw [bnot_ne c0]; decide)).trans ((if_neg (by rw [bnot_ne c1]; decide)).trans ((if_neg (by rw [bnot_ne c2]; decide)).trans (if_pos (bnot_eq c3))))) (s4.trans s') (s4.free n') e'
  have hp3 := s4 _ _ hp
  refine ⟨_, rfl, _, rfl, p, T.C_Back, dx, _, rfl, hp3, T.c_Back, T.n_Back_mood, (by show 0 < 1000; decide), ?_⟩
  refine ⟨_, rfl, _, rfl, p, T.C_Back, dx, _, rfl, upd_same, T.c_Back, T.n_Back_service, (by show 1 < 1000; decide), ?_⟩
  refine ⟨_, rfl, _, rfl, p, T.C_Back, dx, _, rfl, upd_same, T.c_Back, T.n_Back_sign, (by show 2 < 1000; decide), ?_⟩
  refine ⟨_, rfl, _, rfl, p, T.C_Back, dx, _, rfl, upd_same, T.c_Back, T.n_Back_then, (by show 3 < 1000; decide), ?_⟩
  rw [upd_upd, upd_upd, upd_upd]
  refine q _ ((if_neg (by rw [bnot_ne c0]; decide)).trans ((if_neg (by rw [bnot_ne c1]; decide)).trans ((if_neg (by rw [bnot_ne c2]; decide)).trans (if_neg (by rw [bnot_ne c3]; decide))))) upd_same fun b u e nb => ?_
  rw [upd_ne nb]
  exact s4 _ _ e
def wEnd : List PyData → Option Str
  | [d0, d1, d2, d3] => if (nmD d0 || txD ["any"] d0) = false then some "mood" else if txD ["good", "bad", "any"] d1 = false then some "outcome" else if (nmD d2 || txD ["none"] d2) = false then some "sign" else if txD ["keep", "drop"] d3 = false then some "part" else none
  | _ => none
theorem ok_End_init (T : TxRows w K mg) : FnOk P w K mg base (L2.CX P w) 3 T.f_End_init T.d_End_init P_End_init (spRow K T.C_End T.C_InvalidRow ["mood", "outcome", "sign", "part"] wEnd) := by
  have G_is_name := ok_is_name (P := P) (w := w) (base := base) T.toTxCheck
  have G_is_name_or := ok_is_name_or (P := P) (w := w) (base := base) T
  have G_InvalidRow_init := ok_xrow (P := P) (w := w) (base := base) T
  refine T.F_End_init.okX sc_End_init (fun vs H Q E h => ?_) (fun cdv A outer s H vs Q E hr h => ?_)
  · obtain ⟨p, dx, as, ds, rfl, hl, _⟩ := h
    exact congrArg Nat.succ hl
  obtain ⟨p, dx, as, ds, rfl, hl, hd, hp, q, qe⟩ := h
  obtain ⟨x0, x1, x2, x3, rfl⟩ : ∃ x0 x1 x2 x3, as = [x0, x1, x2, x3] := by
    match as, hl with
    | [x0, x1, x2, x3], _ => exact ⟨x0, x1, x2, x3, rfl⟩
  cases hd with
  | cons h0 hd =>
  cases hd with
  | cons h1 hd =>
  cases hd with
  | cons h2 hd =>
  cases hd with
  | cons h3 hd =>
  cases hd
  rename_i d0 d1 d2 d3
  refine ⟨_, (pss_cons (ps_if (pt_not (pt_val (pe_call G_is_name_or (hr.mono (by decide)) (by rfl) T.m_is_name_or T.F_is_name_or.kp T.b_is_name_or .nil pass0 (pa_cons (pv 1) (pa_cons (pe_tup (pa_cons pe_str pa_nil)) pa_nil))))) (pss_one (ps_raise rfl (takes_of rfl rfl rfl rfl) (pmk_oex T.oxRow T.iRow T.tRow G_InvalidRow_init (hr.mono (by decide)) T.b_InvalidRow_init .nil pass0 (by rfl) T.m_InvalidRow (pa_cons pe_str pa_nil)))) pss_nil)
      (pss_cons (ps_if (pt_cmpR (op_notInT K (room65 hr)) (pv 2) (pe_tup (pa_cons pe_str (pa_cons pe_str (pa_cons pe_str pa_nil)))) (by rfl)) (pss_one (ps_raise rfl (takes_of rfl rfl rfl rfl) (pmk_oex T.oxRow T.iRow T.tRow G_InvalidRow_init (hr.mono (by decide)) T.b_InvalidRow_init .nil pass0 (by rfl) T.m_InvalidRow (pa_cons pe_str pa_nil)))) pss_nil)
      (pss_cons (ps_if (pt_not (pt_val (pe_call G_is_name_or (hr.mono (by decide)) (by rfl) T.m_is_name_or T.F_is_name_or.kp T.b_is_name_or .nil pass0 (pa_cons (pv 3) (pa_cons (pe_tup (pa_cons pe_str pa_nil)) pa_nil))))) (pss_one (ps_raise rfl (takes_of rfl rfl rfl rfl) (pmk_oex T.oxRow T.iRow T.tRow G_InvalidRow_init (hr.mono (by decide)) T.b_InvalidRow_init .nil pass0 (by rfl) T.m_InvalidRow (pa_cons pe_str pa_nil)))) pss_nil)
      (pss_cons (ps_if (pt_cmpR (op_notInT K (room65 hr)) (pv 4) (pe_tup (pa_cons pe_str (pa_cons pe_str pa_nil))) (by rfl)) (pss_one (ps_raise rfl (takes_of rfl rfl rfl rfl) (pmk_oex T.oxRow T.iRow T.tRow G_InvalidRow_init (hr.mono (by decide)) T.b_InvalidRow_init .nil pass0 (by rfl) T.m_InvalidRow (pa_cons pe_str pa_nil)))) pss_nil)
      (pss_cons (ps_fld (pv 0) (pv 1) rfl)
      (pss_cons (ps_fld (pv 0) (pv 2) rfl)
      (pss_cons (ps_fld (pv 0) (pv 3) rfl)
      (pss_one (ps_fld (pv 0) (pv 4) rfl))))))))), ?_⟩
  have s0 : Same H H := Same.refl H
  refine ⟨_, rfl, by show 1 ≤ sizeLine; decide, fun t0 ht0 => ⟨x0, d0, t0, ["any"], rfl, h0.same (s0.trans (same_upd ht0 _)), SqT.of upd_same, by decide +kernel, fun H0 z0 => ⟨_, rfl, ?_⟩⟩⟩
  have s1 := s0.trans ((same_upd ht0 _).trans z0)
  refine ite2 (fun c0 => ?_) (fun c0 => ?_)
  · exact mk_word fun d H' s' n' e' => qe "mood" d H' (if_pos (bnot_eq c0)) (s1.trans s') (s1.free n') e'
  refine ⟨_, rfl, by show 3 ≤ sizeLine; decide, fun t1 ht1 => ⟨d1, (["good", "bad", "any"] : List Str).map PyData.str, (h1.same (s1.trans (same_upd ht1 _))).dp, .tup (SqT.of upd_same) (Dp.all_strs ["good", "bad", "any"]), h1.sh, shaped_strs (by decide +kernel), _, rfl, ?_⟩⟩
  have s2 := s1.trans (same_upd ht1 (.tup ((["good", "bad", "any"] : List Str).map V.str)))
  refine ite2 (fun c1 => ?_) (fun c1 => ?_)
  · exact mk_word fun d H' s' n' e' => qe "outcome" d H' ((if_neg (by rw [bnot_ne c0]; decide)).trans (if_pos (by rw [← any_strs]; exact bnot_eq c1))) (s2.trans s') (s2.free n') e'
  refine ⟨_, rfl, by show 1 ≤ sizeLine; decide, fun t2 ht2 => ⟨x2, d2, t2, ["none"], rfl, h2.same (s2.trans (same_upd ht2 _)), SqT.of upd_same, by decide +kernel, fun H2 z2 => ⟨_, rfl, ?_⟩⟩⟩
  have s3 := s2.trans ((same_upd ht2 _).trans z2)
  refine ite2 (fun c2 => ?_) (fun c2 => ?_)
  · exact mk_word fun d H' s' n' e' => qe "sign" d H' ((if_neg (by rw [bnot_ne c0]; decide)).trans ((if_neg (by rw [← any_strs]; rw [bnot_ne c1]; decide)).trans (if_pos (bnot_eq c2)))) (s3.trans s') (s3.free n') e'
  refine ⟨_, rfl, by show 2 ≤ sizeLine; decide, fun t3 ht3 => ⟨d3, (["keep", "drop"] : List Str).map PyData.str, (h3.same (s3.trans (same_upd ht3 _))).dp, .tup (SqT.of upd_same) (Dp.all_strs ["keep", "drop"]), h3.sh, shaped_strs (by decide +kernel), _, rfl, ?_⟩⟩
  have s4 := s3.trans (same_upd ht3 (.tup ((["keep", "drop"] : List Str).map V.str)))
  refine ite2 (fun c3 => ?_) (fun c3 => ?_)
  · exact mk_word fun d H' s' n' e' => qe "part" d H' ((if_neg (by rw [bnot_ne c0]; decide)).trans ((if_neg (by rw [← any_strs]; rw [bnot_ne c1]; decide)).trans ((if_neg (by rw [bnot_ne c2]; decide)).trans (if_pos (by rw [← any_strs]; exact bnot_eq c3))))) (s4.trans s') (s4.free n') e'
  have hp3 := s4 _ _ hp
  refine ⟨_, rfl, _, rfl, p, T.C_End, dx, _, rfl, hp3, T.c_End, T.n_End_mood, (by show 0 < 1000; decide), ?_⟩
  refine ⟨_, rfl, _, rfl, p, T.C_End, dx, _, rfl, upd_same, T.c_End, T.n_End_outcome, (by show 1 < 1000; decide), ?_⟩
  refine ⟨_, rfl, _, rfl, p, T.C_End, dx, _, rfl, upd_same, T.c_End, T.n_End_sign, (by show 2 < 1000; decide), ?_⟩
  refine ⟨_, rfl, _, rfl, p, T.C_End, dx, _, rfl, upd_same, T.c_End, T.n_End_part, (by show 3 < 1000; decide), ?_⟩
  rw [upd_upd, upd_upd, upd_upd]
  refine q _ ((if_neg (by rw [bnot_ne c0]; decide)).trans ((if_neg (by rw [← any_strs]; rw [bnot_ne c1]; decide)).trans ((if_neg (by rw [bnot_ne c2]; decide)).trans (if_neg (by rw [← any_strs]; rw [bnot_ne c3]; decide))))) upd_same fun b u e nb => ?_
  rw [upd_ne nb]
  exact s4 _ _ e
end
end My

/-! ## Any values: drawn data -/
namespace My
open PySem L2
mutual
/-- a datum at v, all its objects of a kind -/
inductive Da (ok : Addr → Prop) (H : Hp) : V → PyData → Prop
  | non : Da ok H .non .none
  | bl (b : Bool) : Da ok H (.bl b) (.bool b)
  | int (i : Int) : Da ok H (.int i) (.int i)
  | str (x : Str) : Da ok H (.str x) (.str x)
  | lst {a : Addr} {xs : List V} {ds : List PyData} : ok a → H a = some (.lst xs) → DaAll ok H xs ds → Da ok H (.ref a) (.list ds)
  | tup {a : Addr} {xs : List V} {ds : List PyData} : ok a → H a = some (.tup xs) → DaAll ok H xs ds → Da ok H (.ref a) (.tuple ds)
inductive DaAll (ok : Addr → Prop) (H : Hp) : List V → List PyData → Prop
  | nil : DaAll ok H [] []
  | cons {v : V} {vs : List V} {d : PyData} {ds : List PyData} : Da ok H v d → DaAll ok H vs ds → DaAll ok H (v :: vs) (d :: ds)
end
mutual
theorem Da.mono {ok ok' : Addr → Prop} {H H' : Hp} (h1 : ∀ a, ok a → ok' a) (h2 : ∀ a o, ok a → H a = some o → H' a = some o) : ∀ (d : PyData) (v : V), Da ok H v d → Da ok' H' v d
  | .none, _, h => by cases h; exact .non
  | .bool b, _, h => by cases h; exact .bl b
  | .int i, _, h => by cases h; exact .int i
  | .str x, _, h => by cases h; exact .str x
  | .list ds, _, h => by
    cases h with
    | lst k hs ha => exact .lst (h1 _ k) (h2 _ _ k hs) (DaAll.mono h1 h2 ds _ ha)
  | .tuple ds, _, h => by
    cases h with
    | tup k hs ha => exact .tup (h1 _ k) (h2 _ _ k hs) (DaAll.mono h1 h2 ds _ ha)
  | .dict _, _, h => by cases h
theorem DaAll.mono {ok ok' : Addr → Prop} {H H' : Hp} (h1 : ∀ a, ok a → ok' a) (h2 : ∀ a o, ok a → H a = some o → H' a = some o) : ∀ (ds : List PyData) (vs : List V), DaAll ok H vs ds → DaAll ok' H' vs ds
  | [], _, h => by cases h; exact .nil
  | d :: ds, _, h => by
    cases h with
    | cons k1 k2 => exact .cons (Da.mono h1 h2 d _ k1) (DaAll.mono h1 h2 ds _ k2)
end
mutual
theorem Da.dp {K : PySem.W.Frag} {ok : Addr → Prop} {H : Hp} : ∀ (d : PyData) (v : V), Da ok H v d → Dp K H v d
  | .none, _, h => by cases h; exact .non
  | .bool b, _, h => by cases h; exact .bl b
  | .int i, _, h => by cases h; exact .int i
  | .str x, _, h => by cases h; exact .str x
  | .list ds, _, h => by
    cases h with
    | lst k hs ha => exact .lst (SqL.of hs) (DaAll.dp ds _ ha)
  | .tuple ds, _, h => by
    cases h with
    | tup k hs ha => exact .tup (SqT.of hs) (DaAll.dp ds _ ha)
  | .dict _, _, h => by cases h
theorem DaAll.dp {K : PySem.W.Frag} {ok : Addr → Prop} {H : Hp} : ∀ (ds : List PyData) (vs : List V), DaAll ok H vs ds → DpAll K H vs ds
  | [], _, h => by cases h; exact .nil
  | d :: ds, _, h => by
    cases h with
    | cons k1 k2 => exact .cons (Da.dp d _ k1) (DaAll.dp ds _ k2)
end
theorem DaAll.snoc {ok : Addr → Prop} {H : Hp} {v : V} {d : PyData} : ∀ {vs : List V} {ds : List PyData}, DaAll ok H vs ds → Da ok H v d → DaAll ok H (vs ++ [v]) (ds ++ [d])
  | _, _, .nil, h => .cons h .nil
  | _, _, .cons a t, h => .cons a (DaAll.snoc t h)
mutual
/-- all texts and all rows of items are short -/
def shortD : PyData → Bool
  | .str x => decide (x.length ≤ 2000)
  | .list ds => decide (ds.length ≤ 900) && shortDs ds
  | .tuple ds => decide (ds.length ≤ 900) && shortDs ds
  | _ => true
def shortDs : List PyData → Bool
  | [] => true
  | d :: ds => shortD d && shortDs ds
end
theorem shortDs_mem : ∀ {ds : List PyData}, (∀ d ∈ ds, shortD d = true) → shortDs ds = true
  | [], _ => rfl
  | d :: ds, h => by
    unfold shortDs
    rw [h d List.mem_cons_self, shortDs_mem fun x hx => h x (List.mem_cons_of_mem _ hx)]
    rfl
theorem shortDs_of : ∀ {ds : List PyData}, shortDs ds = true → ∀ d ∈ ds, shortD d = true
  | d :: ds, h, x, hx => by
    unfold shortDs at h
    rw [Bool.and_eq_true] at h
    rcases List.mem_cons.mp hx with z | z
    · rw [z]; exact h.1
    · exact shortDs_of h.2 x z
theorem DaAll.size {ok : Addr → Prop} {H : Hp} : ∀ {vs : List V} {ds : List PyData}, DaAll ok H vs ds → vs.length = ds.length
  | _, _, .nil => rfl
  | _, _, .cons _ t => by rw [List.length_cons, List.length_cons, DaAll.size t]
/-- what is said of a drawn datum: its texts are short and of code points, its depth at most k -/
structure GoodD (k : Nat) (d : PyData) : Prop where
  lay : d.canLay0 = true
  dep : d.depth ≤ k
  txt : ∀ x, d = .str x → x.length ≤ 2000
  sht : shortD d = true
theorem GoodD.mono {k l : Nat} {d : PyData} (h : GoodD k d) (e : k ≤ l) : GoodD l d := ⟨h.lay, Nat.le_trans h.dep e, h.txt, h.sht⟩
theorem GoodD.str {x : Str} {k : Nat} (h : okS x = true) : GoodD k (.str x) := by
  have h' := Bool.and_eq_true_iff.mp h
  exact ⟨by simpa [PyData.canLay0] using h'.2, by simp [PyData.depth], fun y e => (by cases e; exact of_decide_eq_true h'.1), h'.1⟩
theorem good_list {k : Nat} : ∀ {ds : List PyData}, ds.length ≤ 900 → (∀ d ∈ ds, GoodD k d) → GoodD (k + 1) (.list ds) ∧ GoodD (k + 1) (.tuple ds) := by
  intro ds hl h
  have sh : (decide (ds.length ≤ 900) && shortDs ds) = true := by rw [decide_eq_true hl, shortDs_mem fun d hd => (h d hd).sht]; rfl
  have h1 : PyData.canLayAll0 ds = true ∧ PyData.depthAll ds ≤ k := by
    clear sh hl
    induction ds with
    | nil => exact ⟨rfl, Nat.zero_le _⟩
    | cons d ds ih =>
      have a := h d List.mem_cons_self
      have b := ih fun x hx => h x (List.mem_cons_of_mem _ hx)
      refine ⟨by simp [PyData.canLayAll0, a.lay, b.1], ?_⟩
      simp only [PyData.depthAll]
      exact Nat.max_le.mpr ⟨a.dep, b.2⟩
  exact ⟨⟨by simpa [PyData.canLay0] using h1.1, by simp only [PyData.depth]; omega, fun _ e => (by cases e), sh⟩, ⟨by simpa [PyData.canLay0] using h1.1, by simp only [PyData.depth]; omega, fun _ e => (by cases e), sh⟩⟩
theorem Da.dv {K : PySem.W.Frag} {ok : Addr → Prop} {H : Hp} {v : V} {d : PyData} {k : Nat} (h : Da ok H v d) (g : GoodD k d) (hk : k ≤ 60) : Dv K H v d := by
  refine ⟨Da.dp d v h, ?_, g.txt⟩
  unfold SeqAt.shaped
  rw [g.lay, decide_eq_true (show d.depth ≤ 64 by have := g.dep; omega)]
  rfl
abbrev s_any : Stmt := top 20
abbrev N_any : List Str := ["_law_box_here", "_law_deep", "_law_form", "_law_some", "_law_k", "_law_words_here", "_law_plain"]
abbrev P_any : List Str := ["_law_box_here", "_law_deep"]
theorem sc_any : FnScope N_any P_any (defScope s_any) := ⟨rfl, rfl, rfl, by decide +kernel, rfl, by decide +kernel, by decide +kernel⟩
structure TxAny (w : World) (K : PySem.W.Frag) (mg : Str → Option Value) extends TxNames w K mg where
  z_tuple : mg "tuple" = none
  f_any : Addr
  d_any : FuncData
  F_any : Fun K "_law_any" "_law_any" s_any f_any d_any
  m_any : mg "_law_any" = some (.ref f_any)
  b_any : Binds K d_any P_any []
def spAny (n : Nat) : Sp := fun vs H Q _ => ∃ b : Addr, vs = [.ref b, .int (n : Int)] ∧ Gr b H H ∧
  ∀ (v : V) (d : PyData) (H' : Hp), Gr b H H' → Da (fun a => H a = none) H' v d → GoodD (n + 1) d → Q v H'
section
variable {P : Program} {w : World} {K : PySem.W.Frag} {mg : Str → Option Value} {base : Heap}
def ANYW : List Str := ["", "a", "none", "any", "same", "keep", "old", "abcde", "Ab", "a b", "x1", "good", "both", "\n", "zz"]
theorem ANYW_ok : ANYW.all okS = true := by decide +kernel
theorem any_step (T : TxAny w K mg) (n : Nat) {lev : Nat} {spR : Sp} (hR : ∀ m, n = m + 1 → spR = spAny m) (G_any : FnOk P w K mg base CX0 lev T.f_any T.d_any P_any spR) (hl : 2 ≤ lev) :
    FnOk P w K mg base CX0 (lev + 1) T.f_any T.d_any P_any (spAny n) := by
  have G_take : FnOk P w K mg base CX0 1 T.f_take T.d_take P_take spTakeG := ok_takeG T.toTxDraw
  have G_pick : FnOk P w K mg base CX0 2 T.f_pick T.d_pick P_pick (spPickG) := ok_pickG T.toTxDraw
  refine T.F_any.ok sc_any (fun vs H Q E h => ?_) (fun cdv A outer s H vs Q E hr' h => ?_)
  · obtain ⟨b, rfl, _⟩ := h
    rfl
  obtain ⟨b, rfl, g0, q⟩ := h
  have hr : Room 2 _ := hr'.mono hl
  refine ⟨_, (pss_cons (ps_set (i := 2) sc_any.nd rfl (Or.inl rfl) (pe_call G_take (hr.mono (by decide)) (by rfl) T.m_take T.F_take.kp T.b_take .nil pass0 (pa_cons (pv 0) (pa_cons pe_int pa_nil))))
      (Evl.pss_cut (ps_if (PW.pt (pw_and (pt_cmpR op_lt (pv 2) pe_int (nomark _)) (pw_and1 (pt_cmpR op_gt (pv 1) pe_int (nomark _))))) (pss_cons (ps_setLc (i := 3) (own := [("_law_k", 4)]) (g := gName 4) (by rfl) sc_any.nd rfl rfl (sw_true rfl rfl rfl (by decide +kernel)) (pi_range1 (by rfl) T.z_range (pa_cons (pe_call G_take (hr.mono (by decide)) (by rfl) T.m_take T.F_take.kp T.b_take .nil pass0 (pa_cons (pv 0) (pa_cons pe_int pa_nil))) pa_nil)) (blkOk_by (own := [("_law_k", 4)]) (N := N_any) (sc := defScope s_any) (by decide +kernel)) (fun _ _ _ _ _ => (pg_name (i := 4) sc_any.nd rfl (Or.inl rfl))) (fun _ _ _ _ _ => pts_nil) (fun _ _ _ _ _ => (pe_call G_any hr' (by rfl) T.m_any T.F_any.kp T.b_any .nil pass0 (pa_cons (pv 0) (pa_cons (pe_op op_sub (pv 1) pe_int) pa_nil)))))
      (pss_one (ps_ret (pe_ifExp (pt_cmpR op_lt (pv 2) pe_int (nomark _)) (pv 3) (pe_callTy (call_tupleK K) (by rfl) T.z_tuple (by decide +kernel) (pa_cons (pv 3) pa_nil)))))) pss_nil)
      (pss_cons (ps_set (i := 5) sc_any.nd rfl (Or.inl rfl) (pe_lst (pa_cons pe_str (pa_cons pe_str (pa_cons pe_str (pa_cons pe_str (pa_cons pe_str (pa_cons pe_str (pa_cons pe_str (pa_cons pe_str (pa_cons pe_str (pa_cons pe_str (pa_cons pe_str (pa_cons pe_str (pa_cons pe_str (pa_cons pe_str (pa_cons pe_str pa_nil)))))))))))))))))
      (pss_cons (ps_set (i := 6) sc_any.nd rfl (Or.inl rfl) (pe_lst (pa_cons pe_non (pa_cons pe_bl (pa_cons pe_bl (pa_cons pe_int (pa_cons pe_int (pa_cons (pe_op op_sub pe_int pe_int) (pa_cons (pe_op op_pow pe_int pe_int) (pa_cons (pe_lst (pa_cons pe_str pa_nil)) (pa_cons (pe_tup (pa_cons pe_str pa_nil)) (pa_cons pe_int pa_nil))))))))))))
      (pss_one (ps_ret (pe_ifExp (pt_cmpR op_lt (pv 2) pe_int (nomark _)) (pe_call G_pick (hr.mono (by decide)) (by rfl) T.m_pick T.F_pick.kp T.b_pick .nil pass0 (pa_cons (pv 0) (pa_cons (pv 5) pa_nil))) (pe_call G_pick (hr.mono (by decide)) (by rfl) T.m_pick T.F_pick.kp T.b_pick .nil pass0 (pa_cons (pv 0) (pa_cons (pv 6) pa_nil)))))))))), ?_⟩
  refine ⟨_, rfl, b, _, rfl, g0, by decide, by decide, fun fo H1 fo0 fo1 g1 => ?_⟩
  refine ⟨fun σ H2 => H2 = H1 ∧ σ = [some (.ref b), some (.int (n : Int)), some (.int fo), none, none, none, none], ?_, ?_⟩
  · refine ⟨_, rfl, _, _, rfl, rfl, _, rfl, ?_⟩
    refine ite2 (fun c1 => ?_) (fun c1 => ?_)
    · refine ⟨_, rfl, _, _, rfl, rfl, _, rfl, ?_⟩
      refine ite2 (fun c2 => ?_) (fun c2 => ?_)
      · have n0 : (0 : Int) < (n : Int) := of_decide_eq_true c2
        obtain ⟨m, rfl⟩ : ∃ m, n = m + 1 := ⟨n - 1, by omega⟩
        refine ⟨_, rfl, b, _, rfl, ⟨fun _ _ _ e => e, g1.box⟩, by decide, by decide, fun k H2 k0 k1 g2 => ⟨k, rfl, by omega, by omega, fun D hD => ?_⟩⟩
        have g12 := g1.trans g2
        refine lc_range (lo := 0) (n := k.toNat) (fun i H' => Gr b H H' ∧ D ≠ b ∧ ∃ (xs : List V) (ds : List PyData), H' D = some (.lst xs) ∧ DaAll (fun a => H a = none ∧ a ≠ D) H' xs ds ∧ xs.length = i ∧ (∀ d ∈ ds, GoodD (m + 1) d)) ⟨g12.new hD _, g12.ne_new hD, [], [], upd_same, .nil, rfl, fun _ h => nomatch h⟩ ?_ ?_
        · rintro i H' hi ⟨g5, nDb, xs, ds, hD', hda, hlen, hgood⟩
          refine ⟨rfl, ?_⟩
          have e := hR m rfl
          subst e
          refine ⟨_, rfl, _, rfl, _, _, rfl, rfl, b, by show [V.ref b, V.int (((m + 1 : Nat) : Int) - 1)] = _; rw [show (((m + 1 : Nat) : Int) - 1) = (m : Int) by omega], ⟨fun _ _ _ e => e, g5.box⟩, fun v d H6 g6 hv gd => ?_⟩
          have hD6 := g6.keep D _ nDb hD'
          refine ⟨xs, hD6, small1000 (by omega), (g5.trans g6).mut (g12.free hD) nDb _, nDb, xs ++ [v], ds ++ [d], upd_same, ?_, by rw [List.length_append, hlen]; rfl, fun y hy => ?_⟩
          · refine DaAll.snoc (DaAll.mono (fun a h => h) (fun a o h e => ?_) ds xs hda) (Da.mono (fun a h => ⟨g5.free h, fun z => by rw [z, hD'] at h; cases h⟩) (fun a o h e => ?_) d v hv)
            · rw [upd_ne h.2]
              exact g6.keep a o (g0.ne_new h.1) e
            · rw [upd_ne (fun z => by rw [z, hD'] at h; cases h)]
              exact e
          · rcases List.mem_append.mp hy with hy | hy
            · exact hgood y hy
            · rw [List.mem_singleton.mp hy]
              exact gd
        · rintro H' ⟨g5, nDb, xs, ds, hD', hda, hlen, hgood⟩
          refine ⟨_, rfl, _, _, rfl, rfl, _, rfl, ?_⟩
          have gl := good_list (by rw [← hda.size, hlen]; omega) hgood
          have hda' : DaAll (fun a => H a = none) H' xs ds := DaAll.mono (fun a h => h.1) (fun a o _ e => e) ds xs hda
          refine ite2 (fun c3 => ?_) (fun c3 => ?_)
          · exact ⟨_, rfl, q _ _ H' g5 (.lst (g12.free hD) hD' hda') gl.1⟩
          · refine ⟨_, rfl, D, xs, rfl, .inl ⟨SqL.of hD', fun p hp => ?_⟩⟩
            exact q _ _ _ (g5.new hp _) (.tup (g5.free hp) upd_same (DaAll.mono (fun a h => h) (fun a o h e => by rw [upd_ne (ne_of_none e hp)]; exact e) ds xs hda')) gl.2
      · exact ⟨rfl, rfl⟩
    · exact ⟨rfl, rfl⟩
  · rintro σ H2 ⟨rfl, rfl⟩
    refine ⟨by show 15 ≤ sizeLine; decide, fun wa hwa => ?_⟩
    have g3 := g1.new hwa (.lst (ANYW.map V.str))
    have aw : At b _ wa (.lst (ANYW.map V.str)) := .mk_new g1 hwa _
    refine ⟨_, _, rfl, rfl, _, _, rfl, rfl, ⟨by decide, by decide, by decide⟩, by show 1 ≤ sizeLine; decide, fun l1 hl1 => ?_⟩
    have g4 := g3.new hl1 (.lst [.str "a"])
    refine ⟨by show 1 ≤ sizeLine; decide, fun l2 hl2 => ?_⟩
    have g5 := g4.new hl2 (.tup [.str "a"])
    refine ⟨by show 10 ≤ sizeLine; decide, fun pl hpl => ?_⟩
    have g6 := g5.new hpl (.lst [.non, .bl true, .bl false, .int 0, .int 1, .int (0 - 1), .int (10 ^ 20), .ref l1, .ref l2, .int 7])
    have ap : At b _ pl (.lst [.non, .bl true, .bl false, .int 0, .int 1, .int (0 - 1), .int (10 ^ 20), .ref l1, .ref l2, .int 7]) := .mk_new g5 hpl _
    have aw6 := ((aw.new (u := .lst [.str "a"]) hl1).new (u := .tup [.str "a"]) hl2).new (u := .lst [.non, .bl true, .bl false, .int 0, .int 1, .int (0 - 1), .int (10 ^ 20), .ref l1, .ref l2, .int 7]) hpl
    refine ⟨_, rfl, _, _, rfl, rfl, _, rfl, ?_⟩
    have gs : ∀ y : Str, okS y = true → GoodD (n + 1) (.str y) := fun y h => GoodD.str h
    have ga : ∀ d ∈ [PyData.str "a"], GoodD n d := fun d hd => by
      rw [List.mem_singleton.mp hd]
      exact GoodD.str (by decide +kernel)
    refine ite2 (fun c3 => ?_) (fun c3 => ?_)
    · refine ⟨_, rfl, _, rfl, b, wa, _, rfl, ⟨fun _ _ _ e => e, g6.box⟩, aw6, by simp [ANYW], by decide, fun x H7 hx g7 => ?_⟩
      obtain ⟨y, hy, rfl⟩ := List.mem_map.mp hx
      exact q _ (.str y) H7 (g6.trans g7) (.str y) (gs y (List.all_eq_true.mp ANYW_ok y hy))
    · refine ⟨_, rfl, _, rfl, b, pl, _, rfl, ⟨fun _ _ _ e => e, g6.box⟩, ap, by simp, by show 10 ≤ 1000; decide, fun x H7 hx g7 => ?_⟩
      have l1a : H7 l1 = some (.lst [.str "a"]) := g7.keep l1 _ (g3.ne_new hl1) (by rw [upd_ne (fun z => by rw [← z, upd_ne (fun z2 => by rw [← z2, upd_same] at hl2; cases hl2), upd_same] at hpl; cases hpl), upd_ne (fun z2 => by rw [← z2, upd_same] at hl2; cases hl2), upd_same])
      have l2a : H7 l2 = some (.tup [.str "a"]) := g7.keep l2 _ (g4.ne_new hl2) (by rw [upd_ne (fun z => by rw [← z, upd_same] at hpl; cases hpl), upd_same])
      have f1 : H l1 = none := g3.free hl1
      have f2 : H l2 = none := g4.free hl2
      have gi : ∀ i : Int, GoodD (n + 1) (.int i) := fun i => ⟨rfl, by simp [PyData.depth], fun _ e => (by cases e), rfl⟩
      have gb : ∀ i : Bool, GoodD (n + 1) (.bool i) := fun i => ⟨rfl, by simp [PyData.depth], fun _ e => (by cases e), rfl⟩
      simp only [List.mem_cons, List.not_mem_nil, or_false] at hx
      rcases hx with rfl | rfl | rfl | rfl | rfl | rfl | rfl | rfl | rfl | rfl
      · exact q _ .none H7 (g6.trans g7) .non ⟨rfl, by simp [PyData.depth], fun _ e => (by cases e), rfl⟩
      · exact q _ _ H7 (g6.trans g7) (.bl _) (gb _)
      · exact q _ _ H7 (g6.trans g7) (.bl _) (gb _)
      · exact q _ _ H7 (g6.trans g7) (.int _) (gi _)
      · exact q _ _ H7 (g6.trans g7) (.int _) (gi _)
      · exact q _ _ H7 (g6.trans g7) (.int _) (gi _)
      · exact q _ _ H7 (g6.trans g7) (.int _) (gi _)
      · exact q _ _ H7 (g6.trans g7) (.lst f1 l1a (.cons (.str _) .nil)) (good_list (by decide) ga).1
      · exact q _ _ H7 (g6.trans g7) (.tup f2 l2a (.cons (.str _) .nil)) (good_list (by decide) ga).2
      · exact q _ _ H7 (g6.trans g7) (.int _) (gi _)
theorem ok_any (T : TxAny w K mg) : ∀ n : Nat, FnOk P w K mg base CX0 (n + 3) T.f_any T.d_any P_any (spAny n)
  | 0 => any_step T 0 (spR := fun _ _ _ _ => False) (fun m e => by omega) ⟨fun _ _ _ _ h => h.elim, fun _ _ _ _ _ _ _ _ _ _ _ _ _ h => h.elim⟩ (Nat.le_refl 2)
  | n + 1 => any_step T (n + 1) (spR := spAny n) (fun m e => by have e' : n = m := by omega
                                                                rw [e']) (ok_any T n) (by omega)
end
end My

/-! ## The law's rows: the words that may stand, rows drawn -/
namespace My
open PySem L2
def ws_begin : List (Str × List Str) := [("mark", ["none", "any"]), ("kind", ["any"]), ("mood", [])]
def ws_send : List (Str × List Str) := [("mood", ["any"]), ("service", ["any"]), ("mark", ["none", "same"])]
def ws_back : List (Str × List Str) := [("mood", ["any"]), ("service", ["any"]), ("sign", ["none", "any"]), ("then", ["same"])]
def ws_end : List (Str × List Str) := [("mood", ["any"]), ("outcome", ["good", "bad", "any"]), ("sign", ["none"]), ("part", ["keep", "drop"])]
/-- the words of a sort -/
def wsOf (s : Str) : List (Str × List Str) := if s = "begin" then ws_begin else if s = "send" then ws_send else if s = "back" then ws_back else ws_end
/-- the list of pairs stands at p, made of objects of a kind -/
def WordsAt (ok : Addr → Prop) (H : Hp) (p : Addr) (ws : List (Str × List Str)) : Prop :=
  ∃ vs : List V, H p = some (.lst vs) ∧ Paired (fun v w => ∃ (a l : Addr), v = V.ref a ∧ H a = some (.tup [.str w.1, .ref l]) ∧ H l = some (.lst (w.2.map V.str)) ∧ ok a ∧ ok l) vs ws
abbrev s_words : Stmt := top 23
abbrev N_words : List Str := ["_law_row_here"]
abbrev P_words : List Str := ["_law_row_here"]
theorem sc_words : FnScope N_words P_words (defScope s_words) := ⟨rfl, rfl, rfl, by decide +kernel, rfl, by decide +kernel, by decide +kernel⟩
structure TxWords (w : World) (K : PySem.W.Frag) (mg : Str → Option Value) extends TxNames w K mg where
  f_words : Addr
  d_words : FuncData
  F_words : Fun K "_law_words" "_law_words" s_words f_words d_words
  m_words : mg "_law_words" = some (.ref f_words)
  b_words : Binds K d_words P_words []
def spWords (K : PySem.W.Frag) : Sp := fun vs H Q _ => ∃ (a : Addr) (s : Str) (r : List V), vs = [.ref a] ∧ (SqL K H a (.str s :: r) ∨ SqT K H a (.str s :: r)) ∧
  ∀ (p : Addr) (H' : Hp), Same H H' → H p = none → WordsAt (fun a => H a = none) H' p (wsOf s) → Q (.ref p) H'
section
variable {P : Program} {w : World} {K : PySem.W.Frag} {mg : Str → Option Value} {base : Heap}
theorem rIx_first {K : PySem.W.Frag} {H : Hp} {a : Addr} {s : Str} {r : List V} {Q : VK} (h : SqL K H a (.str s :: r) ∨ SqT K H a (.str s :: r)) (q : Q (.str s) H) : rIx K (.ref a) (.int 0) H Q := by
  rcases h with h | h
  · exact .inl ⟨a, _, 0, _, rfl, rfl, h, atI_nat (j := 0) rfl, q⟩
  · exact .inr (.inl ⟨a, _, 0, _, rfl, rfl, h, atI_nat (j := 0) rfl, q⟩)
theorem str_eq_of {a b : Str} (h : decide (V.str a = V.str b) = true) : a = b := by
  have e := of_decide_eq_true h
  cases e
  rfl
theorem str_ne_of {a b : Str} (h : ¬ decide (V.str a = V.str b) = true) : a ≠ b := fun e => h (by rw [e]; exact decide_eq_true rfl)
theorem ok_words (T : TxWords w K mg) : FnOk P w K mg base CX0 1 T.f_words T.d_words P_words (spWords K) := by
  refine T.F_words.ok sc_words (fun vs H Q E h => ?_) (fun cdv A outer s H vs Q E hr h => ?_)
  · obtain ⟨a, s, r, rfl, _⟩ := h
    rfl
  obtain ⟨a, so, r, rfl, hS, q⟩ := h
  refine ⟨_, (pss_cons (ps_if (pt_cmpR op_eq (pe_ix ix_seq (pv 0) pe_int (fun _ _ => rfl)) pe_str (nomark _)) (pss_one (ps_ret (pe_lst (pa_cons (pe_tup (pa_cons pe_str (pa_cons (pe_lst (pa_cons pe_str (pa_cons pe_str pa_nil))) pa_nil))) (pa_cons (pe_tup (pa_cons pe_str (pa_cons (pe_lst (pa_cons pe_str pa_nil)) pa_nil))) (pa_cons (pe_tup (pa_cons pe_str (pa_cons (pe_lst pa_nil) pa_nil))) pa_nil)))))) pss_nil)
      (pss_cons (ps_if (pt_cmpR op_eq (pe_ix ix_seq (pv 0) pe_int (fun _ _ => rfl)) pe_str (nomark _)) (pss_one (ps_ret (pe_lst (pa_cons (pe_tup (pa_cons pe_str (pa_cons (pe_lst (pa_cons pe_str pa_nil)) pa_nil))) (pa_cons (pe_tup (pa_cons pe_str (pa_cons (pe_lst (pa_cons pe_str pa_nil)) pa_nil))) (pa_cons (pe_tup (pa_cons pe_str (pa_cons (pe_lst (pa_cons pe_str (pa_cons pe_str pa_nil))) pa_nil))) pa_nil)))))) pss_nil)
      (pss_cons (ps_if (pt_cmpR op_eq (pe_ix ix_seq (pv 0) pe_int (fun _ _ => rfl)) pe_str (nomark _)) (pss_one (ps_ret (pe_lst (pa_cons (pe_tup (pa_cons pe_str (pa_cons (pe_lst (pa_cons pe_str pa_nil)) pa_nil))) (pa_cons (pe_tup (pa_cons pe_str (pa_cons (pe_lst (pa_cons pe_str pa_nil)) pa_nil))) (pa_cons (pe_tup (pa_cons pe_str (pa_cons (pe_lst (pa_cons pe_str (pa_cons pe_str pa_nil))) pa_nil))) (pa_cons (pe_tup (pa_cons pe_str (pa_cons (pe_lst (pa_cons pe_str pa_nil)) pa_nil))) pa_nil))))))) pss_nil)
      (pss_one (ps_ret (pe_lst (pa_cons (pe_tup (pa_cons pe_str (pa_cons (pe_lst (pa_cons pe_str pa_nil)) pa_nil))) (pa_cons (pe_tup (pa_cons pe_str (pa_cons (pe_lst (pa_cons pe_str (pa_cons pe_str (pa_cons pe_str pa_nil)))) pa_nil))) (pa_cons (pe_tup (pa_cons pe_str (pa_cons (pe_lst (pa_cons pe_str pa_nil)) pa_nil))) (pa_cons (pe_tup (pa_cons pe_str (pa_cons (pe_lst (pa_cons pe_str (pa_cons pe_str pa_nil))) pa_nil))) pa_nil)))))))))), ?_⟩
  refine ⟨_, rfl, rIx_first hS ⟨rfl, _, rfl, ?_⟩⟩
  refine ite2 (fun c => ?_) (fun c => ?_)
  · have e := str_eq_of c
    subst e
    have z0 : Same H H := Same.refl H
    refine ⟨by show 2 ≤ sizeLine; decide, fun l0 hl0 => ⟨by show 2 ≤ sizeLine; decide, fun t0 ht0 => ?_⟩⟩
    have y0 := (same_upd hl0 (.lst ((["none", "any"] : List Str).map V.str))).trans (same_upd ht0 (.tup [.str "mark", .ref l0]))
    have z1 := z0.trans y0
    have fl0 : H l0 = none := z0.free hl0
    have ft0 : H t0 = none := (z0.trans (same_upd hl0 (.lst ((["none", "any"] : List Str).map V.str)))).free ht0
    have al0 := (same_upd ht0 (.tup [.str "mark", .ref l0])) _ _ (upd_same (a := l0) (o := .lst ((["none", "any"] : List Str).map V.str)))
    refine ⟨by show 1 ≤ sizeLine; decide, fun l1 hl1 => ⟨by show 2 ≤ sizeLine; decide, fun t1 ht1 => ?_⟩⟩
    have y1 := (same_upd hl1 (.lst ((["any"] : List Str).map V.str))).trans (same_upd ht1 (.tup [.str "kind", .ref l1]))
    have z2 := z1.trans y1
    have fl1 : H l1 = none := z1.free hl1
    have ft1 : H t1 = none := (z1.trans (same_upd hl1 (.lst ((["any"] : List Str).map V.str)))).free ht1
    have al1 := (same_upd ht1 (.tup [.str "kind", .ref l1])) _ _ (upd_same (a := l1) (o := .lst ((["any"] : List Str).map V.str)))
    refine ⟨by show 0 ≤ sizeLine; decide, fun l2 hl2 => ⟨by show 2 ≤ sizeLine; decide, fun t2 ht2 => ?_⟩⟩
    have y2 := (same_upd hl2 (.lst (([] : List Str).map V.str))).trans (same_upd ht2 (.tup [.str "mood", .ref l2]))
    have z3 := z2.trans y2
    have fl2 : H l2 = none := z2.free hl2
    have ft2 : H t2 = none := (z2.trans (same_upd hl2 (.lst (([] : List Str).map V.str)))).free ht2
    have al2 := (same_upd ht2 (.tup [.str "mood", .ref l2])) _ _ (upd_same (a := l2) (o := .lst (([] : List Str).map V.str)))
    refine ⟨by show 3 ≤ sizeLine; decide, fun p hp => ?_⟩
    have yp := same_upd hp (.lst [.ref t0, .ref t1, .ref t2])
    exact q p _ (z3.trans yp) (z3.free hp) ⟨_, upd_same, .cons ⟨t0, l0, rfl, ((y1.trans y2).trans yp) _ _ upd_same, ((y1.trans y2).trans yp) _ _ al0, ft0, fl0⟩ (.cons ⟨t1, l1, rfl, (y2.trans yp) _ _ upd_same, (y2.trans yp) _ _ al1, ft1, fl1⟩ (.cons ⟨t2, l2, rfl, yp _ _ upd_same, yp _ _ al2, ft2, fl2⟩ (.nil)))⟩
  refine ⟨_, rfl, rIx_first hS ⟨rfl, _, rfl, ?_⟩⟩
  refine ite2 (fun c2 => ?_) (fun c2 => ?_)
  · have e := str_eq_of c2
    subst e
    have z0 : Same H H := Same.refl H
    refine ⟨by show 1 ≤ sizeLine; decide, fun l0 hl0 => ⟨by show 2 ≤ sizeLine; decide, fun t0 ht0 => ?_⟩⟩
    have y0 := (same_upd hl0 (.lst ((["any"] : List Str).map V.str))).trans (same_upd ht0 (.tup [.str "mood", .ref l0]))
    have z1 := z0.trans y0
    have fl0 : H l0 = none := z0.free hl0
    have ft0 : H t0 = none := (z0.trans (same_upd hl0 (.lst ((["any"] : List Str).map V.str)))).free ht0
    have al0 := (same_upd ht0 (.tup [.str "mood", .ref l0])) _ _ (upd_same (a := l0) (o := .lst ((["any"] : List Str).map V.str)))
    refine ⟨by show 1 ≤ sizeLine; decide, fun l1 hl1 => ⟨by show 2 ≤ sizeLine; decide, fun t1 ht1 => ?_⟩⟩
    have y1 := (same_upd hl1 (.lst ((["any"] : List Str).map V.str))).trans (same_upd ht1 (.tup [.str "service", .ref l1]))
    have z2 := z1.trans y1
    have fl1 : H l1 = none := z1.free hl1
    have ft1 : H t1 = none := (z1.trans (same_upd hl1 (.lst ((["any"] : List Str).map V.str)))).free ht1
    have al1 := (same_upd ht1 (.tup [.str "service", .ref l1])) _ _ (upd_same (a := l1) (o := .lst ((["any"] : List Str).map V.str)))
    refine ⟨by show 2 ≤ sizeLine; decide, fun l2 hl2 => ⟨by show 2 ≤ sizeLine; decide, fun t2 ht2 => ?_⟩⟩
    have y2 := (same_upd hl2 (.lst ((["none", "same"] : List Str).map V.str))).trans (same_upd ht2 (.tup [.str "mark", .ref l2]))
    have z3 := z2.trans y2
    have fl2 : H l2 = none := z2.free hl2
    have ft2 : H t2 = none := (z2.trans (same_upd hl2 (.lst ((["none", "same"] : List Str).map V.str)))).free ht2
    have al2 := (same_upd ht2 (.tup [.str "mark", .ref l2])) _ _ (upd_same (a := l2) (o := .lst ((["none", "same"] : List Str).map V.str)))
    refine ⟨by show 3 ≤ sizeLine; decide, fun p hp => ?_⟩
    have yp := same_upd hp (.lst [.ref t0, .ref t1, .ref t2])
    exact q p _ (z3.trans yp) (z3.free hp) ⟨_, upd_same, .cons ⟨t0, l0, rfl, ((y1.trans y2).trans yp) _ _ upd_same, ((y1.trans y2).trans yp) _ _ al0, ft0, fl0⟩ (.cons ⟨t1, l1, rfl, (y2.trans yp) _ _ upd_same, (y2.trans yp) _ _ al1, ft1, fl1⟩ (.cons ⟨t2, l2, rfl, yp _ _ upd_same, yp _ _ al2, ft2, fl2⟩ (.nil)))⟩
  refine ⟨_, rfl, rIx_first hS ⟨rfl, _, rfl, ?_⟩⟩
  refine ite2 (fun c3 => ?_) (fun c3 => ?_)
  · have e := str_eq_of c3
    subst e
    have z0 : Same H H := Same.refl H
    refine ⟨by show 1 ≤ sizeLine; decide, fun l0 hl0 => ⟨by show 2 ≤ sizeLine; decide, fun t0 ht0 => ?_⟩⟩
    have y0 := (same_upd hl0 (.lst ((["any"] : List Str).map V.str))).trans (same_upd ht0 (.tup [.str "mood", .ref l0]))
    have z1 := z0.trans y0
    have fl0 : H l0 = none := z0.free hl0
    have ft0 : H t0 = none := (z0.trans (same_upd hl0 (.lst ((["any"] : List Str).map V.str)))).free ht0
    have al0 := (same_upd ht0 (.tup [.str "mood", .ref l0])) _ _ (upd_same (a := l0) (o := .lst ((["any"] : List Str).map V.str)))
    refine ⟨by show 1 ≤ sizeLine; decide, fun l1 hl1 => ⟨by show 2 ≤ sizeLine; decide, fun t1 ht1 => ?_⟩⟩
    have y1 := (same_upd hl1 (.lst ((["any"] : List Str).map V.str))).trans (same_upd ht1 (.tup [.str "service", .ref l1]))
    have z2 := z1.trans y1
    have fl1 : H l1 = none := z1.free hl1
    have ft1 : H t1 = none := (z1.trans (same_upd hl1 (.lst ((["any"] : List Str).map V.str)))).free ht1
    have al1 := (same_upd ht1 (.tup [.str "service", .ref l1])) _ _ (upd_same (a := l1) (o := .lst ((["any"] : List Str).map V.str)))
    refine ⟨by show 2 ≤ sizeLine; decide, fun l2 hl2 => ⟨by show 2 ≤ sizeLine; decide, fun t2 ht2 => ?_⟩⟩
    have y2 := (same_upd hl2 (.lst ((["none", "any"] : List Str).map V.str))).trans (same_upd ht2 (.tup [.str "sign", .ref l2]))
    have z3 := z2.trans y2
    have fl2 : H l2 = none := z2.free hl2
    have ft2 : H t2 = none := (z2.trans (same_upd hl2 (.lst ((["none", "any"] : List Str).map V.str)))).free ht2
    have al2 := (same_upd ht2 (.tup [.str "sign", .ref l2])) _ _ (upd_same (a := l2) (o := .lst ((["none", "any"] : List Str).map V.str)))
    refine ⟨by show 1 ≤ sizeLine; decide, fun l3 hl3 => ⟨by show 2 ≤ sizeLine; decide, fun t3 ht3 => ?_⟩⟩
    have y3 := (same_upd hl3 (.lst ((["same"] : List Str).map V.str))).trans (same_upd ht3 (.tup [.str "then", .ref l3]))
    have z4 := z3.trans y3
    have fl3 : H l3 = none := z3.free hl3
    have ft3 : H t3 = none := (z3.trans (same_upd hl3 (.lst ((["same"] : List Str).map V.str)))).free ht3
    have al3 := (same_upd ht3 (.tup [.str "then", .ref l3])) _ _ (upd_same (a := l3) (o := .lst ((["same"] : List Str).map V.str)))
    refine ⟨by show 4 ≤ sizeLine; decide, fun p hp => ?_⟩
    have yp := same_upd hp (.lst [.ref t0, .ref t1, .ref t2, .ref t3])
    exact q p _ (z4.trans yp) (z4.free hp) ⟨_, upd_same, .cons ⟨t0, l0, rfl, (((y1.trans y2).trans y3).trans yp) _ _ upd_same, (((y1.trans y2).trans y3).trans yp) _ _ al0, ft0, fl0⟩ (.cons ⟨t1, l1, rfl, ((y2.trans y3).trans yp) _ _ upd_same, ((y2.trans y3).trans yp) _ _ al1, ft1, fl1⟩ (.cons ⟨t2, l2, rfl, (y3.trans yp) _ _ upd_same, (y3.trans yp) _ _ al2, ft2, fl2⟩ (.cons ⟨t3, l3, rfl, yp _ _ upd_same, yp _ _ al3, ft3, fl3⟩ (.nil))))⟩
  have e : wsOf so = ws_end := by
    unfold wsOf
    rw [if_neg (str_ne_of c), if_neg (str_ne_of c2), if_neg (str_ne_of c3)]
  rw [e] at q
  have z0 : Same H H := Same.refl H
  refine ⟨by show 1 ≤ sizeLine; decide, fun l0 hl0 => ⟨by show 2 ≤ sizeLine; decide, fun t0 ht0 => ?_⟩⟩
  have y0 := (same_upd hl0 (.lst ((["any"] : List Str).map V.str))).trans (same_upd ht0 (.tup [.str "mood", .ref l0]))
  have z1 := z0.trans y0
  have fl0 : H l0 = none := z0.free hl0
  have ft0 : H t0 = none := (z0.trans (same_upd hl0 (.lst ((["any"] : List Str).map V.str)))).free ht0
  have al0 := (same_upd ht0 (.tup [.str "mood", .ref l0])) _ _ (upd_same (a := l0) (o := .lst ((["any"] : List Str).map V.str)))
  refine ⟨by show 3 ≤ sizeLine; decide, fun l1 hl1 => ⟨by show 2 ≤ sizeLine; decide, fun t1 ht1 => ?_⟩⟩
  have y1 := (same_upd hl1 (.lst ((["good", "bad", "any"] : List Str).map V.str))).trans (same_upd ht1 (.tup [.str "outcome", .ref l1]))
  have z2 := z1.trans y1
  have fl1 : H l1 = none := z1.free hl1
  have ft1 : H t1 = none := (z1.trans (same_upd hl1 (.lst ((["good", "bad", "any"] : List Str).map V.str)))).free ht1
  have al1 := (same_upd ht1 (.tup [.str "outcome", .ref l1])) _ _ (upd_same (a := l1) (o := .lst ((["good", "bad", "any"] : List Str).map V.str)))
  refine ⟨by show 1 ≤ sizeLine; decide, fun l2 hl2 => ⟨by show 2 ≤ sizeLine; decide, fun t2 ht2 => ?_⟩⟩
  have y2 := (same_upd hl2 (.lst ((["none"] : List Str).map V.str))).trans (same_upd ht2 (.tup [.str "sign", .ref l2]))
  have z3 := z2.trans y2
  have fl2 : H l2 = none := z2.free hl2
  have ft2 : H t2 = none := (z2.trans (same_upd hl2 (.lst ((["none"] : List Str).map V.str)))).free ht2
  have al2 := (same_upd ht2 (.tup [.str "sign", .ref l2])) _ _ (upd_same (a := l2) (o := .lst ((["none"] : List Str).map V.str)))
  refine ⟨by show 2 ≤ sizeLine; decide, fun l3 hl3 => ⟨by show 2 ≤ sizeLine; decide, fun t3 ht3 => ?_⟩⟩
  have y3 := (same_upd hl3 (.lst ((["keep", "drop"] : List Str).map V.str))).trans (same_upd ht3 (.tup [.str "part", .ref l3]))
  have z4 := z3.trans y3
  have fl3 : H l3 = none := z3.free hl3
  have ft3 : H t3 = none := (z3.trans (same_upd hl3 (.lst ((["keep", "drop"] : List Str).map V.str)))).free ht3
  have al3 := (same_upd ht3 (.tup [.str "part", .ref l3])) _ _ (upd_same (a := l3) (o := .lst ((["keep", "drop"] : List Str).map V.str)))
  refine ⟨by show 4 ≤ sizeLine; decide, fun p hp => ?_⟩
  have yp := same_upd hp (.lst [.ref t0, .ref t1, .ref t2, .ref t3])
  exact q p _ (z4.trans yp) (z4.free hp) ⟨_, upd_same, .cons ⟨t0, l0, rfl, (((y1.trans y2).trans y3).trans yp) _ _ upd_same, (((y1.trans y2).trans y3).trans yp) _ _ al0, ft0, fl0⟩ (.cons ⟨t1, l1, rfl, ((y2.trans y3).trans yp) _ _ upd_same, ((y2.trans y3).trans yp) _ _ al1, ft1, fl1⟩ (.cons ⟨t2, l2, rfl, (y3.trans yp) _ _ upd_same, (y3.trans yp) _ _ al2, ft2, fl2⟩ (.cons ⟨t3, l3, rfl, yp _ _ upd_same, yp _ _ al3, ft3, fl3⟩ (.nil))))⟩
end
end My

/-! ## A row drawn -/
namespace My
open PySem L2
def POOLW : List Str := ["mark", "kind", "mood", "service", "sign"]
/-- the lists of names that a row's words are drawn from, by their words -/
structure Pools (b : Addr) (H : Hp) (pd : Addr) (pf : Str → List Str) : Prop where
  at_ : ∃ kvs : List (Key × V), At b H pd (.dK kvs) ∧ ∀ x ∈ POOLW, ∃ l, valV kvs (Sum.inr x) = some (.ref l) ∧ At b H l (.lst ((pf x).map V.str))
  ne : ∀ x ∈ POOLW, pf x ≠ [] ∧ (pf x).length ≤ 100 ∧ ∀ y ∈ pf x, isNm y = true
theorem Pools.gr {b : Addr} {H H' : Hp} {pd : Addr} {pf : Str → List Str} (h : Pools b H pd pf) (g : Gr b H H') : Pools b H' pd pf := by
  obtain ⟨kvs, h1, h2⟩ := h.at_
  refine ⟨⟨kvs, h1.gr g, fun x hx => ?_⟩, h.ne⟩
  obtain ⟨l, e, a⟩ := h2 x hx
  exact ⟨l, e, a.gr g⟩
/-- a word that may stand: one of the others, or a name where the word is none of those two -/
def fitW (y : Str) (w : Str × List Str) : Prop := y ∈ w.2 ∨ (w.1 ≠ "outcome" ∧ w.1 ≠ "part" ∧ isNm y = true)
def SORTS : List Str := ["begin", "send", "back", "end"]
/-- the words of each sort: where nothing else may stand a name is asked for; each but those two has its pool -/
def wsGood (ws : List (Str × List Str)) : Bool := ws.all fun w => decide (w.2.length ≤ 3) && (if w.1 = "outcome" ∨ w.1 = "part" then decide (w.2 ≠ []) else decide ((if w.1 = ("then" : Str) then ("mood" : Str) else w.1) ∈ POOLW))
theorem wsOf_good : ∀ s ∈ SORTS, wsGood (wsOf s) = true ∧ (wsOf s).length ≤ 4 := by decide +kernel
abbrev s_drawn_row : Stmt := top 24
abbrev N_drawn_row : List Str := ["_law_box_here", "_law_sort", "_law_pools", "_law_found", "_law_word", "_law_others", "_law_names_here", "_law_near"]
abbrev P_drawn_row : List Str := ["_law_box_here", "_law_sort", "_law_pools"]
theorem sc_drawn_row : FnScope N_drawn_row P_drawn_row (defScope s_drawn_row) := ⟨rfl, rfl, rfl, by decide +kernel, rfl, by decide +kernel, by decide +kernel⟩
structure TxDrawn (w : World) (K : PySem.W.Frag) (mg : Str → Option Value) extends TxWords w K mg where
  z_tuple : mg "tuple" = none
  f_drawn_row : Addr
  d_drawn_row : FuncData
  F_drawn_row : Fun K "_law_drawn_row" "_law_drawn_row" s_drawn_row f_drawn_row d_drawn_row
  m_drawn_row : mg "_law_drawn_row" = some (.ref f_drawn_row)
  b_drawn_row : Binds K d_drawn_row P_drawn_row []
def spDrawn : Sp := fun vs H Q _ => ∃ (b pd : Addr) (s : Str) (pf : Str → List Str), vs = [.ref b, .str s, .ref pd] ∧ Gr b H H ∧ s ∈ SORTS ∧ Pools b H pd pf ∧
  ∀ (p : Addr) (ys : List Str) (H' : Hp), Gr b H H' → H p = none → At b H' p (.tup (.str s :: ys.map V.str)) → Paired fitW ys (wsOf s) → Q (.ref p) H'
theorem paired_get {α β : Type} {R : α → β → Prop} : ∀ {xs : List α} {ys : List β} {i : Nat} {x : α}, Paired R xs ys → xs[i]? = some x → ∃ y, ys[i]? = some y ∧ R x y
  | _, _, _, _, .nil, e => by simp at e
  | _, _, 0, _, .cons r _, e => by simp at e; subst e; exact ⟨_, rfl, r⟩
  | _, _, i + 1, x, .cons _ t, e => by
    obtain ⟨y, h1, h2⟩ := paired_get (i := i) (x := x) t (by simpa using e)
    exact ⟨y, by simpa using h1, h2⟩
theorem paired_snoc {α β : Type} {R : α → β → Prop} {x : α} {y : β} : ∀ {xs : List α} {ys : List β}, Paired R xs ys → R x y → Paired R (xs ++ [x]) (ys ++ [y])
  | _, _, .nil, h => .cons h .nil
  | _, _, .cons r t, h => .cons r (paired_snoc t h)
section
variable {P : Program} {w : World} {K : PySem.W.Frag} {mg : Str → Option Value} {base : Heap}
theorem ok_drawn (T : TxDrawn w K mg) : FnOk P w K mg base CX0 3 T.f_drawn_row T.d_drawn_row P_drawn_row spDrawn := by
  have G_take : FnOk P w K mg base CX0 1 T.f_take T.d_take P_take spTakeG := ok_takeG T.toTxDraw
  have G_pick : FnOk P w K mg base CX0 2 T.f_pick T.d_pick P_pick (spPickG) := ok_pickG T.toTxDraw
  have G_words : FnOk P w K mg base CX0 1 T.f_words T.d_words P_words (spWords K) := ok_words T.toTxWords
  refine T.F_drawn_row.ok sc_drawn_row (fun vs H Q E h => ?_) (fun cdv A outer s H vs Q E hr h => ?_)
  · obtain ⟨b, pd, so, pf, rfl, _⟩ := h
    rfl
  obtain ⟨b, pd, so, pf, rfl, g0, hso, hP, q⟩ := h
  refine ⟨_, (pss_cons (ps_set (i := 3) sc_drawn_row.nd rfl (Or.inl rfl) (pe_lst (pa_cons (pv 1) pa_nil)))
      (pss_cons (ps_for PassesOwn.never rfl (pi_listK K (pe_call G_words (hr.mono (by decide)) (by rfl) T.m_words T.F_words.kp T.b_words .nil pass0 (pa_cons (pe_tup (pa_cons (pv 1) pa_nil)) pa_nil))) (pg_tup rfl (pgs_cons (pg_name (i := 4) sc_drawn_row.nd rfl (Or.inl rfl)) (pgs_cons (pg_name (i := 5) sc_drawn_row.nd rfl (Or.inl rfl)) pgs_nil))) (Evl.pss_cut (ps_set (i := 6) sc_drawn_row.nd rfl (Or.inl rfl) (pe_ifExp (pt_cmpR (op_notInK K) (pv 4) (pe_tup (pa_cons pe_str (pa_cons pe_str pa_nil))) (by rfl)) (pe_dget (hu_of hr) (pv 2) (pe_ifExp (pt_cmpR op_eq (pv 4) pe_str (nomark _)) pe_str (pv 4)) (fun _ _ => rfl)) (pe_lst pa_nil)))
      (Evl.pss_cut (ps_set (i := 7) sc_drawn_row.nd rfl (Or.inl rfl) (pe_ifExp (PW.pt (pw_or (pt_cmpR (op_eqEK K hr.units0) (pv 6) (pe_lst pa_nil) (nomark _)) (pw_or1 (PW.pt (pw_and (pt_cmpR (op_neEK K hr.units0) (pv 5) (pe_lst pa_nil) (nomark _)) (pw_and1 (pt_cmpR op_eq (pe_call G_take (hr.mono (by decide)) (by rfl) T.m_take T.F_take.kp T.b_take .nil pass0 (pa_cons (pv 0) (pa_cons pe_int pa_nil))) pe_int (nomark _)))))))) (pv 5) (pv 6)))
      (pss_one (ps_expr (pe_bm PySem.F.plainAttrs_list PySem.F.slot_list_append PySem.F.type_list_append mt_append (pv 3) (pa_cons (pe_call G_pick (hr.mono (by decide)) (by rfl) T.m_pick T.F_pick.kp T.b_pick .nil pass0 (pa_cons (pv 0) (pa_cons (pv 7) pa_nil))) pa_nil)))))))
      (pss_one (ps_ret (pe_callTy (call_tupleK K) (by rfl) T.z_tuple (by decide +kernel) (pa_cons (pv 3) pa_nil)))))), ?_⟩
  refine ⟨_, rfl, by show 1 ≤ sizeLine; decide, fun fo hfo => ?_⟩
  have g1 := g0.new hfo (.lst [.str so])
  have nfb := g0.ne_new hfo
  refine ⟨_, rfl, by show 1 ≤ sizeLine; decide, fun tu htu => ⟨tu, so, [], rfl, .inr (SqT.of upd_same), fun wl H2 s2 hwl hW => ?_⟩⟩
  have y1 := (same_upd htu (.tup [.str so])).trans s2
  obtain ⟨ws, hws, prs⟩ := hW
  have fo2 : H2 fo = some (.lst [.str so]) := y1 _ _ upd_same
  obtain ⟨bw, bs, bc, hb1⟩ := g1.box
  have g2 : Gr b H H2 := g1.trans (Same.gr y1 hb1)
  have good := wsOf_good so hso
  have ff : H fo = none := hfo
  have wfo : wl ≠ fo := fun z => by rw [z, upd_ne (fun z2 => by rw [← z2, upd_same] at htu; cases htu), upd_same] at hwl; cases hwl
  have wlb : wl ≠ b := fun z => by rw [z, upd_ne (fun z2 => by rw [← z2, hb1] at htu; cases htu), hb1] at hwl; cases hwl
  refine ⟨wl, rfl, ⟨_, SqL.of hws⟩, for_list (K := K) (a := wl) (xs := ws) (fun i σ H' => ∃ (ys : List Str) (v4 v5 v6 v7 : Option V), σ = [some (.ref b), some (.str so), some (.ref pd), some (.ref fo), v4, v5, v6, v7] ∧ Gr b H H' ∧
      (∀ a o, a ≠ b → a ≠ fo → H2 a = some o → H' a = some o) ∧ H' fo = some (.lst (.str so :: ys.map V.str)) ∧ Paired fitW ys ((wsOf so).take i) ∧ ys.length = i)
    ⟨[], none, none, none, none, rfl, g2, fun _ _ _ _ e => e, fo2, .nil, rfl⟩ (fun i σ H' _ ⟨_, _, _, _, _, _, _, k, _⟩ => SqL.of (k wl _ wlb wfo hws)) ?_ ?_⟩
  · rintro i x σ H3 hi ⟨ys, v4, v5, v6, v7, rfl, g3, k3, fo3, pr3, yl⟩
    obtain ⟨⟨wd, ls⟩, hw, a, l, rfl, ha, hl, oka, okl⟩ := paired_get prs hi
    have bo : upd (upd H fo (.lst [.str so])) tu (.tup [.str so]) b = some (bx bw bs bc) := by rw [upd_ne (fun z2 => by rw [← z2, hb1] at htu; cases htu)]; exact hb1
    have foo : upd (upd H fo (.lst [.str so])) tu (.tup [.str so]) fo = some (.lst [.str so]) := by rw [upd_ne (fun z2 => by rw [← z2, upd_same] at htu; cases htu)]; exact upd_same
    have nb : ∀ {c : Addr}, upd (upd H fo (.lst [.str so])) tu (.tup [.str so]) c = none → c ≠ b ∧ c ≠ fo := fun {c} e => ⟨(ne_of_none bo e).symm, (ne_of_none foo e).symm⟩
    have ha3 := k3 a _ (nb oka).1 (nb oka).2 ha
    have hl3 : At b H3 l (.lst (ls.map V.str)) := ⟨(nb okl).1, k3 l _ (nb okl).1 (nb okl).2 hl⟩
    have gw : decide (ls.length ≤ 3) = true ∧ (if wd = "outcome" ∨ wd = "part" then decide (ls ≠ []) else decide ((if wd = ("then" : Str) then ("mood" : Str) else wd) ∈ POOLW)) = true := by
      have h1 := List.all_eq_true.mp good.1 (wd, ls) (List.mem_of_getElem? hw)
      exact Bool.and_eq_true_iff.mp h1
    have ll : ls.length ≤ 3 := of_decide_eq_true gw.1
    have nla : l ≠ fo := (nb okl).2
    refine ⟨a, _, rfl, SqT.of ha3, rfl, _, _, rfl, _, _, rfl, rfl, ?_⟩
    refine ⟨fun σ H4 => ∃ (nl : Addr) (nms : List Str), σ = [some (.ref b), some (.str so), some (.ref pd), some (.ref fo), some (.str wd), some (.ref l), some (.ref nl), v7] ∧ Gr b H3 H4 ∧ At b H4 nl (.lst (nms.map V.str)) ∧ nl ≠ fo ∧
      nms.length ≤ 100 ∧ (nms = [] → ls ≠ []) ∧ (∀ y ∈ nms, fitW y (wd, ls)), ?_, ?_⟩
    · refine ⟨_, rfl, by show 2 ≤ sizeLine; decide, fun t4 ht4 => ⟨t4, _, rfl, .inr (SqT.of upd_same), rfl, by decide +kernel, _, rfl, ?_⟩⟩
      have r3 : Gr b H3 H3 := ⟨fun _ _ _ e => e, g3.box⟩
      have g4 := r3.new ht4 (.tup [.str "outcome", .str "part"])
      have t4o : t4 ≠ fo := fun z => by rw [z, fo3] at ht4; cases ht4
      have inw : inV (.str wd) [.str "outcome", .str "part"] = (["outcome", "part"] : List Str).contains wd := inV_strs wd ["outcome", "part"]
      refine ite2 (fun c => ?_) (fun c => ?_)
      · have nin : (["outcome", "part"] : List Str).contains wd = false := by
          have c' : (!inV (.str wd) [.str "outcome", .str "part"]) = true := c
          rw [inw] at c'
          simpa using c'
        have n1 : ¬ (wd = "outcome" ∨ wd = "part") := by
          intro z
          rcases z with z | z <;> subst z <;> revert nin <;> decide +kernel
        have gw2 : (if wd = ("then" : Str) then ("mood" : Str) else wd) ∈ POOLW := by
          have h := gw.2
          rw [if_neg n1] at h
          exact of_decide_eq_true h
        obtain ⟨kvs, hk0, hks⟩ := hP.at_
        have hk := (hk0.gr g3).gr g4
        have fin : ∀ x ∈ POOLW, ∃ l', DGet (upd H3 t4 (.tup [.str "outcome", .str "part"])) pd (kV (Sum.inr x)) (some (.ref l')) ∧
            ∃ (nl : Addr) (nms : List Str), (V.ref l') = .ref nl ∧ At b (upd H3 t4 (.tup [.str "outcome", .str "part"])) nl (.lst (nms.map V.str)) ∧ nl ≠ fo ∧ nms.length ≤ 100 ∧ (nms = [] → ls ≠ []) ∧ (∀ y ∈ nms, fitW y (wd, ls)) := by
          intro x hx
          obtain ⟨l', e, hl'⟩ := hks x hx
          obtain ⟨p1, p2, p3⟩ := hP.ne x hx
          refine ⟨l', ?_, l', pf x, rfl, (hl'.gr g3).gr g4, hl'.nep ff, p2, fun z => absurd z p1, fun y hy => .inr ⟨fun z => n1 (.inl z), fun z => n1 (.inr z), p3 y hy⟩⟩
          rw [← e]
          exact DGet.k hk.at_
        refine ⟨_, rfl, _, rfl, rfl, _, rfl, ?_⟩
        refine ite2 (fun c2 => ?_) (fun c2 => ?_)
        · have e2 := str_eq_of c2
          rw [if_pos e2] at gw2
          obtain ⟨l', hd, nl, nms, e, h1, h2, h3, h4, h5⟩ := fin _ gw2
          cases e
          exact ⟨pd, _, rfl, hd, l', nms, rfl, g4, h1, h2, h3, h4, h5⟩
        · have e2 := str_ne_of c2
          rw [if_neg e2] at gw2
          obtain ⟨l', hd, nl, nms, e, h1, h2, h3, h4, h5⟩ := fin _ gw2
          cases e
          exact ⟨_, rfl, pd, _, rfl, hd, l', nms, rfl, g4, h1, h2, h3, h4, h5⟩
      · have yin : (["outcome", "part"] : List Str).contains wd = true := by
          cases h : (["outcome", "part"] : List Str).contains wd with
          | true => rfl
          | false =>
            refine absurd ?_ c
            show (!inV (.str wd) [.str "outcome", .str "part"]) = true
            rw [inw, h]
            rfl
        have y1 : wd = "outcome" ∨ wd = "part" := by
          have h1 := List.contains_iff_mem.mp yin
          rcases List.mem_cons.mp h1 with h2 | h2
          · exact .inl h2
          · exact .inr (List.mem_singleton.mp h2)
        refine ⟨Nat.zero_le _, fun el hel => ⟨el, [], rfl, g4.new hel _, .mk_new g4 hel _, fun z => ?_, Nat.zero_le _, fun _ => ?_, fun _ h => nomatch h⟩⟩
        · rw [z, upd_ne t4o.symm, fo3] at hel
          cases hel
        · have h := gw.2
          rw [if_pos y1] at h
          exact of_decide_eq_true h
    · rintro σ H4 ⟨nl, nms, rfl, g4, hn4, nnf, nl100, nne, nfit⟩
      refine ⟨fun σ H5 => ∃ (el : Addr) (es : List Str), σ = [some (.ref b), some (.str so), some (.ref pd), some (.ref fo), some (.str wd), some (.ref l), some (.ref nl), some (.ref el)] ∧ Gr b H3 H5 ∧ At b H5 el (.lst (es.map V.str)) ∧ el ≠ fo ∧
        es ≠ [] ∧ es.length ≤ 100 ∧ (∀ y ∈ es, fitW y (wd, ls)), ?_, ?_⟩
      · have gl4 : At b H4 l (.lst (ls.map V.str)) := hl3.gr g4
        have r4 : Gr b H4 H4 := ⟨fun _ _ _ e => e, g4.box⟩
        have lfit : ∀ y ∈ ls, fitW y (wd, ls) := fun y hy => .inl hy
        refine ⟨_, rfl, Nat.zero_le _, fun e1 he1 => ⟨nl, e1, nms.map V.str, rfl, rfl, (hn4.new he1).l, SqL.of upd_same, _, rfl, ?_⟩⟩
        have g5 := r4.new he1 (.lst [])
        refine ite2 (fun c => ?_) (fun c => ?_)
        · have n0 : nms = [] := by
            have c' : (nms.map V.str).isEmpty = true := c
            simpa using c'
          exact ⟨_, rfl, l, ls, rfl, g4.trans g5, gl4.gr g5, nla, nne n0, by omega, lfit⟩
        · have n0 : nms ≠ [] := fun z => c (by rw [z]; rfl)
          refine ⟨_, rfl, Nat.zero_le _, fun e2 he2 => ⟨l, e2, ls.map V.str, rfl, rfl, ((gl4.gr g5).new he2).l, SqL.of upd_same, _, rfl, ?_⟩⟩
          have g6 := g5.new he2 (.lst [])
          refine ite2 (fun c2 => ?_) (fun c2 => ?_)
          · have l0 : ls ≠ [] := fun z => by
              have c' : (!(ls.map V.str).isEmpty) = true := c2
              rw [z] at c'
              cases c'
            refine ⟨_, rfl, b, _, rfl, ⟨fun _ _ _ e => e, g6.box⟩, by decide, by decide, fun d H7 d0 d1 g7 => ⟨rfl, _, rfl, ?_⟩⟩
            refine ite2 (fun c3 => ?_) (fun c3 => ?_)
            · exact ⟨_, rfl, l, ls, rfl, (g4.trans g6).trans g7, (gl4.gr g6).gr g7, nla, l0, by omega, lfit⟩
            · exact ⟨_, rfl, nl, nms, rfl, (g4.trans g6).trans g7, (hn4.gr g6).gr g7, nnf, n0, nl100, nfit⟩
          · exact ⟨_, rfl, nl, nms, rfl, g4.trans g6, hn4.gr g6, nnf, n0, nl100, nfit⟩
      · rintro σ H5 ⟨el, es, rfl, g5, he5, nef, ene, el100, efit⟩
        have fo5 : H5 fo = some (.lst (.str so :: ys.map V.str)) := g5.keep _ _ nfb fo3
        refine ⟨_, rfl, .inl ⟨rfl, _, SqL.of fo5⟩, _, rfl, _, rfl, b, el, _, rfl, ⟨fun _ _ _ e => e, g5.box⟩, he5, by simpa using ene, by rw [List.length_map]; omega, fun x H6 hx g6 => ?_⟩
        obtain ⟨y, hy, rfl⟩ := List.mem_map.mp hx
        have fo6 := g6.keep _ _ nfb fo5
        have pr4 : Paired fitW (ys ++ [y]) ((wsOf so).take (i + 1)) := by
          rw [List.take_add_one, hw]
          exact paired_snoc pr3 (efit y hy)
        have yl4 : (ys ++ [y]).length = i + 1 := by rw [List.length_append, yl]; rfl
        have i4 : i < 4 := by
          have h1 := (List.getElem?_eq_some_iff.mp hw).1
          have h2 := good.2
          omega
        refine ⟨fo, _, _, rfl, rfl, fo6, small1000 (by simp; omega), ?_⟩
        refine ⟨ys ++ [y], _, _, _, _, rfl, (g3.trans (g5.trans g6)).mut ff nfb _, fun c o nb nf e => ?_, ?_, pr4, yl4⟩
        · rw [upd_ne nf]
          exact g6.keep c o nb (g5.keep c o nb (k3 c o nb nf e))
        · rw [upd_same, List.map_append]
          rfl
  · rintro σ H3 ⟨ys, v4, v5, v6, v7, rfl, g3, k3, fo3, pr3, yl⟩
    refine ⟨_, rfl, fo, _, rfl, .inl ⟨SqL.of fo3, fun p hp => ?_⟩⟩
    rw [show ws.length = (wsOf so).length from prs.length, List.take_length] at pr3
    exact q p ys _ (g3.new hp _) (g3.free hp) (.mk_new g3 hp _) pr3
end
end My

/-! ## The law makes a row of its words -/
namespace My
open PySem L2
abbrev s_row : Stmt := top 22
abbrev N_row : List Str := ["_law_row_here"]
abbrev P_row : List Str := ["_law_row_here"]
theorem sc_row : FnScope N_row P_row (defScope s_row) := ⟨rfl, rfl, rfl, by decide +kernel, rfl, by decide +kernel, by decide +kernel⟩
structure TxLawRow (w : World) (K : PySem.W.Frag) (mg : Str → Option Value) extends TxRows w K mg where
  f_row : Addr
  d_row : FuncData
  F_row : Fun K "_law_row" "_law_row" s_row f_row d_row
  m_row : mg "_law_row" = some (.ref f_row)
  b_row : Binds K d_row P_row []
/-- a sort's class, names of its fields, the word of the first wrong argument -/
def clsOf {w : World} {K : PySem.W.Frag} {mg : Str → Option Value} (T : TxRows w K mg) (s : Str) : Addr := if s = "begin" then T.C_Begin else if s = "send" then T.C_Send else if s = "back" then T.C_Back else T.C_End
def fnOf (s : Str) : List Str := if s = "begin" then ["mark", "kind", "mood"] else if s = "send" then ["mood", "service", "mark"] else if s = "back" then ["mood", "service", "sign", "then"] else ["mood", "outcome", "sign", "part"]
def wrOf (s : Str) : List PyData → Option Str := if s = "begin" then wBegin else if s = "send" then wSend else if s = "back" then wBack else wEnd
def spLawRow {w : World} {K : PySem.W.Frag} {mg : Str → Option Value} (T : TxRows w K mg) : Sp := fun vs H Q E => ∃ (a : Addr) (s : Str) (as : List V) (ds : List PyData), vs = [.ref a] ∧ (SqL K H a (.str s :: as) ∨ SqT K H a (.str s :: as)) ∧ as.length = (fnOf s).length ∧ Paired (Dv K H) as ds ∧
  (∀ p dx H', wrOf s ds = none → Same H H' → H p = none → H' p = some (.ins (clsOf T s) dx ((fnOf s).zip as)) → Q (.ref p) H') ∧
  (∀ wd d H', wrOf s ds = some wd → Same H H' → H d = none → H' d = some (.xd [("word", .str wd)]) → E (.ref T.C_InvalidRow) (some d) H')
theorem rIx_at {K : PySem.W.Frag} {H : Hp} {a : Addr} {xs : List V} {j : Nat} {v : V} {Q : VK} (h : SqL K H a xs ∨ SqT K H a xs) (e : xs[j]? = some v) (q : Q v H) : rIx K (.ref a) (.int (j : Int)) H Q := by
  rcases h with h | h
  · exact .inl ⟨a, _, _, _, rfl, rfl, h, atI_nat e, q⟩
  · exact .inr (.inl ⟨a, _, _, _, rfl, rfl, h, atI_nat e, q⟩)
theorem paired_dv {K : PySem.W.Frag} {H H' : Hp} (e : Same H H') : ∀ {as : List V} {ds : List PyData}, Paired (Dv K H) as ds → Paired (Dv K H') as ds
  | _, _, .nil => .nil
  | _, _, .cons h t => .cons (h.same e) (paired_dv e t)
section
variable {P : Program} {w : World} {K : PySem.W.Frag} {mg : Str → Option Value} {base : Heap}
/-- what C(..) asks where C's __init__ is a row's -/
theorem row_made {C CX : Addr} {names : List Str} {wr : List PyData → Option Str} {H : Hp} {as : List V} {ds : List PyData} {Q : VK} {E : XK} (hl : as.length = names.length) (hd : Paired (Dv K H) as ds)
    (q : ∀ p dx H', wr ds = none → Same H H' → H p = none → H' p = some (.ins C dx (names.zip as)) → Q (.ref p) H') (qe : ∀ wd d H', wr ds = some wd → Same H H' → H d = none → H' d = some (.xd [("word", .str wd)]) → E (.ref CX) (some d) H') :
    ∀ x dx, H x = none → H dx = none → dx ≠ x → spRow K C CX names wr (.ref x :: as) (upd (upd H dx (.own x)) x (.ins C dx [])) (fun v H2 => v = .non ∧ Q (.ref x) H2) E := by
  intro x dx nx nd ne
  have s0 : Same H (upd (upd H dx (.own x)) x (.ins C dx [])) := fun b o e => by rw [upd_ne (ne_of_none e nx), upd_ne (ne_of_none e nd)]; exact e
  refine ⟨x, dx, as, ds, rfl, hl, paired_dv s0 hd, upd_same, fun H' e1 e2 k => ⟨rfl, q x dx H' e1 (Same.made nx nd k) nx e2⟩, fun wd d H' e1 s1 n1 e2 => qe wd d H' e1 (s0.trans s1) (s0.free n1) e2⟩
theorem ok_row (T : TxLawRow w K mg) : FnOk P w K mg base (L2.CX P w) 5 T.f_row T.d_row P_row (spLawRow T.toTxRows) := by
  have G_Begin_init := ok_Begin_init (P := P) (w := w) (base := base) T.toTxRows
  have G_Send_init := ok_Send_init (P := P) (w := w) (base := base) T.toTxRows
  have G_Back_init := ok_Back_init (P := P) (w := w) (base := base) T.toTxRows
  have G_End_init := ok_End_init (P := P) (w := w) (base := base) T.toTxRows
  refine T.F_row.okX sc_row (fun vs H Q E h => ?_) (fun cdv A outer s H vs Q E hr h => ?_)
  · obtain ⟨a, so, as, ds, rfl, _⟩ := h
    rfl
  obtain ⟨a, so, as, ds, rfl, hS, hl, hd, q, qe⟩ := h
  refine ⟨_, (pss_cons (ps_if (pt_cmpR op_eq (pe_ix ix_seq (pv 0) pe_int (fun _ _ => rfl)) pe_str (nomark _)) (pss_one (ps_ret (pe_make T.mk_Begin G_Begin_init (hr.mono (by decide)) (by rfl) T.m_Begin T.b_Begin_init .nil (passes_call (W := fun cls d _ H => E cls d H) (takes_of rfl rfl rfl rfl) (fun _ _ _ _ h => h)) (pa_cons (pe_ix ix_seq (pv 0) pe_int (fun _ _ => rfl)) (pa_cons (pe_ix ix_seq (pv 0) pe_int (fun _ _ => rfl)) (pa_cons (pe_ix ix_seq (pv 0) pe_int (fun _ _ => rfl)) pa_nil)))))) pss_nil)
      (pss_cons (ps_if (pt_cmpR op_eq (pe_ix ix_seq (pv 0) pe_int (fun _ _ => rfl)) pe_str (nomark _)) (pss_one (ps_ret (pe_make T.mk_Send G_Send_init (hr.mono (by decide)) (by rfl) T.m_Send T.b_Send_init .nil (passes_call (W := fun cls d _ H => E cls d H) (takes_of rfl rfl rfl rfl) (fun _ _ _ _ h => h)) (pa_cons (pe_ix ix_seq (pv 0) pe_int (fun _ _ => rfl)) (pa_cons (pe_ix ix_seq (pv 0) pe_int (fun _ _ => rfl)) (pa_cons (pe_ix ix_seq (pv 0) pe_int (fun _ _ => rfl)) pa_nil)))))) pss_nil)
      (pss_cons (ps_if (pt_cmpR op_eq (pe_ix ix_seq (pv 0) pe_int (fun _ _ => rfl)) pe_str (nomark _)) (pss_one (ps_ret (pe_make T.mk_Back G_Back_init (hr.mono (by decide)) (by rfl) T.m_Back T.b_Back_init .nil (passes_call (W := fun cls d _ H => E cls d H) (takes_of rfl rfl rfl rfl) (fun _ _ _ _ h => h)) (pa_cons (pe_ix ix_seq (pv 0) pe_int (fun _ _ => rfl)) (pa_cons (pe_ix ix_seq (pv 0) pe_int (fun _ _ => rfl)) (pa_cons (pe_ix ix_seq (pv 0) pe_int (fun _ _ => rfl)) (pa_cons (pe_ix ix_seq (pv 0) pe_int (fun _ _ => rfl)) pa_nil))))))) pss_nil)
      (pss_one (ps_ret (pe_make T.mk_End G_End_init (hr.mono (by decide)) (by rfl) T.m_End T.b_End_init .nil (passes_call (W := fun cls d _ H => E cls d H) (takes_of rfl rfl rfl rfl) (fun _ _ _ _ h => h)) (pa_cons (pe_ix ix_seq (pv 0) pe_int (fun _ _ => rfl)) (pa_cons (pe_ix ix_seq (pv 0) pe_int (fun _ _ => rfl)) (pa_cons (pe_ix ix_seq (pv 0) pe_int (fun _ _ => rfl)) (pa_cons (pe_ix ix_seq (pv 0) pe_int (fun _ _ => rfl)) pa_nil)))))))))), ?_⟩
  refine ⟨_, rfl, rIx_at (j := 0) hS rfl ⟨rfl, _, rfl, ?_⟩⟩
  refine ite2 (fun c => ?_) (fun c => ?_)
  · have e := str_eq_of c
    subst e
    obtain ⟨x0, x1, x2, rfl⟩ : ∃ x0 x1 x2, as = [x0, x1, x2] := by
      match as, hl with
      | [x0, x1, x2], _ => exact ⟨x0, x1, x2, rfl⟩
    exact ⟨_, rfl, rIx_at (j := 1) hS rfl ⟨_, rfl, rIx_at (j := 2) hS rfl ⟨_, rfl, rIx_at (j := 3) hS rfl (row_made rfl hd q qe)⟩⟩⟩
  refine ⟨_, rfl, rIx_at (j := 0) hS rfl ⟨rfl, _, rfl, ?_⟩⟩
  refine ite2 (fun c2 => ?_) (fun c2 => ?_)
  · have e := str_eq_of c2
    subst e
    obtain ⟨x0, x1, x2, rfl⟩ : ∃ x0 x1 x2, as = [x0, x1, x2] := by
      match as, hl with
      | [x0, x1, x2], _ => exact ⟨x0, x1, x2, rfl⟩
    exact ⟨_, rfl, rIx_at (j := 1) hS rfl ⟨_, rfl, rIx_at (j := 2) hS rfl ⟨_, rfl, rIx_at (j := 3) hS rfl (row_made rfl hd q qe)⟩⟩⟩
  refine ⟨_, rfl, rIx_at (j := 0) hS rfl ⟨rfl, _, rfl, ?_⟩⟩
  refine ite2 (fun c3 => ?_) (fun c3 => ?_)
  · have e := str_eq_of c3
    subst e
    obtain ⟨x0, x1, x2, x3, rfl⟩ : ∃ x0 x1 x2 x3, as = [x0, x1, x2, x3] := by
      match as, hl with
      | [x0, x1, x2, x3], _ => exact ⟨x0, x1, x2, x3, rfl⟩
    exact ⟨_, rfl, rIx_at (j := 1) hS rfl ⟨_, rfl, rIx_at (j := 2) hS rfl ⟨_, rfl, rIx_at (j := 3) hS rfl ⟨_, rfl, rIx_at (j := 4) hS rfl (row_made rfl hd q qe)⟩⟩⟩⟩
  have e1 : fnOf so = (["mood", "outcome", "sign", "part"] : List Str) := by unfold fnOf; rw [if_neg (str_ne_of c), if_neg (str_ne_of c2), if_neg (str_ne_of c3)]
  have e2 : wrOf so = wEnd := by unfold wrOf; rw [if_neg (str_ne_of c), if_neg (str_ne_of c2), if_neg (str_ne_of c3)]
  have e3 : clsOf T.toTxRows so = T.C_End := by unfold clsOf; rw [if_neg (str_ne_of c), if_neg (str_ne_of c2), if_neg (str_ne_of c3)]
  rw [e1] at hl
  rw [e1, e2, e3] at q
  rw [e2] at qe
  obtain ⟨x0, x1, x2, x3, rfl⟩ : ∃ x0 x1 x2 x3, as = [x0, x1, x2, x3] := by
    match as, hl with
    | [x0, x1, x2, x3], _ => exact ⟨x0, x1, x2, x3, rfl⟩
  exact ⟨_, rfl, rIx_at (j := 1) hS rfl ⟨_, rfl, rIx_at (j := 2) hS rfl ⟨_, rfl, rIx_at (j := 3) hS rfl ⟨_, rfl, rIx_at (j := 4) hS rfl (row_made rfl hd q qe)⟩⟩⟩⟩
end
end My

/-! ## The law's own look at names -/
namespace My
open PySem L2
abbrev s_is_name_law : Stmt := top 25
abbrev N_is_name_law : List Str := ["_law_value", "_law_barred", "_law_sign"]
abbrev P_is_name_law : List Str := ["_law_value"]
theorem sc_is_name_law : FnScope N_is_name_law P_is_name_law (defScope s_is_name_law) := ⟨rfl, rfl, rfl, by decide +kernel, rfl, by decide +kernel, by decide +kernel⟩
structure TxLawName (w : World) (K : PySem.W.Frag) (mg : Str → Option Value) where
  z_len : mg "len" = none
  z_isinstance : mg "isinstance" = none
  z_str : mg "str" = none
  f_is_name_law : Addr
  d_is_name_law : FuncData
  F_is_name_law : Fun K "_law_is_name" "_law_is_name" s_is_name_law f_is_name_law d_is_name_law
  m_is_name_law : mg "_law_is_name" = some (.ref f_is_name_law)
  b_is_name_law : Binds K d_is_name_law P_is_name_law []
theorem all_filter {α : Type} (p : α → Bool) : ∀ l : List α, l.all p = (l.filter fun c => !p c).isEmpty
  | [] => rfl
  | x :: l => by
    rw [List.all_cons, List.filter_cons]
    cases h : p x with
    | true =>
      rw [if_neg (by decide), ← all_filter p l]
      rfl
    | false =>
      rw [if_pos (by decide)]
      rfl
theorem map_empty {α β : Type} (f : α → β) (l : List α) : (l.map f).isEmpty = l.isEmpty := by cases l <;> rfl
theorem tyx_same {K : PySem.W.Frag} {H H' : Hp} (e : Same H H') {v : V} {t : Value} (h : TyX K H v t) : TyX K H' v t := by
  cases h with
  | base b =>
    cases b with
    | non => exact .base .non
    | bl x => exact .base (.bl x)
    | int i => exact .base (.int i)
    | str x => exact .base (.str x)
    | flt x => exact .base (.flt x)
    | lst h => exact .base (.lst (e _ _ h))
    | frz h => exact .base (.frz (e _ _ h))
    | tup h => exact .base (.tup (e _ _ h))
    | dK h => exact .base (.dK (e _ _ h))
    | dT h => exact .base (.dT (e _ _ h))
    | ins h cl a b c d => exact .base (.ins (e _ _ h) cl a b c d)
  | byt b => exact .byt b
  | set h => exact .set (e _ _ h)
  | kList h c => exact .kList h c
  | kTuple h c => exact .kTuple h c
  | kDict h c => exact .kDict h c
  | fTuple h => exact .fTuple (e _ _ h)
  | fDict h => exact .fDict (e _ _ h)
section
variable {P : Program} {w : World} {K : PySem.W.Frag} {mg : Str → Option Value} {base : Heap}
theorem ok_law_is_name (T : TxLawName w K mg) : FnOk P w K mg base CX0 1 T.f_is_name_law T.d_is_name_law P_is_name_law (spIsName K) := by
  refine T.F_is_name_law.ok sc_is_name_law (fun vs H Q E h => ?_) (fun cdv A outer s H vs Q E hr h => ?_)
  · obtain ⟨v, rfl, _⟩ := h
    rfl
  obtain ⟨v, rfl, hv, q⟩ := h
  refine ⟨_, (pss_cons (ps_set (i := 1) sc_is_name_law.nd rfl (Or.inl rfl) (pe_lst (pa_cons pe_str (pa_cons pe_str (pa_cons pe_str (pa_cons pe_str (pa_cons pe_str (pa_cons pe_str (pa_cons pe_str (pa_cons pe_str (pa_cons pe_str (pa_cons pe_str pa_nil))))))))))))
      (pss_cons (ps_if (PW.pt (pw_or (pt_not (pt_val (pe_callB (call_isiV K) (by rfl) T.z_isinstance (by decide +kernel) (pa_cons (pv 0) (pa_cons (pe_bltn (v := .ty "str") (by rfl) T.z_str (by decide +kernel) rfl) pa_nil))))) (pw_or (pt_not (pt_chain op_lt op_lt pe_int (pe_callB call_len_str (by rfl) T.z_len (by decide +kernel) (pa_cons (pv 0) pa_nil)) pe_int)) (pw_or1 (pt_cmpR (op_inK K) (pv 0) (pv 1) (by rfl)))))) (pss_one (ps_ret pe_bl)) pss_nil)
      (pss_one (ps_ret (pe_cmpR (op_eqEK K hr.units0) (pe_lc (own := [("_law_sign", 2)]) (g := gName 2) (by rfl) sc_is_name_law.nd (pi_str (pv 0)) (blkOk_by (own := [("_law_sign", 2)]) (N := N_is_name_law) (sc := defScope s_is_name_law) (by decide +kernel)) (fun _ _ _ _ _ => (pg_name (i := 2) sc_is_name_law.nd rfl (Or.inl rfl))) (fun _ _ _ _ _ => pts_one (by exact (pt_cmpR op_notIn_sign (pv 2) pe_str (by rfl)))) (fun _ _ _ _ _ => (pv 2))) (pe_lst pa_nil) (nomark _)))))), ?_⟩
  refine ⟨by show 10 ≤ sizeLine; decide, fun bl hbl => ?_⟩
  have s1 := same_upd hbl (.lst (BAR.map V.str))
  cases hv with
  | oth n ty k =>
    have e : nmV v = false := by cases v <;> first | rfl | exact absurd rfl (n _)
    refine ⟨_, rfl, v, .ty "str", _, _, _, rfl, .ty _, ?_, k, _, rfl, ?_⟩
    · exact tyx_same s1 ty
    have r := q _ s1
    rw [e] at r
    exact r
  | str x hx =>
    have hz : x.length ≤ sizeLine := by rw [sizeLine_eq]; omega
    have no : ∀ H', Same H H' → isNm x = false → Q (.bl false) H' := fun H' s' e => by
      have r := q H' s'
      rwa [show nmV (.str x) = false from e] at r
    refine ⟨_, rfl, .str x, .ty "str", _, _, true, rfl, .ty _, .base (.str x), kit_ty (by decide +kernel), _, rfl, ?_⟩
    refine ⟨_, rfl, x, rfl, hz, _, _, rfl, rfl, _, rfl, ?_⟩
    refine ite2 (fun c => ?_) (fun c => ?_)
    · have h1 : (0 : Int) < (x.length : Int) := of_decide_eq_true c
      refine ⟨_, _, rfl, rfl, _, rfl, ?_⟩
      refine ite2 (fun c => ?_) (fun c => ?_)
      · have h4 : ¬ (x.length : Int) < 5 := of_decide_eq_false (by simpa using c)
        exact no _ s1 (by unfold isNm; rw [show decide (x.length ≤ 4) = false from decide_eq_false (by omega)]; simp)
      · have h4 : (x.length : Int) < 5 := of_decide_eq_true (by simpa using c)
        refine ⟨_, rfl, _, rfl, bl, BAR.map V.str, rfl, .inl (SqL.of upd_same), rfl, by decide +kernel, _, rfl, ?_⟩
        refine ite2 (fun c => ?_) (fun c => ?_)
        · have hb : BAR.contains x = true := by
            have c' : inV (.str x) (BAR.map V.str) = true := c
            rwa [inV_strs] at c'
          exact no _ s1 (by unfold isNm; rw [hb]; simp)
        · have hb : BAR.contains x = false := by
            have c' : ¬ inV (.str x) (BAR.map V.str) = true := c
            rw [inV_strs] at c'
            exact Bool.eq_false_iff.mpr c'
          refine ⟨_, rfl, x, rfl, fun D hD => lc_it walk_str (fun i H' => Same H H' ∧ H' D = some (.lst ((((x.cps.toList.take i).filter fun c => !decide (c ∈ ABC.cps.toList))).map fun c => V.str ⟨#[c]⟩))) ⟨s1.trans (same_upd hD _), upd_same⟩ (fun _ _ _ _ => trivial) ?_ ?_⟩
          · rintro i v H1 H2 hi ⟨s1', hD1⟩ ⟨rfl, c, hc, rfl⟩
            have hi' : i ≤ 4 := by have : i < x.length := hi; omega
            have hc' : x.cps.toList[i]? = some c := by rw [Array.getElem?_toList]; exact hc
            refine ⟨rfl, ?_⟩
            refine ⟨_, rfl, c, ABC, rfl, rfl, _, rfl, ?_⟩
            refine ite2 (fun c2 => ?_) (fun c2 => ?_)
            · refine ⟨_, rfl, _, hD1, small1000 ?_, ?_, ?_⟩
              · rw [List.length_map]
                exact Nat.le_trans (List.length_filter_le _ _) (by rw [List.length_take]; omega)
              · intro b o e
                rw [upd_ne (ne_of_none (s1 b o e) hD)]
                exact s1' b o e
              · have c3 : (!decide (c ∈ ABC.cps.toList)) = true := c2
                have f1 : ([c] : List Nat).filter (fun c => !decide (c ∈ ABC.cps.toList)) = [c] := by rw [List.filter_cons, if_pos c3]; rfl
                rw [upd_same, List.take_add_one, hc', List.filter_append, show (some c).toList = [c] from rfl, f1, List.map_append]
                rfl
            · refine ⟨s1', ?_⟩
              have c3 : (!decide (c ∈ ABC.cps.toList)) = false := Bool.eq_false_iff.mpr c2
              have f1 : ([c] : List Nat).filter (fun c => !decide (c ∈ ABC.cps.toList)) = [] := by rw [List.filter_cons, if_neg (by rw [c3]; decide)]; rfl
              rw [hD1, List.take_add_one, hc', List.filter_append, show (some c).toList = [c] from rfl, f1, List.append_nil]
          · rintro H' ⟨s1', hD1⟩
            refine ⟨Nat.zero_le _, fun e he => ⟨D, e, _, rfl, rfl, SqL.of (by rw [upd_ne (ne_of_none hD1 he)]; exact hD1), SqL.of upd_same, ?_⟩⟩
            have r := q _ (s1'.trans (same_upd he (.lst [])))
            have e2 : nmV (.str x) = (((x.cps.toList.take x.cps.size).filter fun c => !decide (c ∈ ABC.cps.toList)).map fun c => V.str ⟨#[c]⟩).isEmpty := by
              show isNm x = _
              unfold isNm
              rw [decide_eq_true (show 1 ≤ x.length by omega), decide_eq_true (show x.length ≤ 4 by omega), hb, List.take_of_length_le (by simp), map_empty, ← all_filter]
              rfl
            rw [e2] at r
            exact r
    · have h1 : ¬ (0 : Int) < (x.length : Int) := of_decide_eq_false (Bool.eq_false_iff.mpr c)
      refine ⟨_, rfl, ?_⟩
      exact no _ s1 (by unfold isNm; rw [show decide (1 ≤ x.length) = false from decide_eq_false (by omega)]; simp)
end
end My

/-! ## isinstance of a caught error that has a dict of its own -/
namespace PySem.W
open PySem PySem.Spec PySem.Calls PyProof.Rows
section
variable {prog : Program} {w : World} {A : Around} {E : Value → Shared → Prop} {s : Shared} {K : Frag} {x D : Addr} {ox dd : Obj}
theorem my_classD {Q : Option Value → Shared → Prop} (c1 : findIn K (.ref D) "__getattribute__" = some (some (.builtin "BaseException.__getattribute__"))) (c2 : findIn K (.ref D) "__getattr__" = some none)
    (c3 : subIn K (.ref D) (.type "BaseException") = some true) (c4 : hasDictIn K D = true) (c5 : findIn K (.ref D) "__class__" = some (some (.builtin "object.__class__")))
    (c6 : specialIn K (.builtin "object.__class__") "__get__" = some (some (.builtin "getset_descriptor.__get__"))) (c7 : takesIn K (.builtin "object.__class__") = some true) (c8 : mroIn K D (.type "object") = some true)
    (Y : K.In s.heap) (J : InstAt s.heap x ox D (some dd)) (q : Q (some (.ref D)) { s with toks := s.toks + 1 }) : wpAny (model prog w) A (getAttr? (.ref x) "__class__") Q E s := by
  have fo : findObj K D (some dd) "__class__" = some (.bind (.builtin "getset_descriptor.__get__") (.builtin "object.__class__")) := findObj_data (by obtain ⟨cd, e, _⟩ := any_some c4; rw [e]; rfl) c5 c6 c7
  obtain ⟨hh, gg, dr, tt, oo⟩ := s
  have M0 := J.type (M := model prog w); have M1 := looks_findIn (M := model prog w) Y c1; have M2 := looks_findIn (M := model prog w) Y c2; have M3 := looks_find (M := model prog w) Y J fo
  have isb : Looks (model prog w) hh (isInstance (.ref x) (.type "BaseException")) true := M0.andThen (looks_subIn Y c3)
  have n2 : (Value.builtin "BaseException.__getattribute__" == Value.builtin "object.__getattribute__") = false := by decide +kernel
  have n1 : (onTheHeap (Value.ref D) && Value.builtin "BaseException.__getattribute__" == Value.builtin "object.__getattribute__") = false := by rw [n2]; rfl
  unfold getAttr? getAttrBy? getAttrBy; refine wpAny_bind (wpAny_mkText (wpAny_bind (wpAny_attempt (wpAny_holding (wpAny_bind (M0.at (wpAny_bind (M1.at ?_))))))))
  show wpAny _ _ (if (onTheHeap (Value.ref D) && Value.builtin "BaseException.__getattribute__" == Value.builtin "object.__getattribute__") = true then _ else _) _ _ _; rw [n1, if_neg Bool.false_ne_true]
  unfold getAttrByItsOwn hookBefore; refine wpAny_bind ?_; rw [if_pos (show onTheHeap (Value.ref D) = true from rfl)]; refine M2.at ?_
  refine wpAny_bind (wpAny_attempt (wpAny_holding ?_)); unfold callGetattribute; rw [show (false && onTheHeap (Value.builtin "BaseException.__getattribute__")) = false from rfl, if_neg Bool.false_ne_true]
  unfold boundAndCalled; rw [PySem.F.excAttr_ValueError.ga.bind (.ref x)]; refine wpAny_bind (wpAny_pure ?_)
  show wpAny _ _ (call (.builtin "BaseException.__getattribute__") [.ref x, .str "__class__" tt]) _ _ _
  refine wpAny_call (codeAny_call_builtin PySem.F.excAttr_ValueError.ga.plain PySem.F.entry_bexc_ga (@check_slot (model prog w) _ _ ⟨hh, gg, dr, tt + 1, oo⟩ "BaseException.__getattribute__" "BaseException" "__getattribute__" (.ref x) [.str "__class__" tt] [] _ (by decide +kernel) (by decide +kernel) isb (PySem.F.args_bexc_ga (.ref x) (.str "__class__" tt)) ?_))
  unfold Builtin.«object.__getattribute__»; refine wpAny_bind (wpAny_of_eq (a := ((Value.ref x : Value), [Value.str "__class__" tt])) (by first | rfl | (simp only [slotArgs]; rfl)) (wpAny_bind (wpAny_pure (wpAny_bind (M0.at (wpAny_bind (M3.at ?_)))))))
  show wpAny _ _ (holding [Value.builtin "object.__class__"] (call (.builtin "getset_descriptor.__get__") [.builtin "object.__class__", .ref x, .ref D]) >>= ret) _ _ _
  refine wpAny_bind (wpAny_holding (wpAny_call (class_get (s := ⟨hh, gg, dr, tt + 1, oo⟩) (ox := ox) (od := some dd) Y J c8 (wpAny_pure ?_))))
  show wpAny _ _ (handedOut (.ref D)) _ _ _; rw [handedOut_of (v := .ref D) rfl]
  first | exact wpAny_pure (wpAny_pure q) | exact wpAny_pure q | exact wpAny_pure (wpAny_bind (wpAny_pure (wpAny_pure q)))
theorem my_kitD (c1 : findIn K (.ref D) "__getattribute__" = some (some (.builtin "BaseException.__getattribute__"))) (c2 : findIn K (.ref D) "__getattr__" = some none)
    (c3 : subIn K (.ref D) (.type "BaseException") = some true) (c4 : hasDictIn K D = true) (c5 : findIn K (.ref D) "__class__" = some (some (.builtin "object.__class__")))
    (c6 : specialIn K (.builtin "object.__class__") "__get__" = some (some (.builtin "getset_descriptor.__get__"))) (c7 : takesIn K (.builtin "object.__class__") = some true) (c8 : mroIn K D (.type "object") = some true) :
    KitX K (.ref x) (.ref D) (fun h => InstAt h x ox D (some dd)) where
  ty := fun _ _ _ J => J.type
  it := fun _ _ Y _ => by
    obtain ⟨cd, e, _⟩ := any_some c4; unfold clsIn at e
    split at e
    · rename_i a1 a2 a3 a4 e2
      intro A2 Q2 E2 s2 k q; unfold isType loadHead; exact wpAny_bind (wpAny_loadPart (k _ _ (Y _ _ e2)) (wpAny_pure q))
    · cases e
  ne := (handS_kitx_exc (x := x) (ox := ox) c1 c2 c3 c4 c5 c6 c7 c8).ne
  ca := fun Y J k => my_classD c1 c2 c3 c4 c5 c6 c7 c8 Y J k
end
end PySem.W
namespace My
open PySem L2
/-- isinstance(e, c), e the error that the suite holds, with its own dict -/
def rIsD (K : PySem.W.Frag) (a : Addr) (cls : Value) (d : Option Addr) : List V → Hp → VK → Prop := fun xs H Q => ∃ (D dd : Addr) (fs : List (Str × V)) (c : V) (cv : Value) (b : Bool), xs = [.ref a, c] ∧ cls = .ref D ∧ d = some dd ∧ H dd = some (.xd fs) ∧ ExcC K D ∧ (∀ u, RelV c u → u = cv) ∧
  PySem.W.kitOne K (.ref D) cv = some b ∧ Q (.bl b) H
theorem call_isD {X : Cx} {a : Addr} {cls : Value} {d : Option Addr} {oe : Obj} {pn : List (Addr × Obj)} (hz : Zc cls d oe) (hf : ∃ vs, oe.data = .fields vs) : CallR (X.suite a ((a, oe) :: pn)) (.builtin "isinstance") (rIsD X.K a cls d) := by
  intro pins s σ H xs us Q I r h
  obtain ⟨D, dd, fs, c, cv, b, rfl, e1, e2, hd, C, hcv, e, q⟩ := h
  subst e1 e2
  cases r with
  | cons rx rr =>
  cases rr with
  | cons rt rr =>
  cases rr
  cases rx
  have ec := hcv _ rt
  subst ec
  obtain ⟨hget, _⟩ := I.pin (a, oe) (List.mem_append_left _ List.mem_cons_self)
  obtain ⟨mA, hns, hr⟩ := I.hok dd _ hd
  obtain ⟨od, ho, hl⟩ := lookIn_ns hns
  obtain ⟨vs, hv⟩ := hf
  have J : PySem.W.InstAt s.heap a oe D (some od) := ⟨hget, hz.1, by unfold PySem.W.notCls; rw [hv] <;> rfl, by rw [hz.2]; exact ho⟩
  exact PySem.W.kia_one (PySem.W.my_kitD C.hg C.hk C.hs C.hd C.ha C.hn C.ht C.hm) I.kIn J e (fun z => nomatch z) fun tk => ⟨.bl b, H, I.tok tk, rfl, q⟩
end My

/-! ## k03: what is wrong by the law's own look, what is refused -/
namespace My
open PySem L2
abbrev s_wrong : Stmt := top 26
abbrev N_wrong : List Str := ["_law_row_here", "_law_value", "_law_word", "_law_others", "_law_is_other"]
abbrev P_wrong : List Str := ["_law_row_here"]
theorem sc_wrong : FnScope N_wrong P_wrong (defScope s_wrong) := ⟨rfl, rfl, rfl, by decide +kernel, rfl, by decide +kernel, by decide +kernel⟩
structure TxWrong (w : World) (K : PySem.W.Frag) (mg : Str → Option Value) extends TxDrawn w K mg, TxLawName w K mg where
  z_zip : mg "zip" = none
  f_wrong : Addr
  d_wrong : FuncData
  F_wrong : Fun K "_law_wrong" "_law_wrong" s_wrong f_wrong d_wrong
  m_wrong : mg "_law_wrong" = some (.ref f_wrong)
  b_wrong : Binds K d_wrong P_wrong []
/-- the first word whose value is none that may stand -/
def lw : List (Str × List Str) → List PyData → Option Str
  | (w, ls) :: ws, d :: ds => if txD ls d = false ∧ ((w = "outcome" ∨ w = "part") ∨ nmD d = false) then some w else lw ws ds
  | _, _ => none
def optV : Option Str → V
  | none => .non
  | some x => .str x
def spWrong (K : PySem.W.Frag) : Sp := fun vs H Q _ => ∃ (a : Addr) (s : Str) (as : List V) (ds : List PyData), vs = [.ref a] ∧ SqL K H a (.str s :: as) ∧ as.length = (wsOf s).length ∧ as.length ≤ 10 ∧ Paired (Dv K H) as ds ∧
  ∀ H', Same H H' → Q (optV (lw (wsOf s) ds)) H'
section
variable {P : Program} {w : World} {K : PySem.W.Frag} {mg : Str → Option Value} {base : Heap}
theorem cut_one {x : V} {as : List V} : cutV (x :: as) (some 1) none = as := by
  unfold cutV
  rw [show (1 : Int) = ((1 : Nat) : Int) from rfl, HT.sIx_nat, HT.sIx_none, List.length_cons, Nat.min_eq_left (by omega)]
  show as.take (as.length + 1 - 1) = as
  rw [Nat.add_sub_cancel, List.take_length]
theorem lw_drop {ws : List (Str × List Str)} {ds : List PyData} {i : Nat} {w : Str} {ls : List Str} {d : PyData} (h1 : ws[i]? = some (w, ls)) (h2 : ds[i]? = some d) :
    lw (ws.drop i) (ds.drop i) = if txD ls d = false ∧ ((w = "outcome" ∨ w = "part") ∨ nmD d = false) then some w else lw (ws.drop (i + 1)) (ds.drop (i + 1)) := by
  obtain ⟨l1, e1⟩ := List.getElem?_eq_some_iff.mp h1
  obtain ⟨l2, e2⟩ := List.getElem?_eq_some_iff.mp h2
  rw [List.drop_eq_getElem_cons l1, List.drop_eq_getElem_cons l2, e1, e2]
  rfl
theorem ok_wrong (T : TxWrong w K mg) : FnOk P w K mg base CX0 2 T.f_wrong T.d_wrong P_wrong (spWrong K) := by
  have G_words : FnOk P w K mg base CX0 1 T.f_words T.d_words P_words (spWords K) := ok_words T.toTxWords
  have G_is_name_law : FnOk P w K mg base CX0 1 T.f_is_name_law T.d_is_name_law P_is_name_law (spIsName K) := ok_law_is_name T.toTxLawName
  refine T.F_wrong.ok sc_wrong (fun vs H Q E h => ?_) (fun cdv A outer s H vs Q E hr h => ?_)
  · obtain ⟨a, so, as, ds, rfl, _⟩ := h
    rfl
  obtain ⟨a, so, as, ds, rfl, hS, hl, hl10, hd, q⟩ := h
  refine ⟨_, (pss_cons (ps_for PassesOwn.never rfl (pi_zip (by rfl) T.z_zip (pa_cons (pe_slice (sl_listK K) (pv 0) (po_some pe_int) po_none) (pa_cons (pe_call G_words (hr.mono (by decide)) (by rfl) T.m_words T.F_words.kp T.b_words .nil pass0 (pa_cons (pv 0) pa_nil)) pa_nil))) (pg_tup rfl (pgs_cons (pg_name (i := 1) sc_wrong.nd rfl (Or.inl rfl)) (pgs_cons (pg_tup rfl (pgs_cons (pg_name (i := 2) sc_wrong.nd rfl (Or.inl rfl)) (pgs_cons (pg_name (i := 3) sc_wrong.nd rfl (Or.inl rfl)) pgs_nil))) pgs_nil))) (Evl.pss_cut (ps_set (i := 4) sc_wrong.nd rfl (Or.inl rfl) (pe_and (pe_callB (call_isiV K) (by rfl) T.z_isinstance (by decide +kernel) (pa_cons (pv 1) (pa_cons (pe_bltn (v := .ty "str") (by rfl) T.z_str (by decide +kernel) rfl) pa_nil))) (pe_one (pe_cmpR (op_inK K) (pv 1) (pv 3) (by rfl)))))
      (pss_one (ps_if (PW.pt (pw_and (pt_not (pt_val (pv 4))) (pw_and1 (PW.pt (pw_or (pt_cmpR (op_inK K) (pv 2) (pe_tup (pa_cons pe_str (pa_cons pe_str pa_nil))) (by rfl)) (pw_or1 (pt_not (pt_val (pe_call G_is_name_law (hr.mono (by decide)) (by rfl) T.m_is_name_law T.F_is_name_law.kp T.b_is_name_law .nil pass0 (pa_cons (pv 1) pa_nil)))))))))) (pss_one (ps_ret (pv 2))) pss_nil))))
      (pss_one (ps_ret pe_non))), ?_⟩
  refine ⟨_, rfl, 1, rfl, a, _, rfl, hS, fun sl hsl => ?_⟩
  rw [cut_one]
  have y1 := same_upd hsl (.lst as)
  refine ⟨_, rfl, a, so, as, rfl, .inl (seqL_same y1 hS), fun wl H1 s1 hwl hW => ?_⟩
  obtain ⟨ws, hws, prs⟩ := hW
  have z1 := y1.trans s1
  have hsl1 := s1 _ _ (upd_same (H := H) (a := sl) (o := .lst as))
  have lws : ws.length = (wsOf so).length := prs.length
  have nm1 : ∀ i, i < as.length → min as.length ws.length = as.length := fun i _ => by rw [lws, ← hl]; exact Nat.min_self _
  refine ⟨sl, wl, as, ws, rfl, SqL.of hsl1, SqL.of hws, for_it (walk_zip (xs := as) (ys := ws) (n := as.length) (by rw [lws, ← hl]; exact (Nat.min_self _).symm))
    (fun i σ H' => ∃ (v1 v2 v3 v4 : Option V), σ = [some (.ref a), v1, v2, v3, v4] ∧ Same H1 H' ∧ lw (wsOf so) ds = lw ((wsOf so).drop i) (ds.drop i)) ⟨none, none, none, none, rfl, Same.refl _, rfl⟩
    (fun i σ H' _ ⟨_, _, _, _, _, k, _⟩ => ⟨SqL.of (k _ _ hsl1), SqL.of (k _ _ hws)⟩) ?_ ?_⟩
  · rintro i x σ H2 H3 hi ⟨v1, v2, v3, v4, rfl, s2, eq⟩ ⟨tp, x1, x2, rfl, htp, rfl, hx1, hx2⟩
    obtain ⟨⟨wd, ls⟩, hw, p, l, rfl, hp, hlS, _, _⟩ := paired_get prs hx2
    obtain ⟨d, hdi, hv⟩ := paired_get hd hx1
    have s3 := s2.trans (same_upd htp (.tup [x1, .ref p]))
    have hv3 := hv.same (z1.trans s3)
    have hp3 := s3 _ _ hp
    have hl3 := s3 _ _ hlS
    have ld := lw_drop hw hdi
    refine ⟨tp, _, rfl, SqT.of upd_same, rfl, _, _, rfl, _, _, rfl, ⟨p, _, rfl, SqT.of hp3, rfl, _, _, rfl, _, _, rfl, rfl, rfl, ?_⟩⟩
    have a3 : AnyV K (upd H2 tp (.tup [x1, .ref p])) x1 := hv3.any
    refine ⟨fun σ H' => H' = upd H2 tp (.tup [x1, .ref p]) ∧ σ = [some (.ref a), some x1, some (.str wd), some (.ref l), some (.bl (txD ls d))], ?_, ?_⟩
    · have ty := Dp.ty hv3.dp
      by_cases hs : ∃ x, d = .str x
      · obtain ⟨x, rfl⟩ := hs
        have ex : x1 = .str x := by cases hv3.dp; rfl
        subst ex
        refine ⟨_, rfl, .str x, .ty "str", _, _, true, rfl, .ty _, ty, kit_ty (by show kitB "str" "str" = some true; decide +kernel), _, rfl, ?_⟩
        refine ⟨_, rfl, _, rfl, l, ls.map V.str, rfl, .inl (SqL.of hl3), rfl, by simp [List.all_map, flatV], rfl, ?_⟩
        have e : inV (.str x) (ls.map V.str) = txD ls (.str x) := inV_strs x ls
        show [_, _, _, _, some (V.bl (inV (.str x) (ls.map V.str)))] = _
        rw [e]
      · have kf : PySem.W.kitOne K (.type (tyD d)) (.type "str") = some false := by
          cases d with
          | str x => exact absurd ⟨x, rfl⟩ hs
          | none => exact kit_ty (show kitB "NoneType" "str" = some false by decide +kernel)
          | bool b => exact kit_ty (show kitB "bool" "str" = some false by decide +kernel)
          | int i => exact kit_ty (show kitB "int" "str" = some false by decide +kernel)
          | list xs => exact kit_ty (show kitB "list" "str" = some false by decide +kernel)
          | tuple xs => exact kit_ty (show kitB "tuple" "str" = some false by decide +kernel)
          | dict kvs => exact kit_ty (show kitB "dict" "str" = some false by decide +kernel)
        have ef : txD ls d = false := by
          cases d with
          | str x => exact absurd ⟨x, rfl⟩ hs
          | _ => rfl
        refine ⟨_, rfl, x1, .ty "str", _, _, false, rfl, .ty _, ty, kf, _, rfl, ?_⟩
        rw [ef]
        exact ⟨rfl, rfl⟩
    · rintro σ H' ⟨rfl, rfl⟩
      have zz := z1.trans s3
      refine ⟨_, rfl, _, rfl, ?_⟩
      cases et : txD ls d with
      | true =>
        refine ⟨some x1, some (.str wd), some (.ref l), some (.bl true), rfl, s3, ?_⟩
        rw [eq, ld, if_neg (fun z => by rw [et] at z; cases z.1)]
      | false =>
        refine ⟨_, rfl, by show 2 ≤ sizeLine; decide, fun t5 ht5 => ⟨t5, _, rfl, .inr (SqT.of upd_same), rfl, by decide +kernel, _, rfl, ?_⟩⟩
        have s5 := s3.trans (same_upd ht5 (.tup [.str "outcome", .str "part"]))
        have inw : inV (.str wd) [.str "outcome", .str "part"] = (["outcome", "part"] : List Str).contains wd := inV_strs wd ["outcome", "part"]
        have ret : ∀ H', Same H1 H' → ((wd = "outcome" ∨ wd = "part") ∨ nmD d = false) → Q (.str wd) H' := fun H' s' c => by
          have r := q H' (z1.trans s')
          rw [eq, ld, if_pos ⟨et, c⟩] at r
          exact r
        have go : ∀ H', Same H1 H' → ¬ ((wd = "outcome" ∨ wd = "part") ∨ nmD d = false) → ∃ (v1 v2 v3 v4 : Option V), [some (V.ref a), some x1, some (.str wd), some (.ref l), some (.bl false)] = [some (.ref a), v1, v2, v3, v4] ∧ Same H1 H' ∧ lw (wsOf so) ds = lw ((wsOf so).drop (i + 1)) (ds.drop (i + 1)) := fun H' s' c =>
          ⟨_, _, _, _, rfl, s', by rw [eq, ld, if_neg (fun z => c z.2)]⟩
        refine ite2 (fun c => ?_) (fun c => ?_)
        · have y : (["outcome", "part"] : List Str).contains wd = true := by
            have c' : inV (.str wd) [.str "outcome", .str "part"] = true := c
            rwa [inw] at c'
          refine ⟨_, rfl, ret _ s5 (.inl ?_)⟩
          rcases List.mem_cons.mp (List.contains_iff_mem.mp y) with h2 | h2
          · exact .inl h2
          · exact .inr (List.mem_singleton.mp h2)
        · have nin : ¬ (wd = "outcome" ∨ wd = "part") := fun z => c (by
            show inV (.str wd) [.str "outcome", .str "part"] = true
            rw [inw]
            rcases z with z | z <;> rw [z] <;> decide +kernel)
          have hv5 := hv.same (z1.trans s5)
          refine ⟨_, rfl, x1, rfl, hv5.any, fun H6 s6 => ⟨_, rfl, ?_⟩⟩
          rw [hv5.nm]
          cases en : nmD d with
          | true => exact go H6 (s5.trans s6) (fun z => z.elim nin (fun z2 => by rw [en] at z2; cases z2))
          | false => exact ⟨_, rfl, ret H6 (s5.trans s6) (.inr en)⟩
  · rintro σ H2 ⟨v1, v2, v3, v4, rfl, s2, eq⟩
    have e : lw (wsOf so) ds = none := by
      rw [eq, hl, List.drop_length]
      rfl
    have r := q H2 (z1.trans s2)
    rw [e] at r
    exact r
end
end My

/-! ## k03: what is refused; the law -/
namespace My
open PySem L2
abbrev s_refused : Stmt := top 27
abbrev N_refused : List Str := ["_law_row_here", "_law_found", "e"]
abbrev P_refused : List Str := ["_law_row_here"]
theorem sc_refused : FnScope N_refused P_refused (defScope s_refused) := ⟨rfl, rfl, rfl, by decide +kernel, rfl, by decide +kernel, by decide +kernel⟩
structure TxRef (w : World) (K : PySem.W.Frag) (mg : Str → Option Value) extends TxLawRow w K mg where
  C_Row : Addr
  m_Row : mg "Row" = some (.ref C_Row)
  ty_Begin : ∀ (H : Hp) (a dx : Addr) (fs : List (Str × V)), H a = some (.ins C_Begin dx fs) → TyX K H (.ref a) (.ref C_Begin)
  ty_Send : ∀ (H : Hp) (a dx : Addr) (fs : List (Str × V)), H a = some (.ins C_Send dx fs) → TyX K H (.ref a) (.ref C_Send)
  ty_Back : ∀ (H : Hp) (a dx : Addr) (fs : List (Str × V)), H a = some (.ins C_Back dx fs) → TyX K H (.ref a) (.ref C_Back)
  ty_End : ∀ (H : Hp) (a dx : Addr) (fs : List (Str × V)), H a = some (.ins C_End dx fs) → TyX K H (.ref a) (.ref C_End)
  kr_Begin : PySem.W.kitOne K (.ref C_Begin) (.ref C_Row) = some true
  kr_Send : PySem.W.kitOne K (.ref C_Send) (.ref C_Row) = some true
  kr_Back : PySem.W.kitOne K (.ref C_Back) (.ref C_Row) = some true
  kr_End : PySem.W.kitOne K (.ref C_End) (.ref C_Row) = some true
  C_TraceError : Addr
  m_TraceError : mg "TraceError" = some (.ref C_TraceError)
  C_InvalidService : Addr
  m_InvalidService : mg "InvalidService" = some (.ref C_InvalidService)
  ke_RT : PySem.W.kitOne K (.ref C_InvalidRow) (.ref C_TraceError) = some true
  ke_RS : PySem.W.kitOne K (.ref C_InvalidRow) (.ref C_InvalidService) = some false
  exRow : ExcC K C_InvalidRow
  xfRow : XfC K C_InvalidRow
  teRow : PySem.W.exmOne K (.ref C_InvalidRow) (.ref C_InvalidRow) = some true
  f_refused : Addr
  d_refused : FuncData
  F_refused : Fun K "_law_refused" "_law_refused" s_refused f_refused d_refused
  m_refused : mg "_law_refused" = some (.ref f_refused)
  b_refused : Binds K d_refused P_refused []
theorem cls_ty {w : World} {K : PySem.W.Frag} {mg : Str → Option Value} (T : TxRef w K mg) (s : Str) {H : Hp} {a dx : Addr} {fs : List (Str × V)} (h : H a = some (.ins (clsOf T.toTxRows s) dx fs)) :
    TyX K H (.ref a) (.ref (clsOf T.toTxRows s)) ∧ PySem.W.kitOne K (.ref (clsOf T.toTxRows s)) (.ref T.C_Row) = some true := by
  revert h
  unfold clsOf
  split
  · exact fun h => ⟨T.ty_Begin _ _ _ _ h, T.kr_Begin⟩
  · split
    · exact fun h => ⟨T.ty_Send _ _ _ _ h, T.kr_Send⟩
    · split
      · exact fun h => ⟨T.ty_Back _ _ _ _ h, T.kr_Back⟩
      · exact fun h => ⟨T.ty_End _ _ _ _ h, T.kr_End⟩
def spRefused (K : PySem.W.Frag) : Sp := fun vs H Q _ => ∃ (a : Addr) (s : Str) (as : List V) (ds : List PyData), vs = [.ref a] ∧ (SqL K H a (.str s :: as) ∨ SqT K H a (.str s :: as)) ∧ as.length = (fnOf s).length ∧ Paired (Dv K H) as ds ∧
  ∀ H', Same H H' → Q (optV (wrOf s ds)) H'
section
variable {P : Program} {w : World} {K : PySem.W.Frag} {mg : Str → Option Value} {base : Heap}
theorem ok_refused (T : TxRef w K mg) (zi : mg "isinstance" = none) : FnOk P w K mg base CX0 6 T.f_refused T.d_refused P_refused (spRefused K) := by
  have G_row : FnOk P w K mg base (L2.CX P w) 5 T.f_row T.d_row P_row (spLawRow T.toTxRows) := ok_row T.toTxLawRow
  refine T.F_refused.ok sc_refused (fun vs H Q E h => ?_) (fun cdv A outer s H vs Q E hr h => ?_)
  · obtain ⟨a, so, as, ds, rfl, _⟩ := h
    rfl
  obtain ⟨a, so, as, ds, rfl, hS, hl, hd, q⟩ := h
  refine ⟨_, (pss_cons (ps_set (i := 1) sc_refused.nd rfl (Or.inl rfl) pe_non)
      (pss_cons (ps_try_as (i := 2) rfl rfl sc_refused.nd rfl rfl ⟨rfl, by decide, .inl T.m_InvalidRow⟩ takes0 (fun W pn xe tk _ => (pss_cons (ps_set (i := 1) sc_refused.nd rfl (Or.inl rfl) (pe_callS G_row (hr.mono (by decide)) (by rfl) T.m_row T.F_row.kp T.b_row (fun σ => passAt tk σ) (pa_cons (pv 0) pa_nil)))
      (pss_one (ps_set (i := 1) sc_refused.nd rfl (Or.inl rfl) (pe_ifExp (pt_val (pe_callB (call_isiV K) (by rfl) T.z_isinstance (by decide +kernel) (pa_cons (pv 1) (pa_cons (pe_glob (v := .ref T.C_Row) (by rfl) T.m_Row rfl) pa_nil)))) pe_non pe_str))))) (fun a oe cls d pn hz hf => (pss_one (ps_set (i := 1) sc_refused.nd rfl (Or.inl rfl) (pe_ifExp (PW.pt (pw_and (pt_val (pe_callB (call_isD hz hf) (by rfl) T.z_isinstance (by decide +kernel) (pa_cons (pv 2) (pa_cons (pe_glob (v := .ref T.C_TraceError) (by rfl) T.m_TraceError rfl) pa_nil)))) (pw_and1 (pt_not (pt_val (pe_callB (call_isD hz hf) (by rfl) T.z_isinstance (by decide +kernel) (pa_cons (pv 2) (pa_cons (pe_glob (v := .ref T.C_InvalidService) (by rfl) T.m_InvalidService rfl) pa_nil)))))))) (pe_xf T.xfRow T.nwRow hz hf (pv 2)) pe_str)))))
      (pss_one (ps_ret (pv 1))))), ?_⟩
  refine ⟨_, rfl, a, so, as, ds, rfl, hS, hl, hd, fun p dx H1 e1 s1 n1 hp => ?_, fun wd d H1 e1 s1 n1 hx => ?_⟩
  · obtain ⟨ty, kr⟩ := cls_ty T so hp
    refine ⟨_, rfl, _, .ref T.C_Row, _, _, true, rfl, .own _, ty, kr, _, rfl, ?_⟩
    have r := q H1 s1
    rw [e1] at r
    exact ⟨_, rfl, r⟩
  · refine ⟨true, T.teRow, fun _ a0 na => ?_, fun z => nomatch z⟩
    have r := q H1 s1
    rw [e1] at r
    refine ⟨_, rfl, T.C_InvalidRow, d, _, .ref T.C_TraceError, _, true, rfl, rfl, rfl, hx, T.exRow, fun u h => h, T.ke_RT, _, rfl, ?_⟩
    refine ⟨_, rfl, T.C_InvalidRow, d, _, .ref T.C_InvalidService, _, false, rfl, rfl, rfl, hx, T.exRow, fun u h => h, T.ke_RS, _, rfl, ?_⟩
    exact ⟨_, rfl, rfl, rfl, d, _, _, rfl, hx, rfl, _, rfl, r⟩
end
end My

/-! ## What the laws' loops share -/
namespace My
open PySem L2
theorem gr_same {b : Addr} {H H1 H2 : Hp} {o : HO} (s : Same H H1) (n : H1 b = none) (g : Gr b (upd H1 b o) H2) : Same H H2 := fun a u e => by
  have na : a ≠ b := fun z => by
    have z1 := s a u e
    rw [z, n] at z1
    cases z1
  exact g.keep a u na (by rw [upd_ne na]; exact s a u e)
theorem gr_box {b : Addr} {H1 : Hp} {w s c : Int} : Gr b (upd H1 b (bx w s c)) (upd H1 b (bx w s c)) := ⟨fun _ _ _ e => e, w, s, c, upd_same⟩
theorem gr_self {b : Addr} {H H' : Hp} (g : Gr b H H') : Gr b H' H' := ⟨fun _ _ _ e => e, g.box⟩
/-- max(1, min(n, len)) -/
theorem many_turns {n : Int} {l : Nat} (h : 1 ≤ n) (hn : n ≤ 10) : let m : Int := if (l : Int) < n then (l : Int) else n
    let t : Int := if m > 1 then m else 1
    1 ≤ t ∧ t ≤ n := by
  intro m t
  constructor
  · show 1 ≤ (if m > 1 then m else 1)
    split <;> omega
  · show (if m > 1 then m else 1) ≤ n
    have : m ≤ n := by
      show (if (l : Int) < n then (l : Int) else n) ≤ n
      split <;> omega
    split <;> omega
theorem dec_opt (x y : Option Str) : decide (optV x = optV y) = decide (x = y) := by
  cases x <;> cases y <;> simp [optV]
theorem scal_opt (x y : Option Str) : scal (optV x) (optV y) = true := by
  cases x <;> cases y <;> rfl
/-- the two readings of a row agree -/
theorem lw_wr {s : Str} (hs : s ∈ SORTS) {ds : List PyData} (hl : ds.length = (wsOf s).length) : lw (wsOf s) ds = wrOf s ds := by
  have t0 : ∀ d, txD [] d = false := fun d => by cases d <;> rfl
  simp only [SORTS, List.mem_cons, List.not_mem_nil, or_false] at hs
  rcases hs with rfl | rfl | rfl | rfl
  · match ds, hl with
    | [a, b, c], _ =>
      show lw ws_begin [a, b, c] = wBegin [a, b, c]
      simp only [ws_begin, lw, wBegin, t0]
      cases nmD a <;> cases txD ["none", "any"] a <;> cases nmD b <;> cases txD ["any"] b <;> cases nmD c <;> first | rfl | decide +kernel
  · match ds, hl with
    | [a, b, c], _ =>
      show lw ws_send [a, b, c] = wSend [a, b, c]
      simp only [ws_send, lw, wSend]
      cases nmD a <;> cases txD ["any"] a <;> cases nmD b <;> cases txD ["any"] b <;> cases nmD c <;> cases txD ["none", "same"] c <;> first | rfl | decide +kernel
  · match ds, hl with
    | [a, b, c, d], _ =>
      show lw ws_back [a, b, c, d] = wBack [a, b, c, d]
      simp only [ws_back, lw, wBack]
      cases nmD a <;> cases txD ["any"] a <;> cases nmD b <;> cases txD ["any"] b <;> cases nmD c <;> cases txD ["none", "any"] c <;> cases nmD d <;> cases txD ["same"] d <;> first | rfl | decide +kernel
  · match ds, hl with
    | [a, b, c, d], _ =>
      show lw ws_end [a, b, c, d] = wEnd [a, b, c, d]
      simp only [ws_end, lw, wEnd]
      cases nmD a <;> cases txD ["any"] a <;> cases nmD b <;> cases txD ["good", "bad", "any"] b <;> cases nmD c <;> cases txD ["none"] c <;> cases nmD d <;> cases txD ["keep", "drop"] d <;> first | rfl | decide +kernel
theorem fn_ws : ∀ s ∈ SORTS, (fnOf s).length = (wsOf s).length := by decide +kernel
end My

/-! ## k03: the law itself -/
namespace My
open PySem L2
abbrev s_law : Stmt := top 28
abbrev N_law : List Str := ["_law_script", "_law_k", "_law_box_here", "_law_names_here", "_law_pools", "_law_word", "_law_turn", "_law_row_here", "_law_more", "_law_odd"]
abbrev P_law : List Str := ["_law_script"]
theorem sc_law : FnScope N_law P_law (defScope s_law) := ⟨rfl, rfl, rfl, by decide +kernel, rfl, by decide +kernel, by decide +kernel⟩
structure TxLaw3 (w : World) (K : PySem.W.Frag) (mg : Str → Option Value) extends TxRef w K mg, TxWrong w K mg, TxAny w K mg where
  z_max : mg "max" = none
  z_min : mg "min" = none
  z_dict : mg "dict" = none
  f_law : Addr
  d_law : FuncData
  F_law : Fun K "law" "law" s_law f_law d_law
def spLaw (K : PySem.W.Frag) : Sp := fun vs H Q _ => ∃ (a : Addr) (ns : List Int), vs = [.ref a] ∧ SqL K H a (ns.map V.int) ∧ ns.length ≤ 63 ∧ ∀ H', Q (.bl true) H'
theorem DaAll.len {ok : Addr → Prop} {H : Hp} : ∀ {vs : List V} {ds : List PyData}, DaAll ok H vs ds → ds.length = vs.length
  | _, _, .nil => rfl
  | _, _, .cons _ t => by rw [List.length_cons, List.length_cons, DaAll.len t]
theorem DaAll.put {ok : Addr → Prop} {H : Hp} {v : V} {d : PyData} : ∀ {vs : List V} {ds : List PyData} (j : Nat), DaAll ok H vs ds → Da ok H v d → DaAll ok H (vs.set j v) (ds.set j d)
  | _, _, _, .nil, _ => .nil
  | _, _, 0, .cons _ t, h => .cons h t
  | _, _, j + 1, .cons a t, h => .cons a (DaAll.put j t h)
theorem DaAll.strs {ok : Addr → Prop} {H : Hp} : ∀ l : List Str, DaAll ok H (l.map V.str) (l.map PyData.str)
  | [] => .nil
  | x :: l => .cons (.str x) (DaAll.strs l)
theorem DaAll.dvs {K : PySem.W.Frag} {ok : Addr → Prop} {H : Hp} {k : Nat} (hk : k ≤ 60) : ∀ {vs : List V} {ds : List PyData}, DaAll ok H vs ds → (∀ d ∈ ds, GoodD k d) → Paired (Dv K H) vs ds
  | _, _, .nil, _ => .nil
  | _, _, .cons h t, g => .cons (h.dv (g _ List.mem_cons_self) hk) (DaAll.dvs hk t fun d hd => g d (List.mem_cons_of_mem _ hd))
theorem paired_len {α β : Type} {R : α → β → Prop} : ∀ {xs : List α} {ys : List β}, Paired R xs ys → xs.length = ys.length
  | _, _, .nil => rfl
  | _, _, .cons _ t => by rw [List.length_cons, List.length_cons, paired_len t]
theorem sort_in : ∀ k < 4, SORTS.getD k Str.empty ∈ SORTS := by decide +kernel
theorem abc_lt : ∀ c ∈ ABC.cps.toList, c < 0x110000 := by decide +kernel
theorem isNm_ok {x : Str} (h : isNm x = true) : okS x = true := by
  have l := (isNm_len h).2
  unfold isNm at h
  have h4 := (Bool.and_eq_true_iff.mp h).2
  unfold okS
  rw [Bool.and_eq_true_iff]
  refine ⟨decide_eq_true (by omega), ?_⟩
  unfold PyData.strOk
  rw [← Array.all_toList, List.all_eq_true]
  intro c hc
  exact decide_eq_true (abc_lt c (of_decide_eq_true (List.all_eq_true.mp h4 c hc)))
theorem ws_len : ∀ s ∈ SORTS, 3 ≤ (wsOf s).length := by decide +kernel
theorem ws_ok : ∀ s ∈ SORTS, ∀ w ∈ wsOf s, w.2.all okS = true := by decide +kernel
theorem paired_mem {α β : Type} {R : α → β → Prop} {x : α} : ∀ {xs : List α} {ys : List β}, Paired R xs ys → x ∈ xs → ∃ y ∈ ys, R x y
  | _, _, .nil, h => nomatch h
  | _, _, .cons r t, h => by
    rcases List.mem_cons.mp h with h | h
    · subst h
      exact ⟨_, List.mem_cons_self, r⟩
    · obtain ⟨y, h1, h2⟩ := paired_mem t h
      exact ⟨y, List.mem_cons_of_mem _ h1, h2⟩
theorem fit_ok {y : Str} {w : Str × List Str} (hw : w.2.all okS = true) (h : fitW y w) : okS y = true := by
  rcases h with h | h
  · exact List.all_eq_true.mp hw y h
  · exact isNm_ok h.2.2
theorem paired_imp {α β : Type} {R S : α → β → Prop} (h : ∀ x y, R x y → S x y) : ∀ {xs : List α} {ys : List β}, Paired R xs ys → Paired S xs ys
  | _, _, .nil => .nil
  | _, _, .cons r t => .cons (h _ _ r) (paired_imp h t)
theorem paired_map {α β γ : Type} {R : α → β → Prop} {S : α → γ → Prop} {f : β → γ} (h : ∀ x y, R x y → S x (f y)) : ∀ {xs : List α} {ys : List β}, Paired R xs ys → Paired S xs (ys.map f)
  | _, _, .nil => .nil
  | _, _, .cons r t => .cons (h _ _ r) (paired_map h t)
theorem pool_at (x : Str) (hx : x ∈ POOLW) (nl : Addr) : valV (mergeK [] (POOLW.map fun x => ((Sum.inr x : Key), V.ref nl))) (Sum.inr x) = some (.ref nl) := by
  simp only [POOLW, List.mem_cons, List.not_mem_nil, or_false] at hx
  rcases hx with rfl | rfl | rfl | rfl | rfl <;> rfl
def ODDW : List Str := ["sign", "sign", "mark", "mark", "sign"]
def ODD1 : List Str := ["any", "any", "any", "keep"]
def ODD2 : List Str := ["any", "any", "same", "keep"]
def ODD3 : List Str := ["same", "any", "zx"]
def ODD4 : List Str := ["any", "any", "any"]
def ODD5 : List Str := ["any", "any", "same", "same"]
theorem ODDW_eq : PyData.eqv (.list (ODDW.map PyData.str)) (.list (ODDW.map PyData.str)) = true := by decide +kernel
/-- at p stands a row that is refused with the word wd -/
def OddAt (H : Hp) (p : Addr) (wd : Str) : Prop := ∃ (so : Str) (ws : List Str), H p = some (.tup (.str so :: ws.map V.str)) ∧ wrOf so (ws.map PyData.str) = some wd ∧ ws.length = (fnOf so).length ∧ ws.all okS = true
theorem odd_at {H : Hp} {p : Addr} {wd so : Str} {ws : List Str} (h : H p = some (.tup (.str so :: ws.map V.str))) (h1 : wrOf so (ws.map PyData.str) = some wd) (h2 : ws.length = (fnOf so).length) (h3 : ws.all okS = true) : OddAt H p wd := ⟨so, ws, h, h1, h2, h3⟩
theorem upd_at {H : Hp} {a p : Addr} {o u : HO} (h : H a = some o) (n : a ≠ p) : upd H p u a = some o := by
  rw [upd_ne n]
  exact h
section
variable {P : Program} {w : World} {K : PySem.W.Frag} {mg : Str → Option Value} {base : Heap}
theorem ok_law3 (T : TxLaw3 w K mg) : FnOk P w K mg base CX0 7 T.f_law T.d_law P_law (spLaw K) := by
  have G_box : FnOk P w K mg base CX0 1 T.f_box T.d_box P_box (spBox K) := ok_box T.toTxDraw
  have G_take : FnOk P w K mg base CX0 1 T.f_take T.d_take P_take spTakeG := ok_takeG T.toTxDraw
  have G_names : FnOk P w K mg base CX0 3 T.f_names T.d_names P_names spNames := ok_names T.toTxNames
  have G_drawn_row : FnOk P w K mg base CX0 3 T.f_drawn_row T.d_drawn_row P_drawn_row spDrawn := ok_drawn T.toTxDrawn
  have G_any : FnOk P w K mg base CX0 5 T.f_any T.d_any P_any (spAny 2) := ok_any T.toTxAny 2
  have G_refused : FnOk P w K mg base CX0 6 T.f_refused T.d_refused P_refused (spRefused K) := ok_refused T.toTxRef T.z_isinstance
  have G_wrong : FnOk P w K mg base CX0 2 T.f_wrong T.d_wrong P_wrong (spWrong K) := ok_wrong T.toTxWrong
  refine T.F_law.ok sc_law (fun vs H Q E h => ?_) (fun cdv A outer s H vs Q E hr h => ?_)
  · obtain ⟨a, ns, rfl, _⟩ := h
    rfl
  obtain ⟨a, ns, rfl, hS, h63, q⟩ := h
  refine ⟨_, (pss_cons (ps_for PassesOwn.never rfl (pi_range1 (by rfl) T.z_range (pa_cons (pe_callB (call_max2 rfl) (by rfl) T.z_max (by decide +kernel) (pa_cons pe_int (pa_cons (pe_callB (call_min2 rfl) (by rfl) T.z_min (by decide +kernel) (pa_cons pe_int (pa_cons (pe_callB (call_lenK K) (by rfl) T.z_len (by decide +kernel) (pa_cons (pv 0) pa_nil)) pa_nil))) pa_nil))) pa_nil)) (pg_name (i := 1) sc_law.nd rfl (Or.inl rfl)) (pss_cons (ps_set (i := 2) sc_law.nd rfl (Or.inl rfl) (pe_call G_box (hr.mono (by decide)) (by rfl) T.m_box T.F_box.kp T.b_box .nil pass0 (pa_cons (pv 0) (pa_cons (pv 1) pa_nil))))
      (pss_cons (ps_set (i := 3) sc_law.nd rfl (Or.inr rfl) (pe_call G_names (hr.mono (by decide)) (by rfl) T.m_names T.F_names.kp T.b_names .nil pass0 (pa_cons (pv 2) (pa_cons pe_int pa_nil))))
      (pss_cons (ps_set (i := 4) sc_law.nd rfl (Or.inl rfl) (pe_callTy (call_dictP rfl) (by rfl) T.z_dict (by decide +kernel) (pa_cons (pe_lc (own := [("_law_word", 5)]) (g := gName 5) (by rfl) sc_law.nd (pi_tupK K (pe_tup (pa_cons pe_str (pa_cons pe_str (pa_cons pe_str (pa_cons pe_str (pa_cons pe_str pa_nil))))))) (blkOk_by (own := [("_law_word", 5)]) (N := N_law) (sc := defScope s_law) (by decide +kernel)) (fun _ _ _ _ _ => (pg_name (i := 5) sc_law.nd rfl (Or.inl rfl))) (fun _ _ _ _ _ => pts_nil) (fun _ _ _ _ _ => (pe_tup (pa_cons (pv 5) (pa_cons (pv 3) pa_nil))))) pa_nil)))
      (pss_one (ps_for PassesOwn.never rfl (pi_range1 (by rfl) T.z_range (pa_cons pe_int pa_nil)) (pg_name (i := 6) sc_law.nd rfl (Or.inl rfl)) (pss_cons (ps_set (i := 7) sc_law.nd rfl (Or.inl rfl) (pe_callTy (call_listK K) (by rfl) T.z_list (by decide +kernel) (pa_cons (pe_call G_drawn_row (hr.mono (by decide)) (by rfl) T.m_drawn_row T.F_drawn_row.kp T.b_drawn_row .nil pass0 (pa_cons (pv 2) (pa_cons (pe_ix (ix_listK K) (pe_lst (pa_cons pe_str (pa_cons pe_str (pa_cons pe_str (pa_cons pe_str pa_nil))))) (pe_op op_mod (pe_callTy call_int1 (by rfl) T.z_int (by decide +kernel) (pa_cons (pv 6) pa_nil)) pe_int) (fun _ _ => rfl)) (pa_cons (pv 4) pa_nil)))) pa_nil)))
      (pss_cons (ps_for PassesOwn.never rfl (pi_range1 (by rfl) T.z_range (pa_cons (pe_call G_take (hr.mono (by decide)) (by rfl) T.m_take T.F_take.kp T.b_take .nil pass0 (pa_cons (pv 2) (pa_cons pe_int pa_nil))) pa_nil)) (pg_name (i := 8) sc_law.nd rfl (Or.inl rfl)) (pss_one (ps_asg (pe_call G_any (hr.mono (by decide)) (by rfl) T.m_any T.F_any.kp T.b_any .nil pass0 (pa_cons (pv 2) (pa_cons pe_int pa_nil))) (pg_sub (pv 7) (pe_op op_add pe_int (pe_call G_take (hr.mono (by decide)) (by rfl) T.m_take T.F_take.kp T.b_take .nil pass0 (pa_cons (pv 2) (pa_cons (pe_op op_sub (pe_callB (call_lenK K) (by rfl) T.z_len (by decide +kernel) (pa_cons (pv 7) pa_nil)) pe_int) pa_nil)))) set_list))))
      (pss_one (ps_if (pt_cmpR op_ne (pe_call G_refused (hr.mono (by decide)) (by rfl) T.m_refused T.F_refused.kp T.b_refused .nil pass0 (pa_cons (pv 7) pa_nil)) (pe_call G_wrong (hr.mono (by decide)) (by rfl) T.m_wrong T.F_wrong.kp T.b_wrong .nil pass0 (pa_cons (pv 7) pa_nil)) (nomark _)) (pss_one (ps_ret pe_bl)) pss_nil))))))))))
      (pss_cons (ps_set (i := 9) sc_law.nd rfl (Or.inl rfl) (pe_lst (pa_cons (pe_tup (pa_cons pe_str (pa_cons pe_str (pa_cons pe_str (pa_cons pe_str (pa_cons pe_str pa_nil)))))) (pa_cons (pe_tup (pa_cons pe_str (pa_cons pe_str (pa_cons pe_str (pa_cons pe_str (pa_cons pe_str pa_nil)))))) (pa_cons (pe_tup (pa_cons pe_str (pa_cons pe_str (pa_cons pe_str (pa_cons pe_str pa_nil))))) pa_nil)))))
      (pss_cons (ps_expr (pe_bm PySem.F.plainAttrs_list PySem.F.slot_list_extend PySem.F.type_list_extend mt_extend (pv 9) (pa_cons (pe_lst (pa_cons (pe_tup (pa_cons pe_str (pa_cons pe_str (pa_cons pe_str (pa_cons pe_str pa_nil))))) (pa_cons (pe_tup (pa_cons pe_str (pa_cons pe_str (pa_cons pe_str (pa_cons pe_str (pa_cons pe_str pa_nil)))))) pa_nil))) pa_nil)))
      (pss_one (ps_ret (pe_cmpR (op_eqDK K hr.units) (pe_lc (own := [("_law_row_here", 7)]) (g := gName 7) (by rfl) sc_law.nd (pi_listK K (pv 9)) (blkOk_by (own := [("_law_row_here", 7)]) (N := N_law) (sc := defScope s_law) (by decide +kernel)) (fun _ _ _ _ _ => (pg_name (i := 7) sc_law.nd rfl (Or.inl rfl))) (fun _ _ _ _ _ => pts_nil) (fun _ _ _ _ _ => (pe_call G_refused (hr.mono (by decide)) (by rfl) T.m_refused T.F_refused.kp T.b_refused .nil pass0 (pa_cons (pv 7) pa_nil)))) (pe_lst (pa_cons pe_str (pa_cons pe_str (pa_cons pe_str (pa_cons pe_str (pa_cons pe_str pa_nil)))))) (nomark _))))))), ?_⟩
  obtain ⟨mt1, mt2⟩ := many_turns (n := 5) (l := (ns.map V.int).length) (by decide) (by decide)
  refine ⟨_, rfl, _, _, rfl, .inl hS, _, _, rfl, _, _, rfl, _, rfl, by omega, by omega, for_range (lo := 0) (fun i σ H' => ∃ (v1 v2 v3 v4 v5 v6 v7 v8 v9 : Option V), σ = [some (.ref a), v1, v2, v3, v4, v5, v6, v7, v8, v9] ∧ Same H H') ⟨none, none, none, none, none, none, none, none, none, rfl, Same.refl _⟩ ?_ ?_⟩
  · rintro i0 σ H1 hi ⟨v1, v2, v3, v4, v5, v6, v7, v8, v9, rfl, s1⟩
    refine ⟨_, rfl, _, rfl, a, ns, _, rfl, s1.seq hS, h63, by omega, fun b bw bs hb => ?_⟩
    refine ⟨_, rfl, b, 3, rfl, gr_box, by decide, by decide, fun nl ys H2 g2 nl0 aN ylen ynd ynm => ?_⟩
    refine ⟨by show 5 ≤ sizeLine; decide, fun tp htp => ⟨tp, rfl, ⟨POOLW.map V.str, SqT.of upd_same⟩, fun D hD => ?_⟩⟩
    have g3 := g2.new htp (.tup (POOLW.map V.str))
    have r3 := gr_self g3
    have atp : At b _ tp (.tup (POOLW.map V.str)) := .mk_new g2 htp _
    have nDb : D ≠ b := g3.ne_new hD
    refine lc_tup (K := K) (a := tp) (xs := POOLW.map V.str) (fun i H' => Gr b (upd H2 tp (.tup (POOLW.map V.str))) H' ∧ ∃ ps : List Addr, H' D = some (.lst (ps.map V.ref)) ∧ ps.length = i ∧ Paired (fun p w => H' p = some (.tup [.str w, .ref nl]) ∧ p ≠ b ∧ p ≠ D) ps (POOLW.take i))
      ⟨r3.new hD _, [], upd_same, rfl, .nil⟩ (fun i H' _ h => (atp.gr h.1).t) ?_ ?_
    · rintro j x H4 hx ⟨g4, ps, hD4, pl, prs⟩
      rw [List.getElem?_map] at hx
      obtain ⟨w1, hw1, rfl⟩ : ∃ w1, POOLW[j]? = some w1 ∧ V.str w1 = x := by
        cases e : POOLW[j]? with
        | none => rw [e] at hx; cases hx
        | some z => rw [e] at hx; cases hx; exact ⟨z, rfl, rfl⟩
      have j5 : j < 5 := (List.getElem?_eq_some_iff.mp hw1).1
      refine ⟨rfl, ?_⟩
      refine ⟨_, rfl, _, rfl, by show 2 ≤ sizeLine; decide, fun t ht => ?_⟩
      have nt : D ≠ t := ne_of_none hD4 ht
      have ntb := g4.ne_new ht
      refine ⟨ps.map V.ref, by rw [upd_ne nt]; exact hD4, small1000 (by simp; omega), (g4.new ht _).mut hD nDb _, ps ++ [t], by rw [upd_same, List.map_append]; rfl, by rw [List.length_append, pl]; rfl, ?_⟩
      rw [List.take_add_one, hw1]
      refine paired_snoc (paired_imp (fun p w h => ⟨?_, h.2⟩) prs) ⟨by rw [upd_ne nt.symm, upd_same], ntb, nt.symm⟩
      rw [upd_ne h.2.2, upd_ne (ne_of_none h.1 ht)]
      exact h.1
    · rintro H4 ⟨g4, ps, hD4, pl, prs⟩
      refine ⟨D, ps, POOLW.map fun x => (Sum.inr x, .ref nl), rfl, SqL.of hD4, ?_, fun pd hpd => ?_⟩
      · have pr5 : Paired (fun (p : Addr) w => H4 p = some (.tup [.str w, .ref nl]) ∧ p ≠ b ∧ p ≠ D) ps POOLW := prs
        exact paired_map (S := fun (p : Addr) (kv : Key × V) => SqT K H4 p [kV kv.1, kv.2]) (f := fun x => (Sum.inr x, .ref nl)) (fun p w h => SqT.of h.1) pr5
      have g5 := g4.new hpd (.dK (mergeK [] (POOLW.map fun x => (Sum.inr x, .ref nl))))
      have aN5 : At b _ nl (.lst (ys.map V.str)) := ((aN.new (u := .tup (POOLW.map V.str)) htp).gr g4).new (u := .dK (mergeK [] (POOLW.map fun x => (Sum.inr x, .ref nl)))) hpd
      have pools : Pools b _ pd (fun _ => ys) := ⟨⟨_, .mk_new g4 hpd _, fun x hx => ⟨nl, pool_at x hx nl, aN5⟩⟩, fun x hx => ⟨fun z => by rw [z] at ylen; exact absurd ylen (by decide), by omega, ynm⟩⟩
      generalize upd H4 pd (.dK (mergeK [] (POOLW.map fun x => (Sum.inr x, .ref nl)))) = H5 at g5 aN5 pools
      have r5 := gr_self g5
      have s5 : ∀ H', Gr b H5 H' → Same H H' := fun H' g => s1.trans (gr_same (Same.refl _) hb ((g2.new htp _).trans (g5.trans g)))
      refine ⟨20, rfl, by decide, by decide, for_range (lo := 0) (fun i σ H' => ∃ (v5 v6 v7 v8 v9 : Option V), σ = [some (.ref a), some (.int (0 + (i0 : Int))), some (.ref b), some (.ref nl), some (.ref pd), v5, v6, v7, v8, v9] ∧ Gr b H5 H') ⟨v5, v6, v7, v8, v9, rfl, r5⟩ ?_ ?_⟩
      · rintro j σ H6 hj ⟨v5, v6, v7, v8, v9, rfl, g6⟩
        have r6 := gr_self g6
        refine ⟨_, rfl, by show 4 ≤ sizeLine; decide, fun sl hsl => ⟨_, rfl, .inl ⟨_, rfl, _, _, rfl, rfl, (by show (0 : Int) < _; decide), sl, SORTS.map V.str, _, _, rfl, rfl, SqL.of upd_same, at_getD (l := SORTS) (Int.emod_nonneg _ (by decide)) (Int.emod_lt_of_pos _ (by decide)), _, rfl, ?_⟩⟩⟩
        have hso := sort_in ((0 + (j : Int)) % 4).toNat (by omega)
        generalize SORTS.getD ((0 + (j : Int)) % 4).toNat Str.empty = so at hso ⊢
        have g7 := r6.new hsl (.lst (SORTS.map V.str))
        refine ⟨b, pd, so, fun _ => ys, rfl, gr_self g7, hso, (pools.gr g6).gr g7, fun rp ws H8 g8 hrp aP pr => ?_⟩
        refine ⟨rp, _, rfl, .inr aP.t, fun rl hrl => ?_⟩
        have g68 := g7.trans g8
        have g9 := g68.new hrl (.lst (.str so :: ws.map V.str))
        have nrb : rl ≠ b := g68.ne_new hrl
        have rl0 : H6 rl = none := g68.free hrl
        have wl : ws.length = (wsOf so).length := paired_len pr
        have w4 := (wsOf_good so hso).2
        have w3 := ws_len so hso
        have wg : ∀ d ∈ ws.map PyData.str, GoodD 3 d := fun d hd => by
          obtain ⟨y, hy, rfl⟩ := List.mem_map.mp hd
          obtain ⟨w1, hw1, fw⟩ := paired_mem pr hy
          exact GoodD.str (fit_ok (ws_ok so hso w1 hw1) fw)
        refine ⟨_, rfl, b, 4, rfl, gr_self g9, by decide, by decide, fun m H10 m0 m1 g10 => ⟨m, rfl, by omega, by omega, for_range (lo := 0) (n := m.toNat) (fun i σ H' => ∃ (v5 v8 v9 : Option V) (as : List V) (ds : List PyData), σ = [some (.ref a), some (.int (0 + (i0 : Int))), some (.ref b), some (.ref nl), some (.ref pd), v5, some (.int (0 + (j : Int))), some (.ref rl), v8, v9] ∧ Gr b H6 H' ∧
          H' rl = some (.lst (.str so :: as)) ∧ DaAll (fun a => a ≠ b ∧ a ≠ rl) H' as ds ∧ as.length = (wsOf so).length ∧ ∀ d ∈ ds, GoodD 3 d) ⟨v5, v8, v9, ws.map V.str, ws.map PyData.str, rfl, g9.trans g10, g10.keep rl _ nrb upd_same, DaAll.strs ws, by rw [List.length_map]; exact wl, wg⟩ ?_ ?_⟩⟩
        · rintro e σ H11 he ⟨v5, v8, v9, as, ds, rfl, g11, hrl11, hda, hal, hgd⟩
          refine ⟨_, rfl, b, rfl, gr_self g11, fun v d H12 g12 hv gd => ?_⟩
          have rl12 := g12.keep rl _ nrb hrl11
          refine ⟨_, rfl, _, rfl, _, rfl, _, _, rfl, .inl (SqL.of rl12), _, _, rfl, rfl, b, _, rfl, gr_self g12, by rw [List.length_cons]; omega, by rw [List.length_cons]; omega, fun dd H13 d0 d1 g13 => ?_⟩
          rw [List.length_cons] at d1
          refine ⟨_, _, rfl, rfl, rl, .str so :: as, 1 + dd, dd.toNat + 1, rfl, rfl, g13.keep rl _ nrb rl12, ?_, ?_⟩
          · rw [List.length_cons]
            unfold ixN
            rw [if_pos (by omega), if_pos (by omega)]
            congr 1
            omega
          · obtain ⟨bw1, bs1, bc1, hb11⟩ := g11.box
            refine ⟨v5, _, v9, as.set dd.toNat v, ds.set dd.toNat d, rfl, (g11.trans (g12.trans g13)).mut rl0 nrb _, upd_same, ?_, by rw [List.length_set]; exact hal, fun y hy => ?_⟩
            · refine DaAll.put _ (DaAll.mono (fun a h => h) (fun c o h k => ?_) ds as hda) (Da.mono (fun c h => ⟨fun z => (by rw [z, hb11] at h; cases h), fun z => (by rw [z, hrl11] at h; cases h)⟩) (fun c o h k => ?_) d v hv)
              · rw [upd_ne h.2]
                exact g13.keep c o h.1 (g12.keep c o h.1 k)
              · rw [upd_ne (fun z => by rw [z, hrl11] at h; cases h)]
                exact g13.keep c o (fun z => by rw [z, hb11] at h; cases h) k
            · rcases List.mem_or_eq_of_mem_set hy with hy | hy
              · exact hgd y hy
              · rw [hy]
                exact gd
        · rintro σ H11 ⟨v5, v8, v9, as, ds, rfl, g11, hrl11, hda, hal, hgd⟩
          have pv : Paired (Dv K H11) as ds := DaAll.dvs (by decide) hda hgd
          obtain ⟨bw1, bs1, bc1, hb11⟩ := g11.box
          refine ⟨_, rfl, rl, so, as, ds, rfl, .inl (SqL.of hrl11), by rw [hal]; exact (fn_ws so hso).symm, pv, fun H12 s12 => ?_⟩
          refine ⟨_, rfl, rl, so, as, ds, rfl, SqL.of (s12 _ _ hrl11), hal, by omega, paired_dv s12 pv, fun H13 s13 => ?_⟩
          have e : (!decide (optV (wrOf so ds) = optV (lw (wsOf so) ds))) = false := by
            rw [dec_opt, lw_wr hso (by rw [hda.len, hal])]
            simp
          refine ⟨scal_opt _ _, _, rfl, ite2 (fun c => ?_) (fun _ => ?_)⟩
          · rw [e] at c
            cases c
          · exact ⟨_, _, _, _, _, rfl, g6.trans (g11.trans (Same.gr (s12.trans s13) hb11))⟩
      · rintro σ H6 ⟨v5, v6, v7, v8, v9, rfl, g6⟩
        exact ⟨_, _, _, _, _, _, _, _, _, rfl, s5 H6 g6⟩
  · rintro σ H1 ⟨v1, v2, v3, v4, v5, v6, v7, v8, v9, rfl, s1⟩
    refine ⟨by show 5 ≤ sizeLine; decide, fun t1 ht1 => ⟨by show 5 ≤ sizeLine; decide, fun t2 ht2 => ⟨by show 4 ≤ sizeLine; decide, fun t3 ht3 => ⟨by show 3 ≤ sizeLine; decide, fun ol hol => ?_⟩⟩⟩⟩
    refine ⟨_, rfl, .inl ⟨rfl, _, SqL.of upd_same⟩, by show 4 ≤ sizeLine; decide, fun t4 ht4 => ⟨by show 5 ≤ sizeLine; decide, fun t5 ht5 => ⟨by show 2 ≤ sizeLine; decide, fun o2 ho2 => ?_⟩⟩⟩
    have y7 := same_upd ho2 (.lst [.ref t4, .ref t5])
    have f5 := y7 _ _ (upd_same (a := t5))
    have y6 := (same_upd ht5 (.tup (("back" :: ODD5 : List Str).map V.str))).trans y7
    have f4 := y6 _ _ (upd_same (a := t4))
    have y5 := (same_upd ht4 (.tup (("send" :: ODD4 : List Str).map V.str))).trans y6
    have fo := y5 _ _ (upd_same (a := ol))
    have y4 := (same_upd hol (.lst [.ref t1, .ref t2, .ref t3])).trans y5
    have f3 := y4 _ _ (upd_same (a := t3))
    have y3 := (same_upd ht3 (.tup (("begin" :: ODD3 : List Str).map V.str))).trans y4
    have f2 := y3 _ _ (upd_same (a := t2))
    have f1 := y3 _ _ ((same_upd ht2 (.tup (("end" :: ODD2 : List Str).map V.str))) _ _ (upd_same (a := t1)))
    refine ⟨ol, o2, _, _, rfl, rfl, fo, upd_same, by show 5 ≤ sizeLine; decide, ?_⟩
    have n1 : t1 ≠ ol := ne_of f1 fo (by intro q; cases q)
    have n2 : t2 ≠ ol := ne_of f2 fo (by intro q; cases q)
    have n3 : t3 ≠ ol := ne_of f3 fo (by intro q; cases q)
    have n4 : t4 ≠ ol := ne_of f4 fo (by intro q; cases q)
    have n5 : t5 ≠ ol := ne_of f5 fo (by intro q; cases q)
    have e1 := odd_at (wd := "sign") (so := "end") (ws := ODD1) (upd_at (u := .lst ([.ref t1, .ref t2, .ref t3] ++ [.ref t4, .ref t5])) f1 n1) (by decide +kernel) (by decide +kernel) (by decide +kernel)
    have e2 := odd_at (wd := "sign") (so := "end") (ws := ODD2) (upd_at (u := .lst ([.ref t1, .ref t2, .ref t3] ++ [.ref t4, .ref t5])) f2 n2) (by decide +kernel) (by decide +kernel) (by decide +kernel)
    have e3 := odd_at (wd := "mark") (so := "begin") (ws := ODD3) (upd_at (u := .lst ([.ref t1, .ref t2, .ref t3] ++ [.ref t4, .ref t5])) f3 n3) (by decide +kernel) (by decide +kernel) (by decide +kernel)
    have e4 := odd_at (wd := "mark") (so := "send") (ws := ODD4) (upd_at (u := .lst ([.ref t1, .ref t2, .ref t3] ++ [.ref t4, .ref t5])) f4 n4) (by decide +kernel) (by decide +kernel) (by decide +kernel)
    have e5 := odd_at (wd := "sign") (so := "back") (ws := ODD5) (upd_at (u := .lst ([.ref t1, .ref t2, .ref t3] ++ [.ref t4, .ref t5])) f5 n5) (by decide +kernel) (by decide +kernel) (by decide +kernel)
    refine ⟨_, rfl, ol, rfl, ⟨_, SqL.of upd_same⟩, fun D hD => ?_⟩
    have odd : ∀ (j : Nat) (x : V), ([.ref t1, .ref t2, .ref t3] ++ [.ref t4, .ref t5] : List V)[j]? = some x → ∃ (p : Addr) (wd : Str), x = .ref p ∧ ODDW[j]? = some wd ∧ OddAt _ p wd := fun j x h => by
      match j, h with
      | 0, h => cases h; exact ⟨t1, _, rfl, rfl, e1⟩
      | 1, h => cases h; exact ⟨t2, _, rfl, rfl, e2⟩
      | 2, h => cases h; exact ⟨t3, _, rfl, rfl, e3⟩
      | 3, h => cases h; exact ⟨t4, _, rfl, rfl, e4⟩
      | 4, h => cases h; exact ⟨t5, _, rfl, rfl, e5⟩
      | j + 5, h => simp at h
    refine lc_list (K := K) (a := ol) (xs := [.ref t1, .ref t2, .ref t3] ++ [.ref t4, .ref t5]) (fun i H' => Same _ H' ∧ H' D = some (.lst ((ODDW.take i).map V.str)))
      ⟨same_upd hD _, upd_same⟩ (fun i H' _ h => SqL.of (h.1 _ _ upd_same)) ?_ ?_
    · rintro j x H9 hx ⟨s9, hD9⟩
      obtain ⟨p, wd, rfl, hwd, so, ws, hp, h1, h2, h3⟩ := odd j x hx
      have j5 : j < 5 := (List.getElem?_eq_some_iff.mp hwd).1
      refine ⟨rfl, ?_⟩
      refine ⟨_, rfl, p, so, ws.map V.str, ws.map PyData.str, rfl, .inr (SqT.of (s9 _ _ hp)), by rw [List.length_map]; exact h2, DaAll.dvs (ok := fun _ => True) (k := 3) (by decide) (DaAll.strs ws) (fun d hd => ?_), fun H10 s10 => ?_⟩
      · obtain ⟨y, hy, rfl⟩ := List.mem_map.mp hd
        exact GoodD.str (List.all_eq_true.mp h3 y hy)
      · rw [h1]
        have nD := s10 _ _ hD9
        refine ⟨_, nD, small1000 (by simp; omega), fun c o e => ?_, ?_⟩
        · rw [upd_ne (ne_of_none e hD)]
          exact s10 _ _ (s9 _ _ e)
        · rw [upd_same, List.take_add_one, hwd, List.map_append]
          rfl
    · rintro H9 ⟨s9, hD9⟩
      refine ⟨by show 5 ≤ sizeLine; decide, fun el hel => ?_⟩
      refine ⟨.list (ODDW.map PyData.str), .list (ODDW.map PyData.str), .lst (SqL.of (xs := ODDW.map V.str) (by rw [upd_ne (ne_of_none hD9 hel)]; exact hD9)) (Dp.all_strs _), .lst (SqL.of (xs := ODDW.map V.str) upd_same) (Dp.all_strs _), shapedL_strs (by decide +kernel), shapedL_strs (by decide +kernel), ?_⟩
      rw [ODDW_eq]
      exact q _
end
end My

/-! ## The end: what the top has written, the theorem -/
namespace My
open PySem L2
theorem kit_yes {K : PySem.W.Frag} {t : Value} {C : Addr} (h1 : PySem.W.isClsIn K C = true) (h2 : PySem.W.typeIn K (.ref C) = some (.type "type")) (h3 : PySem.W.subIn K t (.ref C) = some true) : PySem.W.kitOne K t (.ref C) = some true := by
  have e : ((PySem.W.clsIn K C).isSome && PySem.W.typeIn K (.ref C) == some (.type "type")) = true := by
    have h1' : (PySem.W.clsIn K C).isSome = true := h1
    rw [h1', h2] <;> rfl
  unfold PySem.W.kitOne
  split
  · rfl
  · show (if ((PySem.W.clsIn K C).isSome && PySem.W.typeIn K (.ref C) == some (.type "type")) = true then PySem.W.subIn K t (.ref C) else none) = some true
    rw [if_pos e]
    exact h3
theorem kit_no {K : PySem.W.Frag} {A C : Addr} {b : Bool} (h1 : PySem.W.isClsIn K C = true) (h2 : PySem.W.typeIn K (.ref C) = some (.type "type")) (h3 : PySem.W.subIn K (.ref A) (.ref C) = some b) (n : A ≠ C) : PySem.W.kitOne K (.ref A) (.ref C) = some b := by
  have e : ((PySem.W.clsIn K C).isSome && PySem.W.typeIn K (.ref C) == some (.type "type")) = true := by
    have h1' : (PySem.W.clsIn K C).isSome = true := h1
    rw [h1', h2] <;> rfl
  unfold PySem.W.kitOne
  rw [if_neg (fun z => n (by have z2 := beq_iff_eq.mp z; cases z2; rfl))]
  show (if ((PySem.W.clsIn K C).isSome && PySem.W.typeIn K (.ref C) == some (.type "type")) = true then PySem.W.subIn K (.ref A) (.ref C) else none) = some b
  rw [if_pos e]
  exact h3
theorem kit_tyno {K : PySem.W.Frag} {A : String} {C : Addr} {b : Bool} (h1 : PySem.W.isClsIn K C = true) (h2 : PySem.W.typeIn K (.ref C) = some (.type "type")) (h3 : PySem.W.subIn K (.type A) (.ref C) = some b) : PySem.W.kitOne K (.type A) (.ref C) = some b := by
  have e : ((PySem.W.clsIn K C).isSome && PySem.W.typeIn K (.ref C) == some (.type "type")) = true := by
    have h1' : (PySem.W.clsIn K C).isSome = true := h1
    rw [h1', h2] <;> rfl
  unfold PySem.W.kitOne
  rw [if_neg (fun z => by have z2 := beq_iff_eq.mp z; cases z2)]
  show (if ((PySem.W.clsIn K C).isSome && PySem.W.typeIn K (.ref C) == some (.type "type")) = true then PySem.W.subIn K (.type A) (.ref C) else none) = some b
  rw [if_pos e]
  exact h3
theorem kit_reflist {K : PySem.W.Frag} {A : Addr} {b : Bool} (h3 : PySem.W.subIn K (.ref A) (.type "list") = some b) : PySem.W.kitOne K (.ref A) (.type "list") = some b := by
  unfold PySem.W.kitOne
  rw [if_neg (fun z => by have z2 := beq_iff_eq.mp z; cases z2)]
  unfold PySem.W.kitCls
  first | exact h3 | (simp; exact h3)
theorem kit_reftuple {K : PySem.W.Frag} {A : Addr} {b : Bool} (h3 : PySem.W.subIn K (.ref A) (.type "tuple") = some b) : PySem.W.kitOne K (.ref A) (.type "tuple") = some b := by
  unfold PySem.W.kitOne
  rw [if_neg (fun z => by have z2 := beq_iff_eq.mp z; cases z2)]
  unfold PySem.W.kitCls
  first | exact h3 | (simp; exact h3)
theorem exm_mk {K : PySem.W.Frag} {t : Value} {C : Addr} {b : Bool} (h0 : PySem.W.subIn K (.ref C) (.type "BaseException") = some true) (h1 : PySem.W.isClsIn K C = true) (h2 : PySem.W.typeIn K (.ref C) = some (.type "type")) (h3 : PySem.W.subIn K t (.ref C) = some b) : PySem.W.exmOne K t (.ref C) = some b := by
  have e : ((PySem.W.clsIn K C).isSome && PySem.W.typeIn K (.ref C) == some (.type "type")) = true := by
    have h1' : (PySem.W.clsIn K C).isSome = true := h1
    rw [h1', h2] <;> rfl
  have e0 : (PySem.W.subIn K (.ref C) (.type "BaseException") == some true) = true := by rw [h0] <;> rfl
  unfold PySem.W.exmOne
  rw [if_pos e0]
  show (if ((PySem.W.clsIn K C).isSome && PySem.W.typeIn K (.ref C) == some (.type "type")) = true then PySem.W.subIn K t (.ref C) else none) = some b
  rw [if_pos e]
  exact h3
theorem ve_one {C : Addr} : PySem.HandSPX.refsVE [.ref C, .type "ValueError", .type "Exception", .type "BaseException", .type "object"] = true := by
  show PySem.HandSPX.refsVE [.type "ValueError", .type "Exception", .type "BaseException", .type "object"] = true
  decide +kernel
theorem all_mk {P : Program} {w : World} {K : PySem.W.Frag} {h : Heap} {mg : Str → Option Value} {fa : Addr} (X : K.In h) (G : h.Ns mainGlobals mg) (hfa : mg "law" = some (.ref fa))
    {oc_is_name kV_is_name dc_is_name pm_is_name cd_is_name ct_is_name oc_is_name_or kV_is_name_or dc_is_name_or pm_is_name_or cd_is_name_or ct_is_name_or oc_InvalidRow_init kV_InvalidRow_init dc_InvalidRow_init pm_InvalidRow_init cd_InvalidRow_init ct_InvalidRow_init oc_Begin_init kV_Begin_init dc_Begin_init pm_Begin_init cd_Begin_init ct_Begin_init oc_Send_init kV_Send_init dc_Send_init pm_Send_init cd_Send_init ct_Send_init oc_Back_init kV_Back_init dc_Back_init pm_Back_init cd_Back_init ct_Back_init oc_End_init kV_End_init dc_End_init pm_End_init cd_End_init ct_End_init oc_row kV_row dc_row pm_row cd_row ct_row oc_refused kV_refused dc_refused pm_refused cd_refused ct_refused oc_take kV_take dc_take pm_take cd_take ct_take oc_box kV_box dc_box pm_box cd_box ct_box oc_pick kV_pick dc_pick pm_pick cd_pick ct_pick oc_mixed kV_mixed dc_mixed pm_mixed cd_mixed ct_mixed oc_names kV_names dc_names pm_names cd_names ct_names oc_words kV_words dc_words pm_words cd_words ct_words oc_drawn_row kV_drawn_row dc_drawn_row pm_drawn_row cd_drawn_row ct_drawn_row oc_is_name_law kV_is_name_law dc_is_name_law pm_is_name_law cd_is_name_law ct_is_name_law oc_wrong kV_wrong dc_wrong pm_wrong cd_wrong ct_wrong oc_any kV_any dc_any pm_any cd_any ct_any oc_law kV_law dc_law pm_law cd_law ct_law v0_aNO v1_aNO v2_aNO v3_aNO v4_aNO v5_aNO v6_aNO v7_aNO v8_aNO v9_aNO : Value}
    {od_is_name an_is_name od_is_name_or an_is_name_or od_InvalidRow_init an_InvalidRow_init od_Begin_init an_Begin_init od_Send_init an_Send_init od_Back_init an_Back_init od_End_init an_End_init od_row an_row od_refused an_refused od_take an_take od_box an_box od_pick an_pick od_mixed an_mixed od_names an_names od_words an_words od_drawn_row an_drawn_row od_is_name_law an_is_name_law od_wrong an_wrong od_any an_any od_law an_law dd_C_InvalidRow : Option Addr}
    {sl_is_name sl_is_name_or sl_InvalidRow_init sl_Begin_init sl_Send_init sl_Back_init sl_End_init sl_row sl_refused sl_take sl_box sl_pick sl_mixed sl_names sl_words sl_drawn_row sl_is_name_law sl_wrong sl_any sl_law : Array (Option Value)}
    {aNO f_is_name f_is_name_or C_InvalidRow N_C_InvalidRow bC_C_InvalidRow f_InvalidRow_init C_Begin f_Begin_init C_Send f_Send_init C_Back f_Back_init C_End f_End_init f_row C_Row C_TraceError C_InvalidService f_refused f_take f_box f_pick f_mixed f_names f_words f_drawn_row f_is_name_law f_wrong f_any f_law : Addr}
    {sz_aNO : Nat}
    {h0_aNO h1_aNO h2_aNO h3_aNO h4_aNO h5_aNO h6_aNO h7_aNO h8_aNO h9_aNO : Int}
    {w0_aNO w1_aNO w2_aNO w3_aNO w4_aNO w5_aNO w6_aNO w7_aNO w8_aNO w9_aNO : Tok}
    {nm_C_InvalidRow qn_C_InvalidRow : Str}
    {bs_C_InvalidRow sb_C_InvalidRow : List Value}
    {sn_C_InvalidRow : List Str}
    {ab_C_InvalidRow : Bool}
    {co_C_InvalidRow : Option Bool}
    {m0_C_InvalidRow m1_C_InvalidRow m2_C_InvalidRow m3_C_InvalidRow m5_C_InvalidRow : Option Value}
    (a_law : PySem.W.nsIn K mainGlobals "law" = some (some (.ref f_law)))
    (a_NO_NAMES : PySem.W.nsIn K mainGlobals "NO_NAMES" = some (some (.ref aNO)))
    (a_is_name : PySem.W.nsIn K mainGlobals "is_name" = some (some (.ref f_is_name)))
    (a_is_name_or : PySem.W.nsIn K mainGlobals "is_name_or" = some (some (.ref f_is_name_or)))
    (a_InvalidRow : PySem.W.nsIn K mainGlobals "InvalidRow" = some (some (.ref C_InvalidRow)))
    (a_Begin : PySem.W.nsIn K mainGlobals "Begin" = some (some (.ref C_Begin)))
    (a_Send : PySem.W.nsIn K mainGlobals "Send" = some (some (.ref C_Send)))
    (a_Back : PySem.W.nsIn K mainGlobals "Back" = some (some (.ref C_Back)))
    (a_End : PySem.W.nsIn K mainGlobals "End" = some (some (.ref C_End)))
    (a__law_row : PySem.W.nsIn K mainGlobals "_law_row" = some (some (.ref f_row)))
    (a_Row : PySem.W.nsIn K mainGlobals "Row" = some (some (.ref C_Row)))
    (a_TraceError : PySem.W.nsIn K mainGlobals "TraceError" = some (some (.ref C_TraceError)))
    (a_InvalidService : PySem.W.nsIn K mainGlobals "InvalidService" = some (some (.ref C_InvalidService)))
    (a__law_refused : PySem.W.nsIn K mainGlobals "_law_refused" = some (some (.ref f_refused)))
    (a__law_take : PySem.W.nsIn K mainGlobals "_law_take" = some (some (.ref f_take)))
    (a__law_box : PySem.W.nsIn K mainGlobals "_law_box" = some (some (.ref f_box)))
    (a__law_pick : PySem.W.nsIn K mainGlobals "_law_pick" = some (some (.ref f_pick)))
    (a__law_mixed : PySem.W.nsIn K mainGlobals "_law_mixed" = some (some (.ref f_mixed)))
    (a__law_names : PySem.W.nsIn K mainGlobals "_law_names" = some (some (.ref f_names)))
    (a__law_words : PySem.W.nsIn K mainGlobals "_law_words" = some (some (.ref f_words)))
    (a__law_drawn_row : PySem.W.nsIn K mainGlobals "_law_drawn_row" = some (some (.ref f_drawn_row)))
    (a__law_is_name : PySem.W.nsIn K mainGlobals "_law_is_name" = some (some (.ref f_is_name_law)))
    (a__law_wrong : PySem.W.nsIn K mainGlobals "_law_wrong" = some (some (.ref f_wrong)))
    (a__law_any : PySem.W.nsIn K mainGlobals "_law_any" = some (some (.ref f_any)))
    (in_f_InvalidRow_init : PySem.W.findIn K (.ref C_InvalidRow) "__init__" = some (some (.ref f_InvalidRow_init)))
    (in_f_Begin_init : PySem.W.findIn K (.ref C_Begin) "__init__" = some (some (.ref f_Begin_init)))
    (in_f_Send_init : PySem.W.findIn K (.ref C_Send) "__init__" = some (some (.ref f_Send_init)))
    (in_f_Back_init : PySem.W.findIn K (.ref C_Back) "__init__" = some (some (.ref f_Back_init)))
    (in_f_End_init : PySem.W.findIn K (.ref C_End) "__init__" = some (some (.ref f_End_init)))
    (l_is_name : K.lookup f_is_name = some ⟨oc_is_name, od_is_name, .func (PySem.W.fnOf "is_name" "is_name" (defArgs s_is_name) (defBody s_is_name) (defScope s_is_name) .none kV_is_name dc_is_name pm_is_name an_is_name cd_is_name ct_is_name), sl_is_name⟩)
    (l_is_name_or : K.lookup f_is_name_or = some ⟨oc_is_name_or, od_is_name_or, .func (PySem.W.fnOf "is_name_or" "is_name_or" (defArgs s_is_name_or) (defBody s_is_name_or) (defScope s_is_name_or) .none kV_is_name_or dc_is_name_or pm_is_name_or an_is_name_or cd_is_name_or ct_is_name_or), sl_is_name_or⟩)
    (l_InvalidRow_init : K.lookup f_InvalidRow_init = some ⟨oc_InvalidRow_init, od_InvalidRow_init, .func (PySem.W.fnOf "__init__" "InvalidRow.__init__" (defArgs s_InvalidRow_init) (defBody s_InvalidRow_init) (defScope s_InvalidRow_init) .none kV_InvalidRow_init dc_InvalidRow_init pm_InvalidRow_init an_InvalidRow_init cd_InvalidRow_init ct_InvalidRow_init), sl_InvalidRow_init⟩)
    (l_Begin_init : K.lookup f_Begin_init = some ⟨oc_Begin_init, od_Begin_init, .func (PySem.W.fnOf "__init__" "Begin.__init__" (defArgs s_Begin_init) (defBody s_Begin_init) (defScope s_Begin_init) .none kV_Begin_init dc_Begin_init pm_Begin_init an_Begin_init cd_Begin_init ct_Begin_init), sl_Begin_init⟩)
    (l_Send_init : K.lookup f_Send_init = some ⟨oc_Send_init, od_Send_init, .func (PySem.W.fnOf "__init__" "Send.__init__" (defArgs s_Send_init) (defBody s_Send_init) (defScope s_Send_init) .none kV_Send_init dc_Send_init pm_Send_init an_Send_init cd_Send_init ct_Send_init), sl_Send_init⟩)
    (l_Back_init : K.lookup f_Back_init = some ⟨oc_Back_init, od_Back_init, .func (PySem.W.fnOf "__init__" "Back.__init__" (defArgs s_Back_init) (defBody s_Back_init) (defScope s_Back_init) .none kV_Back_init dc_Back_init pm_Back_init an_Back_init cd_Back_init ct_Back_init), sl_Back_init⟩)
    (l_End_init : K.lookup f_End_init = some ⟨oc_End_init, od_End_init, .func (PySem.W.fnOf "__init__" "End.__init__" (defArgs s_End_init) (defBody s_End_init) (defScope s_End_init) .none kV_End_init dc_End_init pm_End_init an_End_init cd_End_init ct_End_init), sl_End_init⟩)
    (l_row : K.lookup f_row = some ⟨oc_row, od_row, .func (PySem.W.fnOf "_law_row" "_law_row" (defArgs s_row) (defBody s_row) (defScope s_row) .none kV_row dc_row pm_row an_row cd_row ct_row), sl_row⟩)
    (l_refused : K.lookup f_refused = some ⟨oc_refused, od_refused, .func (PySem.W.fnOf "_law_refused" "_law_refused" (defArgs s_refused) (defBody s_refused) (defScope s_refused) .none kV_refused dc_refused pm_refused an_refused cd_refused ct_refused), sl_refused⟩)
    (l_take : K.lookup f_take = some ⟨oc_take, od_take, .func (PySem.W.fnOf "_law_take" "_law_take" (defArgs s_take) (defBody s_take) (defScope s_take) .none kV_take dc_take pm_take an_take cd_take ct_take), sl_take⟩)
    (l_box : K.lookup f_box = some ⟨oc_box, od_box, .func (PySem.W.fnOf "_law_box" "_law_box" (defArgs s_box) (defBody s_box) (defScope s_box) .none kV_box dc_box pm_box an_box cd_box ct_box), sl_box⟩)
    (l_pick : K.lookup f_pick = some ⟨oc_pick, od_pick, .func (PySem.W.fnOf "_law_pick" "_law_pick" (defArgs s_pick) (defBody s_pick) (defScope s_pick) .none kV_pick dc_pick pm_pick an_pick cd_pick ct_pick), sl_pick⟩)
    (l_mixed : K.lookup f_mixed = some ⟨oc_mixed, od_mixed, .func (PySem.W.fnOf "_law_mixed" "_law_mixed" (defArgs s_mixed) (defBody s_mixed) (defScope s_mixed) .none kV_mixed dc_mixed pm_mixed an_mixed cd_mixed ct_mixed), sl_mixed⟩)
    (l_names : K.lookup f_names = some ⟨oc_names, od_names, .func (PySem.W.fnOf "_law_names" "_law_names" (defArgs s_names) (defBody s_names) (defScope s_names) .none kV_names dc_names pm_names an_names cd_names ct_names), sl_names⟩)
    (l_words : K.lookup f_words = some ⟨oc_words, od_words, .func (PySem.W.fnOf "_law_words" "_law_words" (defArgs s_words) (defBody s_words) (defScope s_words) .none kV_words dc_words pm_words an_words cd_words ct_words), sl_words⟩)
    (l_drawn_row : K.lookup f_drawn_row = some ⟨oc_drawn_row, od_drawn_row, .func (PySem.W.fnOf "_law_drawn_row" "_law_drawn_row" (defArgs s_drawn_row) (defBody s_drawn_row) (defScope s_drawn_row) .none kV_drawn_row dc_drawn_row pm_drawn_row an_drawn_row cd_drawn_row ct_drawn_row), sl_drawn_row⟩)
    (l_is_name_law : K.lookup f_is_name_law = some ⟨oc_is_name_law, od_is_name_law, .func (PySem.W.fnOf "_law_is_name" "_law_is_name" (defArgs s_is_name_law) (defBody s_is_name_law) (defScope s_is_name_law) .none kV_is_name_law dc_is_name_law pm_is_name_law an_is_name_law cd_is_name_law ct_is_name_law), sl_is_name_law⟩)
    (l_wrong : K.lookup f_wrong = some ⟨oc_wrong, od_wrong, .func (PySem.W.fnOf "_law_wrong" "_law_wrong" (defArgs s_wrong) (defBody s_wrong) (defScope s_wrong) .none kV_wrong dc_wrong pm_wrong an_wrong cd_wrong ct_wrong), sl_wrong⟩)
    (l_any : K.lookup f_any = some ⟨oc_any, od_any, .func (PySem.W.fnOf "_law_any" "_law_any" (defArgs s_any) (defBody s_any) (defScope s_any) .none kV_any dc_any pm_any an_any cd_any ct_any), sl_any⟩)
    (l_law : K.lookup f_law = some ⟨oc_law, od_law, .func (PySem.W.fnOf "law" "law" (defArgs s_law) (defBody s_law) (defScope s_law) .none kV_law dc_law pm_law an_law cd_law ct_law), sl_law⟩)
    (l_aNO : K.lookup aNO = some ⟨.type "dict", none, .dict #[⟨h0_aNO, .str "none" w0_aNO, v0_aNO⟩, ⟨h1_aNO, .str "any" w1_aNO, v1_aNO⟩, ⟨h2_aNO, .str "same" w2_aNO, v2_aNO⟩, ⟨h3_aNO, .str "keep" w3_aNO, v3_aNO⟩, ⟨h4_aNO, .str "drop" w4_aNO, v4_aNO⟩, ⟨h5_aNO, .str "good" w5_aNO, v5_aNO⟩, ⟨h6_aNO, .str "bad" w6_aNO, v6_aNO⟩, ⟨h7_aNO, .str "old" w7_aNO, v7_aNO⟩, ⟨h8_aNO, .str "new" w8_aNO, v8_aNO⟩, ⟨h9_aNO, .str "both" w9_aNO, v9_aNO⟩] sz_aNO, #[]⟩)
    (xL_C_InvalidRow : K.lookup C_InvalidRow = some (excClassObj nm_C_InvalidRow qn_C_InvalidRow C_InvalidRow N_C_InvalidRow bs_C_InvalidRow [.ref bC_C_InvalidRow, .type "ValueError", .type "Exception", .type "BaseException", .type "object"] true sn_C_InvalidRow sb_C_InvalidRow ab_C_InvalidRow co_C_InvalidRow dd_C_InvalidRow m0_C_InvalidRow m1_C_InvalidRow m2_C_InvalidRow m3_C_InvalidRow m5_C_InvalidRow "ValueError.__new__"))
    (cc_is_name : PySem.W.codeIn K cd_is_name "is_name" = true)
    (k_is_name : PySem.W.keepIn K (.ref f_is_name) = true)
    (cc_is_name_or : PySem.W.codeIn K cd_is_name_or "is_name_or" = true)
    (k_is_name_or : PySem.W.keepIn K (.ref f_is_name_or) = true)
    (cc_InvalidRow_init : PySem.W.codeIn K cd_InvalidRow_init "InvalidRow.__init__" = true)
    (k_InvalidRow_init : PySem.W.keepIn K (.ref f_InvalidRow_init) = true)
    (cc_Begin_init : PySem.W.codeIn K cd_Begin_init "Begin.__init__" = true)
    (k_Begin_init : PySem.W.keepIn K (.ref f_Begin_init) = true)
    (cc_Send_init : PySem.W.codeIn K cd_Send_init "Send.__init__" = true)
    (k_Send_init : PySem.W.keepIn K (.ref f_Send_init) = true)
    (cc_Back_init : PySem.W.codeIn K cd_Back_init "Back.__init__" = true)
    (k_Back_init : PySem.W.keepIn K (.ref f_Back_init) = true)
    (cc_End_init : PySem.W.codeIn K cd_End_init "End.__init__" = true)
    (k_End_init : PySem.W.keepIn K (.ref f_End_init) = true)
    (cc_row : PySem.W.codeIn K cd_row "_law_row" = true)
    (k_row : PySem.W.keepIn K (.ref f_row) = true)
    (cc_refused : PySem.W.codeIn K cd_refused "_law_refused" = true)
    (k_refused : PySem.W.keepIn K (.ref f_refused) = true)
    (cc_take : PySem.W.codeIn K cd_take "_law_take" = true)
    (k_take : PySem.W.keepIn K (.ref f_take) = true)
    (cc_box : PySem.W.codeIn K cd_box "_law_box" = true)
    (k_box : PySem.W.keepIn K (.ref f_box) = true)
    (cc_pick : PySem.W.codeIn K cd_pick "_law_pick" = true)
    (k_pick : PySem.W.keepIn K (.ref f_pick) = true)
    (cc_mixed : PySem.W.codeIn K cd_mixed "_law_mixed" = true)
    (k_mixed : PySem.W.keepIn K (.ref f_mixed) = true)
    (cc_names : PySem.W.codeIn K cd_names "_law_names" = true)
    (k_names : PySem.W.keepIn K (.ref f_names) = true)
    (cc_words : PySem.W.codeIn K cd_words "_law_words" = true)
    (k_words : PySem.W.keepIn K (.ref f_words) = true)
    (cc_drawn_row : PySem.W.codeIn K cd_drawn_row "_law_drawn_row" = true)
    (k_drawn_row : PySem.W.keepIn K (.ref f_drawn_row) = true)
    (cc_is_name_law : PySem.W.codeIn K cd_is_name_law "_law_is_name" = true)
    (k_is_name_law : PySem.W.keepIn K (.ref f_is_name_law) = true)
    (cc_wrong : PySem.W.codeIn K cd_wrong "_law_wrong" = true)
    (k_wrong : PySem.W.keepIn K (.ref f_wrong) = true)
    (cc_any : PySem.W.codeIn K cd_any "_law_any" = true)
    (k_any : PySem.W.keepIn K (.ref f_any) = true)
    (cc_law : PySem.W.codeIn K cd_law "law" = true)
    (k_law : PySem.W.keepIn K (.ref f_law) = true)
    (z_len : PySem.W.nsIn K mainGlobals "len" = some none)
    (z_isinstance : PySem.W.nsIn K mainGlobals "isinstance" = some none)
    (z_str : PySem.W.nsIn K mainGlobals "str" = some none)
    (z_all : PySem.W.nsIn K mainGlobals "all" = some none)
    (kl_aNO : PySem.W.KeysLit w.params [⟨h0_aNO, .str "none" w0_aNO, v0_aNO⟩, ⟨h1_aNO, .str "any" w1_aNO, v1_aNO⟩, ⟨h2_aNO, .str "same" w2_aNO, v2_aNO⟩, ⟨h3_aNO, .str "keep" w3_aNO, v3_aNO⟩, ⟨h4_aNO, .str "drop" w4_aNO, v4_aNO⟩, ⟨h5_aNO, .str "good" w5_aNO, v5_aNO⟩, ⟨h6_aNO, .str "bad" w6_aNO, v6_aNO⟩, ⟨h7_aNO, .str "old" w7_aNO, v7_aNO⟩, ⟨h8_aNO, .str "new" w8_aNO, v8_aNO⟩, ⟨h9_aNO, .str "both" w9_aNO, v9_aNO⟩])
    (sm_aNO : (aNO == sysModules) = false)
    (sa_C_InvalidRow : PySem.W.findIn K (.ref C_InvalidRow) "__setattr__" = some (some (.builtin "object.__setattr__")))
    (eb_C_InvalidRow : PySem.W.subIn K (.ref C_InvalidRow) (.type "BaseException") = some true)
    (tyC_C_InvalidRow : PySem.W.typeIn K (.ref C_InvalidRow) = some (.type "type"))
    (kc_C_InvalidRow : PySem.W.keepIn K (.ref C_InvalidRow) = true)
    (q_nwRow : PySem.W.findIn K (.ref C_InvalidRow) "word" = some none)
    (q_tRow : PySem.W.typeIn K (.ref f_InvalidRow_init) = some (.type "function"))
    (pg_C_Begin : PySem.W.plainGet K C_Begin Str.empty = true)
    (hd_C_Begin : PySem.W.hasDictIn K C_Begin = true)
    (po_C_Begin : PySem.W.plainOver K C_Begin = true)
    (sa_C_Begin : PySem.W.findIn K (.ref C_Begin) "__setattr__" = some (some (.builtin "object.__setattr__")))
    (mk_C_Begin : PySem.W.makesIn K C_Begin = true)
    (fi_f_Begin_init : PySem.W.isFn K (.ref f_Begin_init) = true)
    (kc_C_Begin : PySem.W.keepIn K (.ref C_Begin) = true)
    (n_C_Begin_mark : PySem.W.findIn K (.ref C_Begin) "mark" = some none)
    (n_C_Begin_kind : PySem.W.findIn K (.ref C_Begin) "kind" = some none)
    (n_C_Begin_mood : PySem.W.findIn K (.ref C_Begin) "mood" = some none)
    (pg_C_Send : PySem.W.plainGet K C_Send Str.empty = true)
    (hd_C_Send : PySem.W.hasDictIn K C_Send = true)
    (po_C_Send : PySem.W.plainOver K C_Send = true)
    (sa_C_Send : PySem.W.findIn K (.ref C_Send) "__setattr__" = some (some (.builtin "object.__setattr__")))
    (mk_C_Send : PySem.W.makesIn K C_Send = true)
    (fi_f_Send_init : PySem.W.isFn K (.ref f_Send_init) = true)
    (kc_C_Send : PySem.W.keepIn K (.ref C_Send) = true)
    (n_C_Send_mood : PySem.W.findIn K (.ref C_Send) "mood" = some none)
    (n_C_Send_service : PySem.W.findIn K (.ref C_Send) "service" = some none)
    (n_C_Send_mark : PySem.W.findIn K (.ref C_Send) "mark" = some none)
    (pg_C_Back : PySem.W.plainGet K C_Back Str.empty = true)
    (hd_C_Back : PySem.W.hasDictIn K C_Back = true)
    (po_C_Back : PySem.W.plainOver K C_Back = true)
    (sa_C_Back : PySem.W.findIn K (.ref C_Back) "__setattr__" = some (some (.builtin "object.__setattr__")))
    (mk_C_Back : PySem.W.makesIn K C_Back = true)
    (fi_f_Back_init : PySem.W.isFn K (.ref f_Back_init) = true)
    (kc_C_Back : PySem.W.keepIn K (.ref C_Back) = true)
    (n_C_Back_mood : PySem.W.findIn K (.ref C_Back) "mood" = some none)
    (n_C_Back_service : PySem.W.findIn K (.ref C_Back) "service" = some none)
    (n_C_Back_sign : PySem.W.findIn K (.ref C_Back) "sign" = some none)
    (n_C_Back_then : PySem.W.findIn K (.ref C_Back) "then" = some none)
    (pg_C_End : PySem.W.plainGet K C_End Str.empty = true)
    (hd_C_End : PySem.W.hasDictIn K C_End = true)
    (po_C_End : PySem.W.plainOver K C_End = true)
    (sa_C_End : PySem.W.findIn K (.ref C_End) "__setattr__" = some (some (.builtin "object.__setattr__")))
    (mk_C_End : PySem.W.makesIn K C_End = true)
    (fi_f_End_init : PySem.W.isFn K (.ref f_End_init) = true)
    (kc_C_End : PySem.W.keepIn K (.ref C_End) = true)
    (n_C_End_mood : PySem.W.findIn K (.ref C_End) "mood" = some none)
    (n_C_End_outcome : PySem.W.findIn K (.ref C_End) "outcome" = some none)
    (n_C_End_sign : PySem.W.findIn K (.ref C_End) "sign" = some none)
    (n_C_End_part : PySem.W.findIn K (.ref C_End) "part" = some none)
    (ca_C_Begin : PySem.W.findIn K (.ref C_Begin) "__class__" = some (some (.builtin "object.__class__")))
    (cg_ : PySem.W.specialIn K (.builtin "object.__class__") "__get__" = some (some (.builtin "getset_descriptor.__get__")))
    (ck_ : PySem.W.takesIn K (.builtin "object.__class__") = some true)
    (cm_C_Begin : PySem.W.mroIn K C_Begin (.type "object") = some true)
    (ca_C_Send : PySem.W.findIn K (.ref C_Send) "__class__" = some (some (.builtin "object.__class__")))
    (cm_C_Send : PySem.W.mroIn K C_Send (.type "object") = some true)
    (ca_C_Back : PySem.W.findIn K (.ref C_Back) "__class__" = some (some (.builtin "object.__class__")))
    (cm_C_Back : PySem.W.mroIn K C_Back (.type "object") = some true)
    (ca_C_End : PySem.W.findIn K (.ref C_End) "__class__" = some (some (.builtin "object.__class__")))
    (cm_C_End : PySem.W.mroIn K C_End (.type "object") = some true)
    (isC_C_Row : PySem.W.isClsIn K C_Row = true)
    (tyC_C_Row : PySem.W.typeIn K (.ref C_Row) = some (.type "type"))
    (sub_C_Begin_C_Row : PySem.W.subIn K (.ref C_Begin) (.ref C_Row) = some true)
    (sub_C_Send_C_Row : PySem.W.subIn K (.ref C_Send) (.ref C_Row) = some true)
    (sub_C_Back_C_Row : PySem.W.subIn K (.ref C_Back) (.ref C_Row) = some true)
    (sub_C_End_C_Row : PySem.W.subIn K (.ref C_End) (.ref C_Row) = some true)
    (isC_C_TraceError : PySem.W.isClsIn K C_TraceError = true)
    (tyC_C_TraceError : PySem.W.typeIn K (.ref C_TraceError) = some (.type "type"))
    (sub_C_InvalidRow_C_TraceError : PySem.W.subIn K (.ref C_InvalidRow) (.ref C_TraceError) = some true)
    (isC_C_InvalidService : PySem.W.isClsIn K C_InvalidService = true)
    (tyC_C_InvalidService : PySem.W.typeIn K (.ref C_InvalidService) = some (.type "type"))
    (sub_C_InvalidRow_C_InvalidService : PySem.W.subIn K (.ref C_InvalidRow) (.ref C_InvalidService) = some false)
    (ne_C_InvalidRow_C_InvalidService : C_InvalidRow ≠ C_InvalidService)
    (ga_C_InvalidRow : PySem.W.findIn K (.ref C_InvalidRow) "__getattribute__" = some (some (.builtin "BaseException.__getattribute__")))
    (gg_C_InvalidRow : PySem.W.findIn K (.ref C_InvalidRow) "__getattr__" = some none)
    (hd_C_InvalidRow : PySem.W.hasDictIn K C_InvalidRow = true)
    (ca_C_InvalidRow : PySem.W.findIn K (.ref C_InvalidRow) "__class__" = some (some (.builtin "object.__class__")))
    (cm_C_InvalidRow : PySem.W.mroIn K C_InvalidRow (.type "object") = some true)
    (isC_C_InvalidRow : PySem.W.isClsIn K C_InvalidRow = true)
    (sub_C_InvalidRow_C_InvalidRow : PySem.W.subIn K (.ref C_InvalidRow) (.ref C_InvalidRow) = some true)
    (z_int : PySem.W.nsIn K mainGlobals "int" = some none)
    (z_abs : PySem.W.nsIn K mainGlobals "abs" = some none)
    (z_list : PySem.W.nsIn K mainGlobals "list" = some none)
    (z_range : PySem.W.nsIn K mainGlobals "range" = some none)
    (z_tuple : PySem.W.nsIn K mainGlobals "tuple" = some none)
    (z_zip : PySem.W.nsIn K mainGlobals "zip" = some none)
    (z_max : PySem.W.nsIn K mainGlobals "max" = some none)
    (z_min : PySem.W.nsIn K mainGlobals "min" = some none)
    (z_dict : PySem.W.nsIn K mainGlobals "dict" = some none)
    : ∃ fd : FuncData, (∀ (s : Shared) (v : Value), BindsTo s fd ⟨[v], []⟩ [("_law_script", v)]) ∧ ∀ base : Heap, K.In base → base.Ns mainGlobals mg → FnOk P w K mg base CX0 7 fa fd ["_law_script"] (spLaw K) := by
  have e := hfa.symm.trans (PySem.W.mg_of X G a_law)
  have e2 : f_law = fa := by
    cases e
    rfl
  subst e2
  have F_is_name := (fun_mk (st := s_is_name) l_is_name cc_is_name k_is_name)
  have F_is_name_or := (fun_mk (st := s_is_name_or) l_is_name_or cc_is_name_or k_is_name_or)
  have F_InvalidRow_init := (fun_mk (st := s_InvalidRow_init) l_InvalidRow_init cc_InvalidRow_init k_InvalidRow_init)
  have F_Begin_init := (fun_mk (st := s_Begin_init) l_Begin_init cc_Begin_init k_Begin_init)
  have F_Send_init := (fun_mk (st := s_Send_init) l_Send_init cc_Send_init k_Send_init)
  have F_Back_init := (fun_mk (st := s_Back_init) l_Back_init cc_Back_init k_Back_init)
  have F_End_init := (fun_mk (st := s_End_init) l_End_init cc_End_init k_End_init)
  have F_row := (fun_mk (st := s_row) l_row cc_row k_row)
  have F_refused := (fun_mk (st := s_refused) l_refused cc_refused k_refused)
  have F_take := (fun_mk (st := s_take) l_take cc_take k_take)
  have F_box := (fun_mk (st := s_box) l_box cc_box k_box)
  have F_pick := (fun_mk (st := s_pick) l_pick cc_pick k_pick)
  have F_mixed := (fun_mk (st := s_mixed) l_mixed cc_mixed k_mixed)
  have F_names := (fun_mk (st := s_names) l_names cc_names k_names)
  have F_words := (fun_mk (st := s_words) l_words cc_words k_words)
  have F_drawn_row := (fun_mk (st := s_drawn_row) l_drawn_row cc_drawn_row k_drawn_row)
  have F_is_name_law := (fun_mk (st := s_is_name_law) l_is_name_law cc_is_name_law k_is_name_law)
  have F_wrong := (fun_mk (st := s_wrong) l_wrong cc_wrong k_wrong)
  have F_any := (fun_mk (st := s_any) l_any cc_any k_any)
  have F_law := (fun_mk (st := s_law) l_law cc_law k_law)
  have b_is_name := F_is_name.binds (ps := P_is_name) fun _ _ _ _ _ _ us hl => match us, hl with | [_], _ => rfl
  have b_is_name_or := F_is_name_or.binds (ps := P_is_name_or) fun _ _ _ _ _ _ us hl => match us, hl with | [_, _], _ => rfl
  have b_InvalidRow_init := F_InvalidRow_init.binds (ps := P_InvalidRow_init) fun _ _ _ _ _ _ us hl => match us, hl with | [_, _], _ => rfl
  have b_Begin_init := F_Begin_init.binds (ps := P_Begin_init) fun _ _ _ _ _ _ us hl => match us, hl with | [_, _, _, _], _ => rfl
  have b_Send_init := F_Send_init.binds (ps := P_Send_init) fun _ _ _ _ _ _ us hl => match us, hl with | [_, _, _, _], _ => rfl
  have b_Back_init := F_Back_init.binds (ps := P_Back_init) fun _ _ _ _ _ _ us hl => match us, hl with | [_, _, _, _, _], _ => rfl
  have b_End_init := F_End_init.binds (ps := P_End_init) fun _ _ _ _ _ _ us hl => match us, hl with | [_, _, _, _, _], _ => rfl
  have b_row := F_row.binds (ps := P_row) fun _ _ _ _ _ _ us hl => match us, hl with | [_], _ => rfl
  have b_refused := F_refused.binds (ps := P_refused) fun _ _ _ _ _ _ us hl => match us, hl with | [_], _ => rfl
  have b_take := F_take.binds (ps := P_take) fun _ _ _ _ _ _ us hl => match us, hl with | [_, _], _ => rfl
  have b_box := F_box.binds (ps := P_box) fun _ _ _ _ _ _ us hl => match us, hl with | [_, _], _ => rfl
  have b_pick := F_pick.binds (ps := P_pick) fun _ _ _ _ _ _ us hl => match us, hl with | [_, _], _ => rfl
  have b_mixed := F_mixed.binds (ps := P_mixed) fun _ _ _ _ _ _ us hl => match us, hl with | [_, _], _ => rfl
  have b_names := F_names.binds (ps := P_names) fun _ _ _ _ _ _ us hl => match us, hl with | [_, _], _ => rfl
  have b_words := F_words.binds (ps := P_words) fun _ _ _ _ _ _ us hl => match us, hl with | [_], _ => rfl
  have b_drawn_row := F_drawn_row.binds (ps := P_drawn_row) fun _ _ _ _ _ _ us hl => match us, hl with | [_, _, _], _ => rfl
  have b_is_name_law := F_is_name_law.binds (ps := P_is_name_law) fun _ _ _ _ _ _ us hl => match us, hl with | [_], _ => rfl
  have b_wrong := F_wrong.binds (ps := P_wrong) fun _ _ _ _ _ _ us hl => match us, hl with | [_], _ => rfl
  have b_any := F_any.binds (ps := P_any) fun _ _ _ _ _ _ us hl => match us, hl with | [_, _], _ => rfl
  let T : TxLaw3 w K mg := {
    z_len := PySem.W.mg_none_of X G z_len
    z_isinstance := PySem.W.mg_none_of X G z_isinstance
    z_str := PySem.W.mg_none_of X G z_str
    z_all := PySem.W.mg_none_of X G z_all
    aNO := aNO
    m_NO := PySem.W.mg_of X G a_NO_NAMES
    t_NO := noD_mk l_aNO kl_aNO sm_aNO
    f_is_name := f_is_name
    d_is_name := _
    F_is_name := F_is_name
    m_is_name := PySem.W.mg_of X G a_is_name
    b_is_name := b_is_name
    f_is_name_or := f_is_name_or
    d_is_name_or := _
    F_is_name_or := F_is_name_or
    m_is_name_or := PySem.W.mg_of X G a_is_name_or
    b_is_name_or := b_is_name_or
    C_InvalidRow := C_InvalidRow
    m_InvalidRow := PySem.W.mg_of X G a_InvalidRow
    oxRow := ⟨⟨_, _, _, _, _, _, _, _, _, _, _, _, _, _, _, xL_C_InvalidRow, ve_one⟩, sa_C_InvalidRow, eb_C_InvalidRow, tyC_C_InvalidRow, kc_C_InvalidRow⟩
    nwRow := q_nwRow
    f_InvalidRow_init := f_InvalidRow_init
    d_InvalidRow_init := _
    iRow := in_f_InvalidRow_init
    tRow := q_tRow
    F_InvalidRow_init := F_InvalidRow_init
    b_InvalidRow_init := b_InvalidRow_init
    C_Begin := C_Begin
    m_Begin := PySem.W.mg_of X G a_Begin
    c_Begin := ⟨pg_C_Begin, hd_C_Begin, po_C_Begin, sa_C_Begin⟩
    f_Begin_init := f_Begin_init
    d_Begin_init := _
    mk_Begin := ⟨mk_C_Begin, in_f_Begin_init, fi_f_Begin_init, kc_C_Begin⟩
    F_Begin_init := F_Begin_init
    b_Begin_init := b_Begin_init
    n_Begin_mark := n_C_Begin_mark
    n_Begin_kind := n_C_Begin_kind
    n_Begin_mood := n_C_Begin_mood
    C_Send := C_Send
    m_Send := PySem.W.mg_of X G a_Send
    c_Send := ⟨pg_C_Send, hd_C_Send, po_C_Send, sa_C_Send⟩
    f_Send_init := f_Send_init
    d_Send_init := _
    mk_Send := ⟨mk_C_Send, in_f_Send_init, fi_f_Send_init, kc_C_Send⟩
    F_Send_init := F_Send_init
    b_Send_init := b_Send_init
    n_Send_mood := n_C_Send_mood
    n_Send_service := n_C_Send_service
    n_Send_mark := n_C_Send_mark
    C_Back := C_Back
    m_Back := PySem.W.mg_of X G a_Back
    c_Back := ⟨pg_C_Back, hd_C_Back, po_C_Back, sa_C_Back⟩
    f_Back_init := f_Back_init
    d_Back_init := _
    mk_Back := ⟨mk_C_Back, in_f_Back_init, fi_f_Back_init, kc_C_Back⟩
    F_Back_init := F_Back_init
    b_Back_init := b_Back_init
    n_Back_mood := n_C_Back_mood
    n_Back_service := n_C_Back_service
    n_Back_sign := n_C_Back_sign
    n_Back_then := n_C_Back_then
    C_End := C_End
    m_End := PySem.W.mg_of X G a_End
    c_End := ⟨pg_C_End, hd_C_End, po_C_End, sa_C_End⟩
    f_End_init := f_End_init
    d_End_init := _
    mk_End := ⟨mk_C_End, in_f_End_init, fi_f_End_init, kc_C_End⟩
    F_End_init := F_End_init
    b_End_init := b_End_init
    n_End_mood := n_C_End_mood
    n_End_outcome := n_C_End_outcome
    n_End_sign := n_C_End_sign
    n_End_part := n_C_End_part
    f_row := f_row
    d_row := _
    F_row := F_row
    m_row := PySem.W.mg_of X G a__law_row
    b_row := b_row
    C_Row := C_Row
    m_Row := PySem.W.mg_of X G a_Row
    ty_Begin := fun H a dx fs e => .base (.ins e ⟨pg_C_Begin, hd_C_Begin, po_C_Begin, sa_C_Begin⟩ ca_C_Begin cg_ ck_ cm_C_Begin)
    ty_Send := fun H a dx fs e => .base (.ins e ⟨pg_C_Send, hd_C_Send, po_C_Send, sa_C_Send⟩ ca_C_Send cg_ ck_ cm_C_Send)
    ty_Back := fun H a dx fs e => .base (.ins e ⟨pg_C_Back, hd_C_Back, po_C_Back, sa_C_Back⟩ ca_C_Back cg_ ck_ cm_C_Back)
    ty_End := fun H a dx fs e => .base (.ins e ⟨pg_C_End, hd_C_End, po_C_End, sa_C_End⟩ ca_C_End cg_ ck_ cm_C_End)
    kr_Begin := kit_yes isC_C_Row tyC_C_Row sub_C_Begin_C_Row
    kr_Send := kit_yes isC_C_Row tyC_C_Row sub_C_Send_C_Row
    kr_Back := kit_yes isC_C_Row tyC_C_Row sub_C_Back_C_Row
    kr_End := kit_yes isC_C_Row tyC_C_Row sub_C_End_C_Row
    C_TraceError := C_TraceError
    m_TraceError := PySem.W.mg_of X G a_TraceError
    C_InvalidService := C_InvalidService
    m_InvalidService := PySem.W.mg_of X G a_InvalidService
    ke_RT := kit_yes isC_C_TraceError tyC_C_TraceError sub_C_InvalidRow_C_TraceError
    ke_RS := kit_no isC_C_InvalidService tyC_C_InvalidService sub_C_InvalidRow_C_InvalidService ne_C_InvalidRow_C_InvalidService
    exRow := ⟨ga_C_InvalidRow, gg_C_InvalidRow, eb_C_InvalidRow, hd_C_InvalidRow, ca_C_InvalidRow, cg_, ck_, cm_C_InvalidRow⟩
    xfRow := ⟨ga_C_InvalidRow, gg_C_InvalidRow, eb_C_InvalidRow, hd_C_InvalidRow⟩
    teRow := exm_mk eb_C_InvalidRow isC_C_InvalidRow tyC_C_InvalidRow sub_C_InvalidRow_C_InvalidRow
    f_refused := f_refused
    d_refused := _
    F_refused := F_refused
    m_refused := PySem.W.mg_of X G a__law_refused
    b_refused := b_refused
    z_int := PySem.W.mg_none_of X G z_int
    z_abs := PySem.W.mg_none_of X G z_abs
    f_take := f_take
    d_take := _
    F_take := F_take
    m_take := PySem.W.mg_of X G a__law_take
    b_take := b_take
    f_box := f_box
    d_box := _
    F_box := F_box
    m_box := PySem.W.mg_of X G a__law_box
    b_box := b_box
    f_pick := f_pick
    d_pick := _
    F_pick := F_pick
    m_pick := PySem.W.mg_of X G a__law_pick
    b_pick := b_pick
    z_list := PySem.W.mg_none_of X G z_list
    z_range := PySem.W.mg_none_of X G z_range
    f_mixed := f_mixed
    d_mixed := _
    F_mixed := F_mixed
    m_mixed := PySem.W.mg_of X G a__law_mixed
    b_mixed := b_mixed
    f_names := f_names
    d_names := _
    F_names := F_names
    m_names := PySem.W.mg_of X G a__law_names
    b_names := b_names
    f_words := f_words
    d_words := _
    F_words := F_words
    m_words := PySem.W.mg_of X G a__law_words
    b_words := b_words
    z_tuple := PySem.W.mg_none_of X G z_tuple
    f_drawn_row := f_drawn_row
    d_drawn_row := _
    F_drawn_row := F_drawn_row
    m_drawn_row := PySem.W.mg_of X G a__law_drawn_row
    b_drawn_row := b_drawn_row
    f_is_name_law := f_is_name_law
    d_is_name_law := _
    F_is_name_law := F_is_name_law
    m_is_name_law := PySem.W.mg_of X G a__law_is_name
    b_is_name_law := b_is_name_law
    z_zip := PySem.W.mg_none_of X G z_zip
    f_wrong := f_wrong
    d_wrong := _
    F_wrong := F_wrong
    m_wrong := PySem.W.mg_of X G a__law_wrong
    b_wrong := b_wrong
    f_any := f_any
    d_any := _
    F_any := F_any
    m_any := PySem.W.mg_of X G a__law_any
    b_any := b_any
    z_max := PySem.W.mg_none_of X G z_max
    z_min := PySem.W.mg_none_of X G z_min
    z_dict := PySem.W.mg_none_of X G z_dict
    f_law := f_law
    d_law := _
    F_law := F_law
  }
  exact ⟨PySem.W.fnOf "law" "law" (defArgs s_law) (defBody s_law) (defScope s_law) .none kV_law dc_law pm_law an_law cd_law ct_law, fun s v => .of_eq rfl, fun base _ _ => ok_law3 T⟩
theorem walk {l : PySem.W.OpenLaw} {q : Program} {loose : List Str} {XP : (Str → Option Value) → Heap → Prop} {YP : World → Heap → Prop} {d : DefRec} {K : Params → PySem.W.Frag} (hn : l.most = some 63) (hdf : d.params.defaults = [])
    (hY : ∀ (w : World) (h : Heap), YP w h → (K w.params).In h)
    (F : ∀ (w : World) (mg : Str → Option Value) (fa : Addr) (h : Heap), (K w.params).In h → h.Ns mainGlobals mg → mg d.name = some (.ref fa) →
      ∃ fd : FuncData, (∀ (s : Shared) (u : Value), BindsTo s fd ⟨[u], []⟩ [("_law_script", u)]) ∧ ∀ base : Heap, (K w.params).In base → base.Ns mainGlobals mg → FnOk l.prog w (K w.params) mg base CX0 7 fa fd ["_law_script"] (spLaw (K w.params))) :
    PySem.W.WalkO q loose XP YP l.row.toRowW d [] (fun f vs => PySem.call f vs) :=
  L2.walk_of (n := 63) (k := 7) (x := "_law_script") (CX := fun _ => CX0) (sp := fun w => spLaw (K w.params)) hn (by decide) hdf ⟨rfl, by decide, by decide⟩ hY F (fun _ _ a ns hl _ hS => ⟨a, ns, rfl, hS, hl, fun _ => rfl⟩) fun _ _ _ _ _ z => z
end My
open PySem PySem.W PyProof.Rows
set_option maxRecDepth 100000 in
set_option maxHeartbeats 0 in
theorem PySem.Challenge.cw_wholetraces_k03_rows_refused_holds : PySem.Challenge.rw_wholetraces_k03_rows_refused.Holds := by
  w_on; o_law; k_head; (case hw => w_witness2)
  k_fill
  refine My.walk (l := PySem.Challenge.rw_wholetraces_k03_rows_refused) rfl rfl (fun w h Y => PySem.W.kIn_of Y) ?F
  case F =>
    intro w mg fa h KX G hmg
    refine' My.all_mk KX G hmg ?a_law ?a_NO_NAMES ?a_is_name ?a_is_name_or ?a_InvalidRow ?a_Begin ?a_Send ?a_Back ?a_End ?a__law_row ?a_Row ?a_TraceError ?a_InvalidService ?a__law_refused ?a__law_take ?a__law_box ?a__law_pick ?a__law_mixed ?a__law_names ?a__law_words ?a__law_drawn_row ?a__law_is_name ?a__law_wrong ?a__law_any ?in_f_InvalidRow_init ?in_f_Begin_init ?in_f_Send_init ?in_f_Back_init ?in_f_End_init ?l_is_name ?l_is_name_or ?l_InvalidRow_init ?l_Begin_init ?l_Send_init ?l_Back_init ?l_End_init ?l_row ?l_refused ?l_take ?l_box ?l_pick ?l_mixed ?l_names ?l_words ?l_drawn_row ?l_is_name_law ?l_wrong ?l_any ?l_law ?l_aNO ?xL_C_InvalidRow ?cc_is_name ?k_is_name ?cc_is_name_or ?k_is_name_or ?cc_InvalidRow_init ?k_InvalidRow_init ?cc_Begin_init ?k_Begin_init ?cc_Send_init ?k_Send_init ?cc_Back_init ?k_Back_init ?cc_End_init ?k_End_init ?cc_row ?k_row ?cc_refused ?k_refused ?cc_take ?k_take ?cc_box ?k_box ?cc_pick ?k_pick ?cc_mixed ?k_mixed ?cc_names ?k_names ?cc_words ?k_words ?cc_drawn_row ?k_drawn_row ?cc_is_name_law ?k_is_name_law ?cc_wrong ?k_wrong ?cc_any ?k_any ?cc_law ?k_law ?z_len ?z_isinstance ?z_str ?z_all ?kl_aNO ?sm_aNO ?sa_C_InvalidRow ?eb_C_InvalidRow ?tyC_C_InvalidRow ?kc_C_InvalidRow ?q_nwRow ?q_tRow ?pg_C_Begin ?hd_C_Begin ?po_C_Begin ?sa_C_Begin ?mk_C_Begin ?fi_f_Begin_init ?kc_C_Begin ?n_C_Begin_mark ?n_C_Begin_kind ?n_C_Begin_mood ?pg_C_Send ?hd_C_Send ?po_C_Send ?sa_C_Send ?mk_C_Send ?fi_f_Send_init ?kc_C_Send ?n_C_Send_mood ?n_C_Send_service ?n_C_Send_mark ?pg_C_Back ?hd_C_Back ?po_C_Back ?sa_C_Back ?mk_C_Back ?fi_f_Back_init ?kc_C_Back ?n_C_Back_mood ?n_C_Back_service ?n_C_Back_sign ?n_C_Back_then ?pg_C_End ?hd_C_End ?po_C_End ?sa_C_End ?mk_C_End ?fi_f_End_init ?kc_C_End ?n_C_End_mood ?n_C_End_outcome ?n_C_End_sign ?n_C_End_part ?ca_C_Begin ?cg_ ?ck_ ?cm_C_Begin ?ca_C_Send ?cm_C_Send ?ca_C_Back ?cm_C_Back ?ca_C_End ?cm_C_End ?isC_C_Row ?tyC_C_Row ?sub_C_Begin_C_Row ?sub_C_Send_C_Row ?sub_C_Back_C_Row ?sub_C_End_C_Row ?isC_C_TraceError ?tyC_C_TraceError ?sub_C_InvalidRow_C_TraceError ?isC_C_InvalidService ?tyC_C_InvalidService ?sub_C_InvalidRow_C_InvalidService ?ne_C_InvalidRow_C_InvalidService ?ga_C_InvalidRow ?gg_C_InvalidRow ?hd_C_InvalidRow ?ca_C_InvalidRow ?cm_C_InvalidRow ?isC_C_InvalidRow ?sub_C_InvalidRow_C_InvalidRow ?z_int ?z_abs ?z_list ?z_range ?z_tuple ?z_zip ?z_max ?z_min ?z_dict
    (case a_law => k_is)
    (case a_NO_NAMES => k_is)
    (case a_is_name => k_is)
    (case a_is_name_or => k_is)
    (case a_InvalidRow => k_is)
    (case a_Begin => k_is)
    (case a_Send => k_is)
    (case a_Back => k_is)
    (case a_End => k_is)
    (case a__law_row => k_is)
    (case a_Row => k_is)
    (case a_TraceError => k_is)
    (case a_InvalidService => k_is)
    (case a__law_refused => k_is)
    (case a__law_take => k_is)
    (case a__law_box => k_is)
    (case a__law_pick => k_is)
    (case a__law_mixed => k_is)
    (case a__law_names => k_is)
    (case a__law_words => k_is)
    (case a__law_drawn_row => k_is)
    (case a__law_is_name => k_is)
    (case a__law_wrong => k_is)
    (case a__law_any => k_is)
    (case in_f_InvalidRow_init => k_is)
    (case in_f_Begin_init => k_is)
    (case in_f_Send_init => k_is)
    (case in_f_Back_init => k_is)
    (case in_f_End_init => k_is)
    (case l_is_name => k_is)
    (case l_is_name_or => k_is)
    (case l_InvalidRow_init => k_is)
    (case l_Begin_init => k_is)
    (case l_Send_init => k_is)
    (case l_Back_init => k_is)
    (case l_End_init => k_is)
    (case l_row => k_is)
    (case l_refused => k_is)
    (case l_take => k_is)
    (case l_box => k_is)
    (case l_pick => k_is)
    (case l_mixed => k_is)
    (case l_names => k_is)
    (case l_words => k_is)
    (case l_drawn_row => k_is)
    (case l_is_name_law => k_is)
    (case l_wrong => k_is)
    (case l_any => k_is)
    (case l_law => k_is)
    (case l_aNO => k_is)
    (case xL_C_InvalidRow => k_is)
    (case cc_is_name => k_is)
    (case k_is_name => k_is)
    (case cc_is_name_or => k_is)
    (case k_is_name_or => k_is)
    (case cc_InvalidRow_init => k_is)
    (case k_InvalidRow_init => k_is)
    (case cc_Begin_init => k_is)
    (case k_Begin_init => k_is)
    (case cc_Send_init => k_is)
    (case k_Send_init => k_is)
    (case cc_Back_init => k_is)
    (case k_Back_init => k_is)
    (case cc_End_init => k_is)
    (case k_End_init => k_is)
    (case cc_row => k_is)
    (case k_row => k_is)
    (case cc_refused => k_is)
    (case k_refused => k_is)
    (case cc_take => k_is)
    (case k_take => k_is)
    (case cc_box => k_is)
    (case k_box => k_is)
    (case cc_pick => k_is)
    (case k_pick => k_is)
    (case cc_mixed => k_is)
    (case k_mixed => k_is)
    (case cc_names => k_is)
    (case k_names => k_is)
    (case cc_words => k_is)
    (case k_words => k_is)
    (case cc_drawn_row => k_is)
    (case k_drawn_row => k_is)
    (case cc_is_name_law => k_is)
    (case k_is_name_law => k_is)
    (case cc_wrong => k_is)
    (case k_wrong => k_is)
    (case cc_any => k_is)
    (case k_any => k_is)
    (case cc_law => k_is)
    (case k_law => k_is)
    (case z_len => k_is)
    (case z_isinstance => k_is)
    (case z_str => k_is)
    (case z_all => k_is)
    (case kl_aNO => exact ⟨⟨_, _, rfl, rfl⟩, ⟨_, _, rfl, rfl⟩, ⟨_, _, rfl, rfl⟩, ⟨_, _, rfl, rfl⟩, ⟨_, _, rfl, rfl⟩, ⟨_, _, rfl, rfl⟩, ⟨_, _, rfl, rfl⟩, ⟨_, _, rfl, rfl⟩, ⟨_, _, rfl, rfl⟩, ⟨_, _, rfl, rfl⟩, trivial⟩)
    (case sm_aNO => first | rfl | decide)
    (case sa_C_InvalidRow => k_is)
    (case eb_C_InvalidRow => k_is)
    (case tyC_C_InvalidRow => k_is)
    (case kc_C_InvalidRow => k_is)
    (case q_nwRow => k_is)
    (case q_tRow => k_is)
    (case pg_C_Begin => k_is)
    (case hd_C_Begin => k_is)
    (case po_C_Begin => k_is)
    (case sa_C_Begin => k_is)
    (case mk_C_Begin => k_is)
    (case fi_f_Begin_init => k_is)
    (case kc_C_Begin => k_is)
    (case n_C_Begin_mark => k_is)
    (case n_C_Begin_kind => k_is)
    (case n_C_Begin_mood => k_is)
    (case pg_C_Send => k_is)
    (case hd_C_Send => k_is)
    (case po_C_Send => k_is)
    (case sa_C_Send => k_is)
    (case mk_C_Send => k_is)
    (case fi_f_Send_init => k_is)
    (case kc_C_Send => k_is)
    (case n_C_Send_mood => k_is)
    (case n_C_Send_service => k_is)
    (case n_C_Send_mark => k_is)
    (case pg_C_Back => k_is)
    (case hd_C_Back => k_is)
    (case po_C_Back => k_is)
    (case sa_C_Back => k_is)
    (case mk_C_Back => k_is)
    (case fi_f_Back_init => k_is)
    (case kc_C_Back => k_is)
    (case n_C_Back_mood => k_is)
    (case n_C_Back_service => k_is)
    (case n_C_Back_sign => k_is)
    (case n_C_Back_then => k_is)
    (case pg_C_End => k_is)
    (case hd_C_End => k_is)
    (case po_C_End => k_is)
    (case sa_C_End => k_is)
    (case mk_C_End => k_is)
    (case fi_f_End_init => k_is)
    (case kc_C_End => k_is)
    (case n_C_End_mood => k_is)
    (case n_C_End_outcome => k_is)
    (case n_C_End_sign => k_is)
    (case n_C_End_part => k_is)
    (case ca_C_Begin => k_is)
    (case cg_ => k_is)
    (case ck_ => k_is)
    (case cm_C_Begin => k_is)
    (case ca_C_Send => k_is)
    (case cm_C_Send => k_is)
    (case ca_C_Back => k_is)
    (case cm_C_Back => k_is)
    (case ca_C_End => k_is)
    (case cm_C_End => k_is)
    (case isC_C_Row => k_is)
    (case tyC_C_Row => k_is)
    (case sub_C_Begin_C_Row => first | k_is | rfl)
    (case sub_C_Send_C_Row => first | k_is | rfl)
    (case sub_C_Back_C_Row => first | k_is | rfl)
    (case sub_C_End_C_Row => first | k_is | rfl)
    (case isC_C_TraceError => k_is)
    (case tyC_C_TraceError => k_is)
    (case sub_C_InvalidRow_C_TraceError => first | k_is | rfl)
    (case isC_C_InvalidService => k_is)
    (case tyC_C_InvalidService => k_is)
    (case sub_C_InvalidRow_C_InvalidService => first | k_is | rfl)
    (case ne_C_InvalidRow_C_InvalidService => decide)
    (case ga_C_InvalidRow => k_is)
    (case gg_C_InvalidRow => k_is)
    (case hd_C_InvalidRow => k_is)
    (case ca_C_InvalidRow => k_is)
    (case cm_C_InvalidRow => k_is)
    (case isC_C_InvalidRow => k_is)
    (case sub_C_InvalidRow_C_InvalidRow => first | k_is | rfl)
    (case z_int => k_is)
    (case z_abs => k_is)
    (case z_list => k_is)
    (case z_range => k_is)
    (case z_tuple => k_is)
    (case z_zip => k_is)
    (case z_max => k_is)
    (case z_min => k_is)
    (case z_dict => k_is)
