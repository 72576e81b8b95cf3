import PyProof.Rows.All
import Wide.All
import OpenK.AllK
import Wide.FinOn
import HandS.ForMost
import HandS.IsInst
import HandS.Wide
import HandS.TupAny
import HandS.Zip
import HandS.Walk
import HandS.Conv
import HandS.CallLocal
import KE.GoesEnum
import KE.GoesMore
import PyProof.EnumMake
import PyProof.EnumFor
import HandS.OwnEq
import HandS.Codes
import HandS.TupMul
import HandS.Deep
import HandS.Style
import HandS.Iter
import PyProof.ListMulRoad
import PyProof.FactsAll.tuple_2
import HandS.SetFor
import HandS.Strs
import HandS.ForExc
import HandS.ExcInit
import HandS.Dict
import HandS.ExcIs
import HandS.ExcField
import PySem.Challenge.RW_takenover_k19_posts_judged_and_spoiled
set_option Elab.async false
set_option linter.all false
set_option maxRecDepth 100000
namespace Pf
open PySem PySem.Spec PyProof.Rows L2
/-! ### frames -/
/-- all but the one list at d stays -/
def Fr (d : Addr) (H H' : Hp) : Prop := ∀ b o, b ≠ d → H b = some o → H' b = some o
/-- all that is no list stays -/
def Tx (H H' : Hp) : Prop := ∀ b o, H b = some o → (∀ z, o ≠ .lst z) → H' b = some o
theorem Fr.refl (d : Addr) (H : Hp) : Fr d H H := fun _ _ _ h => h
theorem Fr.trans {d : Addr} {H H1 H2 : Hp} (x : Fr d H H1) (y : Fr d H1 H2) : Fr d H H2 := fun b o n h => y b o n (x b o n h)
theorem Fr.of {d : Addr} {H H' : Hp} (x : Same H H') : Fr d H H' := fun b o _ h => x b o h
theorem Fr.upd {d : Addr} {H : Hp} {o : HO} : Fr d H (upd H d o) := fun b x n h => by rw [upd_ne n]; exact h
theorem Fr.new {d p : Addr} {H : Hp} {o : HO} (n : H p = none) : Fr d H (L2.upd H p o) := fun b x _ h => by
  rw [upd_ne (ne_of_none h n)]; exact h
theorem same_new {H : Hp} {p : Addr} {o : HO} (h : H p = none) : Same H (upd H p o) := fun b x e => by
  rw [upd_ne (ne_of_none e h)]; exact e
/-- behind a change of what was not there at H -/
theorem Same.put {H H1 : Hp} {p : Addr} {o : HO} (s : Same H H1) (h : H p = none) : Same H (upd H1 p o) := fun b x e => by
  rw [upd_ne (ne_of_none e h)]; exact s b x e
theorem Fr.put {d : Addr} {H H1 : Hp} {p : Addr} {o : HO} (s : Fr d H H1) (h : H p = none) : Fr d H (L2.upd H1 p o) := fun b x n e => by
  rw [upd_ne (ne_of_none e h)]; exact s b x n e
theorem Tx.refl (H : Hp) : Tx H H := fun _ _ h _ => h
theorem Tx.trans {H H1 H2 : Hp} (x : Tx H H1) (y : Tx H1 H2) : Tx H H2 := fun b o h n => y b o (x b o h n) n
theorem Tx.of {H H' : Hp} (x : Same H H') : Tx H H' := fun b o h _ => x b o h
theorem Tx.new {H : Hp} {p : Addr} {o : HO} (h : H p = none) : Tx H (L2.upd H p o) := Tx.of (same_new h)
theorem Tx.lst {H : Hp} {p : Addr} {z : List V} {o : HO} (h : H p = some (.lst z)) : Tx H (L2.upd H p o) := fun b x e n => by
  by_cases hb : b = p
  · subst hb
    rw [h] at e
    exact absurd (Option.some.inj e).symm (n z)
  · rw [upd_ne hb]; exact e
theorem Fr.tx {d : Addr} {H H' : Hp} {z : List V} (f : Fr d H H') (h : H d = some (.lst z)) : Tx H H' := fun b x e n => by
  by_cases hb : b = d
  · subst hb
    rw [h] at e
    exact absurd (Option.some.inj e).symm (n z)
  · exact f b x hb e
theorem Tx.seq {K : PySem.W.Frag} {H H' : Hp} {b : Addr} {xs : List V} (t : Tx H H') (h : SqT K H b xs) : SqT K H' b xs := by
  rcases h with (h | ⟨o, h⟩) | h
  · exact .inl (.inl (t _ _ h (fun z e => by cases e)))
  · exact .inl (.inr ⟨o, t _ _ h (fun z e => by cases e)⟩)
  · exact .inr h
theorem Fr.seqL {K : PySem.W.Frag} {d : Addr} {H H' : Hp} {b : Addr} {xs : List V} (t : Fr d H H') (n : b ≠ d) (h : SqL K H b xs) : SqL K H' b xs := by
  rcases h with (h | ⟨o, h⟩) | h
  · exact .inl (.inl (t _ _ n h))
  · exact .inl (.inr ⟨o, t _ _ n h⟩)
  · exact .inr h
theorem SqL.new {K : PySem.W.Frag} {H : Hp} {p : Addr} {xs : List V} : SqL K (L2.upd H p (.lst xs)) p xs := .inl (.inl upd_same)
theorem SqT.new {K : PySem.W.Frag} {H : Hp} {p : Addr} {xs : List V} : SqT K (L2.upd H p (.tup xs)) p xs := .inl (.inl upd_same)
theorem SqL.at {K : PySem.W.Frag} {H : Hp} {p : Addr} {xs : List V} (h : H p = some (.lst xs)) : SqL K H p xs := .inl (.inl h)
theorem SqT.at {K : PySem.W.Frag} {H : Hp} {p : Addr} {xs : List V} (h : H p = some (.tup xs)) : SqT K H p xs := .inl (.inl h)

/-! ### data without lists: it stays where all that is no list stays -/
mutual
def im : PyData → Bool
  | .tuple ds => imAll ds
  | .list _ => false
  | .dict _ => false
  | _ => true
def imAll : List PyData → Bool
  | [] => true
  | d :: ds => im d && imAll ds
end
theorem imAll_iff : ∀ ds : List PyData, imAll ds = true ↔ ∀ d ∈ ds, im d = true
  | [] => by unfold imAll; simp
  | d :: ds => by unfold imAll; rw [Bool.and_eq_true, imAll_iff ds]; simp
mutual
theorem Dp.tx {K : PySem.W.Frag} {H H' : Hp} (t : Tx H H') : ∀ (d : PyData) (v : V), im d = true → Dp K H v d → Dp K H' v d
  | .none, _, _, h => by cases h; exact .non
  | .bool b, _, _, h => by cases h; exact .bl b
  | .int i, _, _, h => by cases h; exact .int i
  | .str x, _, _, h => by cases h; exact .str x
  | .tuple ds, v, m, h => by
    unfold im at m
    cases h with
    | tup q r => exact .tup (t.seq q) (Dp.txAll t ds _ m r)
theorem Dp.txAll {K : PySem.W.Frag} {H H' : Hp} (t : Tx H H') : ∀ (ds : List PyData) (vs : List V), imAll ds = true → DpAll K H vs ds → DpAll K H' vs ds
  | [], _, _, h => by cases h; exact .nil
  | d :: ds, vs, m, h => by
    unfold imAll at m
    rw [Bool.and_eq_true] at m
    cases h with
    | cons p q => exact .cons (Dp.tx t d _ m.1 p) (Dp.txAll t ds _ m.2 q)
end
mutual
theorem Dp.same {K : PySem.W.Frag} {H H' : Hp} (t : Same H H') : ∀ (d : PyData) (v : V), Dp K H v d → Dp K H' v d
  | .none, _, h => by cases h; exact .non
  | .bool b, _, h => by cases h; exact .bl b
  | .int i, _, h => by cases h; exact .int i
  | .str x, _, h => by cases h; exact .str x
  | .tuple ds, v, h => by
    cases h with
    | tup q r => exact .tup ((Tx.of t).seq q) (Dp.sameAll t ds _ r)
  | .list ds, v, h => by
    cases h with
    | lst q r => exact .lst (t.seq q) (Dp.sameAll t ds _ r)
theorem Dp.sameAll {K : PySem.W.Frag} {H H' : Hp} (t : Same H H') : ∀ (ds : List PyData) (vs : List V), DpAll K H vs ds → DpAll K H' vs ds
  | [], _, h => by cases h; exact .nil
  | d :: ds, vs, h => by
    cases h with
    | cons p q => exact .cons (Dp.same t d _ p) (Dp.sameAll t ds _ q)
end
theorem DpAll.len {K : PySem.W.Frag} {H : Hp} : ∀ {vs : List V} {ds : List PyData}, DpAll K H vs ds → vs.length = ds.length
  | _, _, .nil => rfl
  | _, _, .cons _ q => by rw [List.length_cons, List.length_cons, DpAll.len q]
theorem DpAll.at {K : PySem.W.Frag} {H : Hp} : ∀ {vs : List V} {ds : List PyData} {i : Nat} {v : V} {d : PyData}, DpAll K H vs ds → vs[i]? = some v → ds[i]? = some d → Dp K H v d
  | _, _, 0, _, _, .cons p _, h, k => by cases h; cases k; exact p
  | _, _, i + 1, _, _, .cons _ q, h, k => DpAll.at (i := i) q (by simpa using h) (by simpa using k)
theorem DpAll.snoc {K : PySem.W.Frag} {H : Hp} : ∀ {vs : List V} {ds : List PyData} {v : V} {d : PyData}, DpAll K H vs ds → Dp K H v d → DpAll K H (vs ++ [v]) (ds ++ [d])
  | _, _, _, _, .nil, p => .cons p .nil
  | _, _, _, _, .cons x q, p => .cons x (DpAll.snoc q p)
theorem DpAll.app {K : PySem.W.Frag} {H : Hp} : ∀ {vs us : List V} {ds es : List PyData}, DpAll K H vs ds → DpAll K H us es → DpAll K H (vs ++ us) (ds ++ es)
  | _, _, _, _, .nil, p => p
  | _, _, _, _, .cons x q, p => .cons x (DpAll.app q p)
/-- tuples of whole numbers -/
abbrev tupI (ns : List Int) : PyData := .tuple (ns.map PyData.int)
theorem dpAll_ints {K : PySem.W.Frag} {H : Hp} : ∀ (ns : List Int), DpAll K H (ns.map V.int) (ns.map PyData.int)
  | [] => .nil
  | n :: ns => .cons (.int n) (dpAll_ints ns)
theorem dpAll_ints_eq {K : PySem.W.Frag} {H : Hp} : ∀ {ns : List Int} {vs : List V}, DpAll K H vs (ns.map PyData.int) → vs = ns.map V.int
  | [], _, .nil => rfl
  | n :: ns, _, .cons p q => by
    cases p
    rw [dpAll_ints_eq q]
    rfl
theorem dp_ints {K : PySem.W.Frag} {H : Hp} {p : Addr} {ns : List Int} (h : SqT K H p (ns.map V.int)) : Dp K H (.ref p) (tupI ns) := .tup h (dpAll_ints ns)
theorem of_ints {K : PySem.W.Frag} {H : Hp} {v : V} {ns : List Int} (h : Dp K H v (tupI ns)) : ∃ p, v = .ref p ∧ SqT K H p (ns.map V.int) := by
  cases h with
  | tup q r => rw [dpAll_ints_eq r] at q; exact ⟨_, rfl, q⟩
theorem imAll_ints : ∀ (ns : List Int), imAll (ns.map PyData.int) = true
  | [] => rfl
  | _ :: ns => by
    show (im (.int _) && imAll (ns.map PyData.int)) = true
    rw [imAll_ints ns]; rfl
theorem im_ints (ns : List Int) : im (tupI ns) = true := imAll_ints ns
/-- the class of a value of data -/
def tyD : PyData → String
  | .none => "NoneType"
  | .bool _ => "bool"
  | .int _ => "int"
  | .str _ => "str"
  | .list _ => "list"
  | .tuple _ => "tuple"
  | .dict _ => "dict"
theorem Dp.ty {K : PySem.W.Frag} {H : Hp} {v : V} {d : PyData} (h : Dp K H v d) : TyX K H v (.type (tyD d)) := by
  cases h with
  | non => exact .base .non
  | bl b => exact .base (.bl b)
  | int i => exact .base (.int i)
  | str x => exact .base (.str x)
  | lst q r =>
    rcases q with (q | ⟨o, q⟩) | ⟨o, its, n, e, c, _⟩
    · exact .base (.lst q)
    · exact .base (.frz q)
    · exact .kList e c
  | tup q r =>
    rcases q with (q | ⟨o, q⟩) | ⟨o, its, n, e, c, _⟩
    · exact .base (.tup q)
    · exact .fTuple q
    · exact .kTuple e c
theorem atI_int {cs : List Int} {i : Int} (h0 : 0 ≤ i) (h : i < (cs.map V.int).length) : ∃ z, z ∈ cs ∧ cs[i.toNat]? = some z ∧ atI (cs.map V.int) i = some (.int z) := by
  have hl : i.toNat < cs.length := by rw [List.length_map] at h; omega
  obtain ⟨z, ez⟩ : ∃ z, cs[i.toNat]? = some z := ⟨_, List.getElem?_eq_getElem hl⟩
  refine ⟨z, List.mem_of_getElem? ez, ez, ?_⟩
  have e : i = ((i.toNat : Nat) : Int) := by omega
  rw [e]
  refine atI_nat ?_
  rw [List.getElem?_map, ez]
  rfl
/-! ### walks: zip of two tuples -/
theorem walk_zipT {K : PySem.W.Frag} {a b : Addr} {xs ys : List V} {n : Nat} (hn : n = min xs.length ys.length) : Walk (RZ.ItzT K a b) n (fun H => SqT K H a xs ∧ SqT K H b ys) (YPair (fun i => xs[i]?) (fun i => ys[i]?)) where
  goes := fun i H hi ⟨p, q⟩ => ⟨xs, ys, xs[i]'(by omega), ys[i]'(by omega), p, q, List.getElem?_eq_getElem (by omega), List.getElem?_eq_getElem (by omega)⟩
  stops := fun H ⟨p, q⟩ => ⟨xs, ys, p, q, by omega⟩
  yields := fun i H x H' hi ⟨p, q⟩ ⟨T, x1, x2, e, nT, e2, f1, f2⟩ => ⟨T, x1, x2, e, nT, e2, f1 xs p, f2 ys q⟩

/-! ### readings, step by step -/
section
variable {σ : L2.St} {H : Hp} {Q : VK} {QT : Bool → Hp → Prop} {QA : List V → Hp → Prop} {D : Ends} {ta tb tc te : TE} {t u : TT} {tr : TA} {s1 s2 : TS} {r r' : R2} {v : V} {K : PySem.W.Frag}
theorem g_var {i : Nat} (e : σ[i]? = some (some v)) (q : Q v H) : tVar i σ H Q := ⟨v, e, q⟩
theorem g_c (q : Q v H) : tC v σ H Q := q
theorem g_op (q : ta σ H fun x H1 => tb σ H1 fun y H2 => r x y H2 Q) : tOp r ta tb σ H Q := q
theorem g_rI0 {g : Int → Int → V} {i j : Int} (q : Q (g i j) H) : rI0 g (.int i) (.int j) H Q := ⟨i, j, rfl, rfl, q⟩
theorem g_rI {C : Int → Int → Prop} {g : Int → Int → V} {i j : Int} (c : C i j) (q : Q (g i j) H) : rI C g (.int i) (.int j) H Q := ⟨i, j, rfl, rfl, c, q⟩
theorem g_eqI {i j : Int} (q : Q (.bl (decide (i = j))) H) : rEq (.int i) (.int j) H Q := ⟨rfl, by
  rw [show decide (V.int i = V.int j) = decide (i = j) from by simp only [V.int.injEq]]; exact q⟩
theorem g_neI {i j : Int} (q : Q (.bl (!decide (i = j))) H) : rNe (.int i) (.int j) H Q := ⟨rfl, by
  rw [show decide (V.int i = V.int j) = decide (i = j) from by simp only [V.int.injEq]]; exact q⟩
theorem dec_bl {i j : Bool} : decide (V.bl i = V.bl j) = (i == j) := by cases i <;> cases j <;> rfl
theorem g_eqB {i j : Bool} (q : Q (.bl (i == j)) H) : rEq (.bl i) (.bl j) H Q := ⟨rfl, by rw [dec_bl]; exact q⟩
theorem g_neB {i j : Bool} (q : Q (.bl (!(i == j))) H) : rNe (.bl i) (.bl j) H Q := ⟨rfl, by rw [dec_bl]; exact q⟩
theorem g_test (q : ta σ H fun x H' => ∃ k, x = .bl k ∧ QT k H') : tTest ta σ H QT := q
theorem g_tB (q : ta σ H fun x H' => ∃ k, x = .bl k ∧ QT k H') : tB ta σ H QT := q
theorem g_bl {b : Bool} {P : Bool → Prop} (q : P b) : ∃ k, V.bl b = .bl k ∧ P k := ⟨b, rfl, q⟩
theorem g_and (q : t σ H fun c H1 => if c = true then u σ H1 QT else QT false H1) : tAnd t u σ H QT := q
theorem g_or (q : t σ H fun c H1 => if c = true then QT true H1 else u σ H1 QT) : tOr t u σ H QT := q
theorem g_not (q : t σ H fun c H1 => QT (!c) H1) : tNot t σ H QT := q
theorem g_andV (q : ta σ H fun x H1 => ∃ c, x = .bl c ∧ if c = true then tb σ H1 Q else Q (.bl false) H1) : tAndV ta tb σ H Q := q
theorem g_orV (q : ta σ H fun x H1 => ∃ c, x = .bl c ∧ if c = true then Q (.bl true) H1 else tb σ H1 Q) : tOrV ta tb σ H Q := q
theorem g_notV (q : ta σ H fun x H1 => ∃ c, x = .bl c ∧ Q (.bl (!c)) H1) : tNotV ta σ H Q := q
theorem g_if (q : t σ H fun c H1 => if c = true then ta σ H1 Q else tb σ H1 Q) : tIf t ta tb σ H Q := q
theorem g_un {r : V → Hp → VK → Prop} (q : ta σ H fun x H1 => r x H1 Q) : tUn r ta σ H Q := q
theorem g_rU {g : Int → V} {i : Int} (q : Q (g i) H) : rU g (.int i) H Q := ⟨i, rfl, q⟩
theorem g_chain (q : ta σ H fun x H1 => tb σ H1 fun y H2 => r x y H2 fun z H3 => ∃ k, z = .bl k ∧ (if k = true then tc σ H3 fun w' H4 => r' y w' H4 Q else Q (.bl false) H3)) : tChain r r' ta tb tc σ H Q := q
theorem g_seq (q : s1 { D with nx := s2 D } σ H) : tSeq s1 s2 D σ H := q
theorem g_ifS (q : t σ H fun b H1 => if b = true then s1 D σ H1 else s2 D σ H1) : tIfS t s1 s2 D σ H := q
theorem g_next (q : D.nx σ H) : tNext D σ H := q
theorem g_asg {g : TG} (q : ta σ H fun x H1 => g x σ H1 D.nx) : tAsg ta g D σ H := q
theorem g_name {i : Nat} {P : L2.St → Hp → Prop} (q : P (σ.set i (some v)) H) : gName i v σ H P := q
theorem g_sub {ts : TSet} {P : L2.St → Hp → Prop} (q : ta σ H fun o H1 => tb σ H1 fun i H2 => ts o i v H2 fun H3 => P σ H3) : gSub ta tb ts v σ H P := q
theorem g_setL {p : Addr} {xs : List V} {k : Int} {j : Nat} {P : Hp → Prop} (h : H p = some (.lst xs)) (e : ixN xs.length k = some j) (q : P (upd H p (.lst (xs.set j v)))) : rSetL (.ref p) (.int k) v H P := ⟨p, xs, k, j, rfl, rfl, h, e, q⟩
theorem g_ret (q : ta σ H D.rt) : tRet ta D σ H := q
theorem g_drop (q : ta σ H fun _ H1 => D.nx σ H1) : tDrop ta D σ H := q
theorem g_cons (q : ta σ H fun x H1 => tr σ H1 fun xs H2 => QA (x :: xs) H2) : tCons ta tr σ H QA := q
theorem g_nil (q : QA [] H) : tNil σ H QA := q
theorem g_cb {r : List V → Hp → VK → Prop} (q : tr σ H fun vs H1 => r vs H1 Q) : tCB r tr σ H Q := q
theorem g_tup (q : tr σ H fun xs H1 => xs.length ≤ sizeLine ∧ ∀ p, H1 p = none → Q (.ref p) (upd H1 p (.tup xs))) : tTup tr σ H Q := q
theorem g_lst (q : tr σ H fun xs H1 => xs.length ≤ sizeLine ∧ ∀ p, H1 p = none → Q (.ref p) (upd H1 p (.lst xs))) : tLst tr σ H Q := q
theorem g_sl {r : V → Option Int → Option Int → Hp → VK → Prop} {tl th : TO} (q : ta σ H fun x H1 => tl σ H1 fun l H2 => th σ H2 fun u H3 => r x l u H3 Q) : tSl r ta tl th σ H Q := q
theorem g_nopart {P : Option Int → Hp → Prop} (q : P none H) : tNoPart σ H P := q
theorem g_part {P : Option Int → Hp → Prop} (q : ta σ H fun x H1 => ∃ i, x = .int i ∧ P (some i) H1) : tPart ta σ H P := q
theorem g_part2 {i : Int} {P : Int → Prop} (q : P i) : ∃ k, V.int i = .int k ∧ P k := ⟨i, rfl, q⟩
theorem g_ixL {p : Addr} {xs : List V} {i : Int} (h : SqL K H p xs) (e : atI xs i = some v) (q : Q v H) : rIxL K (.ref p) (.int i) H Q := ⟨p, xs, i, v, rfl, rfl, h, e, q⟩
theorem g_ixT {p : Addr} {xs : List V} {i : Int} (h : SqT K H p xs) (e : atI xs i = some v) (q : Q v H) : rIxT K (.ref p) (.int i) H Q := ⟨p, xs, i, v, rfl, rfl, h, e, q⟩
theorem g_call {sp : Sp} {dvs : List V} {E : XK} (q : tr σ H fun vs H1 => sp (vs ++ dvs) H1 Q E) : tCall sp dvs E tr σ H Q := q
theorem g_int {i : Int} (q : Q (.int i) H) : (∃ k, [V.int i] = [.int k] ∧ Q (.int k) H) ∨ ∃ k : Bool, [V.int i] = [.bl k] ∧ Q (.int (if k = true then 1 else 0)) H := .inl ⟨i, rfl, q⟩
theorem g_list {i : Nat} {P : Addr → Prop} {p : Addr} (q : P p) : ∃ k, V.ref p = .ref k ∧ P k := ⟨p, rfl, q⟩
theorem g_iList {R : It → Hp → Prop} {p : Addr} {xs : List V} (h : SqL K H p xs) (q : R (Itl K p) H) : ∃ a, V.ref p = .ref a ∧ (∃ xs, SqL K H a xs) ∧ R (Itl K a) H := ⟨p, rfl, ⟨xs, h⟩, q⟩
theorem g_iTup {R : It → Hp → Prop} {p : Addr} {xs : List V} (h : SqT K H p xs) (q : R (Itt K p) H) : ∃ a, V.ref p = .ref a ∧ (∃ xs, SqT K H a xs) ∧ R (Itt K a) H := ⟨p, rfl, ⟨xs, h⟩, q⟩
theorem g_lenL {p : Addr} {xs : List V} (h : SqL K H p xs) (q : Q (.int xs.length) H) : ∃ p' ys, [V.ref p] = [.ref p'] ∧ (SqL K H p' ys ∨ SqT K H p' ys) ∧ Q (.int ys.length) H := ⟨p, xs, rfl, .inl h, q⟩
theorem g_lenT {p : Addr} {xs : List V} (h : SqT K H p xs) (q : Q (.int xs.length) H) : ∃ p' ys, [V.ref p] = [.ref p'] ∧ (SqL K H p' ys ∨ SqT K H p' ys) ∧ Q (.int ys.length) H := ⟨p, xs, rfl, .inr h, q⟩
theorem g_ite {c A B : Prop} [Decidable c] (h1 : c → A) (h2 : ¬ c → B) : if decide c = true then A else B := by
  by_cases h : c
  · rw [decide_eq_true h, if_pos rfl]; exact h1 h
  · rw [decide_eq_false h, if_neg Bool.false_ne_true]; exact h2 h
theorem g_iteN {c A B : Prop} [Decidable c] (h1 : ¬ c → A) (h2 : c → B) : if (!decide c) = true then A else B := by
  by_cases h : c
  · rw [decide_eq_true h]; exact (if_neg Bool.false_ne_true) ▸ h2 h
  · rw [decide_eq_false h]; exact (if_pos rfl) ▸ h1 h
theorem g_lc {wi : TI} {g : TG} {tt : TT} {vs : List Nat} (q : wi σ H fun J H1 => ∀ D, H1 D = none → ∃ W : Nat → Nat → Hp → Prop, (∃ m, W 0 m (L2.upd H1 D (.lst []))) ∧ ∀ i m H, W i m H →
  (J.stop i H ∧ Q (.ref D) H) ∨ (J.go i H ∧ ∃ Nx : Hp → Prop, (∀ H', Nx H' → ∃ m', m' < m ∧ W (i + 1) m' H') ∧ ∀ x H', J.yld i H x H' → g x (wipe σ vs) H' fun σ2 H2 => wipe σ2 vs = wipe σ vs ∧ tt σ2 H2 fun b H3 =>
    if b = true then te σ2 H3 fun y H4 => ∃ acc, H4 D = some (.lst acc) ∧ acc.length < sizeLine ∧ Nx (L2.upd H4 D (.lst (acc ++ [y]))) else Nx H3)) : tLc wi g tt te vs σ H Q := q
theorem g_for {wi : TI} {g : TG} {tb : TS} (q : wi σ H fun J H1 => ∃ W : Nat → Nat → L2.St → Hp → Prop, (∃ m, W 0 m σ H1) ∧ ∀ i m σ H, W i m σ H →
  (J.stop i H ∧ D.nx σ H) ∨ (J.go i H ∧ ∃ N : L2.St → Hp → Prop, (∀ σ' H', N σ' H' → ∃ m', m' < m ∧ W (i + 1) m' σ' H') ∧ ∀ x H', J.yld i H x H' → g x σ H' fun σ2 H2 => tb { D with nx := N, ct := N, bk := D.nx } σ2 H2)) : tFor wi g tb D σ H := q
theorem g_iL {R : It → Hp → Prop} (q : ta σ H fun x H1 => ∃ a, x = .ref a ∧ (∃ xs, SqL K H1 a xs) ∧ R (Itl K a) H1) : iList K ta σ H R := q
theorem g_iT {R : It → Hp → Prop} (q : ta σ H fun x H1 => ∃ a, x = .ref a ∧ (∃ xs, SqT K H1 a xs) ∧ R (Itt K a) H1) : iTup K ta σ H R := q
theorem g_iR1 {R : It → Hp → Prop} (q : tr σ H fun vs H1 => ∃ j : Int, vs = [.int j] ∧ -(2 ^ 62) ≤ j ∧ j < 2 ^ 62 ∧ R (Itr 0 j.toNat) H1) : iRng1 tr σ H R := q
theorem g_iR2 {R : It → Hp → Prop} (q : tr σ H fun vs H1 => ∃ i j : Int, vs = [.int i, .int j] ∧ (-(2 ^ 62) ≤ i ∧ i < 2 ^ 62 ∧ -(2 ^ 62) ≤ j ∧ j < 2 ^ 62) ∧ R (Itr i (j - i).toNat) H1) : iRng2 tr σ H R := q
theorem g_iZA {R : It → Hp → Prop} (q : tr σ H fun vs H1 => ∃ a b xs ys, vs = [.ref a, .ref b] ∧ ((SqL K H1 a xs ∧ SqL K H1 b ys ∧ R (Itz K a b) H1) ∨ (SqT K H1 a xs ∧ SqT K H1 b ys ∧ R (RZ.ItzT K a b) H1))) : RZ.iZipA K tr σ H R := q
theorem g_bm {T : String} {rm : V → List V → Hp → VK → Prop} (q : ta σ H fun x H1 => tyV K T x H1 ∧ tr σ H1 fun xs H2 => rm x xs H2 Q) : tBM K T rm ta tr σ H Q := q
theorem g_nT {A B : Prop} (h : B) : if (!true) = true then A else B := h
theorem g_nF {A B : Prop} (h : A) : if (!false) = true then A else B := h
theorem g_oFF {A B : Prop} (h : B) : if (false || false) = true then A else B := h
theorem g_oTx {b : Bool} {A B : Prop} (h : A) : if (true || b) = true then A else B := h
theorem g_oFT {A B : Prop} (h : A) : if (false || true) = true then A else B := h
theorem g_noTx {b : Bool} {A B : Prop} (h : B) : if (!(true || b)) = true then A else B := h
theorem g_noFT {A B : Prop} (h : B) : if (!(false || true)) = true then A else B := h
theorem g_noFF {A B : Prop} (h : A) : if (!(false || false)) = true then A else B := h
theorem g_yes (q : QT true H) : tYes σ H QT := q
/-- one word for what follows a statement -/
theorem seq_cut (R : L2.St → Hp → Prop) (h2 : ∀ σ' H', R σ' H' → s2 D σ' H') (h1 : ∀ N : L2.St → Hp → Prop, (∀ σ' H', R σ' H' → N σ' H') → s1 { D with nx := N } σ H) : tSeq s1 s2 D σ H := h1 (s2 D) h2
end

/-! ### the drawn numbers: the list at d, its cells at c -/
def Dice (d c : Addr) (H : Hp) : Prop := ∃ (cs : List Int) (i q s t : Int), H d = some (.lst [.ref c, .int i, .int q, .int s, .int t]) ∧ H c = some (.lst (cs.map V.int)) ∧ c ≠ d ∧ (∀ x ∈ cs, 0 ≤ x) ∧ 0 ≤ i ∧ 0 ≤ q ∧ 0 ≤ s ∧ s < 2147483648 ∧ 0 ≤ t
theorem Dice.fr {H H' : Hp} {d c : Addr} (D : Dice d c H) (f : Same H H') : Dice d c H' := by
  obtain ⟨cs, i, q, s, t, h1, h2, r⟩ := D
  exact ⟨cs, i, q, s, t, f _ _ h1, f _ _ h2, r⟩
theorem Dice.nd {H : Hp} {d c p : Addr} (D : Dice d c H) (n : H p = none) : p ≠ d := by
  obtain ⟨cs, i, q, s, t, h1, r⟩ := D
  exact (ne_of_none h1 n).symm
theorem Dice.nc {H : Hp} {d c p : Addr} (D : Dice d c H) (n : H p = none) : p ≠ c := by
  obtain ⟨cs, i, q, s, t, h1, h2, r⟩ := D
  exact (ne_of_none h2 n).symm
theorem Dice.tx {H H' : Hp} {d c : Addr} (D : Dice d c H) (f : Fr d H H') : Tx H H' := by
  obtain ⟨cs, i, q, s, t, h1, r⟩ := D
  exact f.tx h1
theorem Dice.new {H : Hp} {d c p : Addr} {o : HO} (D : Dice d c H) (n : H p = none) : Dice d c (L2.upd H p o) := D.fr (same_new n)
theorem Dice.put {H : Hp} {d c p : Addr} {o : HO} (D : Dice d c H) (n : p ≠ d) (n2 : p ≠ c) : Dice d c (L2.upd H p o) := by
  obtain ⟨cs, i, q, s, t, h1, h2, r⟩ := D
  exact ⟨cs, i, q, s, t, by rw [upd_ne n.symm]; exact h1, by rw [upd_ne n2.symm]; exact h2, r⟩
theorem mem_cutV {xs : List V} {lo hi : Option Int} {x : V} (h : x ∈ cutV xs lo hi) : x ∈ xs := List.mem_of_mem_drop (List.mem_of_mem_take h)
theorem cutV_int {ns : List Int} {lo hi : Option Int} {i : Nat} {x : V} (h : (cutV (ns.map V.int) lo hi)[i]? = some x) : ∃ z, x = .int z := by
  have := mem_cutV (List.mem_of_getElem? h)
  obtain ⟨z, _, e⟩ := List.mem_map.mp this
  exact ⟨z, e.symm⟩
theorem take_snoc {α : Type} {xs : List α} {i : Nat} {x : α} (h : xs[i]? = some x) : xs.take (i + 1) = xs.take i ++ [x] := by
  rw [List.take_add_one, h]; rfl
/-! ### list comprehensions -/
section
variable {J : It} {n : Nat} {G : Hp → Prop} {Y : Nat → Hp → V → Hp → Prop} {g : TG} {tt : TT} {te : TE} {vs : List Nat} {σ : L2.St} {H1 : Hp} {D : Addr} {Qd : Hp → Prop}
theorem lc_cps (w : Walk J n G Y) (R : Nat → Hp → List V → Prop) (h0 : R 0 (L2.upd H1 D (.lst [])) []) (hG : ∀ i H acc, i ≤ n → R i H acc → H D = some (.lst acc) → G H)
    (hs : ∀ i x H H' acc (C : V → Hp → Prop) (Cn : Hp → Prop), i < n → R i H acc → H D = some (.lst acc) → Y i H x H' →
      (∀ y H4, H4 D = some (.lst acc) → acc.length < sizeLine → R (i + 1) (L2.upd H4 D (.lst (acc ++ [y]))) (acc ++ [y]) → C y H4) → (∀ H3, H3 D = some (.lst acc) → R (i + 1) H3 acc → Cn H3) →
      g x (wipe σ vs) H' fun σ2 H2 => wipe σ2 vs = wipe σ vs ∧ tt σ2 H2 fun b H3 => if b = true then te σ2 H3 C else Cn H3)
    (hd : ∀ H acc, R n H acc → H D = some (.lst acc) → Qd H) :
    ∃ W : Nat → Nat → Hp → Prop, (∃ m, W 0 m (L2.upd H1 D (.lst []))) ∧ ∀ i m H, W i m H →
      (J.stop i H ∧ Qd H) ∨ (J.go i H ∧ ∃ Nx : Hp → Prop, (∀ H', Nx H' → ∃ m', m' < m ∧ W (i + 1) m' H') ∧ ∀ x H', J.yld i H x H' → g x (wipe σ vs) H' fun σ2 H2 => wipe σ2 vs = wipe σ vs ∧ tt σ2 H2 fun b H3 =>
        if b = true then te σ2 H3 fun y H4 => ∃ acc, H4 D = some (.lst acc) ∧ acc.length < sizeLine ∧ Nx (L2.upd H4 D (.lst (acc ++ [y]))) else Nx H3) :=
  lc_it w (fun i H => ∃ acc, H D = some (.lst acc) ∧ R i H acc) ⟨[], upd_same, h0⟩ (fun i H hi ⟨acc, e, r⟩ => hG i H acc hi r e)
    (fun i x H H' hi ⟨acc, e, r⟩ hy => hs i x H H' acc _ _ hi r e hy (fun y H4 e4 l r4 => ⟨acc, e4, l, _, upd_same, r4⟩) (fun H3 e3 r3 => ⟨acc, e3, r3⟩)) (fun H ⟨acc, e, r⟩ => hd H acc r e)
/-- nothing that stood is changed; what is made is told by the turn -/
theorem lc_same {H0 : Hp} (w : Walk J n G Y) (A : Nat → List V) (a0 : A 0 = []) (hl : ∀ i, i ≤ n → (A i).length < sizeLine) (hH : Same H0 H1) (nD : H0 D = none) (nD1 : H1 D = none) (hG : ∀ H, Same H1 H → G H)
    (hs : ∀ i x H H' (C : V → Hp → Prop) (Cn : Hp → Prop), i < n → Same H1 H → Y i H x H' → (∀ y H4, Same H H4 → A (i + 1) = A i ++ [y] → C y H4) → (∀ H3, Same H H3 → A (i + 1) = A i → Cn H3) →
      g x (wipe σ vs) H' fun σ2 H2 => wipe σ2 vs = wipe σ vs ∧ tt σ2 H2 fun b H3 => if b = true then te σ2 H3 C else Cn H3)
    (hd : ∀ H, Same H0 H → H D = some (.lst (A n)) → Qd H) :
    ∃ W : Nat → Nat → Hp → Prop, (∃ m, W 0 m (L2.upd H1 D (.lst []))) ∧ ∀ i m H, W i m H →
      (J.stop i H ∧ Qd H) ∨ (J.go i H ∧ ∃ Nx : Hp → Prop, (∀ H', Nx H' → ∃ m', m' < m ∧ W (i + 1) m' H') ∧ ∀ x H', J.yld i H x H' → g x (wipe σ vs) H' fun σ2 H2 => wipe σ2 vs = wipe σ vs ∧ tt σ2 H2 fun b H3 =>
        if b = true then te σ2 H3 fun y H4 => ∃ acc, H4 D = some (.lst acc) ∧ acc.length < sizeLine ∧ Nx (L2.upd H4 D (.lst (acc ++ [y]))) else Nx H3) := by
  refine lc_cps w (fun i H acc => Same H1 H ∧ acc = A i) ⟨same_new nD1, a0.symm⟩ (fun i H acc hi r e => hG H r.1) (fun i x H H' acc C Cn hi r e hy hC hN => ?_) (fun H acc r e => hd H (hH.trans r.1) (by rw [e, r.2]))
  obtain ⟨r1, rfl⟩ := r
  exact hs i x H H' C Cn hi r1 hy (fun y H4 s4 e4 => hC y H4 (s4 _ _ e) (hl i (by omega)) ⟨Same.put (r1.trans s4) nD1, e4.symm⟩) (fun H3 s3 e3 => hN H3 (s3 _ _ e) ⟨r1.trans s3, e3.symm⟩)
/-- data made at each turn, told by the turn -/
theorem lc_data {K : PySem.W.Frag} (w : Walk J n G Y) (A : Nat → List PyData) (a0 : A 0 = []) (hl : ∀ i, i ≤ n → (A i).length < sizeLine) (hi' : ∀ i, i ≤ n → imAll (A i) = true) (nD1 : H1 D = none) (hG : ∀ H, Same H1 H → G H)
    (hs : ∀ i x H H' (C : V → Hp → Prop) (Cn : Hp → Prop), i < n → Same H1 H → Y i H x H' → (∀ y e H4, Same H H4 → Dp K H4 y e → A (i + 1) = A i ++ [e] → C y H4) → (∀ H3, Same H H3 → A (i + 1) = A i → Cn H3) →
      g x (wipe σ vs) H' fun σ2 H2 => wipe σ2 vs = wipe σ vs ∧ tt σ2 H2 fun b H3 => if b = true then te σ2 H3 C else Cn H3)
    (hd : ∀ H xs, Same H1 H → H D = some (.lst xs) → DpAll K H xs (A n) → Qd H) :
    ∃ W : Nat → Nat → Hp → Prop, (∃ m, W 0 m (L2.upd H1 D (.lst []))) ∧ ∀ i m H, W i m H →
      (J.stop i H ∧ Qd H) ∨ (J.go i H ∧ ∃ Nx : Hp → Prop, (∀ H', Nx H' → ∃ m', m' < m ∧ W (i + 1) m' H') ∧ ∀ x H', J.yld i H x H' → g x (wipe σ vs) H' fun σ2 H2 => wipe σ2 vs = wipe σ vs ∧ tt σ2 H2 fun b H3 =>
        if b = true then te σ2 H3 fun y H4 => ∃ acc, H4 D = some (.lst acc) ∧ acc.length < sizeLine ∧ Nx (L2.upd H4 D (.lst (acc ++ [y]))) else Nx H3) := by
  refine lc_cps w (fun i H acc => Same H1 H ∧ DpAll K H acc (A i)) ⟨same_new nD1, by rw [a0]; exact .nil⟩ (fun i H acc hi r e => hG H r.1) (fun i x H H' acc C Cn hi r e hy hC hN => ?_) (fun H acc r e => hd H acc r.1 e r.2)
  obtain ⟨r1, r2⟩ := r
  refine hs i x H H' C Cn hi r1 hy (fun y ee H4 s4 dy e4 => hC y H4 (s4 _ _ e) (by rw [DpAll.len r2]; exact hl i (by omega)) ⟨Same.put (r1.trans s4) nD1, ?_⟩) (fun H3 s3 e3 => hN H3 (s3 _ _ e) ⟨r1.trans s3, by rw [e3]; exact Dp.sameAll s3 _ _ r2⟩)
  rw [e4]
  have im1 := hi' (i + 1) hi
  rw [e4] at im1
  exact Dp.txAll (Tx.lst (s4 _ _ e)) _ _ im1 (DpAll.snoc (Dp.sameAll s4 _ _ r2) dy)
/-- data drawn at each turn, all of one kind -/
theorem lc_draw {K : PySem.W.Frag} {d c : Addr} (w : Walk J n G Y) (PD : PyData → Prop) (hn : n < sizeLine) (him : ∀ e, PD e → im e = true) (nD1 : H1 D = none) (hD : Dice d c H1) (hG : ∀ H, Fr d H1 H → G H)
    (hs : ∀ i x H H' (C : V → Hp → Prop) (Cn : Hp → Prop), i < n → Fr d H1 H → Dice d c H → Y i H x H' → (∀ y e H4, Fr d H H4 → Dice d c H4 → Dp K H4 y e → PD e → C y H4) →
      g x (wipe σ vs) H' fun σ2 H2 => wipe σ2 vs = wipe σ vs ∧ tt σ2 H2 fun b H3 => if b = true then te σ2 H3 C else Cn H3)
    (hd : ∀ H xs ds, Fr d H1 H → Dice d c H → H D = some (.lst xs) → DpAll K H xs ds → ds.length = n → (∀ e ∈ ds, PD e) → Qd H) :
    ∃ W : Nat → Nat → Hp → Prop, (∃ m, W 0 m (L2.upd H1 D (.lst []))) ∧ ∀ i m H, W i m H →
      (J.stop i H ∧ Qd H) ∨ (J.go i H ∧ ∃ Nx : Hp → Prop, (∀ H', Nx H' → ∃ m', m' < m ∧ W (i + 1) m' H') ∧ ∀ x H', J.yld i H x H' → g x (wipe σ vs) H' fun σ2 H2 => wipe σ2 vs = wipe σ vs ∧ tt σ2 H2 fun b H3 =>
        if b = true then te σ2 H3 fun y H4 => ∃ acc, H4 D = some (.lst acc) ∧ acc.length < sizeLine ∧ Nx (L2.upd H4 D (.lst (acc ++ [y]))) else Nx H3) := by
  refine lc_cps w (fun i H acc => Fr d H1 H ∧ Dice d c H ∧ ∃ ds, DpAll K H acc ds ∧ ds.length = i ∧ ∀ e ∈ ds, PD e) ⟨Fr.new nD1, hD.new nD1, [], .nil, rfl, fun e h => by cases h⟩ (fun i H acc hi r e => hG H r.1) (fun i x H H' acc C Cn hi r e hy hC hN => ?_)
    (fun H acc ⟨r1, r2, ds, r3, r4, r5⟩ e => hd H acc ds r1 r2 e r3 r4 r5)
  obtain ⟨r1, r2, ds, r3, r4, r5⟩ := r
  refine hs i x H H' C Cn hi r1 r2 hy (fun y ee H4 f4 d4 dy pe => ?_)
  have e4 : H4 D = some (.lst acc) := f4 _ _ (hD.nd nD1) e
  refine hC y H4 e4 (by rw [DpAll.len r3]; omega) ⟨Fr.put (r1.trans f4) nD1, d4.put (hD.nd nD1) (hD.nc nD1), ds ++ [ee], ?_, by rw [List.length_append, r4]; rfl, fun e he => ?_⟩
  · have im1 : imAll (ds ++ [ee]) = true := (imAll_iff _).mpr fun z hz => by
      rcases List.mem_append.mp hz with hz | hz
      · exact him z (r5 z hz)
      · rw [List.mem_singleton.mp hz]; exact him _ pe
    have im0 : imAll ds = true := (imAll_iff _).mpr fun z hz => him z (r5 z hz)
    exact Dp.txAll (Tx.lst e4) _ _ im1 (DpAll.snoc (Dp.txAll (r2.tx f4) _ _ im0 r3) dy)
  · rcases List.mem_append.mp he with he | he
    · exact r5 e he
    · rw [List.mem_singleton.mp he]; exact pe
end

/-! ### whole numbers among all things -/
def IntK (K : PySem.W.Frag) (H : Hp) (v : V) (b : Bool) : Prop := ∃ (t : Value) (b1 b2 : Bool), TyX K H v t ∧ PySem.W.kitOne K t (.type "int") = some b1 ∧ PySem.W.kitOne K t (.type "bool") = some b2 ∧ b = (b1 && !b2)
theorem IntK.int {K : PySem.W.Frag} {H : Hp} (i : Int) : IntK K H (.int i) true := ⟨.type "int", true, false, .base (.int i), kit_ty (by decide +kernel), kit_ty (by decide +kernel), rfl⟩
/-- an integer i, or none -/
def Itm (K : PySem.W.Frag) (H : Hp) (v : V) : Option Int → Prop
  | some i => v = .int i
  | none => IntK K H v false
theorem g_isi {K : PySem.W.Frag} {H : Hp} {Q : VK} {x : V} {n : String} {t : Value} {b : Bool} (ty : TyX K H x t) (k : PySem.W.kitOne K t (.type n) = some b) (q : Q (.bl b) H) : rIsi K [x, .ty n] H Q := ⟨x, .ty n, t, .type n, b, rfl, .ty n, ty, k, q⟩
theorem kitAny2 {K : PySem.W.Frag} {t c c2 : Value} {b b2 : Bool} (h : PySem.W.kitOne K t c = some b) (h2 : PySem.W.kitOne K t c2 = some b2) : PySem.W.kitAny K t [c, c2] = some (b || b2) := by
  unfold PySem.W.kitAny
  rw [h]
  cases b with
  | true => rfl
  | false =>
    unfold PySem.W.kitAny
    rw [h2]
    cases b2 <;> rfl

theorem g_slA {K : PySem.W.Frag} {H : Hp} {Q : VK} {p : Addr} {xs : List V} {lo hi : Option Int} (h : SqT K H p xs) (q : ∀ p' H', Same H H' → SqT K H' p' (cutV xs lo hi) → Q (.ref p') H') : rSlA K (.ref p) lo hi H Q := by
  refine ⟨p, xs, rfl, h, fun hw => ?_, fun _ p' n' => q p' _ (same_new n') SqT.new⟩
  refine q p H (Same.refl H) ?_
  unfold cutV
  rw [hw.1, hw.2]
  simpa using h
theorem cutV1 (xs : List V) : cutV xs (some 1) none = xs.drop 1 := by
  unfold cutV
  rw [show HT.sIx xs.length 0 (some 1) = min 1 xs.length from HT.sIx_nat xs.length 0 1, HT.sIx_none]
  cases xs with
  | nil => rfl
  | cons x r =>
    rw [show min 1 (x :: r).length = 1 by
      rw [List.length_cons]
      omega]
    show (List.take ((x :: r).length - 1) r) = r
    rw [List.length_cons, Nat.add_sub_cancel]
    exact List.take_length
/-- rising along -/
def risesB : List Int → Bool
  | x :: y :: r => decide (x ≤ y) && risesB (y :: r)
  | _ => true
def zipUp (ns : List Int) : List Bool := (ns.zip (ns.drop 1)).map fun p => decide (p.1 ≤ p.2)
theorem risesB_zip : ∀ ns : List Int, risesB ns = (zipUp ns).all id
  | [] => rfl
  | [_] => rfl
  | x :: y :: r => by
    unfold risesB
    rw [risesB_zip (y :: r)]
    unfold zipUp
    simp
theorem risesB_of : ∀ {ns : List Int}, ns.Pairwise (· ≤ ·) → risesB ns = true
  | [], _ => rfl
  | [_], _ => rfl
  | x :: y :: r, h => by
    unfold risesB
    rw [List.pairwise_cons] at h
    rw [risesB_of h.2, decide_eq_true (h.1 y (by simp))]
    rfl
theorem zipUp_len (ns : List Int) : (zipUp ns).length = min ns.length (ns.drop 1).length := by
  unfold zipUp
  rw [List.length_map, List.length_zip]
theorem zipUp_at {ns : List Int} {i : Nat} {x y : Int} (h : ns[i]? = some x) (k : (ns.drop 1)[i]? = some y) : (zipUp ns)[i]? = some (decide (x ≤ y)) := by
  unfold zipUp
  rw [List.getElem?_map, (List.getElem?_zip_eq_some (z := (x, y))).mpr ⟨h, k⟩]
  rfl
theorem map_at {α β : Type} {f : α → β} {xs : List α} {i : Nat} {y : β} (h : (xs.map f)[i]? = some y) : ∃ x, xs[i]? = some x ∧ y = f x := by
  rw [List.getElem?_map] at h
  cases hz : xs[i]? with
  | none => rw [hz] at h; cases h
  | some z =>
    rw [hz] at h
    cases h
    exact ⟨z, rfl, rfl⟩

/-! ### the written part by its letter -/
def rLenS (K : PySem.W.Frag) : List V → Hp → VK → Prop := fun xs H Q => ∃ p ys, xs = [.ref p] ∧ (SqL K H p ys ∨ SqT K H p ys) ∧ Q (.int ys.length) H
def rTupOf (K : PySem.W.Frag) : List V → Hp → VK → Prop := fun xs H Q => ∃ p ys, xs = [.ref p] ∧ ((SqL K H p ys ∧ ∀ l, H l = none → Q (.ref l) (L2.upd H l (.tup ys))) ∨ (SqT K H p ys ∧ Q (.ref p) H))
def rLstOf (K : PySem.W.Frag) : List V → Hp → VK → Prop := fun xs H Q => ∃ p ys, xs = [.ref p] ∧ (SqL K H p ys ∨ SqT K H p ys) ∧ ∀ l, H l = none → Q (.ref l) (L2.upd H l (.lst ys))
section
variable {X : Cx} (K : PySem.W.Frag)
theorem kC {f : Value} {r : PySem.W.Frag → List V → Hp → VK → Prop} (h : X.K = K) (c : CallR X f (r X.K)) : CallR X f (r K) := h ▸ c
theorem kM {id : String} {r : PySem.W.Frag → V → List V → Hp → VK → Prop} (h : X.K = K) (c : MtR X id (r X.K)) : MtR X id (r K) := h ▸ c
theorem kO {f : Value → Value → Sem Value} {r : PySem.W.Frag → R2} (h : X.K = K) (c : OpR X f (r X.K)) : OpR X f (r K) := h ▸ c
theorem kI {r : PySem.W.Frag → R2} (h : X.K = K) (c : IxR X (r X.K)) : IxR X (r K) := h ▸ c
theorem kS {r : PySem.W.Frag → V → Option Int → Option Int → Hp → VK → Prop} (h : X.K = K) (c : SlR X (r X.K)) : SlR X (r K) := h ▸ c
theorem kLen (h : X.K = K) : CallR X (.builtin "len") (rLenS K) := kC K (r := rLenS) h call_len_seq
theorem kTupOf (h : X.K = K) : CallR X (.type "tuple") (rTupOf K) := kC K (r := rTupOf) h call_tuple_of
theorem kLstOf (h : X.K = K) : CallR X (.type "list") (rLstOf K) := kC K (r := rLstOf) h call_list_of
theorem kIsi (h : X.K = K) : CallR X (.builtin "isinstance") (rIsi K) := kC K (r := rIsi) h call_isi
theorem kIsiT (h : X.K = K) : CallR X (.builtin "isinstance") (rIsiT K) := kC K (r := rIsiT) h call_isiT
theorem kAll (hc : X.calm = true) (h : X.K = K) : CallR X (.builtin "all") (rAll K) := kC K (r := rAll) h (cr_all hc)
theorem kSorted (h : X.K = K) : CallR X (.builtin "sorted") (rSorted K) := kC K (r := rSorted) h cr_sorted
theorem kIxL (h : X.K = K) : IxR X (rIxL K) := kI K (r := rIxL) h ix_list
theorem kIxT (h : X.K = K) : IxR X (rIxT K) := kI K (r := rIxT) h ix_tup
theorem kSlL (h : X.K = K) : SlR X (rSlL K) := kS K (r := rSlL) h sl_list
theorem kSlA (h : X.K = K) : SlR X (rSlA K) := kS K (r := rSlA) h sl_tupA
theorem kCatA (h : X.K = K) : OpR X (binaryOp .Add) (rCatA K) := kO K (r := rCatA) h op_catA
theorem kEqD (h : X.K = K) (hu : X.A.units + 64 < cLine) : OpR X (compareOp .Eq) (rEqD K) := kO K (r := rEqD) h (op_eqD hu)
theorem kNeD (h : X.K = K) (hu : X.A.units + 64 < cLine) : OpR X (compareOp .NotEq) (rNeD K) := kO K (r := rNeD) h (op_neD hu)
theorem kIn (h : X.K = K) : OpR X (compareOp .In) (rIn K false) := kO K (r := fun K => rIn K false) h op_in_seq
theorem kNotIn (h : X.K = K) : OpR X (compareOp .NotIn) (rIn K true) := kO K (r := fun K => rIn K true) h op_notIn_seq
theorem kiList {tg l : Expr} {tl : TE} (h : X.K = K) (hl : PE X l tl) : PI X tg l (iList K tl) := h ▸ pi_list hl
theorem kiTup {tg l : Expr} {tl : TE} (h : X.K = K) (hl : PE X l tl) : PI X tg l (iTup K tl) := h ▸ pi_tup hl
theorem kpFld {e : Expr} {f : Str} {ta : TE} {pos : Pos} (h : X.K = K) (he : PE X e ta) (hb : attributeBase e f X.env (eval e X.env) = eval e X.env) : PE X (.Attribute e f pos) (tFld K ta f) := h ▸ pe_fld he hb
theorem kiZip {e e2 : Expr} {ta : TA} {p pos tpos : Pos} {elts : List Expr} {kk : Nat} (h : X.K = K) (hg : Gl X "zip") (hm : X.mg "zip" = none) (ha : PA X [e, e2] ta)
    (hs : starEach [e, e2] X.env = (false, eval e X.env) :: starEach [e2] X.env := by rfl) (hpl : (backTo pos (starEach [e2] X.env)).any (·.1) = false := by rfl) :
    PI X (.Tuple elts kk tpos) (.Call (.Name "zip" p) [e, e2] [] pos) (RZ.iZipA K ta) := h ▸ RZ.pi_zipA hg hm ha hs hpl
theorem kiEnum {e : Expr} {ta : TA} {p pos tpos : Pos} {elts : List Expr} {kk : Nat} (h : X.K = K) (hg : Gl X "enumerate") (hm : X.mg "enumerate" = none) (ha : PA X [e] ta) (hs : starEach [e] X.env = [(false, eval e X.env)] := by rfl) :
    PI X (.Tuple elts kk tpos) (.Call (.Name "enumerate" p) [e] [] pos) (iEnum K ta) := h ▸ pi_enum hg hm ha hs
theorem kgTup {es : List Expr} {k : Nat} {t : TGs} {n : Nat} {pos : Pos} (h : X.K = K) (hc : X.calm = true) (ht : PGs X es t)
    (hn : (assignEach es X.env).length = n := by rfl) (hst : (assignEach es X.env).findIdx? (·.1) = none := by rfl) : PG X (.Tuple es k pos) (gTup K n t) := h ▸ pg_tup hc ht hn hst
end
theorem filt1 {α : Type} {p : α → Bool} {z : α} (h : p z = true) : [z].filter p = [z] := by simp [h]
theorem filt0 {α : Type} {p : α → Bool} {z : α} (h : ¬ p z = true) : [z].filter p = [] := by simp [h]
end Pf
namespace Pf
open PySem PySem.Spec PyProof.Rows L2
theorem canLay_ints : ∀ ns : List Int, PyData.canLayAll0 (ns.map PyData.int) = true
  | [] => rfl
  | _ :: r => by
    show (PyData.canLay0 (.int _) && PyData.canLayAll0 (r.map PyData.int)) = true
    rw [canLay_ints r]
    rfl
theorem depth_ints : ∀ ns : List Int, PyData.depthAll (ns.map PyData.int) = 0
  | [] => rfl
  | _ :: r => by
    show max (PyData.depth (.int _)) (PyData.depthAll (r.map PyData.int)) = 0
    rw [depth_ints r]
    rfl
theorem shaped_tupI (ns : List Int) : SeqAt.shaped (tupI ns) = true := by
  unfold SeqAt.shaped
  rw [Bool.and_eq_true]
  refine ⟨canLay_ints ns, decide_eq_true ?_⟩
  show PyData.depthAll (ns.map PyData.int) + 1 ≤ 64
  rw [depth_ints]
  decide
theorem eqv_ints : ∀ ns ms : List Int, PyData.eqvAll (ns.map PyData.int) (ms.map PyData.int) = decide (ns = ms)
  | [], [] => rfl
  | [], _ :: _ => rfl
  | _ :: _, [] => rfl
  | x :: r, y :: q => by
    show ((x == y) && PyData.eqvAll (r.map PyData.int) (q.map PyData.int)) = _
    rw [eqv_ints r q, Bool.eq_iff_iff]
    simp
theorem eqv_tupI (ns ms : List Int) : PyData.eqv (tupI ns) (tupI ms) = decide (ns = ms) := eqv_ints ns ms
theorem atI_snoc {cs : List Int} {z : Int} (h : cs.getLast? = some z) : atI (cs.map V.int) (-1) = some (.int z) := by
  have hl : cs ≠ [] := fun e => by rw [e] at h; cases h
  have e : cs = cs.dropLast ++ [cs.getLast hl] := (List.dropLast_concat_getLast hl).symm
  have ez : cs.getLast hl = z := by
    rw [List.getLast?_eq_getLast hl] at h
    exact Option.some.inj h
  rw [e, ez, List.map_append]
  exact atI_last _ _
theorem g_catA {K : PySem.W.Frag} {H : Hp} {Q : VK} {a b : Addr} {xs ys : List V} (ha : SqT K H a xs) (hb : SqT K H b ys) (hl : xs.length + ys.length ≤ sizeLine) (q : ∀ p H', Same H H' → SqT K H' p (xs ++ ys) → Q (.ref p) H') : rCatA K (.ref a) (.ref b) H Q :=
  ⟨a, b, xs, ys, rfl, rfl, ha, hb, hl, fun e => by subst e; exact q b H (Same.refl H) hb, fun _ e => by subst e; exact q a H (Same.refl H) (by simpa using ha), fun _ _ p np => q p _ (same_new np) SqT.new⟩
theorem dec_ite {c : Prop} [Decidable c] {A B : Prop} {b : Bool} (e : b = decide c) (h1 : c → A) (h2 : ¬ c → B) : if b = true then A else B := by
  subst e
  exact g_ite h1 h2
theorem walk_rng0 {n : Nat} : Walk (Itr 0 n) n (fun _ => True) (fun i H x H' => H' = H ∧ x = .int ((i : Nat) : Int)) :=
  walk_range.mono (fun _ h => h) fun i H x H' _ _ h => ⟨h.1, by rw [h.2]; show V.int (0 + (i : Int)) = _; rw [Int.zero_add]⟩
end Pf
namespace Pf
open PySem PySem.Spec PyProof.Rows L2
theorem ksFld {X : Cx} (K : PySem.W.Frag) {o value : Expr} {f : Str} {ta tv : TE} {pos pos' : Pos} (h : X.K = K) (ha : PE X o ta) (hv : PE X value tv) (hs : swapsWith value (some (.Attribute o f pos')) pos.line X.env = pure false) : PS X (.Assign [.Attribute o f pos'] value pos) (sFld K ta tv f) := h ▸ ps_fld ha hv hs
end Pf

namespace Pf
open PySem PySem.Spec PyProof.Rows L2
theorem g_sfld {K : PySem.W.Frag} {σ : L2.St} {H : Hp} {D : Ends} {ta tv : TE} {f : Str} (q : tv σ H fun y H1 => ta σ H1 fun x H2 => ∃ a C dx fs, x = .ref a ∧ H2 a = some (.ins C dx fs) ∧ Cls K C ∧ NoAttr K C f ∧ fs.length < 1000 ∧ D.nx σ (L2.upd H2 a (.ins C dx (putF f y fs)))) : sFld K ta tv f D σ H := q
theorem g_fld {K : PySem.W.Frag} {σ : L2.St} {H : Hp} {Q : VK} {ta : TE} {f : Str} (q : ta σ H fun x H1 => ∃ a C dx fs v, x = .ref a ∧ H1 a = some (.ins C dx fs) ∧ Cls K C ∧ NoAttr K C f ∧ fs.lookup f = some v ∧ Q v H1) : tFld K ta f σ H Q := q
theorem g_make {C : Addr} {sp : Sp} {dvs : List V} {E : XK} {t : TA} {σ : L2.St} {H : Hp} {Q : VK} (q : t σ H fun vs H1 => ∀ x dx, H1 x = none → H1 dx = none → dx ≠ x →
  sp (.ref x :: (vs ++ dvs)) (L2.upd (L2.upd H1 dx (.own x)) x (.ins C dx [])) (fun v H2 => v = .non ∧ Q (.ref x) H2) E) : tMake C sp dvs E t σ H Q := q
theorem g_lstRg {te : L2.St → Hp → (Int → Int → Hp → Prop) → Prop} {σ : L2.St} {H : Hp} {Q : VK} (q : te σ H fun a b H1 => RgOk a b ∧ ∀ q, H1 q = none → Q (.ref q) (L2.upd H1 q (.lst (rgV a b)))) : tLstRg te σ H Q := q
theorem g_tupRg {te : L2.St → Hp → (Int → Int → Hp → Prop) → Prop} {σ : L2.St} {H : Hp} {Q : VK} (q : te σ H fun a b H1 => RgOk a b ∧ ∀ q, H1 q = none → Q (.ref q) (L2.upd H1 q (.tup (rgV a b)))) : tTupRg te σ H Q := q
theorem g_rg1 {ta : TE} {σ : L2.St} {H : Hp} {Q : Int → Int → Hp → Prop} (q : ta σ H fun x H1 => ∃ n, x = .int n ∧ Q 0 n H1) : tRg1 ta σ H Q := q
end Pf

--BODY
namespace Pf
open PySem PySem.Spec PyProof.Rows L2
/-! ### enumerate of a tuple -/
/-- the iterator's cell of a tuple -/
abbrev tupIt (p : Addr) : Obj := { cls := .type "tuple_iterator", data := .fields #[.ref p, .int 0 0] }
/-- the cell of an enumerate over the iterator at i -/
abbrev enumO (i : Addr) : Obj := { cls := .type "enumerate", data := .fields #[.none, .bool false, .ref i, rawInt 0, .none, .none] }
theorem newEnumT (p : Addr) (xs : Array Value) :
    Meets (Builtin.«enumerate.__new__» ⟨[.type "enumerate", .ref p], []⟩)
      (fun _ R s => s.heap.IsTuple p xs ∧
        R (.ok (.ret (.ref (s.heap.push (tupIt p)).objs.size)))
          { s with heap := (s.heap.push (tupIt p)).push (enumO s.heap.objs.size) }) :=
  .of_wp fun pr wo AA R s0 hh => by
    obtain ⟨hp, gg, dd, tt, oo⟩ := s0
    obtain ⟨ht, hR⟩ := hh
    have hsu := sub_enumerate
    have it1 : ∀ {A' : Around} {E : Value → Shared → Prop} {Q : Value → Shared → Prop},
        Q (.ref hp.objs.size) ⟨hp.push (tupIt p), gg, dd, tt, oo⟩ → wpAny (model pr wo) A' (pyIter (.ref p)) Q E ⟨hp, gg, dd, tt, oo⟩ :=
      fun q => (begins_tuple p xs).iter pr wo _ _ ⟨hp, gg, dd, tt, oo⟩ _ ht q
    wp_walk using it1
    refine wpAny_stack_any fun _ => wpAny_pure ?_
    split
    · rename_i cc _ _ _ _ _
      cases (cc == Value.type "enumerate")
      · wp_walk using it1
        exact ⟨_, rfl, hR⟩
      · wp_walk using it1
        exact ⟨_, rfl, hR⟩
    · wp_walk using it1
      exact ⟨_, rfl, hR⟩
theorem callEnumT {pr : Program} {wo : World} {AA : Around} {E : Value → Shared → Prop} {s : Shared} {p : Addr} {xs : Array Value} {Q : Value → Shared → Prop} (ht : s.heap.IsTuple p xs)
    (h : ∀ h', IsEnum h' (s.heap.objs.size + 1) s.heap.objs.size 0 .none → h'.IsTupleIter s.heap.objs.size p 0 → h'.objs.size = s.heap.objs.size + 2 →
      (∀ b o, s.heap.get? b = some o → h'.get? b = some o) → Q (.ref (s.heap.objs.size + 1)) { s with heap := h' }) :
    wpAny (model pr wo) AA (call (.type "enumerate") [.ref p]) Q E s := by
  refine callType_new F.called_enumerate (by decide) (F.typeCall_enumerate_1 _) (F.newCall_enumerate_1 _)
    (fun ob => F.args_object_init_2 ob _) F.entry_enumerate_new (newEnumT p xs) ⟨ht, ?_⟩
  have hz : (s.heap.push (tupIt p)).objs.size = s.heap.objs.size + 1 := Heap.size_push ..
  show _ ∧ _
  rw [hz]
  have he : IsEnum ((s.heap.push (tupIt p)).push (enumO s.heap.objs.size)) (s.heap.objs.size + 1) s.heap.objs.size 0 .none := by
    have e1 := Heap.get?_push_size (s.heap.push (tupIt p)) (o := enumO s.heap.objs.size) rfl
    rw [hz] at e1
    exact e1
  exact ⟨⟨_, he, rfl⟩, h _ he ⟨_, Heap.get?_push_of_some _ (Heap.get?_push_size _ rfl), rfl, rfl⟩ (by rw [Heap.size_push, hz])
    fun b o z => Heap.get?_push_of_some _ (Heap.get?_push_of_some _ z)⟩
/-- the tuple at p as it stands at each turn, each item in a new pair -/
def IteT (K : PySem.W.Frag) (p : Addr) : It where
  go := fun i H => ∃ (xs : List V) (x : V), SqT K H p xs ∧ xs[i]? = some x
  yld := fun i H v H' => ∃ T x, v = .ref T ∧ H T = none ∧ H' = L2.upd H T (.tup [.int (i : Nat), x]) ∧ ∀ xs, SqT K H p xs → xs[i]? = some x
  stop := fun i H => ∃ xs : List V, SqT K H p xs ∧ xs.length = i
end Pf
namespace Pf
open PySem PySem.Spec PyProof.Rows L2
theorem turnEnumT {P : Program} {w : World} {K : PySem.W.Frag} {es : List Expr} {kk : Nat} {tp : Pos} (p e it : Addr) (hp : p ≠ it) (hpe : p ≠ e) :
    Turn P w K (.Tuple es kk tp) (IteT K p) [e, it] e
      (fun i h => (∃ old, IsEnum h e it ((i : Nat) : Int) old) ∧ h.IsTupleIter it p i ∧ e ≠ it) where
  mem := List.mem_cons_self ..
  obj := fun i h st b hb => by
    obtain ⟨⟨old, e1⟩, ⟨o, e2, _, e3⟩, _⟩ := st
    rcases List.mem_cons.mp hb with rfl | hb
    · exact ⟨_, e1, fun v z => nomatch z⟩
    · rw [List.mem_singleton.mp hb]
      exact ⟨o, e2, fun v z => by rw [e3] at z; cases z⟩
  keep := fun i h h' st k =>
    let ⟨⟨old, e1⟩, e2, n⟩ := st
    ⟨⟨old, k e (List.mem_cons_self ..) _ e1⟩, e2.at fun o z => k it (by simp) o z, n⟩
  item := by
    intro X hP hw hK hc i pins s σ H E I hf st hg
    subst hP hw hK
    obtain ⟨⟨old, e1⟩, e2, ne⟩ := st
    obtain ⟨xs, x, hq, hx⟩ := hg
    obtain ⟨its, rv, pt, _⟩ := I.tuple hq
    obtain ⟨u, hu, ru⟩ := rv.get hx
    have l1 : e < s.heap.objs.size := Heap.lt_size e1
    have l2 : it < s.heap.objs.size := by
      obtain ⟨_, z, _⟩ := e2
      exact Heap.lt_size z
    have hn : e ∉ [it, p] := fun z => by
      rcases List.mem_cons.mp z with z | z
      · exact ne z
      · exact hpe (List.mem_singleton.mp z).symm
    have hu2 : its.toArray[i]? = some u := by simpa using hu
    have li : i < its.toArray.size := (Array.getElem?_eq_some_iff.mp hu2).1
    refine wpAny_pyNext_enum_itemD (Draws.tuple (show X.A.in1.handled = none from I.ok.hd hc) it p hp its.toArray) e1 ⟨e2, pt⟩ li ne hn fun y h' tk hy ho hit' hT hsz hk => ?_
    have ey : y = u := Option.some.inj (hy.symm.trans hu2)
    subst ey
    refine ⟨_, rfl, wpAny_letOwnedTupleGo_enum (s := { s with heap := h', toks := tk + 1 }) ho fun h2 he2 sb => ?_⟩
    have hT2 : h2.get? s.heap.objs.size = some { cls := .type "tuple", data := .seq #[.int i tk, y] } := (sb.2 _ (Nat.ne_of_gt l1)).trans hT
    have nw : ObjOk X.prog X.w (L2.upd H s.heap.objs.size (.tup [.int (i : Nat), x])) h2 s.heap.objs.size (.tup [.int (i : Nat), x]) :=
      ⟨by show 2 ≤ sizeLine; decide, [.int i tk, y], .cons ⟨_, rfl⟩ (.cons ru .nil), ⟨_, hT2, rfl, _, rfl⟩⟩
    have I1 : Inv X pins σ (L2.upd H s.heap.objs.size (.tup [.int (i : Nat), x])) { s with heap := h2, toks := tk + 1 } :=
      I.turnedNew (ch := [e, it]) (fun b o hb z => (sb.2 b (fun q => hb (by simp [q]))).trans (hk b o (fun q => hb (by simp [q])) (fun q => hb (by simp [q])) z)) hf (Nat.le_refl _) nw
    refine ⟨.ref s.heap.objs.size, _, I1, rfl, ⟨_, x, rfl, I.hok.fresh (Nat.le_refl _), rfl, fun ys hy => by rw [I.tuple_inj hy hq]; exact hx⟩,
      ⟨⟨y, ?_⟩, hit'.1.at fun o z => (sb.2 it (Ne.symm ne)).trans z, ne⟩, fun b hb => ?_⟩
    · rw [show ((i + 1 : Nat) : Int) = (i : Int) + 1 by omega]
      exact he2
    · have lb : b < s.heap.objs.size := by
        rcases List.mem_cons.mp hb with rfl | hb
        · exact l1
        · rw [List.mem_singleton.mp hb]; exact l2
      rw [upd_ne (Nat.ne_of_lt lb)]
      exact (hf b hb).1
  done := by
    intro X hP hw hK hc i pins s σ H E I hf st hg
    subst hP hw hK
    obtain ⟨⟨old, e1⟩, e2, ne⟩ := st
    obtain ⟨xs, hq, hx⟩ := hg
    obtain ⟨its, rv, pt, _⟩ := I.tuple hq
    obtain ⟨f0, f1, f2, f3, f4, f5⟩ := hf it (by simp)
    have lr := rv.length
    have hs : its.toArray.size = i := by
      rw [List.size_toArray]
      omega
    subst hs
    exact wpAny_pyNext_enum_endD (Draws.tuple (show X.A.in1.handled = none from I.ok.hd hc) it p hp its.toArray) e1 ⟨e2, pt⟩
      fun h' eb => ⟨rfl, I.turned (t' := s.toks) (fun b o hb z => eb b o hb z) f0 f1 f3 f4 f5⟩
  self := fun A i s Q E st h => let ⟨⟨_, z⟩, _⟩ := st; wpAny_pyIter_enum z h

/-- enumerate of a list or of a tuple -/
def iEnumA (K : PySem.W.Frag) (ta : TA) : TI := fun σ H R => ta σ H fun vs H1 => ∃ p xs, vs = [.ref p] ∧ ((SqL K H1 p xs ∧ R (Ite K p) H1) ∨ (SqT K H1 p xs ∧ R (IteT K p) H1))
theorem pi_enumT {X : Cx} {e : Expr} {ta : TA} {p pos tp : Pos} {es : List Expr} {kk : Nat} (hg : Gl X "enumerate") (hm : X.mg "enumerate" = none) (ha : PA X [e] ta)
    (hs : starEach [e] X.env = [(false, eval e X.env)] := by rfl) :
    PI X (.Tuple es kk tp) (.Call (.Name "enumerate" p) [e] [] pos) (fun σ H R => ta σ H fun vs H1 => ∃ p xs, vs = [.ref p] ∧ SqT X.K H1 p xs ∧ R (IteT X.K p) H1) := by
  refine ⟨fun pins s σ H R I h => Call_ (ld_blt I hg hm boot_enumerate (PyProof.Rows.callWith_type1 (thn (ha.run pos pins s σ H _ I h) fun us s1 ⟨vs, H1, I1, r1, q1⟩ => ?_) hs rfl))⟩
  obtain ⟨q, xs, ex, hq, hR⟩ := q1
  subst ex
  cases r1 with
  | cons r rr =>
    cases rr
    cases r
    obtain ⟨its, rv, pt, _⟩ := I1.tuple hq
    obtain ⟨ot, et, _⟩ := id pt
    have lq : q < s1.heap.objs.size := Heap.lt_size et
    refine callEnumT pt fun h' he hit hsz hk => wpAny_pyIter_enum he ?_
    have I2 : Inv X pins σ H1 { s1 with heap := h' } := I1.kept (t' := s1.toks) hk
    refine ⟨s1.heap.objs.size + 1, [s1.heap.objs.size + 1, s1.heap.objs.size], _, _, H1, rfl, I2,
      turnEnumT q (s1.heap.objs.size + 1) s1.heap.objs.size (Nat.ne_of_lt lq) (Nat.ne_of_lt (Nat.lt_succ_of_lt lq)), ⟨⟨.none, he⟩, hit, Nat.succ_ne_self _⟩, fun b hb => ?_, hR⟩
    have lb : s1.heap.objs.size ≤ b := by
      rcases List.mem_cons.mp hb with rfl | hb
      · omega
      · rw [List.mem_singleton.mp hb]; exact Nat.le_refl _
    exact I1.fpOk lb (I1.hok.fresh lb)
theorem kiEnumT {X : Cx} (K : PySem.W.Frag) {e : Expr} {ta : TA} {p pos tp : Pos} {es : List Expr} {kk : Nat} (h : X.K = K) (hg : Gl X "enumerate") (hm : X.mg "enumerate" = none) (ha : PA X [e] ta)
    (hs : starEach [e] X.env = [(false, eval e X.env)] := by rfl) :
    PI X (.Tuple es kk tp) (.Call (.Name "enumerate" p) [e] [] pos) (fun σ H R => ta σ H fun vs H1 => ∃ p xs, vs = [.ref p] ∧ SqT K H1 p xs ∧ R (IteT K p) H1) := h ▸ pi_enumT hg hm ha hs
theorem walk_enumT {K : PySem.W.Frag} {p : Addr} {xs : List V} : Walk (IteT K p) xs.length (fun H => SqT K H p xs) (YPair (fun i => some (.int (i : Nat))) (fun i => xs[i]?)) where
  goes := fun i H hi q => ⟨xs, xs[i], q, List.getElem?_eq_getElem hi⟩
  stops := fun H q => ⟨xs, q, rfl⟩
  yields := fun i H x H' hi q ⟨T, y, e, nT, e2, f⟩ => ⟨T, .int (i : Nat), y, e, nT, e2, rfl, f xs q⟩
end Pf
namespace Pf
open PySem PySem.Spec PyProof.Rows L2
/-! ### rows, logs, doings as data -/
abbrev Row := Int × Int × Bool
def rowD (r : Row) : PyData := .tuple [.int r.1, .int r.2.1, .bool r.2.2]
def rowsD (rs : List Row) : PyData := .tuple (rs.map rowD)
def flagsD (fs : List Bool) : PyData := .tuple (fs.map PyData.bool)
def GoodRow (n : Int) (r : Row) : Prop := 0 ≤ r.1 ∧ r.1 < n ∧ 0 ≤ r.2.1 ∧ r.2.1 < n ∧ (r.2.1 = r.1 + 1 ∨ r.2.1 = r.1 - 1)
theorem im_rowD (r : Row) : im (rowD r) = true := rfl
theorem imAll_map {α : Type} {f : α → PyData} (h : ∀ x, im (f x) = true) (xs : List α) : imAll (xs.map f) = true := (imAll_iff _).mpr fun e he => by
  obtain ⟨x, _, rfl⟩ := List.mem_map.mp he
  exact h x
theorem im_rowsD (rs : List Row) : im (rowsD rs) = true := imAll_map im_rowD rs
theorem im_flagsD (fs : List Bool) : im (flagsD fs) = true := imAll_map (f := PyData.bool) (fun _ => rfl) fs
theorem of_row {K : PySem.W.Frag} {H : Hp} {v : V} {r : Row} (h : Dp K H v (rowD r)) : ∃ p, v = .ref p ∧ SqT K H p [.int r.1, .int r.2.1, .bl r.2.2] := by
  unfold rowD at h
  cases h with
  | tup q a =>
    cases a with
    | cons a1 a2 =>
      cases a2 with
      | cons a3 a4 =>
        cases a4 with
        | cons a5 a6 =>
          cases a6
          cases a1; cases a3; cases a5
          exact ⟨_, rfl, q⟩
theorem dp_row {K : PySem.W.Frag} {H : Hp} {p : Addr} {r : Row} (h : SqT K H p [.int r.1, .int r.2.1, .bl r.2.2]) : Dp K H (.ref p) (rowD r) := .tup h (.cons (.int _) (.cons (.int _) (.cons (.bl _) .nil)))
theorem of_tup {K : PySem.W.Frag} {H : Hp} {v : V} {ds : List PyData} (h : Dp K H v (.tuple ds)) : ∃ p xs, v = .ref p ∧ SqT K H p xs ∧ DpAll K H xs ds := by
  cases h with
  | tup q a => exact ⟨_, _, rfl, q, a⟩
theorem dpAll_flags {K : PySem.W.Frag} {H : Hp} : ∀ fs : List Bool, DpAll K H (fs.map V.bl) (fs.map PyData.bool)
  | [] => .nil
  | b :: r => .cons (.bl b) (dpAll_flags r)
theorem dpAll_flags_eq {K : PySem.W.Frag} {H : Hp} : ∀ {fs : List Bool} {vs : List V}, DpAll K H vs (fs.map PyData.bool) → vs = fs.map V.bl
  | [], _, .nil => rfl
  | b :: r, _, .cons p q => by
    cases p
    rw [dpAll_flags_eq q]
    rfl
theorem of_flags {K : PySem.W.Frag} {H : Hp} {v : V} {fs : List Bool} (h : Dp K H v (flagsD fs)) : ∃ p, v = .ref p ∧ SqT K H p (fs.map V.bl) := by
  obtain ⟨p, xs, rfl, q, a⟩ := of_tup h
  rw [dpAll_flags_eq a] at q
  exact ⟨p, rfl, q⟩
theorem dp_flags {K : PySem.W.Frag} {H : Hp} {p : Addr} {fs : List Bool} (h : SqT K H p (fs.map V.bl)) : Dp K H (.ref p) (flagsD fs) := .tup h (dpAll_flags fs)
/-- a log of n offices with the rows rs, of the class at C -/
def LogAt (K : PySem.W.Frag) (C : Addr) (H : Hp) (v : V) (n : Int) (rs : List Row) : Prop := ∃ a dx p, v = .ref a ∧ H a = some (.ins C dx [("offices", .int n), ("rows", .ref p)]) ∧ Dp K H (.ref p) (rowsD rs)
theorem LogAt.tx {K : PySem.W.Frag} {C : Addr} {H H' : Hp} {v : V} {n : Int} {rs : List Row} (h : LogAt K C H v n rs) (t : Tx H H') : LogAt K C H' v n rs := by
  obtain ⟨a, dx, p, rfl, e, d⟩ := h
  exact ⟨a, dx, p, rfl, t _ _ e (fun z w => by cases w), Dp.tx t _ _ (im_rowsD rs) d⟩
def GoodLog (n : Int) (rs : List Row) : Prop := 1 ≤ n ∧ n ≤ 12 ∧ rs.length ≤ 60 ∧ ∀ r ∈ rs, GoodRow n r
/-- a log that may have been returned: rows of any number -/
def AnyLog (n : Int) (rs : List Row) : Prop := 1 ≤ n ∧ n ≤ 12 ∧ rs.length ≤ 100000 ∧ ∀ r ∈ rs, GoodRow n r
theorem map_get {α β : Type} {f : α → β} {xs : List α} {i : Nat} {x : α} (h : xs[i]? = some x) : (xs.map f)[i]? = some (f x) := by rw [List.getElem?_map, h]; rfl
end Pf
namespace Pf
open PySem PySem.Spec PyProof.Rows L2
/-! ### sheets led over rows -/
theorem rising_range {f : Nat → Int} {n : Nat} (h : ∀ i j, i ≤ j → j < n → f i ≤ f j) : ((List.range n).map f).Pairwise (· ≤ ·) := by
  rw [List.pairwise_iff_getElem]
  intro i j hi hj hij
  have hj' : j < n := by simpa using hj
  simp only [List.getElem_map, List.getElem_range]
  exact h i j (by omega) hj'
def firstSt (n : Int) : List Int := (List.range n.toNat).map fun (i : Nat) => (i : Int)
def stepR (hs : List Int) (r : Row) (f : Bool) : List Int := if f = true then hs.set r.1.toNat (hs.getD r.2.1.toNat 0) else hs
def stAt (n : Int) (rs : List Row) (fs : List Bool) (i : Nat) : List Int := ((rs.zip fs).take i).foldl (fun h p => stepR h p.1 p.2) (firstSt n)
def allSt (n : Int) (rs : List Row) (fs : List Bool) : List PyData := (List.range (rs.length + 1)).map fun i => tupI (stAt n rs fs i)
theorem st_succ {n : Int} {rs : List Row} {fs : List Bool} {i : Nat} {r : Row} {f : Bool} (h : rs[i]? = some r) (k : fs[i]? = some f) : stAt n rs fs (i + 1) = stepR (stAt n rs fs i) r f := by
  unfold stAt
  rw [take_snoc ((List.getElem?_zip_eq_some (z := (r, f))).mpr ⟨h, k⟩), List.foldl_append]
  rfl
/-- sheets of n offices: they never fall -/
def GoodSt (n : Int) (hs : List Int) : Prop := (hs.length : Int) = n ∧ (∀ x ∈ hs, 0 ≤ x ∧ x < n) ∧ hs.Pairwise (· ≤ ·)
theorem firstSt_len (n : Int) : (firstSt n).length = n.toNat := by unfold firstSt; simp
theorem first_good {n : Int} (h : 0 ≤ n) : GoodSt n (firstSt n) := by
  refine ⟨by rw [firstSt_len]; omega, fun x hx => ?_, ?_⟩
  · obtain ⟨i, hi, rfl⟩ := List.mem_map.mp hx
    have := List.mem_range.mp hi
    omega
  · exact rising_range fun i j hij _ => by omega
theorem getD_of {hs : List Int} {i : Nat} {z : Int} (h : hs[i]? = some z) : hs.getD i 0 = z := by
  rw [List.getD_eq_getElem?_getD, h]; rfl
theorem set_good {n : Int} {hs : List Int} (h : GoodSt n hs) {x y : Nat} (hx : (x : Int) < n) (hy : (y : Int) < n) (hn : y = x + 1 ∨ x = y + 1) : GoodSt n (hs.set x (hs.getD y 0)) := by
  obtain ⟨h1, h2, h3⟩ := h
  have hyl : y < hs.length := by omega
  have e : hs.getD y 0 = hs[y] := getD_of (List.getElem?_eq_getElem hyl)
  rw [e]
  refine ⟨by rw [List.length_set]; exact h1, fun z hz => ?_, ?_⟩
  · rcases List.mem_or_eq_of_mem_set hz with hz | hz
    · exact h2 z hz
    · rw [hz]; exact h2 _ (List.getElem_mem hyl)
  · rw [List.pairwise_iff_getElem] at h3 ⊢
    intro i j hi hj hij
    rw [List.length_set] at hi hj
    rw [List.getElem_set, List.getElem_set]
    split
    · rename_i e1
      subst e1
      rw [if_neg (by omega)]
      by_cases q : y = j
      · subst q; exact Int.le_refl _
      · exact h3 y j hyl hj (by omega)
    · split
      · rename_i e1 e2
        subst e2
        by_cases q : i = y
        · subst q; exact Int.le_refl _
        · exact h3 i y hi hyl (by omega)
      · exact h3 i j hi hj hij
theorem step_good {n : Int} {hs : List Int} (h : GoodSt n hs) {r : Row} (g : GoodRow n r) (f : Bool) : GoodSt n (stepR hs r f) := by
  unfold stepR
  obtain ⟨g1, g2, g3, g4, g5⟩ := g
  split
  · exact set_good h (by omega) (by omega) (by omega)
  · exact h
theorem st_good {n : Int} (hn : 0 ≤ n) {rs : List Row} {fs : List Bool} (hg : ∀ r ∈ rs, GoodRow n r) (hl : fs.length = rs.length) : ∀ i, i ≤ rs.length → GoodSt n (stAt n rs fs i)
  | 0, _ => first_good hn
  | i + 1, h => by
    have hi : i < rs.length := by omega
    have hf : i < fs.length := by omega
    rw [st_succ (List.getElem?_eq_getElem hi) (List.getElem?_eq_getElem hf)]
    exact step_good (st_good hn hg hl i (by omega)) (hg _ (List.getElem_mem hi)) _
theorem rgV_first (n : Int) : rgV 0 n = (firstSt n).map V.int := by
  unfold rgV firstSt
  rw [List.map_map, Int.sub_zero]
  refine List.map_congr_left fun i _ => ?_
  show V.int (0 + (i : Int)) = V.int (i : Int)
  rw [Int.zero_add]
theorem atI_lastG {α : Type} {xs : List α} {v : α} (h : xs[xs.length - 1]? = some v) : atI xs (-1) = some v := by
  have hl : xs ≠ [] := fun e => by rw [e] at h; cases h
  have e : xs = xs.dropLast ++ [xs.getLast hl] := (List.dropLast_concat_getLast hl).symm
  have ez : xs.getLast hl = v := by
    rw [← List.getLast?_eq_getElem?, List.getLast?_eq_getLast hl] at h
    exact Option.some.inj h
  rw [e, ez]
  exact atI_last _ _
/-- an item by a whole number -/
theorem atI_at {α : Type} {xs : List α} {i : Int} {v : α} (h0 : 0 ≤ i) (h : xs[i.toNat]? = some v) : atI xs i = some v := by
  have e : i = ((i.toNat : Nat) : Int) := by omega
  rw [e]
  exact atI_nat h
theorem ixN_at {n : Nat} {i : Int} (h0 : 0 ≤ i) (h : i < n) : ixN n i = some i.toNat := by
  unfold ixN
  rw [if_pos h0, if_pos h]
theorem range1_map {α : Type} {f : Nat → α} {n : Nat} : (List.range (n + 1)).map f = (List.range n).map f ++ [f n] := by
  rw [List.range_succ, List.map_append]
  rfl
theorem imAll_tupI (f : Nat → List Int) (n : Nat) : imAll ((List.range n).map fun i => tupI (f i)) = true := imAll_map (fun i => im_ints _) _
/-- drawn data, each by its place -/
theorem lc_drawI {K : PySem.W.Frag} {J : It} {n : Nat} {G : Hp → Prop} {Y : Nat → Hp → V → Hp → Prop} {g : TG} {tt : TT} {te : TE} {vs : List Nat} {σ : L2.St} {H1 : Hp} {D : Addr} {Qd : Hp → Prop} {d c : Addr} (w : Walk J n G Y) (PD : Nat → PyData → Prop) (hn : n < sizeLine) (him : ∀ i e, PD i e → im e = true) (nD1 : H1 D = none) (hD : Dice d c H1) (hG : ∀ H, Fr d H1 H → G H)
    (hs : ∀ i x H H' (C : V → Hp → Prop) (Cn : Hp → Prop), i < n → Fr d H1 H → Dice d c H → Y i H x H' → (∀ y e H4, Fr d H H4 → Dice d c H4 → Dp K H4 y e → PD i e → C y H4) →
      g x (wipe σ vs) H' fun σ2 H2 => wipe σ2 vs = wipe σ vs ∧ tt σ2 H2 fun b H3 => if b = true then te σ2 H3 C else Cn H3)
    (hd : ∀ H xs ds, Fr d H1 H → Dice d c H → H D = some (.lst xs) → DpAll K H xs ds → ds.length = n → (∀ i e, ds[i]? = some e → PD i e) → Qd H) :
    ∃ W : Nat → Nat → Hp → Prop, (∃ m, W 0 m (L2.upd H1 D (.lst []))) ∧ ∀ i m H, W i m H →
      (J.stop i H ∧ Qd H) ∨ (J.go i H ∧ ∃ Nx : Hp → Prop, (∀ H', Nx H' → ∃ m', m' < m ∧ W (i + 1) m' H') ∧ ∀ x H', J.yld i H x H' → g x (wipe σ vs) H' fun σ2 H2 => wipe σ2 vs = wipe σ vs ∧ tt σ2 H2 fun b H3 =>
        if b = true then te σ2 H3 fun y H4 => ∃ acc, H4 D = some (.lst acc) ∧ acc.length < sizeLine ∧ Nx (L2.upd H4 D (.lst (acc ++ [y]))) else Nx H3) := by
  refine lc_cps w (fun i H acc => Fr d H1 H ∧ Dice d c H ∧ ∃ ds, DpAll K H acc ds ∧ ds.length = i ∧ ∀ i e, ds[i]? = some e → PD i e) ⟨Fr.new nD1, hD.new nD1, [], .nil, rfl, fun i e h => by simp at h⟩ (fun i H acc hi r e => hG H r.1) (fun i x H H' acc C Cn hi r e hy hC hN => ?_)
    (fun H acc ⟨r1, r2, ds, r3, r4, r5⟩ e => hd H acc ds r1 r2 e r3 r4 r5)
  obtain ⟨r1, r2, ds, r3, r4, r5⟩ := r
  refine hs i x H H' C Cn hi r1 r2 hy (fun y ee H4 f4 d4 dy pe => ?_)
  have e4 : H4 D = some (.lst acc) := f4 _ _ (hD.nd nD1) e
  have hall : ∀ j z, (ds ++ [ee])[j]? = some z → PD j z := fun j z hz => by
    by_cases hj : j < ds.length
    · rw [List.getElem?_append_left hj] at hz
      exact r5 j z hz
    · have hj2 : j = ds.length := by
        have := (List.getElem?_eq_some_iff.mp hz).1
        rw [List.length_append, List.length_singleton] at this
        omega
      subst hj2
      rw [List.getElem?_concat_length] at hz
      cases hz
      rw [r4]
      exact pe
  refine hC y H4 e4 (by rw [DpAll.len r3]; omega) ⟨Fr.put (r1.trans f4) nD1, d4.put (hD.nd nD1) (hD.nc nD1), ds ++ [ee], ?_, by rw [List.length_append, r4]; rfl, hall⟩
  have im1 : imAll (ds ++ [ee]) = true := (imAll_iff _).mpr fun z hz => by
    obtain ⟨j, hj⟩ := List.mem_iff_getElem?.mp hz
    exact him j z (hall j z hj)
  have im0 : imAll ds = true := (imAll_iff _).mpr fun z hz => by
    obtain ⟨j, hj⟩ := List.mem_iff_getElem?.mp hz
    exact him j z (r5 j z hj)
  exact Dp.txAll (Tx.lst e4) _ _ im1 (DpAll.snoc (Dp.txAll (r2.tx f4) _ _ im0 r3) dy)
end Pf
namespace Pf
open PySem PySem.Spec PyProof.Rows L2
theorem cutV_take (xs : List V) (i : Nat) : cutV xs none (some (i : Int)) = xs.take i := by
  unfold cutV
  rw [HT.sIx_none, HT.sIx_nat, Nat.sub_zero, List.drop_zero]
  by_cases h : i ≤ xs.length
  · rw [Nat.min_eq_left h]
  · rw [Nat.min_eq_right (by omega), List.take_length, List.take_of_length_le (by omega)]
theorem cutV_drop (xs : List V) (i : Nat) : cutV xs (some (i : Int)) none = xs.drop i := by
  unfold cutV
  rw [HT.sIx_none, HT.sIx_nat]
  by_cases h : i ≤ xs.length
  · rw [Nat.min_eq_left h]
    exact List.take_of_length_le (by rw [List.length_drop]; exact Nat.le_refl _)
  · rw [Nat.min_eq_right (by omega), Nat.sub_self, List.take_zero, List.drop_of_length_le (by omega)]
abbrev lstI (ns : List Int) : PyData := .list (ns.map PyData.int)
theorem shaped_lstI (ns : List Int) : SeqAt.shaped (lstI ns) = true := by
  unfold SeqAt.shaped
  rw [Bool.and_eq_true]
  refine ⟨canLay_ints ns, decide_eq_true ?_⟩
  show PyData.depthAll (ns.map PyData.int) + 1 ≤ 64
  rw [depth_ints]
  decide
theorem eqv_lstI (ns ms : List Int) : PyData.eqv (lstI ns) (lstI ms) = decide (ns = ms) := eqv_ints ns ms
theorem dp_lstI {K : PySem.W.Frag} {H : Hp} {p : Addr} {ns : List Int} (h : SqL K H p (ns.map V.int)) : Dp K H (.ref p) (lstI ns) := .lst h (dpAll_ints ns)
/-- a log as it is made -/
theorem log_made {H H' : Hp} {C x dx : Addr} (nx : H x = none) (nd : H dx = none) (f : Fr x (L2.upd (L2.upd H dx (.own x)) x (.ins C dx [])) H') : Same H H' := fun b o e => by
  have n1 : b ≠ x := ne_of_none e nx
  have n2 : b ≠ dx := ne_of_none e nd
  exact f b o n1 (by rw [upd_ne n1, upd_ne n2]; exact e)
theorem set_cut {hs : List Int} {x : Nat} {z : Int} (h : x < hs.length) : (hs.set x z).map V.int = ((hs.map V.int).take x ++ [V.int z]) ++ (hs.map V.int).drop (x + 1) := by
  rw [List.set_eq_take_append_cons_drop, if_pos h, List.map_append, List.map_cons, List.map_take, List.map_drop, List.append_assoc]
  rfl
/-- drawn whole numbers -/
def IntIn (m : Int) (e : PyData) : Prop := ∃ z, e = .int z ∧ 0 ≤ z ∧ z < m
theorem IntIn.all {K : PySem.W.Frag} {H : Hp} {m : Int} : ∀ {xs : List V} {ds : List PyData}, DpAll K H xs ds → (∀ e ∈ ds, IntIn m e) → ∃ ns : List Int, xs = ns.map V.int ∧ ns.length = ds.length ∧ ∀ x ∈ ns, 0 ≤ x ∧ x < m
  | _, _, .nil, _ => ⟨[], rfl, rfl, fun x hx => by cases hx⟩
  | _, _, .cons p q, h => by
    obtain ⟨ns, e1, e2, e3⟩ := IntIn.all q fun e he => h e (List.mem_cons_of_mem _ he)
    obtain ⟨z, rfl, z0, z1⟩ := h _ (List.mem_cons_self ..)
    cases p
    refine ⟨z :: ns, by rw [e1]; rfl, by rw [List.length_cons, List.length_cons, e2], fun x hx => ?_⟩
    rcases List.mem_cons.mp hx with rfl | hx
    · exact ⟨z0, z1⟩
    · exact e3 x hx
end Pf

--BODY
namespace Pf
open PySem PySem.Spec PyProof.Rows L2
theorem DpAll.take {K : PySem.W.Frag} {H : Hp} : ∀ {xs : List V} {ds : List PyData} (i : Nat), DpAll K H xs ds → DpAll K H (xs.take i) (ds.take i)
  | _, _, 0, _ => by rw [List.take_zero, List.take_zero]; exact .nil
  | _, _, _ + 1, .nil => by rw [List.take_nil, List.take_nil]; exact .nil
  | _, _, i + 1, .cons p q => by rw [List.take_succ_cons, List.take_succ_cons]; exact .cons p (DpAll.take i q)
theorem DpAll.drop {K : PySem.W.Frag} {H : Hp} : ∀ {xs : List V} {ds : List PyData} (i : Nat), DpAll K H xs ds → DpAll K H (xs.drop i) (ds.drop i)
  | _, _, 0, h => by rw [List.drop_zero, List.drop_zero]; exact h
  | _, _, _ + 1, .nil => by rw [List.drop_nil, List.drop_nil]; exact .nil
  | _, _, i + 1, .cons p q => by rw [List.drop_succ_cons, List.drop_succ_cons]; exact DpAll.drop i q
theorem canLay_rows : ∀ rs : List Row, PyData.canLayAll0 (rs.map rowD) = true
  | [] => rfl
  | r :: rs => by
    show (PyData.canLay0 (rowD r) && PyData.canLayAll0 (rs.map rowD)) = true
    rw [canLay_rows rs]
    rfl
theorem depth_rows : ∀ rs : List Row, PyData.depthAll (rs.map rowD) ≤ 1
  | [] => Nat.zero_le _
  | r :: rs => by
    have := depth_rows rs
    show max (PyData.depth (rowD r)) (PyData.depthAll (rs.map rowD)) ≤ 1
    have e : PyData.depth (rowD r) = 1 := rfl
    omega
theorem shaped_rowsD (rs : List Row) : SeqAt.shaped (rowsD rs) = true := by
  unfold SeqAt.shaped
  rw [Bool.and_eq_true]
  refine ⟨canLay_rows rs, decide_eq_true ?_⟩
  have := depth_rows rs
  show PyData.depthAll (rs.map rowD) + 1 ≤ 64
  omega
theorem eqv_self {d : PyData} (h : SeqAt.shaped d = true) : PyData.eqv d d = true := SeqAt.eqv_refl d (SeqAt.canLay_of_shaped h)
/-- two logs alike -/
def LogEq (K : PySem.W.Frag) (C : Addr) (x y : Addr) (H : Hp) : Prop := ∃ n rs, LogAt K C H (.ref x) n rs ∧ LogAt K C H (.ref y) n rs
def loose (rs : List Row) : List Row := rs.map fun r => (r.1, r.2.1, false)
end Pf
namespace Pf
open PySem PySem.Spec PyProof.Rows L2
theorem loose_st (n : Int) (rs : List Row) (fs : List Bool) (i : Nat) : stAt n (loose rs) fs i = stAt n rs fs i := by
  unfold stAt loose
  rw [List.zip_map_left, ← List.map_take, List.foldl_map]
  rfl
theorem loose_len (rs : List Row) : (loose rs).length = rs.length := by unfold loose; simp
theorem loose_good {n : Int} {rs : List Row} (h : AnyLog n rs) : AnyLog n (loose rs) := ⟨h.1, h.2.1, by rw [loose_len]; exact h.2.2.1, fun r hr => by
  obtain ⟨q, hq, rfl⟩ := List.mem_map.mp hr
  exact h.2.2.2 q hq⟩
theorem put_out {rs : List Row} {r : Row} {k : Nat} (h : k ≤ rs.length) : (rs.take k ++ r :: rs.drop k).take k ++ (rs.take k ++ r :: rs.drop k).drop (k + 1) = rs := by
  have e : (rs.take k).length = k := by rw [List.length_take]; omega
  rw [List.take_append_of_le_length (by omega), List.take_of_length_le (by omega), List.drop_append, e, List.drop_of_length_le (by omega), show k + 1 - k = 1 by omega]
  show rs.take k ++ ([] ++ rs.drop k) = rs
  rw [List.nil_append, List.take_append_drop]
theorem dp_cut {K : PySem.W.Frag} {H : Hp} {p : Addr} {xs : List V} {rs : List Row} {i j : Nat} (h : SqT K H p (xs.take i ++ xs.drop j)) (ha : DpAll K H xs (rs.map rowD)) : Dp K H (.ref p) (rowsD (rs.take i ++ rs.drop j)) := .tup h (by
  rw [List.map_append, List.map_take, List.map_drop]
  exact DpAll.app (DpAll.take _ ha) (DpAll.drop _ ha))
theorem dp_put {K : PySem.W.Frag} {H : Hp} {p : Addr} {xs : List V} {rs : List Row} {i j : Nat} {v : V} {r : Row} (h : SqT K H p ((xs.take i ++ [v]) ++ xs.drop j)) (ha : DpAll K H xs (rs.map rowD)) (hv : Dp K H v (rowD r)) : Dp K H (.ref p) (rowsD (rs.take i ++ r :: rs.drop j)) := .tup h (by
  rw [List.map_append, List.map_cons, List.map_take, List.map_drop, show rowD r :: List.drop j (List.map rowD rs) = [rowD r] ++ List.drop j (List.map rowD rs) from rfl, ← List.append_assoc]
  exact DpAll.app (DpAll.app (DpAll.take _ ha) (.cons hv .nil)) (DpAll.drop _ ha))
end Pf
namespace Pf
open PySem PySem.Spec PyProof.Rows L2
theorem units65 {k : Nat} {A : Around} (hr : Room k A) : A.units + 65 < cLine := by
  have := hr.un
  omega
def idleP (n : Int) (rs : List Row) (fs : List Bool) (i : Nat) : Bool := fs.getD i false && decide (stAt n rs fs i = stAt n rs fs (i + 1))
def idleTo (n : Int) (rs : List Row) (fs : List Bool) (m : Nat) : List Int := ((List.range m).filter (idleP n rs fs)).map fun (i : Nat) => (i : Int)
theorem idle_succ (n : Int) (rs : List Row) (fs : List Bool) (m : Nat) : idleTo n rs fs (m + 1) = idleTo n rs fs m ++ (if idleP n rs fs m = true then [(m : Int)] else []) := by
  unfold idleTo
  rw [List.range_succ, List.filter_append, List.map_append]
  by_cases h : idleP n rs fs m = true
  · rw [filt1 h, if_pos h]; rfl
  · rw [filt0 h, if_neg h]; rfl
theorem idle_len (n : Int) (rs : List Row) (fs : List Bool) (m : Nat) : (idleTo n rs fs m).length ≤ m := by
  unfold idleTo
  rw [List.length_map]
  have := List.length_filter_le (idleP n rs fs) (List.range m)
  rw [List.length_range] at this
  exact this
theorem allSt_at {n : Int} {rs : List Row} {fs : List Bool} {j : Nat} (h : j ≤ rs.length) : (allSt n rs fs)[j]? = some (tupI (stAt n rs fs j)) := by
  unfold allSt
  rw [List.getElem?_map, List.getElem?_range (by omega)]
  rfl
theorem allSt_len (n : Int) (rs : List Row) (fs : List Bool) : (allSt n rs fs).length = rs.length + 1 := by unfold allSt; simp
theorem imAll_allSt (n : Int) (rs : List Row) (fs : List Bool) : imAll (allSt n rs fs) = true := imAll_tupI _ _
/-- an item of such a list -/
theorem st_item {K : PySem.W.Frag} {H : Hp} {xs : List V} {n : Int} {rs : List Row} {fs : List Bool} {j : Nat} (h : DpAll K H xs (allSt n rs fs)) (hj : j ≤ rs.length) : ∃ v, xs[j]? = some v ∧ Dp K H v (tupI (stAt n rs fs j)) := by
  have hl : j < xs.length := by rw [DpAll.len h, allSt_len]; omega
  exact ⟨_, List.getElem?_eq_getElem hl, DpAll.at h (List.getElem?_eq_getElem hl) (allSt_at hj)⟩
/-- all doings of rows -/
def dStep (r : Row) (d : List Bool) : List (List Bool) := if r.2.2 = true then [d ++ [true]] else [d ++ [false], d ++ [true]]
def dTo : List Row → List (List Bool) → List (List Bool)
  | [], ds => ds
  | r :: rs, ds => dTo rs (ds.flatMap (dStep r))
def dAt (rs : List Row) (i : Nat) : List (List Bool) := dTo (rs.take i) [[]]
theorem dTo_snoc : ∀ (rs : List Row) (r : Row) (ds : List (List Bool)), dTo (rs ++ [r]) ds = (dTo rs ds).flatMap (dStep r)
  | [], _, _ => rfl
  | q :: rs, r, ds => dTo_snoc rs r (ds.flatMap (dStep q))
theorem dAt_succ {rs : List Row} {i : Nat} {r : Row} (h : rs[i]? = some r) : dAt rs (i + 1) = (dAt rs i).flatMap (dStep r) := by
  unfold dAt
  rw [take_snoc h, dTo_snoc]
theorem dStep_len (r : Row) (d : List Bool) : (dStep r d).length ≤ 2 := by
  unfold dStep
  split
  · exact Nat.le_succ 1
  · exact Nat.le_refl 2
theorem flatMap_len {α β : Type} (f : α → List β) (h : ∀ x, (f x).length ≤ 2) : ∀ xs : List α, (xs.flatMap f).length ≤ 2 * xs.length
  | [] => Nat.zero_le _
  | x :: xs => by
    rw [List.flatMap_cons, List.length_append, List.length_cons]
    have := h x
    have := flatMap_len f h xs
    omega
theorem dAt_len {rs : List Row} : ∀ i, i ≤ rs.length → (dAt rs i).length ≤ 2 ^ i
  | 0, _ => Nat.le_refl 1
  | i + 1, h => by
    rw [dAt_succ (List.getElem?_eq_getElem (show i < rs.length by omega))]
    have h1 := flatMap_len _ (dStep_len rs[i]) (dAt rs i)
    have h2 := dAt_len i (show i ≤ rs.length by omega)
    rw [Nat.pow_succ]
    omega
theorem canLay_flags : ∀ fs : List Bool, PyData.canLayAll0 (fs.map PyData.bool) = true
  | [] => rfl
  | _ :: r => by
    show (PyData.canLay0 (.bool _) && PyData.canLayAll0 (r.map PyData.bool)) = true
    rw [canLay_flags r]
    rfl
theorem depth_flags : ∀ fs : List Bool, PyData.depthAll (fs.map PyData.bool) = 0
  | [] => rfl
  | _ :: r => by
    show max (PyData.depth (.bool _)) (PyData.depthAll (r.map PyData.bool)) = 0
    rw [depth_flags r]
    rfl
theorem depth_flagsD (fs : List Bool) : PyData.depth (flagsD fs) = 1 := by
  show PyData.depthAll (fs.map PyData.bool) + 1 = 1
  rw [depth_flags]
theorem shaped_flagsD (fs : List Bool) : SeqAt.shaped (flagsD fs) = true := by
  unfold SeqAt.shaped
  rw [Bool.and_eq_true]
  exact ⟨canLay_flags fs, decide_eq_true (by rw [depth_flagsD]; decide)⟩
theorem canLay_fl : ∀ ds : List (List Bool), PyData.canLayAll0 (ds.map flagsD) = true
  | [] => rfl
  | d :: r => by
    show (PyData.canLay0 (flagsD d) && PyData.canLayAll0 (r.map flagsD)) = true
    rw [canLay_fl r, show PyData.canLay0 (flagsD d) = true from canLay_flags d]
    rfl
theorem depth_fl : ∀ ds : List (List Bool), PyData.depthAll (ds.map flagsD) ≤ 1
  | [] => Nat.zero_le _
  | d :: r => by
    have := depth_fl r
    show max (PyData.depth (flagsD d)) (PyData.depthAll (r.map flagsD)) ≤ 1
    rw [depth_flagsD]
    omega
theorem shaped_fl (ds : List (List Bool)) : SeqAt.shaped (.list (ds.map flagsD)) = true := by
  unfold SeqAt.shaped
  rw [Bool.and_eq_true]
  refine ⟨canLay_fl ds, decide_eq_true ?_⟩
  have := depth_fl ds
  show PyData.depthAll (ds.map flagsD) + 1 ≤ 64
  omega
theorem eqv_flags : ∀ fs gs : List Bool, PyData.eqvAll (fs.map PyData.bool) (gs.map PyData.bool) = decide (fs = gs)
  | [], [] => rfl
  | [], _ :: _ => rfl
  | _ :: _, [] => rfl
  | x :: r, y :: q => by
    show ((x == y) && PyData.eqvAll (r.map PyData.bool) (q.map PyData.bool)) = _
    rw [eqv_flags r q, Bool.eq_iff_iff]
    simp
theorem any_fl (ds : List (List Bool)) (fs : List Bool) : ((ds.map flagsD).any fun z => PyData.eqv z (flagsD fs)) = decide (fs ∈ ds) := by
  rw [Bool.eq_iff_iff, List.any_eq_true, decide_eq_true_iff]
  constructor
  · rintro ⟨z, hz, e⟩
    obtain ⟨g, hg, rfl⟩ := List.mem_map.mp hz
    have e2 : PyData.eqvAll (g.map PyData.bool) (fs.map PyData.bool) = true := e
    rw [eqv_flags] at e2
    rw [← of_decide_eq_true e2]
    exact hg
  · intro h
    exact ⟨flagsD fs, List.mem_map.mpr ⟨fs, h, rfl⟩, eqv_self (shaped_flagsD fs)⟩
end Pf
namespace Pf
open PySem PySem.Spec PyProof.Rows L2
theorem kit_self {K : PySem.W.Frag} {C : Addr} : PySem.W.kitOne K (.ref C) (.ref C) = some true := by
  unfold PySem.W.kitOne
  exact if_pos (by first | exact beq_self_eq_true _ | simp | rfl)
end Pf
namespace Pf
open PySem PySem.Spec PyProof.Rows L2
theorem range_map_ofX {n : Int} {rs : List Row} {fs : List Bool} {i : Nat} {e : PyData} (h : (allSt n rs fs)[i]? = some e) : ∃ j, j ≤ rs.length ∧ e = tupI (stAt n rs fs j) := by
  have hl : i < rs.length + 1 := by
    have := (List.getElem?_eq_some_iff.mp h).1
    rwa [allSt_len] at this
  rw [allSt_at (by omega)] at h
  exact ⟨i, by omega, (Option.some.inj h).symm⟩
end Pf
namespace Pf
open PySem PySem.Spec PyProof.Rows L2
theorem kInD {X : Cx} (K : PySem.W.Frag) (h : X.K = K) (hu : X.A.units + 65 < cLine) : OpR X (compareOp .In) (rInD K) := kO K (r := rInD) h (op_inD hu)
end Pf
namespace Pf
open PySem PySem.Spec PyProof.Rows L2
theorem kRepT {X : Cx} (K : PySem.W.Frag) (h : X.K = K) : OpR X (binaryOp .Mult) (rRepT K) := kO K (r := rRepT) h op_repT
/-! ### orders -/
def swapAt (o : List Int) (p : Nat) : List Int := if o.getD p 0 < o.getD (p + 1) 0 then (o.set p (o.getD (p + 1) 0)).set (p + 1) (o.getD p 0) else o
def isL (r : Row) : Bool := decide (r.1 < r.2.1)
def placeR (r : Row) : Int := (if r.2.1 > r.1 then r.2.1 else r.1) - 1
def sideR (rs : List Row) (b : Bool) : List Row := rs.filter fun r => isL r == b
def ordF (o : List Int) (rs : List Row) : List Int := rs.foldl (fun o r => swapAt o (placeR r).toNat) o
def ordOf (n : Int) (rs : List Row) (b : Bool) : List Int := ordF (firstSt n) (sideR rs b)
theorem swap_len (o : List Int) (p : Nat) : (swapAt o p).length = o.length := by
  unfold swapAt
  split
  · rw [List.length_set, List.length_set]
  · rfl
theorem ordF_len : ∀ (rs : List Row) (o : List Int), (ordF o rs).length = o.length
  | [], _ => rfl
  | r :: rs, o => by
    show (ordF (swapAt o (placeR r).toNat) rs).length = o.length
    rw [ordF_len rs, swap_len]
theorem ordF_snoc (o : List Int) (rs : List Row) (r : Row) : ordF o (rs ++ [r]) = swapAt (ordF o rs) (placeR r).toNat := by
  unfold ordF
  rw [List.foldl_append]
  rfl
theorem side_snoc (rs : List Row) (r : Row) (b : Bool) : sideR (rs ++ [r]) b = sideR rs b ++ (if (isL r == b) = true then [r] else []) := by
  unfold sideR
  rw [List.filter_append]
  by_cases h : (isL r == b) = true
  · rw [filt1 (p := fun r => isL r == b) h, if_pos h]
  · rw [filt0 (p := fun r => isL r == b) h, if_neg h]
theorem ordOf_snoc (n : Int) (rs : List Row) (r : Row) (b : Bool) : ordOf n (rs ++ [r]) b = if (isL r == b) = true then swapAt (ordOf n rs b) (placeR r).toNat else ordOf n rs b := by
  unfold ordOf
  rw [side_snoc]
  split
  · rw [ordF_snoc]
  · rw [List.append_nil]
theorem ordOf_len (n : Int) (rs : List Row) (b : Bool) : (ordOf n rs b).length = n.toNat := by
  unfold ordOf
  rw [ordF_len, firstSt_len]
theorem place_of {n : Int} {r : Row} (g : GoodRow n r) : 0 ≤ placeR r ∧ placeR r + 1 < n := by
  obtain ⟨g1, g2, g3, g4, g5⟩ := g
  unfold placeR
  split <;> omega
theorem getD_set_eq {o : List Int} {p : Nat} {z : Int} (h : p < o.length) : (o.set p z).getD p 0 = z := by
  rw [List.getD_eq_getElem?_getD, List.getElem?_set_self h]
  rfl
theorem getD_set_ne {o : List Int} {p q : Nat} {z : Int} (h : p ≠ q) : (o.set p z).getD q 0 = o.getD q 0 := by
  rw [List.getD_eq_getElem?_getD, List.getElem?_set_ne h, List.getD_eq_getElem?_getD]
theorem swap_swap {o : List Int} {p : Nat} (h : p + 1 < o.length) : swapAt (swapAt o p) p = swapAt o p := by
  by_cases c : o.getD p 0 < o.getD (p + 1) 0
  · have e : swapAt o p = (o.set p (o.getD (p + 1) 0)).set (p + 1) (o.getD p 0) := if_pos c
    rw [e]
    unfold swapAt
    rw [if_neg]
    rw [getD_set_eq (by rw [List.length_set]; exact h), getD_set_ne (by omega), getD_set_eq (by omega)]
    omega
  · have e : swapAt o p = o := if_neg c
    rw [e, e]
/-- the last row once more -/
theorem ord_again {n : Int} {rs : List Row} {r : Row} (hr : rs.getLast? = some r) (g : GoodRow n r) (b : Bool) : ordOf n (rs ++ [r]) b = ordOf n rs b := by
  obtain ⟨ps, rfl⟩ := List.getLast?_eq_some_iff.mp hr
  rw [ordOf_snoc, ordOf_snoc]
  split
  · have hp := place_of g
    exact swap_swap (by rw [ordOf_len]; omega)
  · rfl
theorem ord_loose (n : Int) (rs : List Row) (b : Bool) : ordOf n (loose rs) b = ordOf n rs b := by
  unfold ordOf sideR loose ordF
  rw [List.filter_map, List.foldl_map]
  rfl
theorem ord_lefts (n : Int) (rs : List Row) : ordOf n (rs.filter isL) true = ordOf n rs true ∧ ordOf n (rs.filter isL) false = firstSt n := by
  have e1 : (fun r : Row => isL r == true) = isL := by
    funext r
    cases isL r <;> rfl
  constructor
  · unfold ordOf sideR
    rw [List.filter_filter, e1]
    congr 2
    funext r
    cases isL r <;> rfl
  · unfold ordOf sideR
    rw [List.filter_filter, List.filter_eq_nil_iff.mpr (fun r _ => by cases isL r <;> decide)]
    rfl
def pairD (n : Int) (rs : List Row) : PyData := .tuple [tupI (ordOf n rs true), tupI (ordOf n rs false)]
theorem im_pairD (n : Int) (rs : List Row) : im (pairD n rs) = true := by
  show (im (tupI (ordOf n rs true)) && (im (tupI (ordOf n rs false)) && true)) = true
  rw [im_ints, im_ints]
  rfl
theorem shaped_pair (x y : List Int) : SeqAt.shaped (.tuple [tupI x, tupI y]) = true := by
  unfold SeqAt.shaped
  rw [Bool.and_eq_true]
  refine ⟨?_, decide_eq_true ?_⟩
  · show (PyData.canLay0 (tupI x) && (PyData.canLay0 (tupI y) && true)) = true
    rw [show PyData.canLay0 (tupI x) = true from canLay_ints x, show PyData.canLay0 (tupI y) = true from canLay_ints y]
    rfl
  · show max (PyData.depthAll (x.map PyData.int) + 1) (max (PyData.depthAll (y.map PyData.int) + 1) 0) + 1 ≤ 64
    rw [depth_ints, depth_ints]
    decide
theorem dpAll_rep {K : PySem.W.Frag} {H : Hp} {xs : List V} {rs : List Row} (h : DpAll K H xs (rs.map rowD)) : ∀ k : Nat, DpAll K H (List.replicate k xs).flatten ((List.replicate k rs).flatten.map rowD)
  | 0 => .nil
  | k + 1 => by
    rw [List.replicate_succ, List.replicate_succ, List.flatten_cons, List.flatten_cons, List.map_append]
    exact DpAll.app h (dpAll_rep h k)
theorem rep_mem {rs : List Row} {r : Row} {k : Nat} (h : r ∈ (List.replicate k rs).flatten) : r ∈ rs := by
  obtain ⟨l, hl, hr⟩ := List.mem_flatten.mp h
  rw [(List.mem_replicate.mp hl).2] at hr
  exact hr
theorem rep_len (rs : List Row) (k : Nat) : (List.replicate k rs).flatten.length = k * rs.length := by
  rw [List.length_flatten, List.map_replicate, List.sum_replicate_nat]
theorem getD_at {o : List Int} {p : Nat} (h : p < o.length) : o[p]? = some (o.getD p 0) := by
  rw [List.getElem?_eq_getElem h, getD_of (List.getElem?_eq_getElem h)]
theorem cutV_last {xs : List V} {v : V} (h : xs.getLast? = some v) : cutV xs (some (-1)) none = [v] := by
  obtain ⟨ys, rfl⟩ := List.getLast?_eq_some_iff.mp h
  have e1 : HT.sIx (ys ++ [v]).length 0 (some (-1)) = ys.length := by
    show (if (-1 : Int) < 0 then ((-1 : Int) + ((ys ++ [v]).length : Int)).toNat else min (-1 : Int).toNat (ys ++ [v]).length) = ys.length
    rw [if_pos (by decide), List.length_append, List.length_singleton]
    omega
  unfold cutV
  rw [e1, HT.sIx_none, List.drop_left, List.length_append, List.length_singleton, Nat.add_sub_cancel_left]
  rfl
end Pf

--BODY
namespace Pf
open PySem PySem.Spec PyProof.Rows L2 HT
section
variable {prog : Program} {w : World} {A : Around} {E : Value → Shared → Prop} {s : Shared}
theorem sliceApplied_rev {sl : Addr} {vl vu vs : Value} {n : Nat} {Q : Int × Int × Nat → Shared → Prop} (hs : s.heap.IsSliceOf sl vl vu vs) (pl : IsPart vl none) (pu : IsPart vu none) (ps : IsPart vs (some (-1)))
    (h : Q ((n : Int) - 1, -1, n) s) : wpAny (model prog w) A (Builtin.Slice.sliceApplied (.ref sl) (pure (n : Int))) Q E s := by
  obtain ⟨os, hos, hcs, hds⟩ := id hs
  unfold Builtin.Slice.sliceApplied Builtin.Slice.sliceFields
  refine wpAny_bind (wpAny_bind (wpAny_field hos hds (x := vl) rfl (wpAny_bind (wpAny_field hos hds (x := vu) rfl (wpAny_bind (wpAny_field hos hds (x := vs) rfl (wpAny_pure ?_)))))))
  refine wpAny_bind (slicePart_ ps ?_)
  show wpAny _ _ (if ((-1 : Int) == 0) = true then _ else _) _ _ s
  rw [if_neg (by decide)]
  refine wpAny_bind (slicePart_ pl (wpAny_bind (slicePart_ pu (wpAny_bind (wpAny_pure ?_)))))
  show wpAny _ _ (pure ((n : Int) - 1, (-1 : Int), Builtin.Slice.slicePlaces ((n : Int) - 1) (-1) (-1))) _ _ s
  have e : Builtin.Slice.slicePlaces ((n : Int) - 1) (-1) (-1) = n := by
    unfold Builtin.Slice.slicePlaces
    rw [if_neg (by decide)]
    by_cases c : (n : Int) - 1 > -1
    · rw [if_pos c, show (- -1 : Int) = 1 by decide, Int.ediv_one]
      omega
    · rw [if_neg c]
      omega
  rw [e]
  exact wpAny_pure h
theorem fm_congr {α β : Type} {f g : α → Option β} : ∀ {l : List α}, (∀ x ∈ l, f x = g x) → l.filterMap f = l.filterMap g
  | [], _ => rfl
  | x :: l, h => by
    rw [List.filterMap_cons, List.filterMap_cons, h x (List.mem_cons_self ..), fm_congr fun y hy => h y (List.mem_cons_of_mem _ hy)]
theorem pick_rev (xs : Array Value) : ((List.range xs.size).filterMap fun (m : Nat) => xs[(((xs.size : Int) - 1) + (m : Int) * (-1)).toNat]?).toArray = xs.toList.reverse.toArray := by
  have e : (List.range xs.size).filterMap (fun (m : Nat) => xs[(((xs.size : Int) - 1) + (m : Int) * (-1)).toNat]?) = ((List.range xs.size).map (fun k => xs.size - 1 - k)).filterMap (xs[·]?) := by
    rw [List.filterMap_map]
    refine fm_congr fun m hm => ?_
    have := List.mem_range.mp hm
    have e2 : (((xs.size : Int) - 1) + (m : Int) * (-1)).toNat = xs.size - 1 - m := by omega
    rw [e2]
    rfl
  rw [e, PySem.W.krv_range, List.filterMap_reverse, PySem.W.krv_all]
theorem getItem_tuple_rev {t sl : Addr} {items : Array Value} {vl vu vs : Value} {Q : Value → Shared → Prop} (ht : IsTup s.heap t items) (hs : s.heap.IsSliceOf sl vl vu vs) (pl : IsPart vl none) (pu : IsPart vu none) (ps : IsPart vs (some (-1)))
    (h : Q (.ref s.heap.objs.size) { s with heap := s.heap.push { cls := .type "tuple", data := .seq items.toList.reverse.toArray } })
    (hsz : items.size ≤ sizeLine) : wpAny (model prog w) A (getItem (.ref t) (.ref sl)) Q E s := by
  have htake : sizeOk (.seq items.toList.reverse.toArray) := by
    show items.toList.reverse.toArray.size ≤ sizeLine
    rw [List.size_toArray, List.length_reverse, Array.length_toList]
    exact hsz
  obtain ⟨os, hos, hcs, hds⟩ := id hs
  have hTs : s.TypeIs (.ref sl) "slice" := ⟨os, hos, hcs⟩
  unfold getItem
  try with_reducible refine wpAny_holding ?_
  first | refine wpAny_bind (wpAny_pure ?_) | skip
  refine wpAny_bind (wpAny_sequenceKey ht.typeIs (by decide) ?_)
  refine wpAny_bind (wpAny_callSpecial?_slot (name := Str.ofString "__getitem__") ht.typeIs PyProof.Rows.slot_tuple_getitem
    (wpAny_call_entry PyProof.Rows.slot_tuple_getitem ht.typeIs entry_tuple_getitem ?_ (args_tuple_getitem _ _)))
  show wpAny _ _ (Builtin.Tuple.tupleItemsOf (.ref t) >>= _) _ _ s
  refine wpAny_bind (tupleItemsOf_ ht ?_)
  refine wpAny_bind (wpAny_typeOf hTs ?_)
  rw [if_pos (by decide)]
  refine wpAny_bind (sliceApplied_rev hs pl pu ps ?_)
  show wpAny _ _ (if ((((items.size : Int) - 1) == 0 && (-1 : Int) == 1 && items.size == items.size) = true) then _ else _) _ _ s
  rw [if_neg (by rw [show ((-1 : Int) == 1) = false by decide, Bool.and_false, Bool.false_and]; exact Bool.false_ne_true), pick_rev]
  first
    | exact wpAny_bind (m := Builtin.Tuple.tupleExact _) (wpAny_newObj_type (wpAny_pure ⟨_, rfl, wpAny_pure h⟩) htake)
    | exact wpAny_bind (m := Builtin.Tuple.tupleExact _) (wpAny_newObj_type (wpAny_bind (wpAny_pure (wpAny_pure ⟨_, rfl, wpAny_pure h⟩))) htake)
    | exact wpAny_bind (wpAny_bind (m := Builtin.Tuple.tupleExact _) (wpAny_newObj_type (wpAny_pure (wpAny_pure ⟨_, rfl, wpAny_pure h⟩)) htake))
    | exact wpAny_bind (wpAny_bind (m := Builtin.Tuple.tupleExact _) (wpAny_newObj_type (wpAny_pure ⟨_, rfl, wpAny_pure h⟩) htake))
end
section
variable {X : Cx}
/-- t[::-1] of a tuple -/
def tRevT (K : PySem.W.Frag) (te : TE) : TE := fun σ H Q => te σ H fun x H1 => ∃ a xs, x = .ref a ∧ SqT K H1 a xs ∧ ∀ p, H1 p = none → Q (.ref p) (L2.upd H1 p (.tup xs.reverse))
theorem pe_revT {e : Expr} {te : TE} {k : Nat} {p1 p2 p3 pos : Pos} (he : PE X e te) : PE X (.Subscript e (.Slice none none (some (.UnaryOp .USub (.Constant (.int 1) k p1) p2)) p3) pos) (tRevT X.K te) := by
  refine ⟨fun pins s σ H Q I h => ?_⟩
  refine Subscript_ (thn (he.run pins s σ H _ I h) fun v s1 ⟨x, H1, I1, r1, q1⟩ => ?_)
  obtain ⟨a, xs, ex, hx, q⟩ := q1
  subst ex
  cases r1
  have hst : PO X (some (.UnaryOp .USub (.Constant (.int 1) k p1) p2)) (tPart (tUn (rU fun i => .int (-i)) (tC (.int 1)))) := po_some (pe_un un_neg pe_int)
  refine wpAny_Slice (thn (po_none.run pins s1 σ H1 (fun o H2 => o = none ∧ H2 = H1) I1 ⟨rfl, rfl⟩) fun vl s2 ⟨l, H2, I2, pl, el, e2⟩ => ?_)
  subst el e2
  refine thn (po_none.run pins s2 σ H2 (fun o H3 => o = none ∧ H3 = H2) I2 ⟨rfl, rfl⟩) fun vu s3 ⟨u, H3, I3, pu, eu, e3⟩ => ?_
  subst eu e3
  refine thn (hst.run pins s3 σ H3 (fun o H4 => o = some (-1) ∧ H4 = H3) I3 ⟨1, rfl, -1, rfl, rfl, rfl⟩) fun vs s4 ⟨o, H4, I4, ps, eo, e4⟩ => ?_
  subst eo e4
  have I5 : Inv X pins σ H4 { s4 with heap := s4.heap.push { cls := .type "slice", data := .fields #[vl, vu, vs] } } := I4.kept (t' := s4.toks) fun b ob q => Heap.get?_push_of_some _ q
  obtain ⟨its, r, ht, hz⟩ := I5.tuple hx
  have hlen := r.length
  show wpAny (model X.prog X.w) X.A (subscriptTail e (.Slice none none (some (.UnaryOp .USub (.Constant (.int 1) k p1) p2)) p3) (.ref a) (.ref s4.heap.objs.size)) (EP X pins σ Q) X.xe { s4 with heap := s4.heap.push { cls := .type "slice", data := .fields #[vl, vu, vs] } }
  refine tail_any (ops := [.ref a, .ref s4.heap.objs.size]) ht.typeIs (PyProof.Rows.slot_tuple_getitem.lookup) ?_ (by with_unfolding_all rfl)
  refine getItem_tuple_rev ht (Heap.IsSliceOf.new _ vl vu vs) pl pu ps ?_ (by rw [List.size_toArray]; omega)
  refine ⟨.ref _, _, I5.laid (t' := s4.toks) (o := .tup xs.reverse) (fun b ob q => Heap.get?_push_of_some _ q) (Nat.le_refl _) ?_, rfl, q _ (I5.hok.fresh (Nat.le_refl _))⟩
  exact ⟨by rw [List.length_reverse]; exact hz, _, r.reverse, IsTup.new _ _⟩
theorem keRevT (K : PySem.W.Frag) {e : Expr} {te : TE} {k : Nat} {p1 p2 p3 pos : Pos} (h : X.K = K) (he : PE X e te) : PE X (.Subscript e (.Slice none none (some (.UnaryOp .USub (.Constant (.int 1) k p1) p2)) p3) pos) (tRevT K te) := h ▸ pe_revT he
theorem keRevL (K : PySem.W.Frag) {e : Expr} {te : TE} {k : Nat} {p1 p2 p3 pos : Pos} (h : X.K = K) (he : PE X e te) : PE X (.Subscript e (.Slice none none (some (.UnaryOp .USub (.Constant (.int 1) k p1) p2)) p3) pos) (tRevL K te) := h ▸ pe_revL he
theorem g_revT {K : PySem.W.Frag} {te : TE} {σ : L2.St} {H : Hp} {Q : VK} (q : te σ H fun x H1 => ∃ a xs, x = .ref a ∧ SqT K H1 a xs ∧ ∀ p, H1 p = none → Q (.ref p) (L2.upd H1 p (.tup xs.reverse))) : tRevT K te σ H Q := q
theorem g_revL {K : PySem.W.Frag} {te : TE} {σ : L2.St} {H : Hp} {Q : VK} (q : te σ H fun x H1 => ∃ a xs, x = .ref a ∧ SqL K H1 a xs ∧ ∀ p, H1 p = none → Q (.ref p) (L2.upd H1 p (.lst xs.reverse))) : tRevL K te σ H Q := q
theorem g_iR3 {ta : TA} {σ : L2.St} {H : Hp} {R : It → Hp → Prop} (q : ta σ H fun vs H1 => ∃ (i j c : Int) (n : Nat), vs = [.int i, .int j, .int c] ∧ RgC i j c n ∧ R (Itc i c n) H1) : iRng3 ta σ H R := q
end
end Pf

--BODY
namespace Pf
open PySem PySem.Spec PyProof.Rows L2
theorem tuple_mulSame (l : Addr) (items : Array Value) (n : Nat) (dd : Option Addr) (sl : Array (Option Value)) (x : Int) (u : Tok) (c0 : (decide (x < -(2 ^ 63)) || decide (x ≥ 2 ^ 63)) = false) (c1 : (items.isEmpty || x == 1) = true) :
    Meets (Builtin.«tuple.__mul__» ⟨[.ref l, .int x u], []⟩) (fun _ R s => s.heap.get? l = some { cls := .type "tuple", dict := dd, data := .seq items n, slots := sl } ∧
      R (.ok (.ret (Value.ref l))) s) :=
  .of_wp fun prog w A R s h => by
    obtain ⟨hp, g, d, tk, os⟩ := s
    obtain ⟨hl, h⟩ := h
    have f1 := AutoSeq1.idx_int
    wp_walk using wpAny_loadPart' hl
    repeat (first
      | (refine wpAny_ite_false (decide_eq_false (by rw [c0]; exact Bool.false_ne_true)) ?_; wp_walk using wpAny_loadPart' hl)
      | (refine wpAny_ite_true (decide_eq_true c1) ?_; wp_walk using wpAny_loadPart' hl))
    exact ⟨_, rfl, h⟩
theorem tuple_mulZero (l : Addr) (items : Array Value) (n : Nat) (dd : Option Addr) (sl : Array (Option Value)) (x : Int) (u : Tok) (c0 : (decide (x < -(2 ^ 63)) || decide (x ≥ 2 ^ 63)) = false) (c1 : (items.isEmpty || x == 1) = false) (c2 : (decide (x ≤ 0) || items.isEmpty) = true) :
    Meets (Builtin.«tuple.__mul__» ⟨[.ref l, .int x u], []⟩) (fun _ R s => s.heap.get? l = some { cls := .type "tuple", dict := dd, data := .seq items n, slots := sl } ∧
      R (.ok (.ret (Value.ref s.heap.objs.size))) { s with heap := s.heap.push { cls := Value.type "tuple", data := Data.seq #[] }, toks := s.toks }) :=
  .of_wp fun prog w A R s h => by
    obtain ⟨hp, g, d, tk, os⟩ := s
    obtain ⟨hl, h⟩ := h
    have f1 := AutoSeq1.idx_int
    wp_walk using wpAny_loadPart' hl
    repeat (first
      | (refine wpAny_ite_false (decide_eq_false (by rw [c0]; exact Bool.false_ne_true)) ?_; wp_walk using wpAny_loadPart' hl)
      | (refine wpAny_ite_false (decide_eq_false (by rw [c1]; exact Bool.false_ne_true)) ?_; wp_walk using wpAny_loadPart' hl)
      | (refine wpAny_ite_true (decide_eq_true c2) ?_; wp_walk using wpAny_loadPart' hl))
    exact ⟨_, rfl, h⟩
/-- a tuple some times, any number -/
def rRepA (K : PySem.W.Frag) : R2 := fun x y H Q => ∃ l k xs, x = .ref l ∧ y = .int k ∧ SqT K H l xs ∧ 0 ≤ k ∧ k ≤ 1000 ∧ xs.length ≤ 1000 ∧ ∀ p H', Same H H' → SqT K H' p (List.replicate k.toNat xs).flatten → Q (.ref p) H'
theorem op_repA {X : Cx} : OpR X (binaryOp .Mult) (rRepA X.K) := by
  intro pins s σ H x y v u Q I rx ry h
  obtain ⟨l, k, xs, rfl, rfl, hT, h1, h2, hz, q⟩ := h
  by_cases hbig : xs ≠ [] ∧ 2 ≤ k
  · exact op_repT pins s σ H _ _ v u Q I rx ry ⟨l, k, xs, rfl, rfl, hT, hbig.1, hbig.2, h2, hz, fun p np => q p _ (same_new np) SqT.new⟩
  cases rx
  obtain ⟨t, rfl⟩ := ry
  obtain ⟨its, r, ⟨⟨cls, dd, data, sl⟩, ho, hc, n, hd⟩, hs⟩ := I.tuple hT
  simp only at hc hd
  subst hc hd
  have hle : its.length = xs.length := r.length.symm
  have c0 : (decide (k < -(2 ^ 63)) || decide (k ≥ 2 ^ 63)) = false := by
    rw [decide_eq_false (by omega), decide_eq_false (by omega)] <;> rfl
  by_cases hs1 : xs = [] ∨ k = 1
  · have c1 : (its.toArray.isEmpty || k == 1) = true := by
      rcases hs1 with e | e
      · have : its = [] := List.eq_nil_of_length_eq_zero (by rw [hle, e]; rfl)
        rw [this]
        rfl
      · rw [e]
        exact Bool.or_true _
    refine wpAny_binaryOp_repeat_ref (T := "tuple") (U := "int") (by decide) ⟨_, ho, rfl⟩ (fun s' => typeIs_int s' k t) noFill_tuple_mul F.fills_int_mul F.slot_int_rmul repeat_tuple F.slot_int_index.lookup
      (call_meets F.slot_int_rmul (typeIs_int s k t) F.entry_int_rmul (F.args_int_rmul_2 _ _) (int_rmul_tuple k t l its.toArray n dd sl)
        ⟨ho, rfl, ⟨_, ho, rfl⟩, call_meets F.slot_tuple_mul ⟨_, ho, rfl⟩ F.entry_tuple_mul (F.args_tuple_mul_2 _ _) (tuple_mulSame l its.toArray n dd sl k t c0 c1) ⟨ho, ?_⟩⟩)
    have e : (List.replicate k.toNat xs).flatten = xs := by
      rcases hs1 with e | e
      · rw [e]
        exact List.flatten_eq_nil_iff.mpr fun z hz => (List.mem_replicate.mp hz).2
      · rw [e]
        show (List.replicate 1 xs).flatten = xs
        rw [List.replicate_one, List.flatten_singleton]
    refine ⟨.ref l, H, I, rfl, q l H (Same.refl H) (by rw [e]; exact hT)⟩
  · have hne : xs ≠ [] := fun e => hs1 (.inl e)
    have hk1 : k ≠ 1 := fun e => hs1 (.inr e)
    have hk0 : k = 0 := by
      by_cases c : 2 ≤ k
      · exact absurd ⟨hne, c⟩ hbig
      · omega
    have hi : its.toArray.isEmpty = false := by
      cases its with
      | nil => exact absurd (List.eq_nil_of_length_eq_zero (by rw [← hle]; rfl)) hne
      | cons a b => rfl
    have c1 : (its.toArray.isEmpty || k == 1) = false := by
      rw [hi, Bool.false_or]
      exact beq_eq_false_iff_ne.mpr hk1
    have c2 : (decide (k ≤ 0) || its.toArray.isEmpty) = true := by
      rw [decide_eq_true (by omega)]
      rfl
    refine wpAny_binaryOp_repeat_ref (T := "tuple") (U := "int") (by decide) ⟨_, ho, rfl⟩ (fun s' => typeIs_int s' k t) noFill_tuple_mul F.fills_int_mul F.slot_int_rmul repeat_tuple F.slot_int_index.lookup
      (call_meets F.slot_int_rmul (typeIs_int s k t) F.entry_int_rmul (F.args_int_rmul_2 _ _) (int_rmul_tuple k t l its.toArray n dd sl)
        ⟨ho, rfl, ⟨_, ho, rfl⟩, call_meets F.slot_tuple_mul ⟨_, ho, rfl⟩ F.entry_tuple_mul (F.args_tuple_mul_2 _ _) (tuple_mulZero l its.toArray n dd sl k t c0 c1 c2) ⟨ho, ?_⟩⟩)
    refine ⟨.ref s.heap.objs.size, _, I.laid (t' := s.toks) (o := .tup []) (fun b ob q => Heap.get?_push_of_some _ q) (Nat.le_refl _) ?_, rfl, q _ _ (same_new (I.hok.fresh (Nat.le_refl _))) ?_⟩
    · exact ⟨Nat.zero_le _, [], .nil, IsTup.new _ _⟩
    · rw [hk0]
      exact SqT.new
theorem kRepA {X : Cx} (K : PySem.W.Frag) (h : X.K = K) : OpR X (binaryOp .Mult) (rRepA K) := kO K (r := rRepA) h op_repA
end Pf

namespace Pf
open PySem PySem.Spec PyProof.Rows L2
/-! ### len(set(t)) of a tuple of whole numbers -/
def tLenSetT (K : PySem.W.Frag) (ta : TE) : TE := fun σ H Q => ta σ H fun x H1 => ∃ (l : Addr) (ns : List Int), x = .ref l ∧ SqT K H1 l (ns.map V.int) ∧ ns.length ≤ 1000 ∧ ∀ out : List Int, out.Nodup → (∀ k, k ∈ out ↔ k ∈ ns) → Q (.int (out.length : Nat)) H1
theorem pe_lenSetT {X : Cx} {a : Expr} {ta : TE} {p p2 q pos : Pos} (hc : X.calm = true) (hg : Gl X "len") (hm : X.mg "len" = none) (hg2 : Gl X "set") (hm2 : X.mg "set" = none) (ha : PE X a ta)
    (na : starEach [a] X.env = (false, eval a X.env) :: starEach [] X.env := by rfl) : PE X (.Call (.Name "len" p) [.Call (.Name "set" p2) [a] [] q] [] pos) (tLenSetT X.K ta) := by
  refine ⟨fun pins s σ H Q I h => ?_⟩
  refine Call_ (ld_blt I hg hm boot_len ?_)
  refine PyProof.Rows.callWith_builtin1 (PyProof.Rows.args_cons ?_ rfl) rfl rfl
  refine Call_ (ld_blt I hg2 hm2 boot_set ?_)
  refine PyProof.Rows.callWith_type1 (PyProof.Rows.args_cons (thn (ha.run pins s σ H _ I h) fun v s1 ⟨x, H1, I1, r1, q1⟩ => PyProof.Rows.args_nil ?_) na) na rfl
  obtain ⟨l, ns, rfl, hq, hl, q1⟩ := q1
  cases r1
  obtain ⟨its, rv, pt, hz⟩ := I1.tuple hq
  have hi : IntsAre its.toArray.toList ns := ints_of_vals rv
  refine call_set_tupI ns (I1.ok.hd hc) (show s1.heap.IsTuple l its.toArray from pt) hi (by unfold scanBound; omega) fun h' tk c R1 hcn k => ?_
  refine PyProof.Rows.args_nil ?_
  obtain ⟨o, es, ep, t, ho, hex, hdt, g, nd, hm2, hb, hf, hn, hr, hl2⟩ := R1
  have I2 : Inv X pins σ H1 { s1 with heap := h', toks := tk } := I1.kept fun b o e => k b o e
  have hlen : (es.toList.map keyOf).length = es.size := by rw [List.length_map, Array.length_toList]
  have q2 := q1 (es.toList.map keyOf) nd fun j => by rw [← hm2 j, decide_eq_true_eq]
  rw [hlen] at q2
  have hsz : es.size ≤ ns.length := by
    have hsub : ∀ j ∈ es.toList.map keyOf, j ∈ ns := fun j hj => by
      have := (hm2 j).mpr hj
      simpa using this
    rw [← hlen]
    exact List.Nodup.length_le_of_subset nd hsub
  exact call_len_set ho hex hdt hf (by omega) ⟨.int es.size, H1, I2.tok _, ⟨_, rfl⟩, q2⟩
theorem keLenSetT {X : Cx} (K : PySem.W.Frag) {a : Expr} {ta : TE} {p p2 q pos : Pos} (h : X.K = K) (hc : X.calm = true) (hg : Gl X "len") (hm : X.mg "len" = none) (hg2 : Gl X "set") (hm2 : X.mg "set" = none) (ha : PE X a ta)
    (na : starEach [a] X.env = (false, eval a X.env) :: starEach [] X.env := by rfl) : PE X (.Call (.Name "len" p) [.Call (.Name "set" p2) [a] [] q] [] pos) (tLenSetT K ta) := h ▸ pe_lenSetT hc hg hm hg2 hm2 ha na
theorem g_lenSetT {K : PySem.W.Frag} {ta : TE} {σ : L2.St} {H : Hp} {Q : VK} (q : ta σ H fun x H1 => ∃ (l : Addr) (ns : List Int), x = .ref l ∧ SqT K H1 l (ns.map V.int) ∧ ns.length ≤ 1000 ∧ ∀ out : List Int, out.Nodup → (∀ k, k ∈ out ↔ k ∈ ns) → Q (.int (out.length : Nat)) H1) : tLenSetT K ta σ H Q := q
end Pf

namespace Pf
open PySem PySem.Spec PyProof.Rows L2
/-! ### sorted(set(t)) of a tuple of whole numbers -/
def tSortSet (K : PySem.W.Frag) (ta : TE) : TE := fun σ H Q => ta σ H fun x H1 => ∃ (l : Addr) (ns : List Int), x = .ref l ∧ SqT K H1 l (ns.map V.int) ∧ ns.length < 60 ∧
  ∀ (out : List Int) (p : Addr), out.Pairwise (· < ·) → (∀ k, k ∈ out ↔ k ∈ ns) → H1 p = none → Q (.ref p) (upd H1 p (.lst (out.map V.int)))
theorem pe_sortSet {X : Cx} {a : Expr} {ta : TE} {p p2 q pos : Pos} (hc : X.calm = true) (hg : Gl X "sorted") (hm : X.mg "sorted" = none) (hg2 : Gl X "set") (hm2 : X.mg "set" = none) (ha : PE X a ta)
    (na : starEach [a] X.env = (false, eval a X.env) :: starEach [] X.env := by rfl) : PE X (.Call (.Name "sorted" p) [.Call (.Name "set" p2) [a] [] q] [] pos) (tSortSet X.K ta) := by
  refine ⟨fun pins s σ H Q I h => ?_⟩
  refine Call_ (ld_blt I hg hm boot_sorted ?_)
  refine PyProof.Rows.callWith_builtin1 (PyProof.Rows.args_cons ?_ rfl) rfl rfl
  refine Call_ (ld_blt I hg2 hm2 boot_set ?_)
  refine PyProof.Rows.callWith_type1 (PyProof.Rows.args_cons (thn (ha.run pins s σ H _ I h) fun v s1 ⟨x, H1, I1, r1, q1⟩ => PyProof.Rows.args_nil ?_) na) na rfl
  obtain ⟨l, ns, rfl, hq, hl, q1⟩ := q1
  cases r1
  obtain ⟨its, rv, pt, hz⟩ := I1.tuple hq
  have hi : IntsAre its.toArray.toList ns := ints_of_vals rv
  refine call_set_tupI ns (I1.ok.hd hc) (show s1.heap.IsTuple l its.toArray from pt) hi (by unfold scanBound; omega) fun h' tk c R1 hcn k => ?_
  refine PyProof.Rows.args_nil ?_
  have I2 : Inv X pins σ H1 { s1 with heap := h', toks := tk } := I1.kept fun b o e => k b o e
  have R2 : SetR X.w ({ s1 with heap := h', toks := tk } : Shared).heap s1.heap.objs.size (fun j => decide (j ∈ ns)) c := R1
  generalize ({ s1 with heap := h', toks := tk } : Shared) = s2 at I2 R2 ⊢
  refine sorted_set R2 (I2.ok.hd hc) (by omega) fun s' p out c2 ns' k2 g o hp hg3 hi2 hs hm3 hl2 => ?_
  have hlen : (ns'.map V.int).length ≤ sizeLine := by rw [List.length_map, hl2, sizeLine_eq]; omega
  have hn : H1 p = none := I2.hok.fresh hp
  have J : Inv X pins σ (upd H1 p (.lst (ns'.map V.int))) { s2 with heap := s'.heap, gens := s'.gens, drawn := s'.drawn, toks := s'.toks } :=
    I2.call (ch := []) (Un.laid k2 hp hn) (I2.hok.laid k2 hp ⟨hlen, out.toList, c2, vals_of_ints hi2, hg3⟩) (by rw [g]; exact I2.bare) (fun _ z => nomatch z)
  have e : s' = { s2 with heap := s'.heap, gens := s'.gens, drawn := s'.drawn, toks := s'.toks } := by
    cases s'
    cases s2
    cases o
    rfl
  rw [e]
  exact ⟨.ref p, _, J, rfl, q1 ns' p hs (fun j => by rw [hm3 j, decide_eq_true_eq]) hn⟩
theorem keSortSet {X : Cx} (K : PySem.W.Frag) {a : Expr} {ta : TE} {p p2 q pos : Pos} (h : X.K = K) (hc : X.calm = true) (hg : Gl X "sorted") (hm : X.mg "sorted" = none) (hg2 : Gl X "set") (hm2 : X.mg "set" = none) (ha : PE X a ta)
    (na : starEach [a] X.env = (false, eval a X.env) :: starEach [] X.env := by rfl) : PE X (.Call (.Name "sorted" p) [.Call (.Name "set" p2) [a] [] q] [] pos) (tSortSet K ta) := h ▸ pe_sortSet hc hg hm hg2 hm2 ha na
theorem g_sortSet {K : PySem.W.Frag} {ta : TE} {σ : L2.St} {H : Hp} {Q : VK} (q : ta σ H fun x H1 => ∃ (l : Addr) (ns : List Int), x = .ref l ∧ SqT K H1 l (ns.map V.int) ∧ ns.length < 60 ∧ ∀ (out : List Int) (p : Addr), out.Pairwise (· < ·) → (∀ k, k ∈ out ↔ k ∈ ns) → H1 p = none → Q (.ref p) (upd H1 p (.lst (out.map V.int)))) : tSortSet K ta σ H Q := q
def tTruth (K : PySem.W.Frag) (ta : TE) : TT := fun σ H Q => ta σ H fun x H' => ∃ k, TruV K x H' k ∧ Q k H'
theorem kTruth {X : Cx} (K : PySem.W.Frag) {a : Expr} {ta : TE} (h : X.K = K) (ha : PE X a ta) (he : ∀ whole, isTrue a X.env whole = (do let v ← whole; standAt a.pos; holding [v] (truthy v))) : PT X a (tTruth K ta) := h ▸ pt_truth ha he
theorem g_truth {K : PySem.W.Frag} {ta : TE} {σ : L2.St} {H : Hp} {Q : Bool → Hp → Prop} (q : ta σ H fun x H' => ∃ k, TruV K x H' k ∧ Q k H') : tTruth K ta σ H Q := q
end Pf

namespace Pf
open PySem PySem.Spec PyProof.Rows L2
/-! ### list(range(a, b, c)) -/
def rg3 (i k : Int) (n : Nat) : List Int := (List.range n).map fun (m : Nat) => i + (m : Int) * k
def tLstRg3 (ta : TA) : TE := fun σ H Q => ta σ H fun vs H1 => ∃ (i j k : Int) (n : Nat), vs = [.int i, .int j, .int k] ∧ RgC i j k n ∧ n ≤ 1000 ∧ ∀ q, H1 q = none → Q (.ref q) (upd H1 q (.lst ((rg3 i k n).map V.int)))
theorem vals_rg3 {i k : Int} {n : Nat} {acc : Array Value} (h : ItemsOf (fun m v => ∃ t, v = .int (i + m * k) t) acc n) : Vals ((rg3 i k n).map V.int) acc.toList := by
  have e : acc.toList.length = n := by rw [Array.length_toList]; exact h.1
  unfold rg3
  rw [← e, List.map_map]
  refine vals_of_get acc.toList _ fun j u hj => ?_
  obtain ⟨t, rfl⟩ := h.2 j u (by rw [← hj, Array.getElem?_toList])
  exact ⟨t, rfl⟩
theorem pe_listRg3 {X : Cx} {a b c : Expr} {ta : TA} {p p2 pos pos2 : Pos} (hcalm : X.calm = true) (hg : Gl X "list") (hm : X.mg "list" = none) (hg2 : Gl X "range") (hm2 : X.mg "range" = none) (ha : PA X [a, b, c] ta)
    (hs : starEach [a, b, c] X.env = (false, eval a X.env) :: starEach [b, c] X.env := by rfl) (hpl : (backTo pos2 (starEach [b, c] X.env)).any (·.1) = false := by rfl)
    (na : starEach [Expr.Call (.Name "range" p2) [a, b, c] [] pos2] X.env = (false, eval (Expr.Call (.Name "range" p2) [a, b, c] [] pos2) X.env) :: starEach [] X.env := by rfl) :
    PE X (.Call (.Name "list" p) [.Call (.Name "range" p2) [a, b, c] [] pos2] [] pos) (tLstRg3 ta) := by
  refine ⟨fun pins s σ H Q I h => ?_⟩
  refine Call_ (ld_blt I hg hm boot_list (PyProof.Rows.callWith_type1 (PyProof.Rows.args_cons (thn (Q := fun x s' => ∃ r i j k n t u v H', x = .ref r ∧ IsRange s'.heap r i j k t u v ∧ RgC i j k n ∧ n ≤ 1000 ∧ Inv X pins σ H' s' ∧ ∀ q, H' q = none → Q (.ref q) (upd H' q (.lst ((rg3 i k n).map V.int)))) ?_ fun x s1 ⟨r, i, j, k, n, t, u, v, H1, ex, hr, ⟨c0, c1, c2, c3⟩, hn, I1, q⟩ => PyProof.Rows.args_nil ?_) na) na))
  · refine Call_ (ld_blt I hg2 hm2 boot_range (PyProof.Rows.callWith_type1 (thn (ha.run pos2 pins s σ H _ I h) fun us s1 ⟨vs, H1, I1, r1, q1⟩ => ?_) hs hpl))
    obtain ⟨i, j, k, n, e, ⟨c0, c1, c2, c3⟩, hn, q⟩ := q1
    subst e
    cases r1 with
    | cons r rr =>
      cases rr with
      | cons r' rr =>
        cases rr with
        | cons r'' rr =>
          cases rr
          obtain ⟨t, rfl⟩ := r
          obtain ⟨t', rfl⟩ := r'
          obtain ⟨t'', rfl⟩ := r''
          refine call_range_3 c0 ⟨_, i, j, k, n, _, _, _, H1, rfl, IsRange.new _ _ _ _ _ _ _, ⟨c0, c1, c2, c3⟩, hn, I1.kept (t' := s1.toks) fun b o e => Heap.get?_push_of_some _ e, q⟩ (.inl (PyProof.noPylong_small c1))
  · subst ex
    refine call_list_range (n := n) (I1.ok.hd hcalm) hr c2 c3 (Nat.le_trans hn (by decide)) fun h' tk acc c' hk e' hi => ?_
    refine ⟨.ref s1.heap.objs.size, upd H1 s1.heap.objs.size (.lst ((rg3 i k n).map V.int)), I1.laid hk (Nat.le_refl _) (show ObjOk X.prog X.w _ _ _ (.lst ((rg3 i k n).map V.int)) from ⟨?_, acc.toList, c', vals_rg3 hi, ?_⟩), rfl, q _ (I1.hok.fresh (Nat.le_refl _))⟩
    · unfold rg3
      rw [List.length_map, List.length_map, List.length_range, sizeLine_eq]
      omega
    · rw [Array.toArray_toList]; exact e'
theorem g_listRg3 {ta : TA} {σ : L2.St} {H : Hp} {Q : VK} (q : ta σ H fun vs H1 => ∃ (i j k : Int) (n : Nat), vs = [.int i, .int j, .int k] ∧ RgC i j k n ∧ n ≤ 1000 ∧ ∀ q, H1 q = none → Q (.ref q) (upd H1 q (.lst ((rg3 i k n).map V.int)))) : tLstRg3 ta σ H Q := q
theorem walk_rngC {lo c : Int} {n : Nat} : Walk (Itc lo c n) n (fun _ => True) (fun i H x H' => H' = H ∧ x = .int (lo + ((i : Nat) : Int) * c)) where
  goes := fun i H hi _ => hi
  stops := fun H _ => Nat.le_refl n
  yields := fun i H x H' _ _ h => h
theorem rgC_down {i j : Int} (hi : -1 ≤ i) (hi2 : i ≤ 1000) (hj : -1 ≤ j) (hj2 : j ≤ 1000) : RgC i j (-1) (i - j).toNat := RgC.neg (by omega) (by omega) (by omega) (by omega)
theorem g_rg2 {ta tb : TE} {σ : L2.St} {H : Hp} {Q : Int → Int → Hp → Prop} (q : ta σ H fun x H1 => tb σ H1 fun y H2 => ∃ i j, x = .int i ∧ y = .int j ∧ Q i j H2) : tRg2 ta tb σ H Q := q
end Pf

namespace Pf
open PySem PySem.Spec PyProof.Rows L2
/-! ### set(l) of a list of whole numbers, with its order, and sorted of it -/
section
variable {P : Program} {w : World} {A : Around} {E : Value → Shared → Prop} {s : Shared}
abbrev freshSet (w : World) : Obj := { cls := .type "set", dict := none, data := .set #[] 0 (.fresh 0 0 (!w.params.followText "set-order")) }
/-- a list of ints, given to the fresh set at the heap's end -/
theorem fill_by_list {l : Addr} {items : Array Value} {ns : List Int} (hh : A.in1.handled = none) (hl : s.heap.IsList l items) (hit : IntsAre items.toList ns) (hb : ns.length + 1 < scanBound)
    {R : Result → Shared → Prop}
    (h : ∀ (h' : Heap) (tk c : Nat), SetR w h' s.heap.objs.size (fun j => decide (j ∈ ns)) c → c ≤ ns.length → (∀ b o, s.heap.get? b = some o → h'.get? b = some o) → R (.ok (.ret .none)) { s with heap := h', toks := tk }) :
    codeAny (model P w) A (.builtin "set.update.loop" ⟨[.ref s.heap.objs.size, .ref (s.heap.push (freshSet w)).objs.size], []⟩) R { s with heap := (s.heap.push (freshSet w)).push { cls := .type "list_iterator", data := .fields #[.ref l, .int 0 0] } } := by
  have hsz : items.size = ns.length := (Array.length_toList ..).symm.trans (IntsAre.length hit)
  have hz : (s.heap.push (freshSet w)).objs.size = s.heap.objs.size + 1 := Heap.size_push ..
  have hlS : l < s.heap.objs.size := by
    obtain ⟨o, e, _⟩ := hl
    exact Heap.lt_size e
  have hne : l ≠ (s.heap.push (freshSet w)).objs.size := by
    rw [hz]
    exact Nat.ne_of_lt (Nat.lt_succ_of_lt hlS)
  have hfar : s.heap.objs.size ∉ [(s.heap.push (freshSet w)).objs.size, l] := by
    rw [hz]
    simp only [List.mem_cons, List.not_mem_nil, or_false, not_or]
    exact ⟨Nat.ne_of_lt (Nat.lt_succ_self _), Nat.ne_of_gt hlS⟩
  refine set_update_ints ((Walks.list hh _ l hne items).toS) s.heap.objs.size hfar ns hsz hb (fun i v hv => ?_) items.size 0 _ rfl (Nat.zero_le _) ⟨⟨_, Heap.get?_push_size _ rfl, rfl, rfl⟩, Heap.IsList.push (Heap.IsList.push hl _) _⟩ ⟨0, Nat.le_refl 0, setR_new_at (Heap.get?_push_of_some _ (Heap.get?_push_size _ rfl))⟩ (fun s' c hm hc hS => ?_)
  · have hi : i < ns.length := by rw [← hsz]; exact (Array.getElem?_eq_some_iff.mp hv).1
    obtain ⟨t, e⟩ := IntsAre.int_at hit i v (by rw [Array.getElem?_toList]; exact hv)
    refine ⟨ns[i], t, List.getElem?_eq_getElem hi, ?_⟩
    rw [e, List.getD_eq_getElem?_getD, List.getElem?_eq_getElem hi]
    rfl
  · obtain ⟨h', g, d, tk, os⟩ := s'
    obtain rfl : g = s.gens := hm.gens
    obtain rfl : d = s.drawn := hm.drawn
    obtain rfl : os = s.os := hm.os
    refine h h' tk c hS (hsz ▸ hc) fun b o e => ?_
    have hb0 : b < s.heap.objs.size := Heap.lt_size e
    refine hm.heap b o ?_ (Heap.get?_push_of_some _ (Heap.get?_push_of_some _ e))
    rw [hz]
    simp only [List.mem_cons, List.not_mem_nil, or_false, not_or]
    exact ⟨Nat.ne_of_lt hb0, Nat.ne_of_lt (Nat.lt_succ_of_lt hb0)⟩
set_option maxHeartbeats 3200000 in
theorem set_by_list {l : Addr} {items : Array Value} (ns : List Int) {Q : Value → Shared → Prop} (hh : A.handled = none) (hl : s.heap.IsList l items) (hit : IntsAre items.toList ns) (hb : ns.length + 1 < scanBound)
    (h : ∀ (h' : Heap) (tk c : Nat), SetR w h' s.heap.objs.size (fun j => decide (j ∈ ns)) c → c ≤ ns.length → (∀ b o, s.heap.get? b = some o → h'.get? b = some o) → Q (.ref s.heap.objs.size) { s with heap := h', toks := tk }) :
    wpAny (model P w) A (call (.type "set") [.ref l]) Q E s := by
  have hmro := PySem.F.called_set.mro
  obtain ⟨_, _, hmro⟩ := hmro
  have hmade := PySem.F.called_set.made
  have hsub := PySem.F.called_set.sub
  have hn := PySem.F.called_set.notType
  have hcc := PySem.F.called_set.canCreate
  have hct := PySem.F.typeCall_set_1 (.ref l)
  refine wpAny_call (codeAny_of_tree ?_)
  show wpAny _ _ (callAny (.type "set") _) _ _ _
  refine wpAny_pure ⟨Code.quiet_builtin _ (by decide +kernel), codeAny_builtin PySem.F.entry_type_call ?_⟩
  rw [Around.under_plain (weight_type_call_type "set" [.ref l] []) rfl]
  repeat (any_goals (first | assumption | wp_step))
  refine codeAny_mono (code_set_led1 (.ref l) (E := E) (Q₁ := fun obj s1 => obj = .ref s.heap.objs.size ∧ s1 = { s with heap := s.heap.push (freshSet w) }) ⟨rfl, rfl⟩) fun r s1 hr => ?_
  match r, hr with
  | .error e, hr => exact hr
  | .ok (.ret obj), hr =>
    obtain ⟨rfl, rfl⟩ := hr
    have hS : (s.heap.push (freshSet w)).get? s.heap.objs.size = some (freshSet w) := Heap.get?_push_size _ rfl
    have hT : Shared.TypeIs { s with heap := s.heap.push (freshSet w) } (.ref s.heap.objs.size) "set" := ⟨_, hS, rfl⟩
    have hli := PySem.F.called_set.init.lookup
    have hbi := PySem.F.called_set.init.bind (.ref s.heap.objs.size)
    repeat (any_goals (first | assumption | wp_step))
    refine codeAny_mono (codeAny_call_builtin (R := wants (fun v s2 => v = .none ∧ ∃ h' tk c, s2 = { s with heap := h', toks := tk } ∧ SetR w h' s.heap.objs.size (fun j => decide (j ∈ ns)) c ∧ c ≤ ns.length ∧ (∀ b o, s.heap.get? b = some o → h'.get? b = some o)) E) PySem.F.called_set.init.plain PySem.F.entry_set_init (check_set_init_1 hT ?_)) fun r2 s2 hr2 => ?_
    · have hl1 : (s.heap.push (freshSet w)).IsList l items := Heap.IsList.push hl _
      have hl' := hl
      obtain ⟨⟨oc, od, oda, osl⟩, ho, hcl, nl, hda⟩ := hl'
      simp only at hcl hda
      subst hcl
      subst hda
      have ho' := Heap.get?_push_of_some (freshSet w) ho
      have k1 := PySem.F.sub_list_set
      have k2 := PySem.F.sub_list_frozenset
      have k3 : (Value.type "list" == Value.type "dict") = false := by decide
      unfold Builtin.«set.__init__» noKeywords Builtin.Frozenset.updateFrom
      generalize hPI : pyIter = PI
      wp_walk
      subst hPI
      refine wpAny_pyIter_list hl1 ?_
      refine wpAny_bind (wpAny_runValue ?_)
      refine fill_by_list (by simp [hh]) hl hit hb fun h' tk c q1 q2 q3 => ?_
      show wpAny _ _ _ _ _ _
      refine wpAny_pure ?_
      show wpAny _ _ (ret Value.none) _ _ _
      exact wpAny_pure ⟨rfl, h', tk, c, rfl, q1, q2, q3⟩
    · match r2, hr2 with
      | .error e, hr2 => exact hr2
      | .ok (.ret v), hr2 =>
        obtain ⟨rfl, h', tk, c, rfl, q1, q2, q3⟩ := hr2
        repeat (any_goals (first | assumption | wp_step))
        exact h _ _ _ q1 q2 q3
end
def tSortSetL (K : PySem.W.Frag) (ta : TE) : TE := fun σ H Q => ta σ H fun x H1 => ∃ (l : Addr) (ns : List Int), x = .ref l ∧ SqL K H1 l (ns.map V.int) ∧ ns.length < 60 ∧
  ∀ (out : List Int) (p : Addr), out.Pairwise (· < ·) → (∀ k, k ∈ out ↔ k ∈ ns) → H1 p = none → Q (.ref p) (upd H1 p (.lst (out.map V.int)))
theorem pe_sortSetL {X : Cx} {a : Expr} {ta : TE} {p p2 q pos : Pos} (hc : X.calm = true) (hg : Gl X "sorted") (hm : X.mg "sorted" = none) (hg2 : Gl X "set") (hm2 : X.mg "set" = none) (ha : PE X a ta)
    (na : starEach [a] X.env = (false, eval a X.env) :: starEach [] X.env := by rfl) : PE X (.Call (.Name "sorted" p) [.Call (.Name "set" p2) [a] [] q] [] pos) (tSortSetL X.K ta) := by
  refine ⟨fun pins s σ H Q I h => ?_⟩
  refine Call_ (ld_blt I hg hm boot_sorted ?_)
  refine PyProof.Rows.callWith_builtin1 (PyProof.Rows.args_cons ?_ rfl) rfl rfl
  refine Call_ (ld_blt I hg2 hm2 boot_set ?_)
  refine PyProof.Rows.callWith_type1 (PyProof.Rows.args_cons (thn (ha.run pins s σ H _ I h) fun v s1 ⟨x, H1, I1, r1, q1⟩ => PyProof.Rows.args_nil ?_) na) na rfl
  obtain ⟨l, ns, rfl, hq, hl, q1⟩ := q1
  cases r1
  obtain ⟨its, rv, pt, hz⟩ := I1.list hq
  have hi : IntsAre its.toArray.toList ns := ints_of_vals rv
  refine set_by_list ns (I1.ok.hd hc) pt.isList hi (by unfold scanBound; omega) fun h' tk c R1 hcn k => ?_
  refine PyProof.Rows.args_nil ?_
  have I2 : Inv X pins σ H1 { s1 with heap := h', toks := tk } := I1.kept fun b o e => k b o e
  have R2 : SetR X.w ({ s1 with heap := h', toks := tk } : Shared).heap s1.heap.objs.size (fun j => decide (j ∈ ns)) c := R1
  generalize ({ s1 with heap := h', toks := tk } : Shared) = s2 at I2 R2 ⊢
  refine sorted_set R2 (I2.ok.hd hc) (by omega) fun s' p out c2 ns' k2 g o hp hg3 hi2 hs hm3 hl2 => ?_
  have hlen : (ns'.map V.int).length ≤ sizeLine := by rw [List.length_map, hl2, sizeLine_eq]; omega
  have hn : H1 p = none := I2.hok.fresh hp
  have J : Inv X pins σ (upd H1 p (.lst (ns'.map V.int))) { s2 with heap := s'.heap, gens := s'.gens, drawn := s'.drawn, toks := s'.toks } :=
    I2.call (ch := []) (Un.laid k2 hp hn) (I2.hok.laid k2 hp ⟨hlen, out.toList, c2, vals_of_ints hi2, hg3⟩) (by rw [g]; exact I2.bare) (fun _ z => nomatch z)
  have e : s' = { s2 with heap := s'.heap, gens := s'.gens, drawn := s'.drawn, toks := s'.toks } := by
    cases s'
    cases s2
    cases o
    rfl
  rw [e]
  exact ⟨.ref p, _, J, rfl, q1 ns' p hs (fun j => by rw [hm3 j, decide_eq_true_eq]) hn⟩
theorem keSortSetL {X : Cx} (K : PySem.W.Frag) {a : Expr} {ta : TE} {p p2 q pos : Pos} (h : X.K = K) (hc : X.calm = true) (hg : Gl X "sorted") (hm : X.mg "sorted" = none) (hg2 : Gl X "set") (hm2 : X.mg "set" = none) (ha : PE X a ta)
    (na : starEach [a] X.env = (false, eval a X.env) :: starEach [] X.env := by rfl) : PE X (.Call (.Name "sorted" p) [.Call (.Name "set" p2) [a] [] q] [] pos) (tSortSetL K ta) := h ▸ pe_sortSetL hc hg hm hg2 hm2 ha na
theorem g_sortSetL {K : PySem.W.Frag} {ta : TE} {σ : L2.St} {H : Hp} {Q : VK} (q : ta σ H fun x H1 => ∃ (l : Addr) (ns : List Int), x = .ref l ∧ SqL K H1 l (ns.map V.int) ∧ ns.length < 60 ∧ ∀ (out : List Int) (p : Addr), out.Pairwise (· < ·) → (∀ k, k ∈ out ↔ k ∈ ns) → H1 p = none → Q (.ref p) (upd H1 p (.lst (out.map V.int)))) : tSortSetL K ta σ H Q := q
end Pf

namespace Pf
open PySem PySem.Spec PyProof.Rows L2
/-! ### own errors whose __init__(self) keeps nothing, and hands on to that of an own class above -/
/-- S.__init__, read off an own class, is ValueError's -/
structure SInit (K : PySem.W.Frag) (S : Addr) : Prop where
  rd : PySem.W.readsIn K S (.type "type") = true
  ga : PySem.W.specialIn K (.ref S) "__getattribute__" = some (some (.builtin "type.__getattribute__"))
  vI : PySem.W.findCls K (.ref S) (.type "type") "__init__" = some (.val (.builtin "ValueError.__init__"))
section
variable {X : Cx} {o e : Expr} {es : List Expr} {ta : TA} {x : Str} {S : Addr} {p p1 p2 pos : Pos}
theorem pe_sinit {pl : Sem Bool} (hg : Gl X x) (hm : X.mg x = some (.ref S)) (T : SInit X.K S) (ha : PA X (e :: es) ta)
    (hdb : (x == ("__debug__" : Str)) = false := by decide)
    (hc : eval (.Call (.Attribute (.Name x p1) "__init__" p2) (e :: es) [] pos) X.env = (do
      let ov ← eval (.Name x p1) X.env
      standAt p2.atName
      let (f, first) ← holding [ov] (getMethod ov "__init__" pl)
      callWith pos f first (backTo pos (starEach (e :: es) X.env)) (backToKw pos (keywordEach [] X.env))) := by rfl)
    (he : starEach (e :: es) X.env = (false, eval e X.env) :: starEach es X.env := by rfl) (hpl : (backTo pos (starEach es X.env)).any (·.1) = false := by rfl) :
    PE X (.Call (.Attribute (.Name x p1) "__init__" p2) (e :: es) [] pos) (tVeI X.K ta) := by
  refine ⟨fun pins s σ H Q I h => ?_⟩
  refine PySem.W.methodCall_KW (ld_glob I hg hm ?_ hdb) hc
  refine PySem.W.method_cls I.kIn T.ga (PySem.W.cls_value I.kIn T.rd T.vI (by decide +kernel) ?_)
  show wpAny _ _ (callWith pos (Value.builtin "ValueError.__init__") [] (backTo pos (starEach (e :: es) X.env)) []) _ _ _
  refine PyProof.Rows.callWith_method1 (thn (ha.run pos pins _ σ H _ (I.tok _) h) fun us s1 ⟨vs, H1, I1, r1, a, C, ws, ev, hl, T, ea, q⟩ => ?_) he hpl
  subst ev
  cases r1 with
  | @cons _ u0 _ ur ra rw' =>
    obtain rfl : u0 = Value.ref a := ra
    have hlen : ur.length ≤ sizeLine := by
      rw [← Paired.length rw', sizeLine_eq]
      omega
    exact oinit_ok T I1 ea hlen fun s' J => ⟨.non, H1, J, rfl, q⟩
theorem g_vei {K : PySem.W.Frag} {σ : L2.St} {H : Hp} {Q : VK} (q : ta σ H fun vs H1 => ∃ (a C : Addr) (ws : List V), vs = .ref a :: ws ∧ ws.length ≤ 1000 ∧ OexC K C ∧ H1 a = some (exo a C none) ∧ Q .non H1) : tVeI K ta σ H Q := q
/-- C(), C's own __init__ keeping sp -/
def tMkZ (C : Addr) (sp : Sp) : L2.St → Hp → XK → Prop := fun σ H Q => ∀ a, H a = none → sp [.ref a] (upd H a (exo a C none))
  (fun v H2 => v = .non ∧ H2 a = some (exo a C none) ∧ Q (.ref C) none (del H2 a)) (fun _ _ _ => False)
/-- the end of C(): the exception is let go -/
theorem mk_endZ {pins : List (Addr × Obj)} {σ : L2.St} {H1 H2 : Hp} {Q : XK} {hp hp2 h2 : Heap} {g1 g2 : Array GenState} {d1 d2 : Drawn} {t1 t2 : Nat} {os1 os2 : OsState} {a C : Addr} (T : Raises X (.ref C)) (I1 : Inv X pins σ H1 ⟨hp, g1, d1, t1, os1⟩)
    (ha : hp.objs.size ≤ a) (k : ∀ b o, hp.get? b = some o → hp2.get? b = some o) (un : Un (frs X.stack) [] (upd H1 a (exo a C none)) H2 hp2 h2) (hok : HOk X.prog X.w H2 h2) (ho : os2 = os1) (hb : AllBare g2)
    (ea : H2 a = some (exo a C none)) (q : Q (.ref C) none (del H2 a)) : MkP X pins σ Q (.ref a) ⟨h2, g2, d2, t2, os2⟩ := by
  obtain ⟨t0, hoe⟩ := exo_at hok ea
  have hn : H1 a = none := I1.hok.fresh ha
  obtain ⟨G, g1', g2'⟩ := restrict h2 fun b => decide (b ≠ a)
  have gk : ∀ b, b ≠ a → G.get? b = h2.get? b := fun b hb => g1' b (decide_eq_true hb)
  have ge : G.get? a = none := g2' a (by simp)
  have nha : ∀ {b : Addr} {o : Obj}, hp.get? b = some o → b ≠ a := fun {b o} z => Nat.ne_of_lt (Nat.lt_of_lt_of_le (Heap.lt_size z) ha)
  have up : ∀ {b : Addr}, b ≠ a → H1 b = none → upd H1 a (exo a C none) b = none := fun {b} hb n => by rw [upd_ne hb]; exact n
  have U : Un (frs X.stack) [] H1 (del H2 a) hp G := {
    keep := fun b o z n hf hx => by
      rw [gk b (nha z)]
      exact un.keep b o (k b o z) (up (nha z) n) hf hx
    slot := fun b o z n hf hx => by
      rw [gk b (nha z)]
      exact un.slot b o (k b o z) (up (nha z) n) hf hx
    free := fun b o z n hx => by
      rw [del_ne (nha z)]
      exact un.free b o (k b o z) (up (nha z) n) hx
    there := fun b o z hx => by
      rw [gk b (nha z)]
      exact un.there b o (k b o z) hx
    tups := fun b xs z => by
      rw [del_ne (ne_of_none z hn)]
      exact un.tups b xs (by rw [upd_ne (ne_of_none z hn)]; exact z)
    frzs := fun b o v z => by
      rw [del_ne (ne_of_none z hn)]
      exact un.frzs b o v (by rw [upd_ne (ne_of_none z hn)]; exact z)
    tbls := fun b ps z => by
      rw [del_ne (ne_of_none z hn)]
      exact un.tbls b ps (by rw [upd_ne (ne_of_none z hn)]; exact z) }
  have hok3 : HOk X.prog X.w (del H2 a) G := fun b o z => by
    have hba : b ≠ a := fun e => by
      rw [e, del_same] at z
      cases z
    rw [del_ne hba] at z
    have noa : ∀ {c : Addr}, H2 c = some (.own b) → c ≠ a := fun {c} hc => at_ne ea hc exo_own
    exact (hok b o z).stay (fun c v hc y => by
        have hca : c ≠ a := by
          rcases hc with hc | hc
          · rw [hc]
            exact hba
          · exact noa hc
        rw [gk c hca]
        exact y)
      (fun c hc => by rw [del_ne (noa hc)]; exact hc) (fun c xs hc => by rw [del_ne (at_ne ea hc exo_tup)]; exact hc)
  have J : Inv X pins σ (del H2 a) ⟨G, g2, d2, t2, os2⟩ := I1.call' (ch := []) ho U hok3 hb (fun b z => absurd z (by simp))
  refine ⟨a, _, _, ⟨G, g2, d2, t2, os2⟩, _, .ref C, none, rfl, J, fun b o z => ?_, ge, hoe, ⟨rfl, rfl⟩, rfl, rfl, del_same, rfl, hb, T, q⟩
  by_cases hba : b = a
  · rw [hba, ge] at z
    cases z
  · exact (gk b hba).symm.trans z
theorem pmk_z {CX : CXT} {C fI : Addr} {k : Nat} {fd : FuncData} {ps : List Str} {sp : Sp} (T : OexC X.K C) (iC : PySem.W.findIn X.K (.ref C) "__init__" = some (some (.ref fI))) (tI : PySem.W.typeIn X.K (.ref fI) = some (.type "function"))
    (F1 : FnOk X.prog X.w X.K X.mg X.base CX k fI fd ps sp) (hr : Room (k + 1) X.A) (hb : Binds X.K fd ps []) (hx : Passes CX X (fun _ _ _ => False)) (hg : Gl X x) (hm : X.mg x = some (.ref C))
    (hdb : (x == ("__debug__" : Str)) = false := by decide) :
    PMk X (.Call (.Name x p) [] [] pos) (tMkZ C sp) := by
  intro pins s σ H Q I h
  obtain ⟨nm, q, N, bs, bm, sn, sub, ab, col, dd, k0, k1, k2, k3, k5, hC, hbm⟩ := T.cls
  refine wpAny_Call_Name_kw (ld_glob I hg hm ?_ hdb)
  refine PySem.W.callWith_K0 I.kIn T.kC ?_
  show wpAny _ _ (call (.ref C) []) _ _ _
  obtain ⟨hp, g, dr, tk, os⟩ := s
  have hsz : hp.objs.size ≤ hp.objs.size + 1 := Nat.le_succ _
  have hn : H (hp.objs.size + 1) = none := I.hok.fresh hsz
  have hq := h (hp.objs.size + 1) hn
  have kk : ∀ b o, hp.get? b = some o → ((hp.push (PySem.W.kdv_tup [])).push (PySem.HandSPX.excO C hp.objs.size)).get? b = some o := fun b o e => Heap.get?_push_of_some _ (Heap.get?_push_of_some _ e)
  have hget : ((hp.push (PySem.W.kdv_tup [])).push (PySem.HandSPX.excO C hp.objs.size)).get? (hp.objs.size + 1) = some (PySem.HandSPX.excO C hp.objs.size) := by heap_get
  have I2 : Inv X pins σ (upd H (hp.objs.size + 1) (exo (hp.objs.size + 1) C none)) ⟨(hp.push (PySem.W.kdv_tup [])).push (PySem.HandSPX.excO C hp.objs.size), g, dr, tk, os⟩ :=
    I.laid (t' := tk) (a := hp.objs.size + 1) (o := exo (hp.objs.size + 1) C none) (h' := (hp.push (PySem.W.kdv_tup [])).push (PySem.HandSPX.excO C hp.objs.size)) kk hsz (exo_ok hget)
  have r2 : Vals [V.ref (hp.objs.size + 1)] [Value.ref (hp.objs.size + 1)] := .cons rfl .nil
  have hl : (Value.ref (hp.objs.size + 1) :: ([] : List Value) ++ []).length = ps.length := by
    have e := r2.length
    rw [F1.len _ _ _ _ hq] at e
    exact e.symm
  refine wpAny_call (PySem.HandSPX.call_own F.excBase_ValueError (fun Y => PySem.HandSPX.refsVE_contains Y bm hbm) (I.kIn _ _ hC) (PySem.W.looks_findIn I.kIn iC) (fun self => PySem.W.bind_fn I.kIn self tI) (by rw [sizeLine_eq]; decide)
    (codeAny_mono (F1.run _ X.stack _ _ ⟨[Value.ref (hp.objs.size + 1)], []⟩ [Value.ref (hp.objs.size + 1)] _ _ (fun _ _ _ => False) (hr.make C [] []) (I2.env0.make C [] []) (hb _ [Value.ref (hp.objs.size + 1)] I2.kIn hl) r2 hq) fun r s' hq' => ?_))
  cases r with
  | error er => exact hx pins σ _ _ er s' I2 hq'
  | ok fl =>
    cases fl with
    | ret u =>
      obtain ⟨v, H2, os2, bare2, un2, hok2, rv, ev, ea, q2⟩ := hq'
      subst ev
      obtain ⟨h2, g2, d2, t2, os'⟩ := s'
      exact ⟨rv, mk_endZ (raises_own T.exC T.tyC) I hsz kk un2 hok2 os2 bare2 ea q2⟩
    | next => exact False.elim hq'
    | brk => exact False.elim hq'
    | cont => exact False.elim hq'
end
end Pf

namespace Pf
open PySem PySem.Spec PyProof.Rows L2
/-! ### things of any kind: what isinstance says of them -/
theorem kit_own {K : PySem.W.Frag} {C : Addr} {n : String} {b : Bool} (hk : PySem.W.kitMeta n = true) (h : PySem.W.mroIn K C (.type n) = some b) : PySem.W.kitOne K (.ref C) (.type n) = some b := by
  unfold PySem.W.kitOne PySem.W.kitCls
  rw [if_neg (by intro z; cases (beq_iff_eq.mp z))]
  show (if PySem.W.kitMeta n = true then PySem.W.subIn K (.ref C) (.type n) else none) = some b
  rw [if_pos hk]
  exact h
/-- an own class that is of no built-in kind -/
structure OwnC (K : PySem.W.Frag) (C : Addr) : Prop where
  ic : C8.InsC K C
  tu : PySem.W.mroIn K C (.type "tuple") = some false
  li : PySem.W.mroIn K C (.type "list") = some false
  it : PySem.W.mroIn K C (.type "int") = some false
  bo : PySem.W.mroIn K C (.type "bool") = some false
  st : PySem.W.mroIn K C (.type "str") = some false
/-- what is no tuple -/
inductive Nt (d C : Addr) (H : Hp) : V → Prop
  | int (i : Int) : Nt d C H (.int i)
  | bl (b : Bool) : Nt d C H (.bl b)
  | str (s : Str) : Nt d C H (.str s)
  | non : Nt d C H .non
  | lst {p : Addr} {xs : List V} (e : H p = some (.lst xs)) (n : p ≠ d) : Nt d C H (.ref p)
  | dct {p : Addr} {kvs : List (Key × V)} (e : H p = some (.dK kvs)) (n : p ≠ d) : Nt d C H (.ref p)
  | own {p dx : Addr} {fs : List (Str × V)} (e : H p = some (.ins C dx fs)) (n : p ≠ d) : Nt d C H (.ref p)
theorem Nt.fr {d C : Addr} {H H' : Hp} {v : V} (f : Fr d H H') (h : Nt d C H v) : Nt d C H' v := by
  cases h with
  | int i => exact .int i
  | bl b => exact .bl b
  | str s => exact .str s
  | non => exact .non
  | lst e n => exact .lst (f _ _ n e) n
  | dct e n => exact .dct (f _ _ n e) n
  | own e n => exact .own (f _ _ n e) n
section
variable {K : PySem.W.Frag} {d C : Addr} {H : Hp} {v : V}
theorem Nt.tup (c : OwnC K C) (h : Nt d C H v) : ∃ t, TyX K H v t ∧ PySem.W.kitOne K t (.type "tuple") = some false := by
  cases h with
  | int i => exact ⟨_, .base (.int i), kit_ty (by decide +kernel)⟩
  | bl b => exact ⟨_, .base (.bl b), kit_ty (by decide +kernel)⟩
  | str s => exact ⟨_, .base (.str s), kit_ty (by decide +kernel)⟩
  | non => exact ⟨_, .base .non, kit_ty (by decide +kernel)⟩
  | lst e n => exact ⟨_, .base (.lst e), kit_ty (by decide +kernel)⟩
  | dct e n => exact ⟨_, .base (.dK e), kit_ty (by decide +kernel)⟩
  | own e n => exact ⟨_, .base (.ins e c.ic.cl c.ic.ha c.ic.hn c.ic.htk c.ic.hm), kit_own (by decide +kernel) c.tu⟩
/-- an integer, or what is_integer refuses -/
theorem Nt.num (c : OwnC K C) (h : Nt d C H v) : (∃ i, v = .int i) ∨ ((∀ i, v ≠ .int i) ∧ IntK K H v false) := by
  cases h with
  | int i => exact .inl ⟨i, rfl⟩
  | bl b => exact .inr ⟨(fun i z => by cases z), _, true, true, .base (.bl b), kit_ty (by decide +kernel), kit_ty (by decide +kernel), rfl⟩
  | str s => exact .inr ⟨(fun i z => by cases z), _, false, false, .base (.str s), kit_ty (by decide +kernel), kit_ty (by decide +kernel), rfl⟩
  | non => exact .inr ⟨(fun i z => by cases z), _, false, false, .base .non, kit_ty (by decide +kernel), kit_ty (by decide +kernel), rfl⟩
  | lst e n => exact .inr ⟨(fun i z => by cases z), _, false, false, .base (.lst e), kit_ty (by decide +kernel), kit_ty (by decide +kernel), rfl⟩
  | dct e n => exact .inr ⟨(fun i z => by cases z), _, false, false, .base (.dK e), kit_ty (by decide +kernel), kit_ty (by decide +kernel), rfl⟩
  | own e n => exact .inr ⟨(fun i z => by cases z), _, false, false, .base (.ins e c.ic.cl c.ic.ha c.ic.hn c.ic.htk c.ic.hm), kit_own (by decide +kernel) c.it, kit_own (by decide +kernel) c.bo, rfl⟩
/-- a string, or none -/
theorem Nt.strs (c : OwnC K C) (h : Nt d C H v) : (∃ s, v = .str s) ∨ ((∀ s, v ≠ .str s) ∧ ∃ t, TyX K H v t ∧ PySem.W.kitOne K t (.type "str") = some false) := by
  cases h with
  | int i => exact .inr ⟨(fun s z => by cases z), _, .base (.int i), kit_ty (by decide +kernel)⟩
  | bl b => exact .inr ⟨(fun s z => by cases z), _, .base (.bl b), kit_ty (by decide +kernel)⟩
  | str s => exact .inl ⟨s, rfl⟩
  | non => exact .inr ⟨(fun s z => by cases z), _, .base .non, kit_ty (by decide +kernel)⟩
  | lst e n => exact .inr ⟨(fun s z => by cases z), _, .base (.lst e), kit_ty (by decide +kernel)⟩
  | dct e n => exact .inr ⟨(fun s z => by cases z), _, .base (.dK e), kit_ty (by decide +kernel)⟩
  | own e n => exact .inr ⟨(fun s z => by cases z), _, .base (.ins e c.ic.cl c.ic.ha c.ic.hn c.ic.htk c.ic.hm), kit_own (by decide +kernel) c.st⟩
theorem TyX.tup' {p : Addr} {xs : List V} (h : SqT K H p xs) : TyX K H (.ref p) (.type "tuple") := by
  rcases h with (q | ⟨o, q⟩) | ⟨o, its, n, e, c, _⟩
  · exact .base (.tup q)
  · exact .fTuple q
  · exact .kTuple e c
theorem IntK.tup {p : Addr} {xs : List V} (h : SqT K H p xs) : IntK K H (.ref p) false := ⟨_, false, false, TyX.tup' h, kit_ty (by decide +kernel), kit_ty (by decide +kernel), rfl⟩
/-- anything -/
def Th (K : PySem.W.Frag) (d C : Addr) (H : Hp) (v : V) : Prop := Nt d C H v ∨ ∃ p xs, v = .ref p ∧ SqT K H p xs
theorem Th.int (i : Int) : Th K d C H (.int i) := .inl (.int i)
theorem Th.tup {p : Addr} {xs : List V} (h : SqT K H p xs) : Th K d C H (.ref p) := .inr ⟨p, xs, rfl, h⟩
theorem Th.num (c : OwnC K C) (h : Th K d C H v) : (∃ i, v = .int i) ∨ ((∀ i, v ≠ .int i) ∧ IntK K H v false) := by
  rcases h with h | ⟨p, xs, rfl, h⟩
  · exact h.num c
  · exact .inr ⟨(fun i z => by cases z), IntK.tup h⟩
theorem Th.strs (c : OwnC K C) (h : Th K d C H v) : (∃ s, v = .str s) ∨ ((∀ s, v ≠ .str s) ∧ ∃ t, TyX K H v t ∧ PySem.W.kitOne K t (.type "str") = some false) := by
  rcases h with h | ⟨p, xs, rfl, h⟩
  · exact h.strs c
  · exact .inr ⟨(fun i z => by cases z), _, TyX.tup' h, kit_ty (by decide +kernel)⟩
theorem Th.fr {H' : Hp} (f : Fr d H H') (x : Tx H H') (h : Th K d C H v) : Th K d C H' v := by
  rcases h with h | ⟨p, xs, rfl, h⟩
  · exact .inl (h.fr f)
  · exact .inr ⟨p, xs, rfl, x.seq h⟩
/-- whether an integer from 0 to n -/
def wholeV (n : Int) : V → Bool
  | .int i => decide (0 ≤ i ∧ i ≤ n)
  | _ => false
theorem wholeV_not {n : Int} (h : ∀ i, v ≠ .int i) : wholeV n v = false := by
  cases v <;> first | rfl | exact absurd rfl (h _)
end
end Pf

/-! ### isinstance of a caught error of an own class, with fields or without -/
namespace Pf
open PySem PySem.Spec PySem.Calls PyProof.Rows PySem.W
section
variable {prog : Program} {w : World} {A : Around} {E : Value → Shared → Prop} {s : Shared} {K : Frag} {x D : Addr} {ox : Obj} {od : Option Obj}
theorem find_data {C : Addr} {name : Str} {a g : Value} (hc : (clsIn K C).isSome = true) (ha : findIn K (.ref C) name = some (some a)) (hg : specialIn K a "__get__" = some (some g)) (ht : takesIn K a = some true) : findObj K C od name = some (.bind g a) := by
  obtain ⟨cd, hc⟩ := Option.isSome_iff_exists.mp hc
  unfold findObj
  rw [hc, Option.bind_some, ha, Option.bind_some]
  simp [hg, ht]
theorem kin_class {Q : Option Value → Shared → Prop} (T : L2.ExcC K D) (X : K.In s.heap) (I : InstAt s.heap x ox D od) (h : Q (some (.ref D)) { s with toks := s.toks + 1 }) : wpAny (model prog w) A (getAttr? (.ref x) "__class__") Q E s := by
  obtain ⟨hga, hgt, hsub, hdct, ha, hn, htk, hm⟩ := T
  have hf : findObj K D od "__class__" = some (.bind (.builtin "getset_descriptor.__get__") (.builtin "object.__class__")) := find_data (by obtain ⟨cd, hc, _⟩ := any_some hdct; rw [hc]; rfl) ha hn htk
  obtain ⟨hp, g, d, t, os⟩ := s
  have L0 := I.type (M := model prog w)
  have L1 := looks_findIn (M := model prog w) X hga
  have L2 := looks_findIn (M := model prog w) X hgt
  have L3 := looks_find (M := model prog w) X I hf
  have sub : Looks (model prog w) hp (isInstance (.ref x) (.type "BaseException")) true := L0.andThen (looks_subIn X hsub)
  have hx0 : (false && onTheHeap (Value.builtin "BaseException.__getattribute__")) = false := rfl
  have hx2 : (Value.builtin "BaseException.__getattribute__" == Value.builtin "object.__getattribute__") = false := by decide +kernel
  have hx1 : (onTheHeap (Value.ref D) && Value.builtin "BaseException.__getattribute__" == Value.builtin "object.__getattribute__") = false := by rw [hx2]; rfl
  unfold getAttr? getAttrBy? getAttrBy
  refine wpAny_bind (wpAny_mkText (wpAny_bind (wpAny_attempt (wpAny_holding (wpAny_bind (L0.at (wpAny_bind (L1.at ?_))))))))
  show wpAny _ _ (if (onTheHeap (Value.ref D) && Value.builtin "BaseException.__getattribute__" == Value.builtin "object.__getattribute__") = true then _ else _) _ _ _
  rw [hx1, if_neg Bool.false_ne_true]
  unfold getAttrByItsOwn hookBefore
  refine wpAny_bind ?_
  rw [if_pos (show onTheHeap (Value.ref D) = true from rfl)]
  refine L2.at ?_
  refine wpAny_bind (wpAny_attempt (wpAny_holding ?_))
  unfold callGetattribute
  rw [hx0, if_neg Bool.false_ne_true]
  unfold boundAndCalled
  rw [PySem.F.excAttr_ValueError.ga.bind (.ref x)]
  refine wpAny_bind (wpAny_pure ?_)
  show wpAny _ _ (call (.builtin "BaseException.__getattribute__") [.ref x, .str "__class__" t]) _ _ _
  refine wpAny_call (codeAny_call_builtin PySem.F.excAttr_ValueError.ga.plain PySem.F.entry_bexc_ga ?_)
  refine @check_slot (model prog w) _ _ ⟨hp, g, d, t + 1, os⟩ "BaseException.__getattribute__" "BaseException" "__getattribute__" (.ref x) [.str "__class__" t] [] _ (by decide +kernel) (by decide +kernel) sub (PySem.F.args_bexc_ga (.ref x) (.str "__class__" t)) ?_
  unfold Builtin.«object.__getattribute__»
  refine wpAny_bind (wpAny_of_eq (a := ((Value.ref x : Value), [Value.str "__class__" t])) (by first | rfl | (simp only [slotArgs]; rfl)) ?_)
  refine wpAny_bind (wpAny_pure (wpAny_bind (L0.at (wpAny_bind (L3.at ?_)))))
  show wpAny _ _ (holding [Value.builtin "object.__class__"] (call (.builtin "getset_descriptor.__get__") [.builtin "object.__class__", .ref x, .ref D]) >>= ret) _ _ _
  refine wpAny_bind (wpAny_holding (wpAny_call (class_get (s := ⟨hp, g, d, t + 1, os⟩) (ox := ox) (od := od) X I hm ?_)))
  refine wpAny_pure ?_
  show wpAny _ _ (handedOut (.ref D)) _ _ _
  rw [handedOut_of (v := .ref D) rfl]
  first
    | exact wpAny_pure (wpAny_pure h)
    | exact wpAny_pure h
    | exact wpAny_pure (wpAny_bind (wpAny_pure (wpAny_pure h)))
theorem kitx_own (T : L2.ExcC K D) : KitX K (.ref x) (.ref D) (fun h => ∃ od, InstAt h x ox D od) where
  ty := fun _ _ _ ⟨_, I⟩ => I.type
  it := fun _ _ X _ => by
    obtain ⟨cdD, hcD, _⟩ := any_some T.hd
    unfold clsIn at hcD
    split at hcD
    · rename_i c' d' cd' sl' ho
      intro A' Q' E' s' k q
      unfold isType loadHead
      exact wpAny_bind (wpAny_loadPart (k _ _ (X _ _ ho)) (wpAny_pure q))
    · cases hcD
  ne := fun h tp dd its n sl X htp => by
    obtain ⟨cdD, hcD, _⟩ := any_some T.hd
    refine Bool.eq_false_iff.mpr fun q => ?_
    have e : D = tp := Value.ref.inj (beq_iff_eq.mp q)
    subst e
    unfold clsIn at hcD
    split at hcD
    · rename_i c' d' cd' sl' ho
      have z := (X _ _ ho).symm.trans htp
      cases z
    · cases hcD
  ca := fun X ⟨_, I⟩ k => kin_class T X I k
end
end Pf
namespace Pf
open PySem PySem.Spec PyProof.Rows L2
/-- isinstance(e, c), e the error that the suite holds; d its dict -/
def rIsX (K : PySem.W.Frag) (cls : Value) (d : Option Addr) (a : Addr) : List V → Hp → VK → Prop := fun xs H Q => ∃ (D : Addr) (c : V) (cv : Value) (b : Bool), xs = [.ref a, c] ∧ cls = .ref D ∧ ExcC K D ∧ (∀ u, RelV c u → u = cv) ∧ (∀ dd, d = some dd → ∃ fs, H dd = some (.xd fs)) ∧ PySem.W.kitOne K (.ref D) cv = some b ∧ Q (.bl b) H
theorem call_isX {X : Cx} {a : Addr} {oe : Obj} {cls : Value} {d : Option Addr} {pn : List (Addr × Obj)} (hz : Zc cls d oe) (hf : ∃ vs, oe.data = .fields vs) : CallR (X.suite a ((a, oe) :: pn)) (.builtin "isinstance") (rIsX X.K cls d a) := by
  intro pins s σ H xs us Q I r h
  obtain ⟨D, c, cv, b, rfl, rfl, C, hcv, hfs, e, q⟩ := h
  cases r with
  | cons rx rr =>
    cases rr with
    | cons rt rr =>
      cases rr
      cases rx
      have ec := hcv _ rt
      subst ec
      obtain ⟨hget, _⟩ := I.pin (a, oe) (List.mem_append.mpr (.inl List.mem_cons_self))
      obtain ⟨vs, hv⟩ := hf
      have J : ∃ od, PySem.W.InstAt s.heap a oe D od := by
        cases d with
        | none =>
          obtain ⟨oc, od, oda, osl⟩ := oe
          obtain ⟨h1, h2⟩ := hz
          dsimp only at h1 h2 hv
          subst h1 h2 hv
          exact ⟨none, hget, rfl, rfl, trivial⟩
        | some dd =>
          obtain ⟨fs, ea⟩ := hfs dd rfl
          have hx : ObjOk X.prog X.w H s.heap dd (.xd fs) := I.hok dd _ ea
          obtain ⟨mA, hns, hr⟩ := hx
          obtain ⟨od, ho, hl⟩ := lookIn_ns hns
          exact ⟨some od, hget, hz.1, by unfold PySem.W.notCls; rw [hv] <;> rfl, by rw [hz.2]; exact ho⟩
      exact PySem.W.kia_one (kitx_own C) I.kIn J e (fun z => nomatch z) fun tk => ⟨.bl b, H, I.kept (t' := tk) fun _ _ z => z, rfl, q⟩
/-- C(..) with its field, as it leaves a def -/
theorem g_ost {K : PySem.W.Frag} {f : Str} {to te : TE} {D : Ends} {σ : L2.St} {H : Hp} (q : te σ H fun y H1 => to σ H1 fun x H2 => ∃ a C : Addr, x = .ref a ∧ OexC K C ∧ PySem.W.findIn K (.ref C) f = some none ∧
  ((H2 a = some (exo a C none) ∧ ∀ dx, H2 dx = none → dx ≠ a → D.nx σ (upd (upd H2 dx (exd dx [(f, y)])) a (exo a C (some dx)))) ∨
    ∃ (dx : Addr) (fs : List (Str × V)), H2 a = some (exo a C (some dx)) ∧ H2 dx = some (exd dx fs) ∧ fs.length ≤ 900 ∧ D.nx σ (upd H2 dx (exd dx ((f, y) :: fs))))) : tOst K f to te D σ H := q
theorem g_mko {C : Addr} {sp : Sp} {ta : TA} {σ : L2.St} {H : Hp} {Q : XK} (q : ta σ H fun vs H1 => vs.length ≤ 1000 ∧ ∀ a, H1 a = none → sp (.ref a :: (vs ++ [])) (upd H1 a (exo a C none))
  (fun v H2 => v = .non ∧ ∃ (d : Addr) (fs : List (Str × V)), H2 a = some (exo a C (some d)) ∧ H2 d = some (exd d fs) ∧ H1 d = none ∧ Q (.ref C) (some d) (upd (del H2 a) d (.xd fs))) (fun _ _ _ => False)) : tMkO C sp [] ta σ H Q := q
end Pf

namespace Pf
open PySem PySem.Spec PyProof.Rows L2
local macro_rules | `(tactic| walk_at "one") => `(tactic| first
  | refine g_var rfl ?_ | refine g_c ?_ | refine g_op ?_ | refine g_rI0 ?_ | refine g_eqI ?_ | refine g_neI ?_ | refine g_eqB ?_ | refine g_neB ?_ | refine g_test ?_ | refine g_tB ?_ | refine g_bl ?_
  | refine g_and ?_ | refine g_or ?_ | refine g_not ?_ | refine g_andV ?_ | refine g_orV ?_ | refine g_notV ?_ | refine g_if ?_ | refine g_un ?_ | refine g_rU ?_ | refine g_chain ?_
  | refine g_ifS ?_ | refine g_next ?_ | refine g_asg ?_ | refine g_name ?_ | refine g_sub ?_ | refine g_ret ?_ | refine g_drop ?_ | refine g_cons ?_ | refine g_nil ?_ | refine g_cb ?_
  | refine g_tup ?_ | refine g_lst ?_ | refine g_sl ?_ | refine g_nopart ?_ | refine g_part ?_ | refine g_part2 ?_ | refine g_call ?_ | (show (∃ k, [V.int _] = [V.int k] ∧ _) ∨ _; refine .inl ⟨_, rfl, ?_⟩) | refine g_yes ?_ | refine g_oFF ?_ | refine g_oTx ?_ | refine g_oFT ?_ | refine g_noTx ?_ | refine g_noFT ?_ | refine g_noFF ?_ | refine g_nT ?_ | refine g_nF ?_ | refine g_sfld ?_ | refine g_fld ?_ | refine g_make ?_ | refine g_lstRg ?_ | refine g_tupRg ?_ | refine g_rg1 ?_ | refine g_lc ?_ | refine g_for ?_ | refine g_iL ?_ | refine g_iT ?_ | refine g_iR1 ?_ | refine g_iR2 ?_ | refine g_iZA ?_ | refine g_bm ?_ | refine iteT ?_ | refine iteF ?_)
local macro_rules | `(tactic| walk_at "go") => `(tactic| repeat (with_reducible first | walk_at "one" | refine g_seq ?_))
local macro_rules | `(tactic| walk_at "gs") => `(tactic| ((repeat (with_reducible walk_at "one")); try dsimp only))
def topS (i : Nat) : Stmt := PySem.Challenge.pw_takenover_k19_posts_judged_and_spoiled.main.body.getD i (.Pass ⟨0, 0, 0, 0⟩)
abbrev s_NoSide_init : Stmt := inClass (topS 3) 0
theorem sc_NoSide_init : FnScope ["self"] ["self"] (defScope s_NoSide_init) := ⟨rfl, rfl, rfl, by decide +kernel, rfl, by decide +kernel, by decide +kernel⟩
abbrev s_is_integer : Stmt := topS 5
theorem sc_is_integer : FnScope ["thing"] ["thing"] (defScope s_is_integer) := ⟨rfl, rfl, rfl, by decide +kernel, rfl, by decide +kernel, by decide +kernel⟩
abbrev s_is_between : Stmt := topS 6
theorem sc_is_between : FnScope ["thing", "least", "most"] ["thing", "least", "most"] (defScope s_is_between) := ⟨rfl, rfl, rfl, by decide +kernel, rfl, by decide +kernel, by decide +kernel⟩
abbrev s_is_number : Stmt := topS 7
theorem sc_is_number : FnScope ["thing", "many"] ["thing", "many"] (defScope s_is_number) := ⟨rfl, rfl, rfl, by decide +kernel, rfl, by decide +kernel, by decide +kernel⟩
abbrev s_is_word : Stmt := topS 8
theorem sc_is_word : FnScope ["thing", "word"] ["thing", "word"] (defScope s_is_word) := ⟨rfl, rfl, rfl, by decide +kernel, rfl, by decide +kernel, by decide +kernel⟩
abbrev s_is_tuple_of : Stmt := topS 9
theorem sc_is_tuple_of : FnScope ["thing", "many"] ["thing", "many"] (defScope s_is_tuple_of) := ⟨rfl, rfl, rfl, by decide +kernel, rfl, by decide +kernel, by decide +kernel⟩
abbrev s_are_numbers : Stmt := topS 10
theorem sc_are_numbers : FnScope ["things", "many", "thing"] ["things", "many"] (defScope s_are_numbers) := ⟨rfl, rfl, rfl, by decide +kernel, rfl, by decide +kernel, by decide +kernel⟩
abbrev s_is_side : Stmt := topS 11
theorem sc_is_side : FnScope ["thing"] ["thing"] (defScope s_is_side) := ⟨rfl, rfl, rfl, by decide +kernel, rfl, by decide +kernel, by decide +kernel⟩
abbrev s_check_side : Stmt := topS 13
theorem sc_check_side : FnScope ["side"] ["side"] (defScope s_check_side) := ⟨rfl, rfl, rfl, by decide +kernel, rfl, by decide +kernel, by decide +kernel⟩
abbrev s_is_copying : Stmt := topS 17
theorem sc_is_copying : FnScope ["offices", "thing", "x", "y", "sure"] ["offices", "thing"] (defScope s_is_copying) := ⟨rfl, rfl, rfl, by decide +kernel, rfl, by decide +kernel, by decide +kernel⟩
abbrev s_is_row : Stmt := topS 18
theorem sc_is_row : FnScope ["offices", "thing"] ["offices", "thing"] (defScope s_is_row) := ⟨rfl, rfl, rfl, by decide +kernel, rfl, by decide +kernel, by decide +kernel⟩
abbrev s_wrong_part : Stmt := topS 19
theorem sc_wrong_part : FnScope ["offices", "rows", "is_right", "number", "row"] ["offices", "rows", "is_right"] (defScope s_wrong_part) := ⟨rfl, rfl, rfl, by decide +kernel, rfl, by decide +kernel, by decide +kernel⟩
abbrev s_is_left : Stmt := topS 20
theorem sc_is_left : FnScope ["row"] ["row"] (defScope s_is_left) := ⟨rfl, rfl, rfl, by decide +kernel, rfl, by decide +kernel, by decide +kernel⟩
abbrev s_cut_between : Stmt := topS 21
theorem sc_cut_between : FnScope ["row"] ["row"] (defScope s_cut_between) := ⟨rfl, rfl, rfl, by decide +kernel, rfl, by decide +kernel, by decide +kernel⟩
abbrev s_barred_cut : Stmt := topS 23
theorem sc_barred_cut : FnScope ["side", "row"] ["side", "row"] (defScope s_barred_cut) := ⟨rfl, rfl, rfl, by decide +kernel, rfl, by decide +kernel, by decide +kernel⟩
abbrev s_is_post : Stmt := topS 24
theorem sc_is_post : FnScope ["log", "side", "thing", "first", "stands", "last", "cuts", "cut", "row"] ["log", "side", "thing"] (defScope s_is_post) := ⟨rfl, rfl, rfl, by decide +kernel, rfl, by decide +kernel, by decide +kernel⟩
abbrev s_Log_init : Stmt := inClass (topS 26) 0
theorem sc_Log_init : FnScope ["self", "offices", "rows", "part"] ["self", "offices", "rows"] (defScope s_Log_init) := ⟨rfl, rfl, rfl, by decide +kernel, rfl, by decide +kernel, by decide +kernel⟩
abbrev s_law_hand : Stmt := topS 28
theorem sc_law_hand : FnScope ["_law_script", "_law_cells", "_law_cell"] ["_law_script"] (defScope s_law_hand) := ⟨rfl, rfl, rfl, by decide +kernel, rfl, by decide +kernel, by decide +kernel⟩
abbrev s_law_draw : Stmt := topS 29
theorem sc_law_draw : FnScope ["_law_hand_here", "_law_many", "_law_cell", "_law_digit", "_law_number"] ["_law_hand_here", "_law_many"] (defScope s_law_draw) := ⟨rfl, rfl, rfl, by decide +kernel, rfl, by decide +kernel, by decide +kernel⟩
abbrev s_law_is : Stmt := topS 30
theorem sc_law_is : FnScope ["_law_told", "_law_due", "_law_one", "_law_two"] ["_law_told", "_law_due"] (defScope s_law_is) := ⟨rfl, rfl, rfl, by decide +kernel, rfl, by decide +kernel, by decide +kernel⟩
abbrev s_law_some : Stmt := topS 31
theorem sc_law_some : FnScope ["_law_hand_here", "_law_things"] ["_law_hand_here", "_law_things"] (defScope s_law_some) := ⟨rfl, rfl, rfl, by decide +kernel, rfl, by decide +kernel, by decide +kernel⟩
abbrev s_law_whole : Stmt := topS 32
theorem sc_law_whole : FnScope ["_law_thing", "_law_low", "_law_high"] ["_law_thing", "_law_low", "_law_high"] (defScope s_law_whole) := ⟨rfl, rfl, rfl, by decide +kernel, rfl, by decide +kernel, by decide +kernel⟩
abbrev s_law_deep : Stmt := topS 33
theorem sc_law_deep : FnScope ["_law_kind", "_law_found", "_law_turn"] ["_law_kind"] (defScope s_law_deep) := ⟨rfl, rfl, rfl, by decide +kernel, rfl, by decide +kernel, by decide +kernel⟩
abbrev s_law_row : Stmt := topS 34
theorem sc_law_row : FnScope ["_law_hand_here", "_law_offices_here", "_law_share", "_law_one", "_law_other"] ["_law_hand_here", "_law_offices_here", "_law_share"] (defScope s_law_row) := ⟨rfl, rfl, rfl, by decide +kernel, rfl, by decide +kernel, by decide +kernel⟩
abbrev s_law_rows : Stmt := topS 35
theorem sc_law_rows : FnScope ["_law_hand_here", "_law_offices_here", "_law_many", "_law_share", "_law_turn"] ["_law_hand_here", "_law_offices_here", "_law_many", "_law_share"] (defScope s_law_rows) := ⟨rfl, rfl, rfl, by decide +kernel, rfl, by decide +kernel, by decide +kernel⟩
abbrev s_law_bars : Stmt := topS 36
theorem sc_law_bars : FnScope ["_law_side", "_law_row_here"] ["_law_side", "_law_row_here"] (defScope s_law_bars) := ⟨rfl, rfl, rfl, by decide +kernel, rfl, by decide +kernel, by decide +kernel⟩
abbrev s_law_is_post : Stmt := topS 37
theorem sc_law_is_post : FnScope ["_law_offices_here", "_law_rows_here", "_law_side", "_law_thing", "_law_cut", "_law_row_here"] ["_law_offices_here", "_law_rows_here", "_law_side", "_law_thing"] (defScope s_law_is_post) := ⟨rfl, rfl, rfl, by decide +kernel, rfl, by decide +kernel, by decide +kernel⟩
abbrev s_law_drawn_post : Stmt := topS 38
theorem sc_law_drawn_post : FnScope ["_law_hand_here", "_law_offices_here", "_law_rows_here", "_law_side", "_law_stands", "_law_here", "_law_first", "_law_row_here"] ["_law_hand_here", "_law_offices_here", "_law_rows_here", "_law_side"] (defScope s_law_drawn_post) := ⟨rfl, rfl, rfl, by decide +kernel, rfl, by decide +kernel, by decide +kernel⟩
abbrev s_law_offices : Stmt := topS 39
theorem sc_law_offices : FnScope ["_law_hand_here", "_law_most"] ["_law_hand_here", "_law_most"] (defScope s_law_offices) := ⟨rfl, rfl, rfl, by decide +kernel, rfl, by decide +kernel, by decide +kernel⟩
abbrev s_law_spoiled : Stmt := topS 40
theorem sc_law_spoiled : FnScope ["_law_hand_here", "_law_offices_here", "_law_rows_here", "_law_side", "_law_thing", "_law_odd", "_law_first", "_law_stands", "_law_last", "_law_kind", "_law_cuts", "_law_cut", "_law_at", "_law_bars_here", "_law_things"] ["_law_hand_here", "_law_offices_here", "_law_rows_here", "_law_side", "_law_thing", "_law_odd"] (defScope s_law_spoiled) := ⟨rfl, rfl, rfl, by decide +kernel, rfl, by decide +kernel, by decide +kernel⟩
abbrev s_law_word : Stmt := topS 41
theorem sc_law_word : FnScope ["_law_log", "_law_side", "_law_thing", "_law_found"] ["_law_log", "_law_side", "_law_thing"] (defScope s_law_word) := ⟨rfl, rfl, rfl, by decide +kernel, rfl, by decide +kernel, by decide +kernel⟩
abbrev s_law : Stmt := topS 42
theorem sc_law : FnScope ["_law_script", "_law_hand_here", "_law_turn", "_law_offices_here", "_law_rows_here", "_law_log", "_law_side", "_law_thing", "_law_change", "_law_odd"] ["_law_script"] (defScope s_law) := ⟨rfl, rfl, rfl, by decide +kernel, rfl, by decide +kernel, by decide +kernel⟩
/-- where the defs stand behind the top -/
structure Ad where
  f_NoSide_init : Addr
  d_NoSide_init : FuncData
  f_is_integer : Addr
  d_is_integer : FuncData
  f_is_between : Addr
  d_is_between : FuncData
  f_is_number : Addr
  d_is_number : FuncData
  f_is_word : Addr
  d_is_word : FuncData
  f_is_tuple_of : Addr
  d_is_tuple_of : FuncData
  f_are_numbers : Addr
  d_are_numbers : FuncData
  f_is_side : Addr
  d_is_side : FuncData
  f_check_side : Addr
  d_check_side : FuncData
  f_is_copying : Addr
  d_is_copying : FuncData
  f_is_row : Addr
  d_is_row : FuncData
  f_wrong_part : Addr
  d_wrong_part : FuncData
  f_is_left : Addr
  d_is_left : FuncData
  f_cut_between : Addr
  d_cut_between : FuncData
  f_barred_cut : Addr
  d_barred_cut : FuncData
  f_is_post : Addr
  d_is_post : FuncData
  f_Log_init : Addr
  d_Log_init : FuncData
  f_law_hand : Addr
  d_law_hand : FuncData
  f_law_draw : Addr
  d_law_draw : FuncData
  f_law_is : Addr
  d_law_is : FuncData
  f_law_some : Addr
  d_law_some : FuncData
  f_law_whole : Addr
  d_law_whole : FuncData
  f_law_deep : Addr
  d_law_deep : FuncData
  f_law_row : Addr
  d_law_row : FuncData
  f_law_rows : Addr
  d_law_rows : FuncData
  f_law_bars : Addr
  d_law_bars : FuncData
  f_law_is_post : Addr
  d_law_is_post : FuncData
  f_law_drawn_post : Addr
  d_law_drawn_post : FuncData
  f_law_offices : Addr
  d_law_offices : FuncData
  f_law_spoiled : Addr
  d_law_spoiled : FuncData
  f_law_word : Addr
  d_law_word : FuncData
  f_law : Addr
  d_law : FuncData
  c_Log : Addr
  c_SheetError : Addr
  c_NoSide : Addr
/-- what the top has left -/
structure Txt (K : PySem.W.Frag) (mg : Str → Option Value) (a : Ad) : Prop where
  F_NoSide_init : Fun K "__init__" "NoSide.__init__" s_NoSide_init a.f_NoSide_init a.d_NoSide_init
  b_NoSide_init : Binds K a.d_NoSide_init ["self"] []
  F_is_integer : Fun K "is_integer" "is_integer" s_is_integer a.f_is_integer a.d_is_integer
  g_is_integer : mg "is_integer" = some (.ref a.f_is_integer)
  b_is_integer : Binds K a.d_is_integer ["thing"] []
  F_is_between : Fun K "is_between" "is_between" s_is_between a.f_is_between a.d_is_between
  g_is_between : mg "is_between" = some (.ref a.f_is_between)
  b_is_between : Binds K a.d_is_between ["thing", "least", "most"] []
  F_is_number : Fun K "is_number" "is_number" s_is_number a.f_is_number a.d_is_number
  g_is_number : mg "is_number" = some (.ref a.f_is_number)
  b_is_number : Binds K a.d_is_number ["thing", "many"] []
  F_is_word : Fun K "is_word" "is_word" s_is_word a.f_is_word a.d_is_word
  g_is_word : mg "is_word" = some (.ref a.f_is_word)
  b_is_word : Binds K a.d_is_word ["thing", "word"] []
  F_is_tuple_of : Fun K "is_tuple_of" "is_tuple_of" s_is_tuple_of a.f_is_tuple_of a.d_is_tuple_of
  g_is_tuple_of : mg "is_tuple_of" = some (.ref a.f_is_tuple_of)
  b_is_tuple_of : Binds K a.d_is_tuple_of ["thing", "many"] []
  F_are_numbers : Fun K "are_numbers" "are_numbers" s_are_numbers a.f_are_numbers a.d_are_numbers
  g_are_numbers : mg "are_numbers" = some (.ref a.f_are_numbers)
  b_are_numbers : Binds K a.d_are_numbers ["things", "many"] []
  F_is_side : Fun K "is_side" "is_side" s_is_side a.f_is_side a.d_is_side
  g_is_side : mg "is_side" = some (.ref a.f_is_side)
  b_is_side : Binds K a.d_is_side ["thing"] []
  F_check_side : Fun K "check_side" "check_side" s_check_side a.f_check_side a.d_check_side
  g_check_side : mg "check_side" = some (.ref a.f_check_side)
  b_check_side : Binds K a.d_check_side ["side"] []
  F_is_copying : Fun K "is_copying" "is_copying" s_is_copying a.f_is_copying a.d_is_copying
  g_is_copying : mg "is_copying" = some (.ref a.f_is_copying)
  b_is_copying : Binds K a.d_is_copying ["offices", "thing"] []
  F_is_row : Fun K "is_row" "is_row" s_is_row a.f_is_row a.d_is_row
  g_is_row : mg "is_row" = some (.ref a.f_is_row)
  b_is_row : Binds K a.d_is_row ["offices", "thing"] []
  F_wrong_part : Fun K "wrong_part" "wrong_part" s_wrong_part a.f_wrong_part a.d_wrong_part
  g_wrong_part : mg "wrong_part" = some (.ref a.f_wrong_part)
  b_wrong_part : Binds K a.d_wrong_part ["offices", "rows", "is_right"] []
  F_is_left : Fun K "is_left" "is_left" s_is_left a.f_is_left a.d_is_left
  g_is_left : mg "is_left" = some (.ref a.f_is_left)
  b_is_left : Binds K a.d_is_left ["row"] []
  F_cut_between : Fun K "cut_between" "cut_between" s_cut_between a.f_cut_between a.d_cut_between
  g_cut_between : mg "cut_between" = some (.ref a.f_cut_between)
  b_cut_between : Binds K a.d_cut_between ["row"] []
  F_barred_cut : Fun K "barred_cut" "barred_cut" s_barred_cut a.f_barred_cut a.d_barred_cut
  g_barred_cut : mg "barred_cut" = some (.ref a.f_barred_cut)
  b_barred_cut : Binds K a.d_barred_cut ["side", "row"] []
  F_is_post : Fun K "is_post" "is_post" s_is_post a.f_is_post a.d_is_post
  g_is_post : mg "is_post" = some (.ref a.f_is_post)
  b_is_post : Binds K a.d_is_post ["log", "side", "thing"] []
  F_Log_init : Fun K "__init__" "Log.__init__" s_Log_init a.f_Log_init a.d_Log_init
  b_Log_init : Binds K a.d_Log_init ["self", "offices", "rows"] []
  F_law_hand : Fun K "_law_hand" "_law_hand" s_law_hand a.f_law_hand a.d_law_hand
  g_law_hand : mg "_law_hand" = some (.ref a.f_law_hand)
  b_law_hand : Binds K a.d_law_hand ["_law_script"] []
  F_law_draw : Fun K "_law_draw" "_law_draw" s_law_draw a.f_law_draw a.d_law_draw
  g_law_draw : mg "_law_draw" = some (.ref a.f_law_draw)
  b_law_draw : Binds K a.d_law_draw ["_law_hand_here", "_law_many"] []
  F_law_is : Fun K "_law_is" "_law_is" s_law_is a.f_law_is a.d_law_is
  g_law_is : mg "_law_is" = some (.ref a.f_law_is)
  b_law_is : Binds K a.d_law_is ["_law_told", "_law_due"] []
  F_law_some : Fun K "_law_some" "_law_some" s_law_some a.f_law_some a.d_law_some
  g_law_some : mg "_law_some" = some (.ref a.f_law_some)
  b_law_some : Binds K a.d_law_some ["_law_hand_here", "_law_things"] []
  F_law_whole : Fun K "_law_whole" "_law_whole" s_law_whole a.f_law_whole a.d_law_whole
  g_law_whole : mg "_law_whole" = some (.ref a.f_law_whole)
  b_law_whole : Binds K a.d_law_whole ["_law_thing", "_law_low", "_law_high"] []
  F_law_deep : Fun K "_law_deep" "_law_deep" s_law_deep a.f_law_deep a.d_law_deep
  g_law_deep : mg "_law_deep" = some (.ref a.f_law_deep)
  b_law_deep : Binds K a.d_law_deep ["_law_kind"] []
  F_law_row : Fun K "_law_row" "_law_row" s_law_row a.f_law_row a.d_law_row
  g_law_row : mg "_law_row" = some (.ref a.f_law_row)
  b_law_row : Binds K a.d_law_row ["_law_hand_here", "_law_offices_here", "_law_share"] []
  F_law_rows : Fun K "_law_rows" "_law_rows" s_law_rows a.f_law_rows a.d_law_rows
  g_law_rows : mg "_law_rows" = some (.ref a.f_law_rows)
  b_law_rows : Binds K a.d_law_rows ["_law_hand_here", "_law_offices_here", "_law_many", "_law_share"] []
  F_law_bars : Fun K "_law_bars" "_law_bars" s_law_bars a.f_law_bars a.d_law_bars
  g_law_bars : mg "_law_bars" = some (.ref a.f_law_bars)
  b_law_bars : Binds K a.d_law_bars ["_law_side", "_law_row_here"] []
  F_law_is_post : Fun K "_law_is_post" "_law_is_post" s_law_is_post a.f_law_is_post a.d_law_is_post
  g_law_is_post : mg "_law_is_post" = some (.ref a.f_law_is_post)
  b_law_is_post : Binds K a.d_law_is_post ["_law_offices_here", "_law_rows_here", "_law_side", "_law_thing"] []
  F_law_drawn_post : Fun K "_law_drawn_post" "_law_drawn_post" s_law_drawn_post a.f_law_drawn_post a.d_law_drawn_post
  g_law_drawn_post : mg "_law_drawn_post" = some (.ref a.f_law_drawn_post)
  b_law_drawn_post : Binds K a.d_law_drawn_post ["_law_hand_here", "_law_offices_here", "_law_rows_here", "_law_side"] []
  F_law_offices : Fun K "_law_offices" "_law_offices" s_law_offices a.f_law_offices a.d_law_offices
  g_law_offices : mg "_law_offices" = some (.ref a.f_law_offices)
  b_law_offices : Binds K a.d_law_offices ["_law_hand_here", "_law_most"] []
  F_law_spoiled : Fun K "_law_spoiled" "_law_spoiled" s_law_spoiled a.f_law_spoiled a.d_law_spoiled
  g_law_spoiled : mg "_law_spoiled" = some (.ref a.f_law_spoiled)
  b_law_spoiled : Binds K a.d_law_spoiled ["_law_hand_here", "_law_offices_here", "_law_rows_here", "_law_side", "_law_thing", "_law_odd"] []
  F_law_word : Fun K "_law_word" "_law_word" s_law_word a.f_law_word a.d_law_word
  g_law_word : mg "_law_word" = some (.ref a.f_law_word)
  b_law_word : Binds K a.d_law_word ["_law_log", "_law_side", "_law_thing"] []
  F_law : Fun K "law" "law" s_law a.f_law a.d_law
  g_law : mg "law" = some (.ref a.f_law)
  b_law : Binds K a.d_law ["_law_script"] []
  gc_Log : mg "Log" = some (.ref a.c_Log)
  cl_Log : Cls K a.c_Log
  n_Log_offices : NoAttr K a.c_Log "offices"
  n_Log_rows : NoAttr K a.c_Log "rows"
  mk_Log : Mk K a.c_Log a.f_Log_init
  iC_Log : C8.InsC K a.c_Log
  gc_SheetError : mg "SheetError" = some (.ref a.c_SheetError)
  si_SheetError : SInit K a.c_SheetError
  gc_NoSide : mg "NoSide" = some (.ref a.c_NoSide)
  ox_NoSide : OexC K a.c_NoSide
  oi_NoSide : PySem.W.findIn K (.ref a.c_NoSide) "__init__" = some (some (.ref a.f_NoSide_init))
  ot_NoSide : PySem.W.typeIn K (.ref a.f_NoSide_init) = some (.type "function")
  ex_NoSide_NoSide : PySem.W.exmOne K (.ref a.c_NoSide) (.ref a.c_NoSide) = some true
  mt_tuple : PySem.W.mroIn K a.c_Log (.type "tuple") = some false
  mt_list : PySem.W.mroIn K a.c_Log (.type "list") = some false
  mt_int : PySem.W.mroIn K a.c_Log (.type "int") = some false
  mt_bool : PySem.W.mroIn K a.c_Log (.type "bool") = some false
  mt_str : PySem.W.mroIn K a.c_Log (.type "str") = some false
  g_MOST_OFFICES : ∃ t, mg "MOST_OFFICES" = some (.int 12 t)
  g_MOST_ROWS : ∃ t, mg "MOST_ROWS" = some (.int 60 t)
  z_isinstance : mg "isinstance" = none
  z_int : mg "int" = none
  z_bool : mg "bool" = none
  z_tuple : mg "tuple" = none
  z_list : mg "list" = none
  z_len : mg "len" = none
  z_abs : mg "abs" = none
  z_all : mg "all" = none
  z_zip : mg "zip" = none
  z_range : mg "range" = none
  z_enumerate : mg "enumerate" = none
  z_max : mg "max" = none
  z_str : mg "str" = none
section
variable {P : Program} {w : World} {K : PySem.W.Frag} {mg : Str → Option Value} {base : Heap} {a : Ad}
/-! ### the drawn numbers, the other way -/
def sp_law_hand (K : PySem.W.Frag) : Sp := fun vs H Q _ => ∃ (s : Addr) (ns : List Int), vs = [.ref s] ∧ SqL K H s (ns.map V.int) ∧ ns.length ≤ 63 ∧ ∀ H' d c, Same H H' → H d = none → Dice d c H' → Q (.ref d) H'
theorem ok_law_hand (T : Txt K mg a) : FnOk P w K mg base CX0 1 a.f_law_hand a.d_law_hand ["_law_script"] (sp_law_hand K) := by
  refine T.F_law_hand.ok sc_law_hand (fun vs H Q E h => ?_) (fun cdv A outer s H vs Q E hr h => ?_)
  · obtain ⟨s, ns, rfl, _⟩ := h
    rfl
  · obtain ⟨s0, ns, rfl, hS, hlen, q⟩ := h
    refine ⟨_, (pss_cons (ps_setLc (i := 1) (own := [("_law_cell", 2)]) (g := (gName 2)) rfl sc_law_hand.nd rfl rfl (sw_true rfl rfl rfl (by decide +kernel)) (kiList K rfl (pe_slice (kSlL K rfl) (pv 0) po_none (po_some pe_int))) (blkOk_by (own := [("_law_cell", 2)]) (N := ["_law_script", "_law_cells", "_law_cell"]) (sc := defScope s_law_hand) (by decide +kernel)) (fun _ _ _ _ _ => (pg_name (i := 2) sc_law_hand.nd rfl (.inl rfl))) (fun _ _ _ _ _ => pts_nil) (fun _ _ _ _ _ => (pe_callB call_abs (by rfl) T.z_abs (by decide +kernel) (pa_cons (pe_callTy call_int1 (by rfl) T.z_int (by decide +kernel) (pa_cons (pv 2) pa_nil)) pa_nil))))
  (pss_one (ps_ret (pe_lst (pa_cons (pv 1) (pa_cons pe_int (pa_cons pe_int (pa_cons (pe_op op_add pe_int (pe_callB (kLen K rfl) (by rfl) T.z_len (by decide +kernel) (pa_cons (pv 1) pa_nil))) (pa_cons pe_int pa_nil))))))))), ?_⟩
    walk_at "go"
    refine ⟨s0, ns.map V.int, rfl, hS, fun p np => ?_⟩
    walk_at "go"
    refine ⟨p, rfl, ⟨_, SqL.new⟩, fun D nD => ?_⟩
    have npD : p ≠ D := fun e => by
      rw [← e, upd_same] at nD
      cases nD
    have nD0 : H D = none := by
      rw [upd_ne npD.symm] at nD
      exact nD
    have hcl : (cutV (ns.map V.int) none (some 63)).length ≤ 63 := by
      have := cutV_length (ns.map V.int) none (some 63)
      rw [List.length_map] at this
      omega
    refine lc_it (walk_list (K := K) (a := p) (xs := cutV (ns.map V.int) none (some 63))) (fun i H' => Same H H' ∧ H' p = some (.lst (cutV (ns.map V.int) none (some 63))) ∧ ∃ cs : List Int, H' D = some (.lst (cs.map V.int)) ∧ cs.length = i ∧ ∀ x ∈ cs, 0 ≤ x)
      ⟨Same.put (same_new np) nD0, ?_, [], upd_same, rfl, fun x hx => by cases hx⟩ (fun i H' _ h => SqL.at h.2.1) (fun i x H1 H2 hi h hy => ?_) (fun H' h => ?_)
    · rw [upd_ne npD, upd_same]
    · obtain ⟨sm, hp, cs, hD, hl, h0⟩ := h
      obtain ⟨rfl, hx⟩ := hy
      obtain ⟨z, rfl⟩ := cutV_int hx
      refine ⟨rfl, g_yes (iteT ?_)⟩
      refine ⟨.int z, rfl, .inl ⟨z, rfl, z, rfl, cs.map V.int, hD, ?_, Same.put sm nD0, ?_, cs ++ [if z < 0 then -z else z], ?_, ?_, ?_⟩⟩
      · rw [List.length_map, hl]
        exact small1000 (by omega)
      · rw [upd_ne npD]
        exact hp
      · rw [upd_same, List.map_append]
        rfl
      · rw [List.length_append, hl]
        rfl
      · intro x hx
        rcases List.mem_append.mp hx with hx | hx
        · exact h0 x hx
        · rw [List.mem_singleton.mp hx]
          split <;> omega
    · obtain ⟨sm, hp, cs, hD, hl, h0⟩ := h
      walk_at "go"
      refine ⟨_, _, rfl, .inl (SqL.at hD), ?_⟩
      walk_at "go"
      refine ⟨by show 5 ≤ sizeLine; decide, fun d nd => ?_⟩
      refine q _ d D (sm.trans (same_new nd)) ?_ ⟨cs, 0, 0, 1 + (cs.map V.int).length, 0, upd_same, ?_, ?_, h0, by decide, by decide, by omega, by rw [List.length_map]; omega, by decide⟩
      · exact sm.free nd
      · rw [upd_ne (ne_of_none hD nd)]
        exact hD
      · exact ne_of_none hD nd
def sp_law_draw : Sp := fun vs H Q _ => ∃ (d c : Addr) (n : Int), vs = [.ref d, .int n] ∧ Dice d c H ∧ 0 < n ∧ n ≤ 1000000000000 ∧ ∀ H' r, Fr d H H' → Dice d c H' → 0 ≤ r → r < n → Q (.int r) H'
theorem ok_law_draw (T : Txt K mg a) : FnOk P w K mg base CX0 1 a.f_law_draw a.d_law_draw ["_law_hand_here", "_law_many"] sp_law_draw := by
  refine T.F_law_draw.ok sc_law_draw (fun vs H Q E h => ?_) (fun cdv A outer s H vs Q E hr h => ?_)
  · obtain ⟨d, c, n, rfl, _⟩ := h
    rfl
  · obtain ⟨d, c, n, rfl, hD, n0, n1, q⟩ := h
    refine ⟨_, (pss_cons (ps_if (PW.pt (pw_and (pt_cmpR op_eq (pe_ix (kIxL K rfl) (pv 0) pe_int (fun _ _ => rfl)) pe_int (nomark _)) (pw_and1 (pt_cmpR op_lt (pe_ix (kIxL K rfl) (pv 0) pe_int (fun _ _ => rfl)) (pe_callB (kLen K rfl) (by rfl) T.z_len (by decide +kernel) (pa_cons (pe_ix (kIxL K rfl) (pv 0) pe_int (fun _ _ => rfl)) pa_nil)) (nomark _)))))
  (pss_cons (ps_set (i := 2) sc_law_draw.nd rfl (.inl rfl) (pe_ix (kIxL K rfl) (pe_ix (kIxL K rfl) (pv 0) pe_int (fun _ _ => rfl)) (pe_ix (kIxL K rfl) (pv 0) pe_int (fun _ _ => rfl)) (fun _ _ => rfl)))
  (pss_cons (ps_asg (pe_op op_add (pe_ix (kIxL K rfl) (pv 0) pe_int (fun _ _ => rfl)) pe_int) (pg_sub (pv 0) pe_int set_list))
  (pss_cons (ps_asg (pe_op op_mod (pe_callTy call_int1 (by rfl) T.z_int (by decide +kernel) (pa_cons (pe_op op_add (pe_op op_add (pe_op op_mul (pe_ix (kIxL K rfl) (pv 0) pe_int (fun _ _ => rfl)) pe_int) (pv 2)) pe_int) pa_nil)) pe_int) (pg_sub (pv 0) pe_int set_list))
  (pss_one (ps_if (pt_cmpR op_ge (pv 2) (pe_op op_pow pe_int pe_int) (nomark _))
  (pss_one (ps_asg (pv 2) (pg_sub (pv 0) pe_int set_list)))
  pss_nil)))))
  pss_nil)
  (pss_cons (ps_if (pt_cmpR op_gt (pe_ix (kIxL K rfl) (pv 0) pe_int (fun _ _ => rfl)) pe_int (nomark _))
  (pss_cons (ps_set (i := 3) sc_law_draw.nd rfl (.inl rfl) (pe_op op_mod (pe_callTy call_int1 (by rfl) T.z_int (by decide +kernel) (pa_cons (pe_ix (kIxL K rfl) (pv 0) pe_int (fun _ _ => rfl)) pa_nil)) (pv 1)))
  (pss_cons (ps_asg (pe_op op_fdivW (pe_ix (kIxL K rfl) (pv 0) pe_int (fun _ _ => rfl)) (pv 1)) (pg_sub (pv 0) pe_int set_list))
  (pss_one (ps_ret (pv 3)))))
  pss_nil)
  (pss_cons (ps_asg (pe_op op_add (pe_ix (kIxL K rfl) (pv 0) pe_int (fun _ _ => rfl)) pe_int) (pg_sub (pv 0) pe_int set_list))
  (pss_cons (ps_set (i := 4) sc_law_draw.nd rfl (.inl rfl) (pe_op op_mod (pe_callTy call_int1 (by rfl) T.z_int (by decide +kernel) (pa_cons (pe_op op_mul (pe_callTy call_int1 (by rfl) T.z_int (by decide +kernel) (pa_cons (pe_op op_add (pe_ix (kIxL K rfl) (pv 0) pe_int (fun _ _ => rfl)) (pe_op op_mul pe_int (pe_ix (kIxL K rfl) (pv 0) pe_int (fun _ _ => rfl)))) pa_nil)) pe_int) pa_nil)) pe_int))
  (pss_cons (ps_set (i := 4) sc_law_draw.nd rfl (.inl rfl) (pe_op op_mod (pe_callTy call_int1 (by rfl) T.z_int (by decide +kernel) (pa_cons (pe_op op_mul (pv 4) (pe_op op_add (pe_op op_fdiv (pv 4) pe_int) pe_int)) pa_nil)) pe_int))
  (pss_cons (ps_set (i := 4) sc_law_draw.nd rfl (.inl rfl) (pe_op op_mod (pe_callTy call_int1 (by rfl) T.z_int (by decide +kernel) (pa_cons (pe_op op_mul (pv 4) (pe_op op_add (pe_op op_fdiv (pv 4) pe_int) pe_int)) pa_nil)) pe_int))
  (pss_one (ps_ret (pe_op op_mod (pe_callTy call_int1 (by rfl) T.z_int (by decide +kernel) (pa_cons (pe_op op_fdiv (pv 4) pe_int) pa_nil)) (pv 1)))))))))), ?_⟩
    obtain ⟨cs, i, qq, s1, t, h1, h2, ncd, h0, hi, hq, hs, hs2, ht⟩ := hD
    refine seq_cut (fun σ' H' => ∃ y2 i' q' s', σ' = [some (.ref d), some (.int n), y2, none, none] ∧ H' d = some (.lst [.ref c, .int i', .int q', .int s', .int t]) ∧ H' c = some (.lst (cs.map V.int)) ∧ Fr d H H' ∧ 0 ≤ i' ∧ 0 ≤ q' ∧ 0 ≤ s' ∧ s' < 2147483648) ?rest ?first
    case first =>
      intro N hN
      walk_at "go"
      refine g_ixL (SqL.at h1) rfl ?_
      walk_at "go"
      refine g_ite (fun e0 => ?_) (fun e0 => ?_)
      · walk_at "go"
        refine g_ixL (SqL.at h1) rfl ?_
        walk_at "go"
        refine g_ixL (SqL.at h1) rfl ?_
        walk_at "go"
        refine ⟨_, _, rfl, .inl (SqL.at h2), ?_⟩
        walk_at "go"
        refine g_ite (fun e1 => ?_) (fun e1 => ?_)
        · obtain ⟨z, hz, _, ez⟩ := atI_int hi e1
          have z0 := h0 z hz
          walk_at "go"
          refine g_ixL (SqL.at h1) rfl ?_
          walk_at "go"
          refine g_ixL (SqL.at h1) rfl ?_
          walk_at "go"
          refine g_ixL (SqL.at h2) ez ?_
          walk_at "go"
          refine g_ixL (SqL.at h1) rfl ?_
          walk_at "go"
          refine g_setL h1 rfl ?_
          have h1' : upd H d (.lst [.ref c, .int (i + 1), .int qq, .int s1, .int t]) d = some (.lst [.ref c, .int (i + 1), .int qq, .int s1, .int t]) := upd_same
          have h2' : upd H d (.lst [.ref c, .int (i + 1), .int qq, .int s1, .int t]) c = some (.lst (cs.map V.int)) := by rw [upd_ne ncd]; exact h2
          walk_at "go"
          refine g_ixL (SqL.at h1') rfl ?_
          walk_at "go"
          refine g_rI (.inl ⟨by omega, by omega⟩) ?_
          walk_at "go"
          refine g_rI (by decide) ?_
          walk_at "go"
          refine g_setL h1' rfl ?_
          generalize hw : (s1 * 69621 + z + 11) % 2147483629 = w1
          have w0 : 0 ≤ w1 := by rw [← hw]; exact Int.emod_nonneg _ (by decide)
          have w2 : w1 < 2147483629 := by rw [← hw]; exact Int.emod_lt_of_pos _ (by decide)
          have h1'' : upd (upd H d (.lst [.ref c, .int (i + 1), .int qq, .int s1, .int t])) d (.lst [.ref c, .int (i + 1), .int qq, .int w1, .int t]) d = some (.lst [.ref c, .int (i + 1), .int qq, .int w1, .int t]) := upd_same
          have h2'' : upd (upd H d (.lst [.ref c, .int (i + 1), .int qq, .int s1, .int t])) d (.lst [.ref c, .int (i + 1), .int qq, .int w1, .int t]) c = some (.lst (cs.map V.int)) := by rw [upd_ne ncd]; exact h2'
          walk_at "go"
          refine g_rI ⟨by decide, by decide, by decide⟩ ?_
          walk_at "go"
          refine g_ite (fun e2 => ?_) (fun e2 => ?_)
          · walk_at "go"
            refine g_setL h1'' rfl ?_
            refine hN _ _ ⟨_, i + 1, z, w1, rfl, upd_same, by rw [upd_ne ncd]; exact h2'', (Fr.upd.trans Fr.upd).trans Fr.upd, by omega, z0, w0, by omega⟩
          · walk_at "go"
            exact hN _ _ ⟨_, i + 1, qq, w1, rfl, h1'', h2'', Fr.upd.trans Fr.upd, by omega, hq, w0, by omega⟩
        · walk_at "go"
          exact hN _ _ ⟨_, i, qq, s1, rfl, h1, h2, Fr.refl d H, hi, hq, hs, hs2⟩
      · walk_at "go"
        exact hN _ _ ⟨_, i, qq, s1, rfl, h1, h2, Fr.refl d H, hi, hq, hs, hs2⟩
    case rest =>
      rintro σ' H1 ⟨y2, i, qq, s1, rfl, h1, h2, fr, hi, hq, hs, hs2⟩
      walk_at "go"
      refine g_ixL (SqL.at h1) rfl ?_
      walk_at "go"
      refine g_ite (fun e0 => ?_) (fun e0 => ?_)
      · walk_at "go"
        refine g_ixL (SqL.at h1) rfl ?_
        walk_at "go"
        refine g_rI n0 ?_
        walk_at "go"
        refine g_ixL (SqL.at h1) rfl ?_
        walk_at "go"
        refine g_rI (wide_div n0 (b := 60) (by omega) (by decide) (by decide)) ?_
        walk_at "go"
        refine g_setL h1 rfl ?_
        walk_at "go"
        exact q _ _ (fr.trans Fr.upd) ⟨cs, i, _, s1, t, upd_same, by rw [upd_ne ncd]; exact h2, ncd, h0, hi, Int.ediv_nonneg hq (by omega), hs, hs2, ht⟩ (Int.emod_nonneg _ (by omega)) (Int.emod_lt_of_pos _ n0)
      · walk_at "go"
        refine g_ixL (SqL.at h1) rfl ?_
        walk_at "go"
        refine g_setL h1 rfl ?_
        have h1' : upd H1 d (.lst [.ref c, .int i, .int qq, .int s1, .int (t + 1)]) d = some (.lst [.ref c, .int i, .int qq, .int s1, .int (t + 1)]) := upd_same
        walk_at "go"
        refine g_ixL (SqL.at h1') rfl ?_
        walk_at "go"
        refine g_ixL (SqL.at h1') rfl ?_
        walk_at "go"
        refine g_rI (.inl ⟨by decide, by decide⟩) ?_
        walk_at "go"
        refine g_rI (.inr ⟨by decide, by decide⟩) ?_
        walk_at "go"
        refine g_rI (by decide) ?_
        generalize hw : ((s1 + 7919 * (t + 1)) * 48271) % 2147483647 = w1
        have w0 : 0 ≤ w1 := by rw [← hw]; exact Int.emod_nonneg _ (by decide)
        have w2 : w1 < 2147483647 := by rw [← hw]; exact Int.emod_lt_of_pos _ (by decide)
        walk_at "go"
        refine g_rI ⟨by decide, by decide⟩ ?_
        walk_at "go"
        refine g_rI (.inl ⟨by omega, by omega⟩) ?_
        walk_at "go"
        refine g_rI (by decide) ?_
        generalize hm : (w1 * (w1 / 1009 + 69621)) % 2147483647 = m1
        have m0 : 0 ≤ m1 := by rw [← hm]; exact Int.emod_nonneg _ (by decide)
        have m2 : m1 < 2147483647 := by rw [← hm]; exact Int.emod_lt_of_pos _ (by decide)
        walk_at "go"
        refine g_rI ⟨by decide, by decide⟩ ?_
        walk_at "go"
        refine g_rI (.inl ⟨by omega, by omega⟩) ?_
        walk_at "go"
        refine g_rI (by decide) ?_
        walk_at "go"
        refine g_rI ⟨by decide, by decide⟩ ?_
        walk_at "go"
        refine g_rI n0 ?_
        exact q _ _ (fr.trans Fr.upd) ⟨cs, i, qq, s1, t + 1, upd_same, by rw [upd_ne ncd]; exact h2, ncd, h0, hi, hq, hs, hs2, by omega⟩ (Int.emod_nonneg _ (by omega)) (Int.emod_lt_of_pos _ n0)

end

section
variable {P : Program} {w : World} {K : PySem.W.Frag} {mg : Str → Option Value} {base : Heap} {a : Ad}
/-! ### kinds -/
def sp_is_integer (K : PySem.W.Frag) : Sp := fun vs H Q _ => ∃ v b, vs = [v] ∧ IntK K H v b ∧ Q (.bl b) H
theorem ok_is_integer (T : Txt K mg a) : FnOk P w K mg base CX0 1 a.f_is_integer a.d_is_integer ["thing"] (sp_is_integer K) := by
  refine T.F_is_integer.ok sc_is_integer (fun vs H Q E h => ?_) (fun cdv A outer s H vs Q E hr h => ?_)
  · obtain ⟨v, b, rfl, _⟩ := h
    rfl
  · obtain ⟨v, b, rfl, ⟨t, b1, b2, ty, k1, k2, rfl⟩, q⟩ := h
    refine ⟨_, (pss_one (ps_ret (pe_and (pe_callB (kIsi K rfl) (by rfl) T.z_isinstance (by decide +kernel) (pa_cons (pv 0) (pa_cons (pe_bltn (v := .ty "int") (by rfl) T.z_int (by decide +kernel) rfl) pa_nil))) (pe_one (pe_not (pe_callB (kIsi K rfl) (by rfl) T.z_isinstance (by decide +kernel) (pa_cons (pv 0) (pa_cons (pe_bltn (v := .ty "bool") (by rfl) T.z_bool (by decide +kernel) rfl) pa_nil)))))))), ?_⟩
    walk_at "go"
    refine g_isi ty k1 ?_
    walk_at "go"
    cases b1 with
    | true =>
      walk_at "go"
      refine g_isi ty k2 ?_
      walk_at "go"
      exact q
    | false =>
      walk_at "go"
      exact q
def sp_is_between (K : PySem.W.Frag) : Sp := fun vs H Q _ => ∃ v lo hi, vs = [v, .int lo, .int hi] ∧ ((∃ i, v = .int i ∧ Q (.bl (decide (lo ≤ i ∧ i ≤ hi))) H) ∨ (IntK K H v false ∧ Q (.bl false) H))
theorem ok_is_between (T : Txt K mg a) : FnOk P w K mg base CX0 2 a.f_is_between a.d_is_between ["thing", "least", "most"] (sp_is_between K) := by
  refine T.F_is_between.ok sc_is_between (fun vs H Q E h => ?_) (fun cdv A outer s H vs Q E hr h => ?_)
  · obtain ⟨v, lo, hi, rfl, _⟩ := h
    rfl
  · obtain ⟨v, lo, hi, rfl, h⟩ := h
    refine ⟨_, (pss_one (ps_ret (pe_and (pe_call (ok_is_integer T) (hr.mono (by first | decide | omega)) (by rfl) T.g_is_integer T.F_is_integer.kp (T.b_is_integer) .nil pass0 (pa_cons (pv 0) pa_nil)) (pe_one (pe_chain op_le op_le (pv 1) (pv 0) (pv 2)))))), ?_⟩
    rcases h with ⟨i, rfl, q⟩ | ⟨k, q⟩
    · walk_at "go"
      refine ⟨_, _, rfl, IntK.int i, ?_⟩
      walk_at "go"
      refine g_ite (fun e1 => ?_) (fun e1 => ?_)
      · walk_at "go"
        rw [show decide (i ≤ hi) = decide (lo ≤ i ∧ i ≤ hi) from by simp [e1]]
        exact q
      · walk_at "go"
        rw [show false = decide (lo ≤ i ∧ i ≤ hi) from by simp [e1]]
        exact q
    · walk_at "go"
      refine ⟨_, _, rfl, k, ?_⟩
      walk_at "go"
      exact q
def sp_is_number (K : PySem.W.Frag) : Sp := fun vs H Q _ => ∃ v n, vs = [v, .int n] ∧ ((∃ i, v = .int i ∧ Q (.bl (decide (0 ≤ i ∧ i < n))) H) ∨ (IntK K H v false ∧ Q (.bl false) H))
theorem ok_is_number (T : Txt K mg a) : FnOk P w K mg base CX0 3 a.f_is_number a.d_is_number ["thing", "many"] (sp_is_number K) := by
  refine T.F_is_number.ok sc_is_number (fun vs H Q E h => ?_) (fun cdv A outer s H vs Q E hr h => ?_)
  · obtain ⟨v, n, rfl, _⟩ := h
    rfl
  · obtain ⟨v, n, rfl, h⟩ := h
    refine ⟨_, (pss_one (ps_ret (pe_call (ok_is_between T) (hr.mono (by first | decide | omega)) (by rfl) T.g_is_between T.F_is_between.kp (T.b_is_between) .nil pass0 (pa_cons (pv 0) (pa_cons pe_int (pa_cons (pe_op op_sub (pv 1) pe_int) pa_nil)))))), ?_⟩
    rcases h with ⟨i, rfl, q⟩ | ⟨k, q⟩
    · walk_at "go"
      refine ⟨_, _, _, rfl, .inl ⟨i, rfl, ?_⟩⟩
      rw [show decide (0 ≤ i ∧ i ≤ n - 1) = decide (0 ≤ i ∧ i < n) from by
        rw [Bool.eq_iff_iff, decide_eq_true_iff, decide_eq_true_iff]; omega]
      exact q
    · walk_at "go"
      exact ⟨_, _, _, rfl, .inr ⟨k, q⟩⟩

end

section
variable {P : Program} {w : World} {K : PySem.W.Frag} {mg : Str → Option Value} {base : Heap} {a : Ad}
/-! ### alike -/
mutual
def dep : PyData → Nat
  | .tuple ds => depAll ds + 1
  | .list ds => depAll ds + 1
  | _ => 0
def depAll : List PyData → Nat
  | [] => 0
  | d :: ds => max (dep d) (depAll ds)
end
mutual
def sm : PyData → Bool
  | .tuple ds => decide (ds.length ≤ 1000000) && smAll ds
  | .list ds => decide (ds.length ≤ 1000000) && smAll ds
  | _ => true
def smAll : List PyData → Bool
  | [] => true
  | d :: ds => sm d && smAll ds
end
theorem dep_at : ∀ {ds : List PyData} {i : Nat} {d : PyData}, ds[i]? = some d → dep d ≤ depAll ds
  | [], _, _, h => by simp at h
  | e :: ds, 0, _, h => by
    cases h
    unfold depAll
    omega
  | e :: ds, i + 1, _, h => by
    have := dep_at (ds := ds) (i := i) (by simpa using h)
    unfold depAll
    omega
theorem sm_at : ∀ {ds : List PyData} {i : Nat} {d : PyData}, smAll ds = true → ds[i]? = some d → sm d = true
  | [], _, _, _, h => by simp at h
  | e :: ds, 0, _, s, h => by
    cases h
    unfold smAll at s
    rw [Bool.and_eq_true] at s
    exact s.1
  | e :: ds, i + 1, _, s, h => by
    unfold smAll at s
    rw [Bool.and_eq_true] at s
    exact sm_at (ds := ds) (i := i) s.2 (by simpa using h)
theorem DpAll.get {K : PySem.W.Frag} {H : Hp} {vs : List V} {ds : List PyData} {i : Nat} {v : V} (h : DpAll K H vs ds) (e : vs[i]? = some v) : ∃ d, ds[i]? = some d ∧ Dp K H v d := by
  have hl : i < ds.length := by rw [← DpAll.len h]; exact (List.getElem?_eq_some_iff.mp e).1
  exact ⟨_, List.getElem?_eq_getElem hl, DpAll.at h e (List.getElem?_eq_getElem hl)⟩
theorem g_isiT {K : PySem.W.Frag} {H : Hp} {Q : VK} {x : V} {p : Addr} {n m : String} {t : Value} {b b2 : Bool} (hp : H p = some (.tup [.ty n, .ty m])) (ty : TyX K H x t) (k : PySem.W.kitOne K t (.type n) = some b) (k2 : PySem.W.kitOne K t (.type m) = some b2) (q : Q (.bl (b || b2)) H) : rIsiT K [x, .ref p] H Q :=
  ⟨x, p, _, t, [.type n, .type m], _, rfl, hp, .cons (.ty n) (.cons (.ty m) .nil), ty, kitAny2 k k2, q⟩
/-- what tells that data are no tuple and no list -/
def leafD : PyData → Bool
  | .tuple _ => false
  | .list _ => false
  | .dict _ => false
  | _ => true
theorem leaf_kit {K : PySem.W.Frag} {d : PyData} (h : leafD d = true) : PySem.W.kitOne K (.type (tyD d)) (.type "tuple") = some false ∧ PySem.W.kitOne K (.type (tyD d)) (.type "list") = some false ∧ ∃ b, PySem.W.kitOne K (.type (tyD d)) (.type "bool") = some b := by
  cases d with
  | none => exact ⟨kit_ty (a := "NoneType") (by decide +kernel), kit_ty (a := "NoneType") (by decide +kernel), false, kit_ty (a := "NoneType") (by decide +kernel)⟩
  | bool z => exact ⟨kit_ty (a := "bool") (by decide +kernel), kit_ty (a := "bool") (by decide +kernel), true, kit_ty (a := "bool") (by decide +kernel)⟩
  | int z => exact ⟨kit_ty (a := "int") (by decide +kernel), kit_ty (a := "int") (by decide +kernel), false, kit_ty (a := "int") (by decide +kernel)⟩
  | str z => exact ⟨kit_ty (a := "str") (by decide +kernel), kit_ty (a := "str") (by decide +kernel), false, kit_ty (a := "str") (by decide +kernel)⟩
  | tuple z => cases h
  | list z => cases h
  | dict z => cases h
theorem all_rep (n : Nat) : (List.replicate n true).all id = true := by
  rw [List.all_eq_true]
  intro x hx
  exact (List.mem_replicate.mp hx).2
def sp_law_is (K : PySem.W.Frag) (n : Nat) : Sp := fun vs H Q _ => ∃ x y d, vs = [x, y] ∧ Dp K H x d ∧ Dp K H y d ∧ dep d ≤ n ∧ sm d = true ∧ ∀ H', Same H H' → Q (.bl true) H'
theorem ok_law_is0 (T : Txt K mg a) {k : Nat} : FnOk P w K mg base CX0 (k + 1) a.f_law_is a.d_law_is ["_law_told", "_law_due"] (fun vs H Q _ => ∃ x y d, vs = [x, y] ∧ Dp K H x d ∧ Dp K H y d ∧ leafD d = true ∧ ∀ H', Same H H' → Q (.bl true) H') := by
  refine T.F_law_is.ok sc_law_is (fun vs H Q E h => ?_) (fun cdv A outer s H vs Q E hr h => ?_)
  · obtain ⟨x, y, d, rfl, _⟩ := h
    rfl
  · obtain ⟨x, y, d, rfl, hx, hy, lf, q⟩ := h
    refine ⟨_, (pss_cons (ps_if (pt_val (pe_callB (kIsiT K rfl) (by rfl) T.z_isinstance (by decide +kernel) (pa_cons (pv 1) (pa_cons (pe_tup (pa_cons (pe_bltn (v := .ty "tuple") (by rfl) T.z_tuple (by decide +kernel) rfl) (pa_cons (pe_bltn (v := .ty "list") (by rfl) T.z_list (by decide +kernel) rfl) pa_nil))) pa_nil)))) pss_never pss_nil)
  (pss_one (ps_ret (pe_and (pe_cmpR op_eq (pe_callB (kIsi K rfl) (by rfl) T.z_isinstance (by decide +kernel) (pa_cons (pv 0) (pa_cons (pe_bltn (v := .ty "bool") (by rfl) T.z_bool (by decide +kernel) rfl) pa_nil))) (pe_callB (kIsi K rfl) (by rfl) T.z_isinstance (by decide +kernel) (pa_cons (pv 1) (pa_cons (pe_bltn (v := .ty "bool") (by rfl) T.z_bool (by decide +kernel) rfl) pa_nil))) (nomark _)) (pe_one (pe_cmpR op_eq (pv 0) (pv 1) (nomark _))))))), ?_⟩
    walk_at "go"
    refine ⟨by show 2 ≤ sizeLine; decide, fun p np => ?_⟩
    walk_at "go"
    have s1 : Same H (upd H p (.tup [.ty "tuple", .ty "list"])) := same_new np
    have hy1 := Dp.same s1 _ _ hy
    have hx1 := Dp.same s1 _ _ hx
    obtain ⟨k1, k2, b, kb⟩ := leaf_kit (K := K) lf
    refine g_isiT upd_same (Dp.ty hy1) k1 k2 ?_
    · walk_at "go"
      refine g_isi (Dp.ty hx1) kb ?_
      walk_at "go"
      refine g_isi (Dp.ty hy1) kb ?_
      walk_at "go"
      rw [show (b == b) = true from by cases b <;> rfl]
      walk_at "go"
      have : x = y ∧ scal x y = true := by
        cases hx <;> cases hy <;> first | exact ⟨rfl, rfl⟩ | cases lf
      obtain ⟨rfl, sc⟩ := this
      refine ⟨sc, ?_⟩
      rw [decide_eq_true rfl]
      exact q _ s1
theorem ok_law_is_tuple (T : Txt K mg a) {n : Nat} (G : FnOk P w K mg base CX0 (n + 1) a.f_law_is a.d_law_is ["_law_told", "_law_due"] (sp_law_is K n)) : FnOk P w K mg base CX0 (n + 2) a.f_law_is a.d_law_is ["_law_told", "_law_due"] (fun vs H Q _ => ∃ x y ds, vs = [x, y] ∧ Dp K H x (.tuple ds) ∧ Dp K H y (.tuple ds) ∧ dep (.tuple ds) ≤ n + 1 ∧ sm (.tuple ds) = true ∧ ∀ H', Same H H' → Q (.bl true) H') := by
  refine T.F_law_is.ok sc_law_is (fun vs H Q E h => ?_) (fun cdv A outer s H vs Q E hr h => ?_)
  · obtain ⟨x, y, d, rfl, _⟩ := h
    rfl
  · obtain ⟨x, y, ds, rfl, hx, hy, hd, hsm, q⟩ := h
    refine ⟨_, (pss_cons (ps_if (pt_val (pe_callB (kIsiT K rfl) (by rfl) T.z_isinstance (by decide +kernel) (pa_cons (pv 1) (pa_cons (pe_tup (pa_cons (pe_bltn (v := .ty "tuple") (by rfl) T.z_tuple (by decide +kernel) rfl) (pa_cons (pe_bltn (v := .ty "list") (by rfl) T.z_list (by decide +kernel) rfl) pa_nil))) pa_nil))))
  (pss_cons (ps_if (PW.pt (pw_or (pt_cmpR op_ne (pe_callB (kIsi K rfl) (by rfl) T.z_isinstance (by decide +kernel) (pa_cons (pv 0) (pa_cons (pe_bltn (v := .ty "tuple") (by rfl) T.z_tuple (by decide +kernel) rfl) pa_nil))) (pe_callB (kIsi K rfl) (by rfl) T.z_isinstance (by decide +kernel) (pa_cons (pv 1) (pa_cons (pe_bltn (v := .ty "tuple") (by rfl) T.z_tuple (by decide +kernel) rfl) pa_nil))) (nomark _)) (pw_or1 (pt_not (pt_val (pe_callB (kIsiT K rfl) (by rfl) T.z_isinstance (by decide +kernel) (pa_cons (pv 0) (pa_cons (pe_tup (pa_cons (pe_bltn (v := .ty "tuple") (by rfl) T.z_tuple (by decide +kernel) rfl) (pa_cons (pe_bltn (v := .ty "list") (by rfl) T.z_list (by decide +kernel) rfl) pa_nil))) pa_nil))))))))
  (pss_one (ps_ret pe_bl))
  pss_nil)
  (pss_one (ps_ret (pe_and (pe_cmpR op_eq (pe_callB (kLen K rfl) (by rfl) T.z_len (by decide +kernel) (pa_cons (pv 0) pa_nil)) (pe_callB (kLen K rfl) (by rfl) T.z_len (by decide +kernel) (pa_cons (pv 1) pa_nil)) (nomark _)) (pe_one (pe_callB (kAll K rfl rfl) (by rfl) T.z_all (by decide +kernel) (pa_cons (pe_lc (own := [("_law_one", 2), ("_law_two", 3)]) (g := (gTup K 2 (gCons (gName 2) (gCons (gName 3) gNil)))) rfl sc_law_is.nd (kiZip K rfl (by rfl) T.z_zip (pa_cons (pv 0) (pa_cons (pv 1) pa_nil))) (blkOk_by (own := [("_law_one", 2), ("_law_two", 3)]) (N := ["_law_told", "_law_due", "_law_one", "_law_two"]) (sc := defScope s_law_is) (by decide +kernel)) (fun _ _ _ _ _ => (kgTup K rfl rfl (pgs_cons (pg_name (i := 2) sc_law_is.nd rfl (.inl rfl)) (pgs_cons (pg_name (i := 3) sc_law_is.nd rfl (.inl rfl)) pgs_nil)))) (fun _ _ _ _ _ => pts_nil) (fun _ _ _ _ _ => (pe_call G (hr.mono (by first | decide | omega)) (by rfl) T.g_law_is T.F_law_is.kp (T.b_law_is) .nil pass0 (pa_cons (pv 2) (pa_cons (pv 3) pa_nil))))) pa_nil)))))))
  pss_nil)
  (pss_one (ps_ret (pe_and (pe_cmpR op_eq (pe_callB (kIsi K rfl) (by rfl) T.z_isinstance (by decide +kernel) (pa_cons (pv 0) (pa_cons (pe_bltn (v := .ty "bool") (by rfl) T.z_bool (by decide +kernel) rfl) pa_nil))) (pe_callB (kIsi K rfl) (by rfl) T.z_isinstance (by decide +kernel) (pa_cons (pv 1) (pa_cons (pe_bltn (v := .ty "bool") (by rfl) T.z_bool (by decide +kernel) rfl) pa_nil))) (nomark _)) (pe_one (pe_cmpR op_eq (pv 0) (pv 1) (nomark _))))))), ?_⟩
    walk_at "go"
    refine ⟨by show 2 ≤ sizeLine; decide, fun p np => ?_⟩
    walk_at "go"
    have s1 : Same H (upd H p (.tup [.ty "tuple", .ty "list"])) := same_new np
    have hy1 := Dp.same s1 _ _ hy
    have hx1 := Dp.same s1 _ _ hx
    refine g_isiT (b := true) (b2 := false) upd_same (Dp.ty hy1) (kit_ty (a := "tuple") (by decide +kernel)) (kit_ty (a := "tuple") (by decide +kernel)) ?_
    walk_at "go"
    refine g_isi (b := true) (Dp.ty hx1) (kit_ty (a := "tuple") (b := "tuple") (by decide +kernel)) ?_
    walk_at "go"
    refine g_isi (b := true) (Dp.ty hy1) (kit_ty (a := "tuple") (b := "tuple") (by decide +kernel)) ?_
    walk_at "go"
    rw [show (true == true) = true from rfl]
    walk_at "go"
    refine ⟨by show 2 ≤ sizeLine; decide, fun p2 np2 => ?_⟩
    walk_at "go"
    have s2 := s1.trans (same_new (o := .tup [.ty "tuple", .ty "list"]) np2)
    have hy2 := Dp.same s2 _ _ hy
    have hx2 := Dp.same s2 _ _ hx
    refine g_isiT (b := true) (b2 := false) upd_same (Dp.ty hx2) (kit_ty (a := "tuple") (by decide +kernel)) (kit_ty (a := "tuple") (by decide +kernel)) ?_
    walk_at "go"
    cases hx2 with
    | tup qx rx =>
    cases hy2 with
    | tup qy ry =>
      refine ⟨_, _, rfl, .inr qx, ?_⟩
      walk_at "go"
      refine ⟨_, _, rfl, .inr qy, ?_⟩
      walk_at "go"
      rw [DpAll.len rx, DpAll.len ry, decide_eq_true rfl]
      walk_at "go"
      refine ⟨_, _, _, _, rfl, .inr ⟨qx, qy, fun D nD => ?_⟩⟩
      have hlen : ds.length ≤ 1000000 := by
        unfold sm at hsm
        rw [Bool.and_eq_true] at hsm
        exact of_decide_eq_true hsm.1
      have hall : smAll ds = true := by
        unfold sm at hsm
        rw [Bool.and_eq_true] at hsm
        exact hsm.2
      have hda : depAll ds ≤ n := by
        unfold dep at hd
        omega
      refine lc_same (H0 := upd (upd H p (.tup [.ty "tuple", .ty "list"])) p2 (.tup [.ty "tuple", .ty "list"])) (walk_zipT (K := K) (n := ds.length) (by rw [DpAll.len rx, DpAll.len ry, Nat.min_self])) (fun i => (List.replicate i true).map V.bl) rfl (fun i hi => ?_) (Same.refl _) nD nD (fun H' s' => ⟨(Tx.of s').seq qx, (Tx.of s').seq qy⟩) (fun i x' H2 H3 C Cn hi s3 hy' hC hN => ?_) (fun H' s3 hD => ?_)
      · rw [List.length_map, List.length_replicate]
        exact Nat.lt_of_le_of_lt (show i ≤ 1000000 by omega) (by decide)
      · obtain ⟨Tp, x1, y1, rfl, nT, rfl, e1, e2⟩ := hy'
        obtain ⟨d1, g1, r1⟩ := DpAll.get rx e1
        obtain ⟨d2, g2, r2⟩ := DpAll.get ry e2
        have ed : d2 = d1 := Option.some.inj (g2.symm.trans g1)
        subst ed
        have sT : Same _ (upd H2 Tp (.tup [x1, y1])) := s3.trans (same_new nT)
        refine ⟨Tp, _, rfl, SqT.new, rfl, _, _, rfl, _, _, rfl, rfl, rfl, ?_⟩
        walk_at "go"
        refine ⟨x1, y1, d2, rfl, Dp.same sT _ _ r1, Dp.same sT _ _ r2, Nat.le_trans (dep_at g1) hda, sm_at hall g1, fun H4 s4 => hC _ _ ((same_new nT).trans s4) ?_⟩
        rw [List.replicate_succ', List.map_append]
        rfl
      · walk_at "go"
        refine ⟨D, _, rfl, SqL.at hD, ?_⟩
        rw [all_rep]
        exact q _ (s2.trans s3)
theorem ok_law_is_list (T : Txt K mg a) {n : Nat} (G : FnOk P w K mg base CX0 (n + 1) a.f_law_is a.d_law_is ["_law_told", "_law_due"] (sp_law_is K n)) : FnOk P w K mg base CX0 (n + 2) a.f_law_is a.d_law_is ["_law_told", "_law_due"] (fun vs H Q _ => ∃ x y ds, vs = [x, y] ∧ Dp K H x (.list ds) ∧ Dp K H y (.list ds) ∧ dep (.list ds) ≤ n + 1 ∧ sm (.list ds) = true ∧ ∀ H', Same H H' → Q (.bl true) H') := by
  refine T.F_law_is.ok sc_law_is (fun vs H Q E h => ?_) (fun cdv A outer s H vs Q E hr h => ?_)
  · obtain ⟨x, y, d, rfl, _⟩ := h
    rfl
  · obtain ⟨x, y, ds, rfl, hx, hy, hd, hsm, q⟩ := h
    refine ⟨_, (pss_cons (ps_if (pt_val (pe_callB (kIsiT K rfl) (by rfl) T.z_isinstance (by decide +kernel) (pa_cons (pv 1) (pa_cons (pe_tup (pa_cons (pe_bltn (v := .ty "tuple") (by rfl) T.z_tuple (by decide +kernel) rfl) (pa_cons (pe_bltn (v := .ty "list") (by rfl) T.z_list (by decide +kernel) rfl) pa_nil))) pa_nil))))
  (pss_cons (ps_if (PW.pt (pw_or (pt_cmpR op_ne (pe_callB (kIsi K rfl) (by rfl) T.z_isinstance (by decide +kernel) (pa_cons (pv 0) (pa_cons (pe_bltn (v := .ty "tuple") (by rfl) T.z_tuple (by decide +kernel) rfl) pa_nil))) (pe_callB (kIsi K rfl) (by rfl) T.z_isinstance (by decide +kernel) (pa_cons (pv 1) (pa_cons (pe_bltn (v := .ty "tuple") (by rfl) T.z_tuple (by decide +kernel) rfl) pa_nil))) (nomark _)) (pw_or1 (pt_not (pt_val (pe_callB (kIsiT K rfl) (by rfl) T.z_isinstance (by decide +kernel) (pa_cons (pv 0) (pa_cons (pe_tup (pa_cons (pe_bltn (v := .ty "tuple") (by rfl) T.z_tuple (by decide +kernel) rfl) (pa_cons (pe_bltn (v := .ty "list") (by rfl) T.z_list (by decide +kernel) rfl) pa_nil))) pa_nil))))))))
  (pss_one (ps_ret pe_bl))
  pss_nil)
  (pss_one (ps_ret (pe_and (pe_cmpR op_eq (pe_callB (kLen K rfl) (by rfl) T.z_len (by decide +kernel) (pa_cons (pv 0) pa_nil)) (pe_callB (kLen K rfl) (by rfl) T.z_len (by decide +kernel) (pa_cons (pv 1) pa_nil)) (nomark _)) (pe_one (pe_callB (kAll K rfl rfl) (by rfl) T.z_all (by decide +kernel) (pa_cons (pe_lc (own := [("_law_one", 2), ("_law_two", 3)]) (g := (gTup K 2 (gCons (gName 2) (gCons (gName 3) gNil)))) rfl sc_law_is.nd (kiZip K rfl (by rfl) T.z_zip (pa_cons (pv 0) (pa_cons (pv 1) pa_nil))) (blkOk_by (own := [("_law_one", 2), ("_law_two", 3)]) (N := ["_law_told", "_law_due", "_law_one", "_law_two"]) (sc := defScope s_law_is) (by decide +kernel)) (fun _ _ _ _ _ => (kgTup K rfl rfl (pgs_cons (pg_name (i := 2) sc_law_is.nd rfl (.inl rfl)) (pgs_cons (pg_name (i := 3) sc_law_is.nd rfl (.inl rfl)) pgs_nil)))) (fun _ _ _ _ _ => pts_nil) (fun _ _ _ _ _ => (pe_call G (hr.mono (by first | decide | omega)) (by rfl) T.g_law_is T.F_law_is.kp (T.b_law_is) .nil pass0 (pa_cons (pv 2) (pa_cons (pv 3) pa_nil))))) pa_nil)))))))
  pss_nil)
  (pss_one (ps_ret (pe_and (pe_cmpR op_eq (pe_callB (kIsi K rfl) (by rfl) T.z_isinstance (by decide +kernel) (pa_cons (pv 0) (pa_cons (pe_bltn (v := .ty "bool") (by rfl) T.z_bool (by decide +kernel) rfl) pa_nil))) (pe_callB (kIsi K rfl) (by rfl) T.z_isinstance (by decide +kernel) (pa_cons (pv 1) (pa_cons (pe_bltn (v := .ty "bool") (by rfl) T.z_bool (by decide +kernel) rfl) pa_nil))) (nomark _)) (pe_one (pe_cmpR op_eq (pv 0) (pv 1) (nomark _))))))), ?_⟩
    walk_at "go"
    refine ⟨by show 2 ≤ sizeLine; decide, fun p np => ?_⟩
    walk_at "go"
    have s1 : Same H (upd H p (.tup [.ty "tuple", .ty "list"])) := same_new np
    have hy1 := Dp.same s1 _ _ hy
    have hx1 := Dp.same s1 _ _ hx
    refine g_isiT (b := false) (b2 := true) upd_same (Dp.ty hy1) (kit_ty (a := "list") (by decide +kernel)) (kit_ty (a := "list") (by decide +kernel)) ?_
    walk_at "go"
    refine g_isi (b := false) (Dp.ty hx1) (kit_ty (a := "list") (b := "tuple") (by decide +kernel)) ?_
    walk_at "go"
    refine g_isi (b := false) (Dp.ty hy1) (kit_ty (a := "list") (b := "tuple") (by decide +kernel)) ?_
    walk_at "go"
    rw [show (false == false) = true from rfl]
    walk_at "go"
    refine ⟨by show 2 ≤ sizeLine; decide, fun p2 np2 => ?_⟩
    walk_at "go"
    have s2 := s1.trans (same_new (o := .tup [.ty "tuple", .ty "list"]) np2)
    have hy2 := Dp.same s2 _ _ hy
    have hx2 := Dp.same s2 _ _ hx
    refine g_isiT (b := false) (b2 := true) upd_same (Dp.ty hx2) (kit_ty (a := "list") (by decide +kernel)) (kit_ty (a := "list") (by decide +kernel)) ?_
    walk_at "go"
    cases hx2 with
    | lst qx rx =>
    cases hy2 with
    | lst qy ry =>
      refine ⟨_, _, rfl, .inl qx, ?_⟩
      walk_at "go"
      refine ⟨_, _, rfl, .inl qy, ?_⟩
      walk_at "go"
      rw [DpAll.len rx, DpAll.len ry, decide_eq_true rfl]
      walk_at "go"
      refine ⟨_, _, _, _, rfl, .inl ⟨qx, qy, fun D nD => ?_⟩⟩
      have hlen : ds.length ≤ 1000000 := by
        unfold sm at hsm
        rw [Bool.and_eq_true] at hsm
        exact of_decide_eq_true hsm.1
      have hall : smAll ds = true := by
        unfold sm at hsm
        rw [Bool.and_eq_true] at hsm
        exact hsm.2
      have hda : depAll ds ≤ n := by
        unfold dep at hd
        omega
      refine lc_same (H0 := upd (upd H p (.tup [.ty "tuple", .ty "list"])) p2 (.tup [.ty "tuple", .ty "list"])) (walk_zip (K := K) (n := ds.length) (by rw [DpAll.len rx, DpAll.len ry, Nat.min_self])) (fun i => (List.replicate i true).map V.bl) rfl (fun i hi => ?_) (Same.refl _) nD nD (fun H' s' => ⟨s'.seq qx, s'.seq qy⟩) (fun i x' H2 H3 C Cn hi s3 hy' hC hN => ?_) (fun H' s3 hD => ?_)
      · rw [List.length_map, List.length_replicate]
        exact Nat.lt_of_le_of_lt (show i ≤ 1000000 by omega) (by decide)
      · obtain ⟨Tp, x1, y1, rfl, nT, rfl, e1, e2⟩ := hy'
        obtain ⟨d1, g1, r1⟩ := DpAll.get rx e1
        obtain ⟨d2, g2, r2⟩ := DpAll.get ry e2
        have ed : d2 = d1 := Option.some.inj (g2.symm.trans g1)
        subst ed
        have sT : Same _ (upd H2 Tp (.tup [x1, y1])) := s3.trans (same_new nT)
        refine ⟨Tp, _, rfl, SqT.new, rfl, _, _, rfl, _, _, rfl, rfl, rfl, ?_⟩
        walk_at "go"
        refine ⟨x1, y1, d2, rfl, Dp.same sT _ _ r1, Dp.same sT _ _ r2, Nat.le_trans (dep_at g1) hda, sm_at hall g1, fun H4 s4 => hC _ _ ((same_new nT).trans s4) ?_⟩
        rw [List.replicate_succ', List.map_append]
        rfl
      · walk_at "go"
        refine ⟨D, _, rfl, SqL.at hD, ?_⟩
        rw [all_rep]
        exact q _ (s2.trans s3)
theorem FnOk.cases3 {k : Nat} {f : Addr} {fd : FuncData} {ps : List Str} {sp sp1 sp2 sp3 : Sp} (F1 : FnOk P w K mg base CX0 k f fd ps sp1) (F2 : FnOk P w K mg base CX0 k f fd ps sp2) (F3 : FnOk P w K mg base CX0 k f fd ps sp3) (h : ∀ vs H Q E, sp vs H Q E → sp1 vs H Q E ∨ sp2 vs H Q E ∨ sp3 vs H Q E) : FnOk P w K mg base CX0 k f fd ps sp where
  len := fun vs H Q E q => by
    rcases h vs H Q E q with q | q | q
    · exact F1.len vs H Q E q
    · exact F2.len vs H Q E q
    · exact F3.len vs H Q E q
  run := fun A outer s H args us vs Q E hr e b r q => by
    rcases h vs H Q E q with q | q | q
    · exact F1.run A outer s H args us vs Q E hr e b r q
    · exact F2.run A outer s H args us vs Q E hr e b r q
    · exact F3.run A outer s H args us vs Q E hr e b r q
theorem ok_law_is (T : Txt K mg a) : ∀ n : Nat, FnOk P w K mg base CX0 (n + 1) a.f_law_is a.d_law_is ["_law_told", "_law_due"] (sp_law_is K n)
  | 0 => FnOk.imp (ok_law_is0 T) fun vs H Q E ⟨x, y, d, e, hx, hy, hd, hs, q⟩ => ⟨x, y, d, e, hx, hy, by
      cases hx <;> first | rfl | (unfold dep at hd; omega), q⟩
  | n + 1 => FnOk.cases3 (ok_law_is0 T) (ok_law_is_tuple T (ok_law_is T n)) (ok_law_is_list T (ok_law_is T n)) fun vs H Q E ⟨x, y, d, e, hx, hy, hd, hs, q⟩ => by
      cases hx with
      | non => exact .inl ⟨_, y, _, e, .non, hy, rfl, q⟩
      | bl b => exact .inl ⟨_, y, _, e, .bl b, hy, rfl, q⟩
      | int b => exact .inl ⟨_, y, _, e, .int b, hy, rfl, q⟩
      | str b => exact .inl ⟨_, y, _, e, .str b, hy, rfl, q⟩
      | tup a b => exact .inr (.inl ⟨_, y, _, e, .tup a b, hy, hd, hs, q⟩)
      | lst a b => exact .inr (.inr ⟨_, y, _, e, .lst a b, hy, hd, hs, q⟩)

end

section
variable {P : Program} {w : World} {K : PySem.W.Frag} {mg : Str → Option Value} {base : Heap} {a : Ad}
theorem dep_ints : ∀ ns : List Int, depAll (ns.map PyData.int) = 0
  | [] => rfl
  | _ :: r => by
    show max (dep (.int _)) (depAll (r.map PyData.int)) = 0
    rw [dep_ints r]
    rfl
theorem sm_ints : ∀ ns : List Int, smAll (ns.map PyData.int) = true
  | [] => rfl
  | _ :: r => by
    show (sm (.int _) && smAll (r.map PyData.int)) = true
    rw [sm_ints r]
    rfl
theorem dep_tupI (ns : List Int) : dep (tupI ns) ≤ 1 := by
  show depAll (ns.map PyData.int) + 1 ≤ 1
  rw [dep_ints]
  omega
theorem sm_tupI {ns : List Int} (h : ns.length ≤ 1000000) : sm (tupI ns) = true := by
  show (decide ((ns.map PyData.int).length ≤ 1000000) && smAll (ns.map PyData.int)) = true
  rw [sm_ints, List.length_map, decide_eq_true h]
  rfl

end

section
variable {P : Program} {w : World} {K : PySem.W.Frag} {mg : Str → Option Value} {base : Heap} {a : Ad}
/-! ### rows, logs -/
def sp_is_tuple_of (K : PySem.W.Frag) : Sp := fun vs H Q _ => ∃ v n, vs = [v, .int n] ∧ ((∃ p xs, v = .ref p ∧ SqT K H p xs ∧ Q (.bl (decide ((xs.length : Int) = n))) H) ∨ (∃ t, TyX K H v t ∧ PySem.W.kitOne K t (.type "tuple") = some false ∧ Q (.bl false) H))
theorem TyX.tup {K : PySem.W.Frag} {H : Hp} {p : Addr} {xs : List V} (h : SqT K H p xs) : TyX K H (.ref p) (.type "tuple") := by
  rcases h with (q | ⟨o, q⟩) | ⟨o, its, n, e, c, _⟩
  · exact .base (.tup q)
  · exact .fTuple q
  · exact .kTuple e c
theorem ok_is_tuple_of (T : Txt K mg a) : FnOk P w K mg base CX0 1 a.f_is_tuple_of a.d_is_tuple_of ["thing", "many"] (sp_is_tuple_of K) := by
  refine T.F_is_tuple_of.ok sc_is_tuple_of (fun vs H Q E h => ?_) (fun cdv A outer s H vs Q E hr h => ?_)
  · obtain ⟨v, n, rfl, _⟩ := h
    rfl
  · obtain ⟨v, n, rfl, h⟩ := h
    refine ⟨_, (pss_one (ps_ret (pe_and (pe_callB (kIsi K rfl) (by rfl) T.z_isinstance (by decide +kernel) (pa_cons (pv 0) (pa_cons (pe_bltn (v := .ty "tuple") (by rfl) T.z_tuple (by decide +kernel) rfl) pa_nil))) (pe_one (pe_cmpR op_eq (pe_callB (kLen K rfl) (by rfl) T.z_len (by decide +kernel) (pa_cons (pv 0) pa_nil)) (pv 1) (nomark _)))))), ?_⟩
    rcases h with ⟨p, xs, rfl, hp, q⟩ | ⟨t, ty, k, q⟩
    · walk_at "go"
      refine g_isi (TyX.tup hp) (b := true) (kit_ty (a := "tuple") (by decide +kernel)) ?_
      walk_at "go"
      refine ⟨_, _, rfl, .inr hp, ?_⟩
      walk_at "go"
      exact q
    · walk_at "go"
      refine g_isi ty k ?_
      walk_at "go"
      exact q
/-- a good row -/
def sp_is_row (K : PySem.W.Frag) : Sp := fun vs H Q _ => ∃ v n r, vs = [.int n, v] ∧ Dp K H v (rowD r) ∧ GoodRow n r ∧ Q (.bl true) H
theorem ok_is_copying (T : Txt K mg a) : FnOk P w K mg base CX0 4 a.f_is_copying a.d_is_copying ["offices", "thing"] (sp_is_row K) := by
  refine T.F_is_copying.ok sc_is_copying (fun vs H Q E h => ?_) (fun cdv A outer s H vs Q E hr h => ?_)
  · obtain ⟨v, n, r, rfl, _⟩ := h
    rfl
  · obtain ⟨v, n, r, rfl, hv, ⟨g1, g2, g3, g4, g5⟩, q⟩ := h
    obtain ⟨p, rfl, hp⟩ := of_row hv
    refine ⟨_, (pss_cons (ps_if (pt_not (pt_val (pe_call (ok_is_tuple_of T) (hr.mono (by first | decide | omega)) (by rfl) T.g_is_tuple_of T.F_is_tuple_of.kp (T.b_is_tuple_of) .nil pass0 (pa_cons (pv 1) (pa_cons pe_int pa_nil)))))
  (pss_one (ps_ret pe_bl))
  pss_nil)
  (pss_cons (ps_asg (pv 1) (kgTup K rfl rfl (pgs_cons (pg_name (i := 2) sc_is_copying.nd rfl (.inl rfl)) (pgs_cons (pg_name (i := 3) sc_is_copying.nd rfl (.inl rfl)) (pgs_cons (pg_name (i := 4) sc_is_copying.nd rfl (.inl rfl)) pgs_nil)))))
  (pss_cons (ps_if (PW.pt (pw_or (pt_not (pt_val (pe_call (ok_is_number T) (hr.mono (by first | decide | omega)) (by rfl) T.g_is_number T.F_is_number.kp (T.b_is_number) .nil pass0 (pa_cons (pv 2) (pa_cons (pv 0) pa_nil))))) (pw_or1 (pt_not (pt_val (pe_call (ok_is_number T) (hr.mono (by first | decide | omega)) (by rfl) T.g_is_number T.F_is_number.kp (T.b_is_number) .nil pass0 (pa_cons (pv 3) (pa_cons (pv 0) pa_nil))))))))
  (pss_one (ps_ret pe_bl))
  pss_nil)
  (pss_one (ps_ret (pe_and (pe_cmpR op_ne (pv 2) (pv 3) (nomark _)) (pe_one (pe_callB (kIsi K rfl) (by rfl) T.z_isinstance (by decide +kernel) (pa_cons (pv 4) (pa_cons (pe_bltn (v := .ty "bool") (by rfl) T.z_bool (by decide +kernel) rfl) pa_nil)))))))))), ?_⟩
    walk_at "go"
    refine ⟨_, _, rfl, .inl ⟨p, _, rfl, hp, ?_⟩⟩
    rw [decide_eq_true (show (([V.int r.1, V.int r.2.1, V.bl r.2.2].length : Nat) : Int) = 3 from rfl)]
    walk_at "go"
    refine ⟨p, _, rfl, hp, rfl, _, _, rfl, _, _, rfl, _, _, rfl, rfl, ?_⟩
    walk_at "go"
    refine ⟨_, _, rfl, .inl ⟨_, rfl, ?_⟩⟩
    rw [decide_eq_true (show 0 ≤ r.1 ∧ r.1 < n from ⟨g1, g2⟩)]
    walk_at "go"
    refine ⟨_, _, rfl, .inl ⟨_, rfl, ?_⟩⟩
    rw [decide_eq_true (show 0 ≤ r.2.1 ∧ r.2.1 < n from ⟨g3, g4⟩)]
    walk_at "go"
    rw [decide_eq_false (show ¬ r.1 = r.2.1 by omega)]
    walk_at "go"
    refine g_isi (b := true) (.base (.bl _)) (kit_ty (a := "bool") (by decide +kernel)) ?_
    exact q
theorem ok_is_row (T : Txt K mg a) : FnOk P w K mg base CX0 5 a.f_is_row a.d_is_row ["offices", "thing"] (sp_is_row K) := by
  refine T.F_is_row.ok sc_is_row (fun vs H Q E h => ?_) (fun cdv A outer s H vs Q E hr h => ?_)
  · obtain ⟨v, n, r, rfl, _⟩ := h
    rfl
  · obtain ⟨v, n, r, rfl, hv, hg, q⟩ := h
    obtain ⟨g1, g2, g3, g4, g5⟩ := id hg
    obtain ⟨p, rfl, hp⟩ := of_row hv
    refine ⟨_, (pss_one (ps_ret (pe_and (pe_call (ok_is_copying T) (hr.mono (by first | decide | omega)) (by rfl) T.g_is_copying T.F_is_copying.kp (T.b_is_copying) .nil pass0 (pa_cons (pv 0) (pa_cons (pv 1) pa_nil))) (pe_one (pe_cmpR op_eq (pe_callB call_abs (by rfl) T.z_abs (by decide +kernel) (pa_cons (pe_op op_sub (pe_ix (kIxT K rfl) (pv 1) pe_int (fun _ _ => rfl)) (pe_ix (kIxT K rfl) (pv 1) pe_int (fun _ _ => rfl))) pa_nil)) pe_int (nomark _)))))), ?_⟩
    walk_at "go"
    refine ⟨_, n, r, rfl, hv, hg, ?_⟩
    walk_at "go"
    refine g_ixT hp (v := .int r.1) rfl ?_
    walk_at "go"
    refine g_ixT hp (v := .int r.2.1) rfl ?_
    walk_at "go"
    refine ⟨_, rfl, ?_⟩
    walk_at "go"
    rw [decide_eq_true (show (if r.1 - r.2.1 < 0 then -(r.1 - r.2.1) else r.1 - r.2.1) = 1 from by split <;> omega)]
    exact q
theorem g_enT {K : PySem.W.Frag} {σ : L2.St} {H : Hp} {R : It → Hp → Prop} {ta : TA} (q : ta σ H fun vs H1 => ∃ p xs, vs = [.ref p] ∧ SqT K H1 p xs ∧ R (IteT K p) H1) : (fun σ H R => ta σ H fun vs H1 => ∃ p xs, vs = [.ref p] ∧ SqT K H1 p xs ∧ R (IteT K p) H1 : TI) σ H R := q
def sp_wrong_part (K : PySem.W.Frag) (f : Addr) : Sp := fun vs H Q _ => ∃ n p rs, vs = [.int n, .ref p, .ref f] ∧ Dp K H (.ref p) (rowsD rs) ∧ GoodLog n rs ∧ ∀ H', Same H H' → Q .non H'
theorem ok_wrong_part (T : Txt K mg a) : FnOk P w K mg base CX0 6 a.f_wrong_part a.d_wrong_part ["offices", "rows", "is_right"] (sp_wrong_part K a.f_is_row) := by
  refine T.F_wrong_part.ok sc_wrong_part (fun vs H Q E h => ?_) (fun cdv A outer s H vs Q E hr h => ?_)
  · obtain ⟨n, p, rs, rfl, _⟩ := h
    rfl
  · obtain ⟨n, p, rs, rfl, hrs, ⟨n1, n2, l60, hgood⟩, q⟩ := h
    obtain ⟨p', xs, e, hp, ha⟩ := of_tup hrs
    cases e
    have hl := DpAll.len ha
    rw [List.length_map] at hl
    refine ⟨_, (pss_cons (ps_if (pt_not (pt_val (pe_call (ok_is_between T) (hr.mono (by first | decide | omega)) (by rfl) T.g_is_between T.F_is_between.kp (T.b_is_between) .nil pass0 (pa_cons (pv 0) (pa_cons pe_int (pa_cons (pe_glob (v := .int 12) rfl T.g_MOST_OFFICES.choose_spec ⟨_, rfl⟩) pa_nil))))))
  (pss_one (ps_ret pe_str))
  pss_nil)
  (pss_cons (ps_if (PW.pt (pw_or (pt_not (pt_val (pe_callB (kIsi K rfl) (by rfl) T.z_isinstance (by decide +kernel) (pa_cons (pv 1) (pa_cons (pe_bltn (v := .ty "tuple") (by rfl) T.z_tuple (by decide +kernel) rfl) pa_nil))))) (pw_or1 (pt_cmpR op_gt (pe_callB (kLen K rfl) (by rfl) T.z_len (by decide +kernel) (pa_cons (pv 1) pa_nil)) (pe_glob (v := .int 60) rfl T.g_MOST_ROWS.choose_spec ⟨_, rfl⟩) (nomark _)))))
  (pss_one (ps_ret pe_str))
  pss_nil)
  (pss_cons (ps_for PassesOwn.never rfl (kiEnumT K rfl (by rfl) T.z_enumerate (pa_cons (pv 1) pa_nil)) (kgTup K rfl rfl (pgs_cons (pg_name (i := 3) sc_wrong_part.nd rfl (.inl rfl)) (pgs_cons (pg_name (i := 4) sc_wrong_part.nd rfl (.inl rfl)) pgs_nil)))
  (pss_one (ps_if (pt_not (pt_val (pe_callL (i := 2) (ok_is_row T) (hr.mono (by first | decide | omega)) (by rfl) (by first | exact Or.inl rfl | exact Or.inr (Or.inl rfl) | exact Or.inr (Or.inr rfl)) T.F_is_row.kp (T.b_is_row) .nil pass0 (pa_cons (pv 0) (pa_cons (pv 4) pa_nil)))))
  (pss_one (ps_ret (pv 3)))
  pss_nil)))
  (pss_one (ps_ret pe_non))))), ?_⟩
    walk_at "go"
    refine ⟨_, _, _, rfl, .inl ⟨_, rfl, ?_⟩⟩
    rw [decide_eq_true (show 1 ≤ n ∧ n ≤ 12 from ⟨n1, n2⟩)]
    walk_at "go"
    refine g_isi (TyX.tup hp) (b := true) (kit_ty (a := "tuple") (by decide +kernel)) ?_
    walk_at "go"
    refine ⟨_, _, rfl, .inr hp, ?_⟩
    walk_at "go"
    rw [decide_eq_false (show ¬ (60 : Int) < (xs.length : Nat) by omega)]
    walk_at "go"
    refine ⟨p, xs, rfl, hp, ?_⟩
    refine for_it (walk_enumT (K := K) (p := p) (xs := xs)) (fun i σ H' => ∃ y3 y4, σ = [some (.int n), some (.ref p), some (.ref a.f_is_row), y3, y4] ∧ Same H H') ⟨_, _, rfl, Same.refl _⟩ (fun i σ H' _ hP => ?_) (fun i z σ H1 H1' hi hP hy => ?_) (fun σ H' hP => ?_)
    · obtain ⟨y3, y4, _, s1⟩ := hP
      exact (Tx.of s1).seq hp
    · obtain ⟨y3, y4, rfl, s1⟩ := hP
      obtain ⟨Tp, x1, y1, rfl, nT, rfl, e1, e2⟩ := hy
      obtain ⟨d, gd, rd⟩ := DpAll.get ha e2
      obtain ⟨r, gr, rfl⟩ := map_at gd
      refine ⟨Tp, _, rfl, SqT.new, rfl, _, _, rfl, _, _, rfl, rfl, ?_⟩
      walk_at "go"
      refine ⟨rfl, ?_⟩
      walk_at "go"
      refine ⟨y1, n, r, rfl, Dp.same (s1.trans (same_new nT)) _ _ rd, hgood r (List.mem_of_getElem? gr), ?_⟩
      walk_at "go"
      exact ⟨_, _, rfl, s1.trans (same_new nT)⟩
    · obtain ⟨y3, y4, rfl, s1⟩ := hP
      walk_at "go"
      exact q _ s1
def sp_Log_init (K : PySem.W.Frag) (C : Addr) : Sp := fun vs H Q _ => ∃ x dx n p rs, vs = [.ref x, .int n, .ref p] ∧ H x = some (.ins C dx []) ∧ Dp K H (.ref p) (rowsD rs) ∧ GoodLog n rs ∧ ∀ H', Fr x H H' → H' x = some (.ins C dx [("offices", .int n), ("rows", .ref p)]) → Q .non H'
theorem ok_Log_init (T : Txt K mg a) : FnOk P w K mg base CX0 7 a.f_Log_init a.d_Log_init ["self", "offices", "rows"] (sp_Log_init K a.c_Log) := by
  refine T.F_Log_init.ok sc_Log_init (fun vs H Q E h => ?_) (fun cdv A outer s H vs Q E hr h => ?_)
  · obtain ⟨x, dx, n, p, rs, rfl, _⟩ := h
    rfl
  · obtain ⟨x, dx, n, p, rs, rfl, hx, hrs, ⟨n1, n2, l60, hgood⟩, q⟩ := h
    obtain ⟨p', xs, e, hp, ha⟩ := of_tup hrs
    cases e
    have hl := DpAll.len ha
    rw [List.length_map] at hl
    refine ⟨_, (pss_cons (ps_set (i := 3) sc_Log_init.nd rfl (.inl rfl) (pe_call (ok_wrong_part T) (hr.mono (by first | decide | omega)) (by rfl) T.g_wrong_part T.F_wrong_part.kp (T.b_wrong_part) .nil pass0 (pa_cons (pv 1) (pa_cons (pv 2) (pa_cons (pe_glob (v := .ref a.f_is_row) rfl T.g_is_row rfl) pa_nil)))))
  (pss_cons (ps_if (pt_cmpR op_notN (pv 3) pe_non (nomark _))
  (pss_one ps_never)
  pss_nil)
  (pss_cons (ksFld K rfl (pv 0) (pv 1) rfl)
  (pss_one (ksFld K rfl (pv 0) (pv 2) rfl))))), ?_⟩
    walk_at "go"
    refine ⟨n, p, rs, rfl, hrs, ⟨n1, n2, l60, hgood⟩, fun H1 s1 => ?_⟩
    walk_at "go"
    refine ⟨rfl, ?_⟩
    walk_at "go"
    rw [decide_eq_true (show V.non = V.non from rfl)]
    walk_at "go"
    refine ⟨x, _, dx, [], rfl, s1 _ _ hx, T.cl_Log, T.n_Log_offices, by decide, ?_⟩
    walk_at "go"
    refine ⟨x, _, dx, _, rfl, upd_same, T.cl_Log, T.n_Log_rows, by show (1 : Nat) < 1000; decide, ?_⟩
    exact q _ (fun b o nb e => by rw [upd_ne nb, upd_ne nb]; exact s1 b o e) upd_same

end

section
variable {P : Program} {w : World} {K : PySem.W.Frag} {mg : Str → Option Value} {base : Heap} {a : Ad}
/-! ### left rows, cuts -/
def sp_is_left (K : PySem.W.Frag) : Sp := fun vs H Q _ => ∃ v r, vs = [v] ∧ Dp K H v (rowD r) ∧ Q (.bl (isL r)) H
theorem ok_is_left (T : Txt K mg a) : FnOk P w K mg base CX0 1 a.f_is_left a.d_is_left ["row"] (sp_is_left K) := by
  refine T.F_is_left.ok sc_is_left (fun vs H Q E h => ?_) (fun cdv A outer s H vs Q E hr h => ?_)
  · obtain ⟨v, r, rfl, _⟩ := h
    rfl
  · obtain ⟨v, r, rfl, hv, q⟩ := h
    obtain ⟨p, rfl, hp⟩ := of_row hv
    refine ⟨_, (pss_one (ps_ret (pe_cmpR op_gt (pe_ix (kIxT K rfl) (pv 0) pe_int (fun _ _ => rfl)) (pe_ix (kIxT K rfl) (pv 0) pe_int (fun _ _ => rfl)) (nomark _)))), ?_⟩
    walk_at "go"
    refine g_ixT hp (v := .int r.2.1) rfl ?_
    walk_at "go"
    refine g_ixT hp (v := .int r.1) rfl ?_
    walk_at "go"
    exact q
def sp_cut_between (K : PySem.W.Frag) : Sp := fun vs H Q _ => ∃ v r, vs = [v] ∧ Dp K H v (rowD r) ∧ Q (.int (placeR r + 1)) H
theorem ok_cut_between (T : Txt K mg a) : FnOk P w K mg base CX0 1 a.f_cut_between a.d_cut_between ["row"] (sp_cut_between K) := by
  refine T.F_cut_between.ok sc_cut_between (fun vs H Q E h => ?_) (fun cdv A outer s H vs Q E hr h => ?_)
  · obtain ⟨v, r, rfl, _⟩ := h
    rfl
  · obtain ⟨v, r, rfl, hv, q⟩ := h
    obtain ⟨p, rfl, hp⟩ := of_row hv
    refine ⟨_, (pss_one (ps_ret (pe_callB (call_max2 rfl) (by rfl) T.z_max (by decide +kernel) (pa_cons (pe_ix (kIxT K rfl) (pv 0) pe_int (fun _ _ => rfl)) (pa_cons (pe_ix (kIxT K rfl) (pv 0) pe_int (fun _ _ => rfl)) pa_nil))))), ?_⟩
    walk_at "go"
    refine g_ixT hp (v := .int r.1) rfl ?_
    walk_at "go"
    refine g_ixT hp (v := .int r.2.1) rfl ?_
    walk_at "go"
    refine ⟨_, _, rfl, ?_⟩
    rw [show (if r.2.1 > r.1 then r.2.1 else r.1) = placeR r + 1 from by unfold placeR; omega]
    exact q

end

section
variable {P : Program} {w : World} {K : PySem.W.Frag} {mg : Str → Option Value} {base : Heap} {a : Ad}
/-! ### sides -/
def sideS (b : Bool) : Str := if b = true then Str.ofString "left" else Str.ofString "right"
theorem sideS_left (b : Bool) : decide (V.str (sideS b) = V.str (Str.ofString "left")) = b := by cases b <;> decide
theorem sideS_right (b : Bool) : decide (V.str (sideS b) = V.str (Str.ofString "right")) = !b := by cases b <;> decide

end

section
variable {P : Program} {w : World} {K : PySem.W.Frag} {mg : Str → Option Value} {base : Heap} {a : Ad}
/-! ### any thing as a side -/
def sp_is_word (K : PySem.W.Frag) : Sp := fun vs H Q _ => ∃ v t, vs = [v, .str t] ∧ ((∃ s, v = .str s ∧ Q (.bl (decide (V.str s = V.str t))) H) ∨ ((∃ t, TyX K H v t ∧ PySem.W.kitOne K t (.type "str") = some false) ∧ Q (.bl false) H))
theorem ok_is_word (T : Txt K mg a) : FnOk P w K mg base CX0 1 a.f_is_word a.d_is_word ["thing", "word"] (sp_is_word K) := by
  refine T.F_is_word.ok sc_is_word (fun vs H Q E h => ?_) (fun cdv A outer s H vs Q E hr h => ?_)
  · obtain ⟨v, t, rfl, _⟩ := h
    rfl
  · obtain ⟨v, t, rfl, h⟩ := h
    refine ⟨_, (pss_one (ps_ret (pe_and (pe_callB (kIsi K rfl) (by rfl) T.z_isinstance (by decide +kernel) (pa_cons (pv 0) (pa_cons (pe_bltn (v := .ty "str") (by rfl) T.z_str (by decide +kernel) rfl) pa_nil))) (pe_one (pe_cmpR op_eq (pv 0) (pv 1) (nomark _)))))), ?_⟩
    rcases h with ⟨s, rfl, q⟩ | ⟨⟨ty, h1, h2⟩, q⟩
    · walk_at "go"
      refine g_isi (b := true) (.base (.str _)) (kit_ty (a := "str") (by decide +kernel)) ?_
      walk_at "go"
      exact ⟨rfl, q⟩
    · walk_at "go"
      refine g_isi h1 h2 ?_
      walk_at "go"
      exact q
/-- a side, or what is none -/
def BadSide (K : PySem.W.Frag) (H : Hp) (v : V) : Prop := (∃ s, v = .str s ∧ ∀ b, s ≠ sideS b) ∨ ∃ t, TyX K H v t ∧ PySem.W.kitOne K t (.type "str") = some false
def sp_is_side (K : PySem.W.Frag) : Sp := fun vs H Q _ => ∃ v, vs = [v] ∧ ((∃ b, v = .str (sideS b) ∧ Q (.bl true) H) ∨ (BadSide K H v ∧ Q (.bl false) H))
theorem ok_is_side (T : Txt K mg a) : FnOk P w K mg base CX0 2 a.f_is_side a.d_is_side ["thing"] (sp_is_side K) := by
  refine T.F_is_side.ok sc_is_side (fun vs H Q E h => ?_) (fun cdv A outer s H vs Q E hr h => ?_)
  · obtain ⟨v, rfl, _⟩ := h
    rfl
  · obtain ⟨v, rfl, h⟩ := h
    refine ⟨_, (pss_one (ps_ret (pe_or (pe_call (ok_is_word T) (hr.mono (by first | decide | omega)) (by rfl) T.g_is_word T.F_is_word.kp (T.b_is_word) .nil pass0 (pa_cons (pv 0) (pa_cons pe_str pa_nil))) (pe_one (pe_call (ok_is_word T) (hr.mono (by first | decide | omega)) (by rfl) T.g_is_word T.F_is_word.kp (T.b_is_word) .nil pass0 (pa_cons (pv 0) (pa_cons pe_str pa_nil))))))), ?_⟩
    rcases h with ⟨b, rfl, q⟩ | ⟨⟨s, rfl, hs⟩ | hs, q⟩
    · walk_at "go"
      refine ⟨_, _, rfl, .inl ⟨_, rfl, ?_⟩⟩
      rw [sideS_left]
      walk_at "go"
      cases b with
      | true =>
        walk_at "go"
        exact q
      | false =>
        walk_at "go"
        refine ⟨_, _, rfl, .inl ⟨_, rfl, ?_⟩⟩
        rw [sideS_right]
        exact q
    · walk_at "go"
      refine ⟨_, _, rfl, .inl ⟨_, rfl, ?_⟩⟩
      rw [decide_eq_false (fun e => by cases e; exact hs true rfl)]
      walk_at "go"
      refine ⟨_, _, rfl, .inl ⟨_, rfl, ?_⟩⟩
      rw [decide_eq_false (fun e => by cases e; exact hs false rfl)]
      exact q
    · walk_at "go"
      refine ⟨_, _, rfl, .inr ⟨hs, ?_⟩⟩
      walk_at "go"
      exact ⟨_, _, rfl, .inr ⟨hs, q⟩⟩
/-- NoSide() -/
def sp_NoSide_init (K : PySem.W.Frag) (C : Addr) : Sp := fun vs H Q _ => ∃ e, vs = [.ref e] ∧ H e = some (exo e C none) ∧ Q .non H
theorem ok_NoSide_init (T : Txt K mg a) : FnOk P w K mg base CX0 1 a.f_NoSide_init a.d_NoSide_init ["self"] (sp_NoSide_init K a.c_NoSide) := by
  refine T.F_NoSide_init.ok sc_NoSide_init (fun vs H Q E h => ?_) (fun cdv A outer s H vs Q E hr h => ?_)
  · obtain ⟨e, rfl, _⟩ := h
    rfl
  · obtain ⟨e, rfl, he, q⟩ := h
    refine ⟨_, (pss_one (ps_expr (pe_sinit (by rfl) T.gc_SheetError T.si_SheetError (pa_cons (pv 0) pa_nil)))), ?_⟩
    walk_at "go"
    refine g_vei ?_
    walk_at "go"
    exact ⟨e, _, [], rfl, by decide, T.ox_NoSide, he, q⟩
def sp_check_side (K : PySem.W.Frag) (C : Addr) : Sp := fun vs H Q E => ∃ v, vs = [v] ∧ ((∃ b, v = .str (sideS b) ∧ Q .non H) ∨ (BadSide K H v ∧ ∀ H', Same H H' → E (.ref C) none H'))
theorem same_del {H : Hp} {a : Addr} {o : HO} (n : H a = none) : Same H (del (upd H a o) a) := fun b x e => by
  have hb : b ≠ a := fun z => by rw [z, n] at e; cases e
  rw [del_ne hb, upd_ne hb]
  exact e
theorem ok_check_side (T : Txt K mg a) : FnOk P w K mg base (L2.CX P w) 3 a.f_check_side a.d_check_side ["side"] (sp_check_side K a.c_NoSide) := by
  refine T.F_check_side.okX sc_check_side (fun vs H Q E h => ?_) (fun cdv A outer s H vs Q E hr h => ?_)
  · obtain ⟨v, rfl, _⟩ := h
    rfl
  · obtain ⟨v, rfl, h⟩ := h
    refine ⟨_, (pss_one (ps_if (pt_not (pt_val (pe_call (ok_is_side T) (hr.mono (by first | decide | omega)) (by rfl) T.g_is_side T.F_is_side.kp (T.b_is_side) .nil pass0 (pa_cons (pv 0) pa_nil))))
  (pss_one (ps_raise rfl (takes_of rfl rfl rfl rfl) (pmk_z T.ox_NoSide T.oi_NoSide T.ot_NoSide (ok_NoSide_init T) (hr.mono (by first | decide | omega)) T.b_NoSide_init pass0 (by rfl) T.gc_NoSide)))
  pss_nil)), ?_⟩
    rcases h with ⟨b, rfl, q⟩ | ⟨hs, q⟩
    · walk_at "go"
      refine ⟨_, rfl, .inl ⟨b, rfl, ?_⟩⟩
      walk_at "go"
      exact q
    · walk_at "go"
      refine ⟨_, rfl, .inr ⟨hs, ?_⟩⟩
      walk_at "go"
      refine fun e ne => ⟨e, rfl, upd_same, rfl, upd_same, q _ (same_del ne)⟩

end

section
variable {P : Program} {w : World} {K : PySem.W.Frag} {mg : Str → Option Value} {base : Heap} {a : Ad}
/-- the cut barred at a row -/
def barO (b : Bool) (r : Row) : Option Int := if isL r = b then some (placeR r + 1) else none
def optV : Option Int → V
  | some i => .int i
  | none => .non
def sp_barred_cut (K : PySem.W.Frag) : Sp := fun vs H Q _ => ∃ b v r, vs = [.str (sideS b), v] ∧ Dp K H v (rowD r) ∧ Q (optV (barO b r)) H
theorem ok_barred_cut (T : Txt K mg a) : FnOk P w K mg base CX0 2 a.f_barred_cut a.d_barred_cut ["side", "row"] (sp_barred_cut K) := by
  refine T.F_barred_cut.ok sc_barred_cut (fun vs H Q E h => ?_) (fun cdv A outer s H vs Q E hr h => ?_)
  · obtain ⟨b, v, r, rfl, _⟩ := h
    rfl
  · obtain ⟨b, v, r, rfl, hv, q⟩ := h
    refine ⟨_, (pss_one (ps_ret (pe_ifExp (pt_cmpR op_eq (pe_call (ok_is_left T) (hr.mono (by first | decide | omega)) (by rfl) T.g_is_left T.F_is_left.kp (T.b_is_left) .nil pass0 (pa_cons (pv 1) pa_nil)) (pe_cmpR op_eq (pv 0) pe_str (nomark _)) (nomark _)) (pe_call (ok_cut_between T) (hr.mono (by first | decide | omega)) (by rfl) T.g_cut_between T.F_cut_between.kp (T.b_cut_between) .nil pass0 (pa_cons (pv 1) pa_nil)) pe_non))), ?_⟩
    walk_at "go"
    refine ⟨v, r, rfl, hv, ?_⟩
    walk_at "go"
    refine ⟨rfl, ?_⟩
    rw [sideS_left]
    walk_at "go"
    unfold barO at q
    by_cases c : isL r = b
    · rw [if_pos c] at q
      rw [c, beq_self_eq_true]
      walk_at "go"
      exact ⟨v, r, rfl, hv, q⟩
    · rw [if_neg c] at q
      rw [beq_eq_false_iff_ne.mpr c]
      walk_at "go"
      exact q

end

section
variable {P : Program} {w : World} {K : PySem.W.Frag} {mg : Str → Option Value} {base : Heap} {a : Ad}
/-- a walk whose parts are cuts -/
def postD (f : Int) (st : List Int) (l : Int) : PyData := .tuple [.int f, tupI st, .int l]
def WfPost (n : Int) (rs : List Row) (f : Int) (st : List Int) (l : Int) : Prop := 0 ≤ f ∧ f ≤ n ∧ 0 ≤ l ∧ l ≤ n ∧ st.length = rs.length ∧ ∀ c ∈ st, 0 ≤ c ∧ c ≤ n
def freeB (b : Bool) (c : Int) (r : Row) : Bool := !decide (V.int c = optV (barO b r))
def stands (b : Bool) (rs : List Row) (st : List Int) : List Bool := (st.zip rs).map fun p => freeB b p.1 p.2
theorem stands_at {b : Bool} {rs : List Row} {st : List Int} {i : Nat} {r : Row} {c : Int} (h : st[i]? = some c) (k : rs[i]? = some r) : (stands b rs st)[i]? = some (freeB b c r) := by
  unfold stands
  rw [List.getElem?_map, (List.getElem?_zip_eq_some (z := (c, r))).mpr ⟨h, k⟩]
  rfl
theorem stands_len (b : Bool) (rs : List Row) (st : List Int) : (stands b rs st).length = min st.length rs.length := by
  unfold stands
  rw [List.length_map, List.length_zip]
theorem of_post {K : PySem.W.Frag} {H : Hp} {v : V} {f l : Int} {st : List Int} (h : Dp K H v (postD f st l)) : ∃ p t, v = .ref p ∧ SqT K H p [.int f, .ref t, .int l] ∧ SqT K H t (st.map V.int) := by
  unfold postD at h
  cases h with
  | tup q a =>
    cases a with
    | cons a1 a2 =>
      cases a2 with
      | cons a3 a4 =>
        cases a4 with
        | cons a5 a6 =>
          cases a6
          cases a1; cases a5
          obtain ⟨t, rfl, ht⟩ := of_ints a3
          exact ⟨_, t, rfl, q, ht⟩

end

section
variable {P : Program} {w : World} {K : PySem.W.Frag} {mg : Str → Option Value} {base : Heap} {a : Ad}
/-! ### things: numbers among them, and what can be a post -/
theorem small100k {n : Nat} (h : n ≤ 100000) : n < sizeLine := Nat.lt_of_le_of_lt h (by decide)
theorem ownC (T : Txt K mg a) : OwnC K a.c_Log := ⟨T.iC_Log, T.mt_tuple, T.mt_list, T.mt_int, T.mt_bool, T.mt_str⟩
theorem g_num {d C : Addr} {H : Hp} {Q : VK} {E : XK} {v : V} {n m : Int} (c : OwnC K C) (h : Th K d C H v) (e : m = n + 1) (q : Q (.bl (wholeV n v)) H) : sp_is_number K [v, .int m] H Q E := by
  subst e
  rcases h.num c with ⟨i, rfl⟩ | ⟨hne, k⟩
  · refine ⟨_, _, rfl, .inl ⟨i, rfl, ?_⟩⟩
    rw [show decide (0 ≤ i ∧ i < n + 1) = wholeV n (.int i) from by
      show _ = decide (0 ≤ i ∧ i ≤ n)
      rw [Bool.eq_iff_iff, decide_eq_true_iff, decide_eq_true_iff]; omega]
    exact q
  · rw [wholeV_not hne] at q
    exact ⟨_, _, rfl, .inr ⟨k, q⟩⟩
def sp_are_numbers (K : PySem.W.Frag) (C : Addr) : Sp := fun vs H Q _ => ∃ (d p : Addr) (ys : List V) (n : Int), vs = [.ref p, .int (n + 1)] ∧ SqT K H p ys ∧ (∀ y ∈ ys, Th K d C H y) ∧ ys.length ≤ 100000 ∧ ∀ H', Same H H' → Q (.bl (ys.all (wholeV n))) H'
theorem ok_are_numbers (T : Txt K mg a) : FnOk P w K mg base CX0 4 a.f_are_numbers a.d_are_numbers ["things", "many"] (sp_are_numbers K a.c_Log) := by
  refine T.F_are_numbers.ok sc_are_numbers (fun vs H Q E h => ?_) (fun cdv A outer s H vs Q E hr h => ?_)
  · obtain ⟨d, p, ys, n, rfl, _⟩ := h
    rfl
  · obtain ⟨d, p, ys, n, rfl, hp, hth, hl, q⟩ := h
    refine ⟨_, (pss_one (ps_ret (pe_callB (kAll K rfl rfl) (by rfl) T.z_all (by decide +kernel) (pa_cons (pe_lc (own := [("thing", 2)]) (g := (gName 2)) rfl sc_are_numbers.nd (kiTup K rfl (pv 0)) (blkOk_by (own := [("thing", 2)]) (N := ["things", "many", "thing"]) (sc := defScope s_are_numbers) (by decide +kernel)) (fun _ _ _ _ _ => (pg_name (i := 2) sc_are_numbers.nd rfl (.inl rfl))) (fun _ _ _ _ _ => pts_nil) (fun _ _ _ _ _ => (pe_call (ok_is_number T) (hr.mono (by first | decide | omega)) (by rfl) T.g_is_number T.F_is_number.kp (T.b_is_number) .nil pass0 (pa_cons (pv 2) (pa_cons (pv 1) pa_nil))))) pa_nil)))), ?_⟩
    walk_at "go"
    refine ⟨_, rfl, ⟨_, hp⟩, fun D nD => ?_⟩
    refine lc_same (H0 := H) (walk_tup (K := K) (a := p) (xs := ys)) (fun i => ((ys.take i).map (wholeV n)).map V.bl) rfl (fun i _ => ?_) (Same.refl H) nD nD (fun H' s => (Tx.of s).seq hp) (fun i x H1 H2 C Cn hi s hy hC hN => ?_) (fun H' s hD => ?_)
    · rw [List.length_map, List.length_map, List.length_take]
      exact small100k (by omega)
    · obtain ⟨rfl, hx⟩ := hy
      refine ⟨rfl, ?_⟩
      walk_at "go"
      refine g_num (ownC T) ((hth x (List.mem_of_getElem? hx)).fr (Fr.of s) (Tx.of s)) rfl (hC _ _ (Same.refl _) ?_)
      rw [take_snoc hx, List.map_append, List.map_append]
      rfl
    · walk_at "go"
      refine ⟨D, _, rfl, SqL.at hD, ?_⟩
      rw [List.take_length, List.all_map]
      exact q _ s
/-- what stands in the middle of a post -/
def PartV (K : PySem.W.Frag) (d C : Addr) (H : Hp) (m : Nat) (v : V) : Option (List V) → Prop
  | none => Nt d C H v
  | some ys => ∃ q, v = .ref q ∧ SqT K H q ys ∧ ys.length ≤ m ∧ ∀ y ∈ ys, Th K d C H y
inductive Sh
  | no
  | three (x0 : V) (pt : Option (List V)) (x2 : V)
def Thing (K : PySem.W.Frag) (d C : Addr) (H : Hp) (m : Nat) (v : V) : Sh → Prop
  | .no => Nt d C H v ∨ ∃ p xs, v = .ref p ∧ SqT K H p xs ∧ xs.length ≠ 3
  | .three x0 pt x2 => ∃ p x1, v = .ref p ∧ SqT K H p [x0, x1, x2] ∧ Th K d C H x0 ∧ Th K d C H x2 ∧ PartV K d C H m x1 pt
section
variable {d C : Addr} {H H' : Hp} {m m' : Nat} {v : V}
theorem PartV.fr (f : Fr d H H') (x : Tx H H') (hm : m ≤ m') : ∀ {pt : Option (List V)}, PartV K d C H m v pt → PartV K d C H' m' v pt
  | none, h => Nt.fr f h
  | some ys, ⟨q, e, hq, hl, ha⟩ => ⟨q, e, x.seq hq, Nat.le_trans hl hm, fun y hy => (ha y hy).fr f x⟩
theorem Thing.fr (f : Fr d H H') (x : Tx H H') (hm : m ≤ m') : ∀ {sh : Sh}, Thing K d C H m v sh → Thing K d C H' m' v sh
  | .no, h => by
    rcases h with h | ⟨p, xs, e, hp, hne⟩
    · exact .inl (h.fr f)
    · exact .inr ⟨p, xs, e, x.seq hp, hne⟩
  | .three x0 pt x2, ⟨p, x1, e, hp, h0, h2, h1⟩ => ⟨p, x1, e, x.seq hp, h0.fr f x, h2.fr f x, h1.fr f x hm⟩
end
def standsV (b : Bool) (rs : List Row) (ys : List V) : List Bool := (ys.zip rs).map fun p => !decide (p.1 = optV (barO b p.2))
theorem standsV_int (b : Bool) (rs : List Row) (st : List Int) : standsV b rs (st.map V.int) = stands b rs st := by
  unfold standsV stands
  rw [List.zip_map_left, List.map_map]
  rfl
def post3 (n : Int) (b : Bool) (rs : List Row) (x0 : V) (ys : List V) (x2 : V) : Bool := wholeV n x0 && (wholeV n x2 && (decide (ys.length = rs.length) && (ys.all (wholeV n) && (standsV b rs ys).all id)))
def postB (n : Int) (b : Bool) (rs : List Row) : Sh → Bool
  | .three x0 (some ys) x2 => post3 n b rs x0 ys x2
  | _ => false
theorem ints_whole {n : Int} : ∀ {ys : List V}, ys.all (wholeV n) = true → ∃ st : List Int, ys = st.map V.int ∧ ∀ c ∈ st, 0 ≤ c ∧ c ≤ n
  | [], _ => ⟨[], rfl, fun c h => by cases h⟩
  | y :: ys, h => by
    rw [List.all_cons, Bool.and_eq_true] at h
    obtain ⟨st, e, hst⟩ := ints_whole h.2
    have h1 := h.1
    cases y with
    | int i => exact ⟨i :: st, by rw [e]; rfl, fun c hc => by
        rcases List.mem_cons.mp hc with rfl | hc
        · exact of_decide_eq_true h1
        · exact hst c hc⟩
    | _ => cases h1

end

section
variable {P : Program} {w : World} {K : PySem.W.Frag} {mg : Str → Option Value} {base : Heap} {a : Ad}
/-! ### is_post, of any thing -/
theorem g_callS {sp : Sp} {W : WX} {t : TA} {σ : L2.St} {H : Hp} {Q : VK} (q : t σ H fun vs H1 => sp vs H1 Q (fun cls d H => W cls d σ H)) : tCallS sp (WE W) t σ H Q := q
def sp_is_post (K : PySem.W.Frag) (C CN : Addr) : Sp := fun vs H Q E => ∃ lg sd v n rs, vs = [lg, sd, v] ∧ LogAt K C H lg n rs ∧ rs.length ≤ 100000 ∧
  ((∃ b, sd = .str (sideS b) ∧ ∃ d m sh, Thing K d C H m v sh ∧ m ≤ 100000 ∧ ∀ H', Same H H' → Q (.bl (postB n b rs sh)) H') ∨ (BadSide K H sd ∧ ∀ H', Same H H' → E (.ref CN) none H'))
theorem ok_is_post (T : Txt K mg a) : FnOk P w K mg base (L2.CX P w) 5 a.f_is_post a.d_is_post ["log", "side", "thing"] (sp_is_post K a.c_Log a.c_NoSide) := by
  refine T.F_is_post.okX sc_is_post (fun vs H Q E h => ?_) (fun cdv A outer s H vs Q E hr h => ?_)
  · obtain ⟨lg, sd, v, n, rs, rfl, _⟩ := h
    rfl
  · obtain ⟨lg, sd, v, n, rs, rfl, hlog, hmax, h⟩ := h
    obtain ⟨la, ldx, p, rfl, hla, hrd⟩ := hlog
    obtain ⟨_, ys, e, hp, ha⟩ := of_tup hrd
    cases e
    have hl := DpAll.len ha
    rw [List.length_map] at hl
    refine ⟨_, (pss_cons (ps_expr (pe_callS (ok_check_side T) (hr.mono (by first | decide | omega)) (by rfl) T.g_check_side T.F_check_side.kp (T.b_check_side) (fun σ => passAt (takes_of rfl rfl rfl rfl) σ) (pa_cons (pv 1) pa_nil)))
  (pss_cons (ps_if (pt_not (pt_val (pe_call (ok_is_tuple_of T) (hr.mono (by first | decide | omega)) (by rfl) T.g_is_tuple_of T.F_is_tuple_of.kp (T.b_is_tuple_of) .nil pass0 (pa_cons (pv 2) (pa_cons pe_int pa_nil)))))
  (pss_one (ps_ret pe_bl))
  pss_nil)
  (pss_cons (ps_asg (pv 2) (kgTup K rfl rfl (pgs_cons (pg_name (i := 3) sc_is_post.nd rfl (.inl rfl)) (pgs_cons (pg_name (i := 4) sc_is_post.nd rfl (.inl rfl)) (pgs_cons (pg_name (i := 5) sc_is_post.nd rfl (.inl rfl)) pgs_nil)))))
  (pss_cons (ps_set (i := 6) sc_is_post.nd rfl (.inl rfl) (pe_op op_add (kpFld K rfl (pv 0) rfl) pe_int))
  (pss_cons (ps_if (PW.pt (pw_or (pt_not (pt_val (pe_call (ok_is_number T) (hr.mono (by first | decide | omega)) (by rfl) T.g_is_number T.F_is_number.kp (T.b_is_number) .nil pass0 (pa_cons (pv 3) (pa_cons (pv 6) pa_nil))))) (pw_or1 (pt_not (pt_val (pe_call (ok_is_number T) (hr.mono (by first | decide | omega)) (by rfl) T.g_is_number T.F_is_number.kp (T.b_is_number) .nil pass0 (pa_cons (pv 5) (pa_cons (pv 6) pa_nil))))))))
  (pss_one (ps_ret pe_bl))
  pss_nil)
  (pss_cons (ps_if (PW.pt (pw_or (pt_not (pt_val (pe_call (ok_is_tuple_of T) (hr.mono (by first | decide | omega)) (by rfl) T.g_is_tuple_of T.F_is_tuple_of.kp (T.b_is_tuple_of) .nil pass0 (pa_cons (pv 4) (pa_cons (pe_callB (kLen K rfl) (by rfl) T.z_len (by decide +kernel) (pa_cons (kpFld K rfl (pv 0) rfl) pa_nil)) pa_nil))))) (pw_or1 (pt_not (pt_val (pe_call (ok_are_numbers T) (hr.mono (by first | decide | omega)) (by rfl) T.g_are_numbers T.F_are_numbers.kp (T.b_are_numbers) .nil pass0 (pa_cons (pv 4) (pa_cons (pv 6) pa_nil))))))))
  (pss_one (ps_ret pe_bl))
  pss_nil)
  (pss_one (ps_ret (pe_callB (kAll K rfl rfl) (by rfl) T.z_all (by decide +kernel) (pa_cons (pe_lc (own := [("cut", 7), ("row", 8)]) (g := (gTup K 2 (gCons (gName 7) (gCons (gName 8) gNil)))) rfl sc_is_post.nd (kiZip K rfl (by rfl) T.z_zip (pa_cons (pv 4) (pa_cons (kpFld K rfl (pv 0) rfl) pa_nil))) (blkOk_by (own := [("cut", 7), ("row", 8)]) (N := ["log", "side", "thing", "first", "stands", "last", "cuts", "cut", "row"]) (sc := defScope s_is_post) (by decide +kernel)) (fun _ _ _ _ _ => (kgTup K rfl rfl (pgs_cons (pg_name (i := 7) sc_is_post.nd rfl (.inl rfl)) (pgs_cons (pg_name (i := 8) sc_is_post.nd rfl (.inl rfl)) pgs_nil)))) (fun _ _ _ _ _ => pts_nil) (fun _ _ _ _ _ => (pe_cmpR op_ne (pv 7) (pe_call (ok_barred_cut T) (hr.mono (by first | decide | omega)) (by rfl) T.g_barred_cut T.F_barred_cut.kp (T.b_barred_cut) .nil pass0 (pa_cons (pv 1) (pa_cons (pv 8) pa_nil))) (nomark _)))) pa_nil)))))))))), ?_⟩
    walk_at "go"
    refine g_callS ?_
    walk_at "go"
    rcases h with ⟨b, rfl, d, m, sh, hv, hm, q⟩ | ⟨hs, q⟩
    case inr => exact ⟨_, rfl, .inr ⟨hs, q⟩⟩
    refine ⟨_, rfl, .inl ⟨b, rfl, ?_⟩⟩
    walk_at "go"
    have q0 : postB n b rs sh = false → Q (.bl false) H := fun e => e ▸ q _ (Same.refl _)
    cases sh with
    | no =>
      refine ⟨v, 3, rfl, ?_⟩
      rcases hv with hv | ⟨p, xs, rfl, hp, hne⟩
      · obtain ⟨t, t1, t2⟩ := hv.tup (ownC T)
        refine .inr ⟨t, t1, t2, ?_⟩
        walk_at "go"
        exact q0 rfl
      · refine .inl ⟨p, xs, rfl, hp, ?_⟩
        rw [decide_eq_false (by omega)]
        walk_at "go"
        exact q0 rfl
    | three x0 pt x2 =>
      obtain ⟨vp, x1, rfl, hvp, h0, h2, h1⟩ := hv
      refine ⟨_, _, rfl, .inl ⟨vp, _, rfl, hvp, ?_⟩⟩
      rw [decide_eq_true (show (([x0, x1, x2].length : Nat) : Int) = 3 from rfl)]
      walk_at "go"
      refine ⟨vp, _, rfl, hvp, rfl, _, _, rfl, _, _, rfl, _, _, rfl, rfl, ?_⟩
      walk_at "go"
      refine ⟨_, _, _, _, _, rfl, hla, T.cl_Log, T.n_Log_offices, rfl, ?_⟩
      walk_at "go"
      have z1 : (wholeV n x0 = false ∨ wholeV n x2 = false) → postB n b rs (.three x0 pt x2) = false := fun z => by
        cases pt with
        | none => rfl
        | some ys => rcases z with z | z <;> (show post3 n b rs x0 ys x2 = false; unfold post3; rw [z]; simp)
      refine g_num (ownC T) h0 rfl ?_
      cases e0 : wholeV n x0 with
      | false =>
        walk_at "go"
        exact q0 (z1 (.inl e0))
      | true =>
        walk_at "go"
        refine g_num (ownC T) h2 rfl ?_
        cases e2 : wholeV n x2 with
        | false =>
          walk_at "go"
          exact q0 (z1 (.inr e2))
        | true =>
          walk_at "go"
          refine ⟨_, _, _, _, _, rfl, hla, T.cl_Log, T.n_Log_rows, rfl, ?_⟩
          walk_at "go"
          refine ⟨_, _, rfl, .inr hp, ?_⟩
          walk_at "go"
          cases pt with
          | none =>
            obtain ⟨t, t1, t2⟩ := Nt.tup (ownC T) h1
            refine ⟨_, _, rfl, .inr ⟨t, t1, t2, ?_⟩⟩
            walk_at "go"
            exact q0 rfl
          | some zs =>
            obtain ⟨t, rfl, ht, hzl, hzs⟩ := h1
            refine ⟨_, _, rfl, .inl ⟨t, _, rfl, ht, ?_⟩⟩
            by_cases e3 : zs.length = rs.length
            case neg =>
              rw [decide_eq_false (show ¬ ((zs.length : Nat) : Int) = ys.length by omega)]
              walk_at "go"
              exact q0 (by show post3 n b rs x0 zs x2 = false; unfold post3; rw [decide_eq_false e3]; simp)
            rw [decide_eq_true (show ((zs.length : Nat) : Int) = ys.length by omega)]
            walk_at "go"
            refine ⟨d, t, zs, n, rfl, ht, hzs, by omega, fun H1 s1 => ?_⟩
            cases e4 : zs.all (wholeV n) with
            | false =>
              walk_at "go"
              have e5 : postB n b rs (.three x0 (some zs) x2) = false := by show post3 n b rs x0 zs x2 = false; unfold post3; rw [e4]; simp
              exact e5 ▸ q _ s1
            | true =>
              obtain ⟨st, rfl, hst⟩ := ints_whole e4
              rw [List.length_map] at e3
              have e5 : postB n b rs (.three x0 (some (st.map V.int)) x2) = (stands b rs st).all id := by
                show post3 n b rs x0 _ x2 = _
                unfold post3
                rw [e0, e2, e4, standsV_int, decide_eq_true (by rw [List.length_map]; exact e3)]
                rfl
              rw [e5] at q
              walk_at "go"
              refine ⟨_, _, _, _, _, rfl, s1 _ _ hla, T.cl_Log, T.n_Log_rows, rfl, ?_⟩
              walk_at "go"
              have ht1 := (Tx.of s1).seq ht
              have hp1 := (Tx.of s1).seq hp
              refine ⟨_, _, _, _, rfl, .inr ⟨ht1, hp1, fun D nD => ?_⟩⟩
              refine lc_same (H0 := H1) (walk_zipT (K := K) (a := t) (b := p) (xs := st.map V.int) (ys := ys) rfl) (fun i => ((stands b rs st).take i).map V.bl) rfl (fun i _ => ?_) (Same.refl _) nD nD (fun H' s => ⟨(Tx.of s).seq ht1, (Tx.of s).seq hp1⟩) (fun i x H2 H3 C Cn hi s hy hC hN => ?_) (fun H' s hD => ?_)
              · rw [List.length_map, List.length_take, stands_len]
                exact small100k (by omega)
              · obtain ⟨Tp, xx1, y1, rfl, nT, rfl, e1, e2⟩ := hy
                obtain ⟨cc, gc, rfl⟩ := map_at e1
                obtain ⟨dd, gd, rd⟩ := DpAll.get ha e2
                obtain ⟨r, gr, rfl⟩ := map_at gd
                have sT : Same H2 (upd H2 Tp (.tup [V.int cc, y1])) := same_new nT
                refine ⟨Tp, _, rfl, SqT.new, rfl, _, _, rfl, _, _, rfl, rfl, rfl, ?_⟩
                walk_at "go"
                refine ⟨b, y1, r, rfl, Dp.same (s1.trans (s.trans sT)) _ _ rd, ?_⟩
                refine ⟨by unfold optV; split <;> rfl, ?_⟩
                refine hC _ _ sT ?_
                rw [take_snoc (stands_at gc gr), List.map_append]
                rfl
              · walk_at "go"
                refine ⟨D, _, rfl, SqL.at hD, ?_⟩
                rw [List.length_map, List.take_of_length_le (by rw [stands_len]; omega)]
                exact q _ (s1.trans s)

end

section
variable {P : Program} {w : World} {K : PySem.W.Frag} {mg : Str → Option Value} {base : Heap} {a : Ad}
/-! ### the law's own bars and steps -/
def barI (b : Bool) (r : Row) : Int := (barO b r).getD (-1)
theorem free_of {b : Bool} {c : Int} {r : Row} (h : 0 ≤ c) : freeB b c r = !decide (c = barI b r) := by
  unfold freeB barI
  cases barO b r with
  | none =>
    show (!decide (V.int c = V.non)) = !decide (c = -1)
    rw [decide_eq_false (fun e => by cases e), decide_eq_false (by omega)]
  | some i =>
    show (!decide (V.int c = V.int i)) = !decide (c = i)
    by_cases e : c = i
    · rw [e, decide_eq_true rfl, decide_eq_true rfl]
    · rw [decide_eq_false e, decide_eq_false (fun z => e (by cases z; rfl))]
def sp_law_bars (K : PySem.W.Frag) : Sp := fun vs H Q _ => ∃ b n v r, vs = [.str (sideS b), v] ∧ Dp K H v (rowD r) ∧ GoodRow n r ∧ Q (.int (barI b r)) H
theorem ok_law_bars (T : Txt K mg a) : FnOk P w K mg base CX0 1 a.f_law_bars a.d_law_bars ["_law_side", "_law_row_here"] (sp_law_bars K) := by
  refine T.F_law_bars.ok sc_law_bars (fun vs H Q E h => ?_) (fun cdv A outer s H vs Q E hr h => ?_)
  · obtain ⟨b, n, v, r, rfl, _⟩ := h
    rfl
  · obtain ⟨b, n, v, r, rfl, hv, ⟨g1, g2, g3, g4, g5⟩, q⟩ := h
    obtain ⟨p, rfl, hp⟩ := of_row hv
    refine ⟨_, (pss_cons (ps_if (pt_cmpR op_eq (pv 0) pe_str (nomark _))
  (pss_one (ps_ret (pe_ifExp (pt_cmpR op_gt (pe_ix (kIxT K rfl) (pv 1) pe_int (fun _ _ => rfl)) (pe_ix (kIxT K rfl) (pv 1) pe_int (fun _ _ => rfl)) (nomark _)) (pe_ix (kIxT K rfl) (pv 1) pe_int (fun _ _ => rfl)) (pe_un un_neg pe_int))))
  pss_nil)
  (pss_one (ps_ret (pe_ifExp (pt_cmpR op_lt (pe_ix (kIxT K rfl) (pv 1) pe_int (fun _ _ => rfl)) (pe_ix (kIxT K rfl) (pv 1) pe_int (fun _ _ => rfl)) (nomark _)) (pe_ix (kIxT K rfl) (pv 1) pe_int (fun _ _ => rfl)) (pe_un un_neg pe_int))))), ?_⟩
    walk_at "go"
    refine ⟨by cases b <;> rfl, ?_⟩
    rw [sideS_left]
    walk_at "go"
    cases b with
    | true =>
      walk_at "go"
      refine g_ixT hp (v := .int r.2.1) rfl ?_
      walk_at "go"
      refine g_ixT hp (v := .int r.1) rfl ?_
      walk_at "go"
      refine g_ite (fun e0 => ?_) (fun e0 => ?_)
      · walk_at "go"
        refine g_ixT hp (v := .int r.2.1) rfl ?_
        have e : barI true r = r.2.1 := by
          unfold barI barO isL placeR
          rw [decide_eq_true e0, if_pos rfl, if_pos e0]
          show r.2.1 - 1 + 1 = r.2.1
          omega
        rw [e] at q
        exact q
      · walk_at "go"
        have e : barI true r = -1 := by
          unfold barI barO isL
          rw [decide_eq_false e0, if_neg (by decide)]
          rfl
        rw [e] at q
        exact q
    | false =>
      walk_at "go"
      refine g_ixT hp (v := .int r.2.1) rfl ?_
      walk_at "go"
      refine g_ixT hp (v := .int r.1) rfl ?_
      walk_at "go"
      refine g_ite (fun e0 => ?_) (fun e0 => ?_)
      · walk_at "go"
        refine g_ixT hp (v := .int r.1) rfl ?_
        have e : barI false r = r.1 := by
          unfold barI barO isL placeR
          rw [decide_eq_false (by omega), if_pos rfl, if_neg (by omega)]
          show r.1 - 1 + 1 = r.1
          omega
        rw [e] at q
        exact q
      · walk_at "go"
        have e : barI false r = -1 := by
          unfold barI barO isL
          rw [decide_eq_true (by omega), if_neg (by decide)]
          rfl
        rw [e] at q
        exact q
/-- where a bar is -/
theorem bar_in {b : Bool} {n : Int} {r : Row} (g : GoodRow n r) : barI b r = -1 ∨ (1 ≤ barI b r ∧ barI b r < n) := by
  have := place_of g
  unfold barI barO
  split
  · exact .inr (by show 1 ≤ placeR r + 1 ∧ placeR r + 1 < n; omega)
  · exact .inl rfl

end

section
variable {P : Program} {w : World} {K : PySem.W.Frag} {mg : Str → Option Value} {base : Heap} {a : Ad}
/-! ### the law's own look, of any thing -/
def sp_law_whole (K : PySem.W.Frag) (C : Addr) : Sp := fun vs H Q _ => ∃ d v n, vs = [v, .int 0, .int n] ∧ Th K d C H v ∧ Q (.bl (wholeV n v)) H
theorem ok_law_whole (T : Txt K mg a) : FnOk P w K mg base CX0 1 a.f_law_whole a.d_law_whole ["_law_thing", "_law_low", "_law_high"] (sp_law_whole K a.c_Log) := by
  refine T.F_law_whole.ok sc_law_whole (fun vs H Q E h => ?_) (fun cdv A outer s H vs Q E hr h => ?_)
  · obtain ⟨d, v, n, rfl, _⟩ := h
    rfl
  · obtain ⟨d, v, n, rfl, hv, q⟩ := h
    refine ⟨_, (pss_one (ps_ret (pe_and (pe_callB (kIsi K rfl) (by rfl) T.z_isinstance (by decide +kernel) (pa_cons (pv 0) (pa_cons (pe_bltn (v := .ty "int") (by rfl) T.z_int (by decide +kernel) rfl) pa_nil))) (pe_and (pe_not (pe_callB (kIsi K rfl) (by rfl) T.z_isinstance (by decide +kernel) (pa_cons (pv 0) (pa_cons (pe_bltn (v := .ty "bool") (by rfl) T.z_bool (by decide +kernel) rfl) pa_nil)))) (pe_one (pe_chain op_le op_le (pv 1) (pv 0) (pv 2))))))), ?_⟩
    rcases hv.num (ownC T) with ⟨i, rfl⟩ | ⟨hne, t, b1, b2, ty, k1, k2, e⟩
    · walk_at "go"
      refine g_isi (b := true) (.base (.int _)) (kit_ty (a := "int") (by decide +kernel)) ?_
      walk_at "go"
      refine g_isi (b := false) (.base (.int _)) (kit_ty (a := "int") (by decide +kernel)) ?_
      walk_at "go"
      have q' : Q (.bl (decide (0 ≤ i ∧ i ≤ n))) H := q
      refine g_ite (fun e0 => ?_) (fun e0 => ?_)
      · walk_at "go"
        rw [show decide (0 ≤ i ∧ i ≤ n) = decide (i ≤ n) from by by_cases c : i ≤ n <;> simp [c, e0]] at q'
        exact q'
      · rw [decide_eq_false (fun e => e0 e.1)] at q'
        exact q'
    · rw [wholeV_not hne] at q
      walk_at "go"
      refine g_isi ty k1 ?_
      cases b1 with
      | false =>
        walk_at "go"
        exact q
      | true =>
        cases b2 with
        | false => cases e
        | true =>
          walk_at "go"
          refine g_isi ty k2 ?_
          walk_at "go"
          exact q
def sp_law_is_post (K : PySem.W.Frag) (C : Addr) : Sp := fun vs H Q _ => ∃ n rv rs b v d m sh, vs = [.int n, rv, .str (sideS b), v] ∧ Dp K H rv (rowsD rs) ∧ (∀ r ∈ rs, GoodRow n r) ∧ rs.length ≤ 100000 ∧ Thing K d C H m v sh ∧ m ≤ 100000 ∧ ∀ H', Same H H' → Q (.bl (postB n b rs sh)) H'
theorem ok_law_is_post (T : Txt K mg a) : FnOk P w K mg base CX0 2 a.f_law_is_post a.d_law_is_post ["_law_offices_here", "_law_rows_here", "_law_side", "_law_thing"] (sp_law_is_post K a.c_Log) := by
  refine T.F_law_is_post.ok sc_law_is_post (fun vs H Q E h => ?_) (fun cdv A outer s H vs Q E hr h => ?_)
  · obtain ⟨n, rv, rs, b, v, d, m, sh, rfl, _⟩ := h
    rfl
  · obtain ⟨n, rv, rs, b, v, d, m, sh, rfl, hrv, hgood, hmax, hv, hm, q⟩ := h
    obtain ⟨p, ys, rfl, hp, ha⟩ := of_tup hrv
    have hl := DpAll.len ha
    rw [List.length_map] at hl
    have q0 : postB n b rs sh = false → Q (.bl false) H := fun e => e ▸ q _ (Same.refl _)
    refine ⟨_, (pss_cons (ps_if (PW.pt (pw_or (pt_not (pt_val (pe_callB (kIsi K rfl) (by rfl) T.z_isinstance (by decide +kernel) (pa_cons (pv 3) (pa_cons (pe_bltn (v := .ty "tuple") (by rfl) T.z_tuple (by decide +kernel) rfl) pa_nil))))) (pw_or (pt_cmpR op_ne (pe_callB (kLen K rfl) (by rfl) T.z_len (by decide +kernel) (pa_cons (pv 3) pa_nil)) pe_int (nomark _)) (pw_or1 (pt_not (pt_val (pe_callB (kIsi K rfl) (by rfl) T.z_isinstance (by decide +kernel) (pa_cons (pe_ix (kIxT K rfl) (pv 3) pe_int (fun _ _ => rfl)) (pa_cons (pe_bltn (v := .ty "tuple") (by rfl) T.z_tuple (by decide +kernel) rfl) pa_nil)))))))))
  (pss_one (ps_ret pe_bl))
  pss_nil)
  (pss_cons (ps_if (PW.pt (pw_or (pt_not (pt_val (pe_call (ok_law_whole T) (hr.mono (by first | decide | omega)) (by rfl) T.g_law_whole T.F_law_whole.kp (T.b_law_whole) .nil pass0 (pa_cons (pe_ix (kIxT K rfl) (pv 3) pe_int (fun _ _ => rfl)) (pa_cons pe_int (pa_cons (pv 0) pa_nil)))))) (pw_or (pt_not (pt_val (pe_call (ok_law_whole T) (hr.mono (by first | decide | omega)) (by rfl) T.g_law_whole T.F_law_whole.kp (T.b_law_whole) .nil pass0 (pa_cons (pe_ix (kIxT K rfl) (pv 3) pe_int (fun _ _ => rfl)) (pa_cons pe_int (pa_cons (pv 0) pa_nil)))))) (pw_or1 (pt_cmpR op_ne (pe_callB (kLen K rfl) (by rfl) T.z_len (by decide +kernel) (pa_cons (pe_ix (kIxT K rfl) (pv 3) pe_int (fun _ _ => rfl)) pa_nil)) (pe_callB (kLen K rfl) (by rfl) T.z_len (by decide +kernel) (pa_cons (pv 1) pa_nil)) (nomark _))))))
  (pss_one (ps_ret pe_bl))
  pss_nil)
  (pss_cons (ps_if (pt_not (pt_val (pe_callB (kAll K rfl rfl) (by rfl) T.z_all (by decide +kernel) (pa_cons (pe_lc (own := [("_law_cut", 4)]) (g := (gName 4)) rfl sc_law_is_post.nd (kiTup K rfl (pe_ix (kIxT K rfl) (pv 3) pe_int (fun _ _ => rfl))) (blkOk_by (own := [("_law_cut", 4)]) (N := ["_law_offices_here", "_law_rows_here", "_law_side", "_law_thing", "_law_cut", "_law_row_here"]) (sc := defScope s_law_is_post) (by decide +kernel)) (fun _ _ _ _ _ => (pg_name (i := 4) sc_law_is_post.nd rfl (.inl rfl))) (fun _ _ _ _ _ => pts_nil) (fun _ _ _ _ _ => (pe_call (ok_law_whole T) (hr.mono (by first | decide | omega)) (by rfl) T.g_law_whole T.F_law_whole.kp (T.b_law_whole) .nil pass0 (pa_cons (pv 4) (pa_cons pe_int (pa_cons (pv 0) pa_nil)))))) pa_nil))))
  (pss_one (ps_ret pe_bl))
  pss_nil)
  (pss_one (ps_ret (pe_callB (kAll K rfl rfl) (by rfl) T.z_all (by decide +kernel) (pa_cons (pe_lc (own := [("_law_cut", 4), ("_law_row_here", 5)]) (g := (gTup K 2 (gCons (gName 4) (gCons (gName 5) gNil)))) rfl sc_law_is_post.nd (kiZip K rfl (by rfl) T.z_zip (pa_cons (pe_ix (kIxT K rfl) (pv 3) pe_int (fun _ _ => rfl)) (pa_cons (pv 1) pa_nil))) (blkOk_by (own := [("_law_cut", 4), ("_law_row_here", 5)]) (N := ["_law_offices_here", "_law_rows_here", "_law_side", "_law_thing", "_law_cut", "_law_row_here"]) (sc := defScope s_law_is_post) (by decide +kernel)) (fun _ _ _ _ _ => (kgTup K rfl rfl (pgs_cons (pg_name (i := 4) sc_law_is_post.nd rfl (.inl rfl)) (pgs_cons (pg_name (i := 5) sc_law_is_post.nd rfl (.inl rfl)) pgs_nil)))) (fun _ _ _ _ _ => pts_nil) (fun _ _ _ _ _ => (pe_cmpR op_ne (pv 4) (pe_call (ok_law_bars T) (hr.mono (by first | decide | omega)) (by rfl) T.g_law_bars T.F_law_bars.kp (T.b_law_bars) .nil pass0 (pa_cons (pv 2) (pa_cons (pv 5) pa_nil))) (nomark _)))) pa_nil))))))), ?_⟩
    walk_at "go"
    cases sh with
    | no =>
      rcases hv with hv | ⟨vp, xs, rfl, hvp, hne⟩
      · obtain ⟨t, t1, t2⟩ := hv.tup (ownC T)
        refine g_isi t1 t2 ?_
        walk_at "go"
        exact q0 rfl
      · refine g_isi (TyX.tup hvp) (b := true) (kit_ty (a := "tuple") (by decide +kernel)) ?_
        walk_at "go"
        refine ⟨_, _, rfl, .inr hvp, ?_⟩
        walk_at "go"
        rw [decide_eq_false (show ¬ ((xs.length : Nat) : Int) = 3 by omega)]
        walk_at "go"
        exact q0 rfl
    | three x0 pt x2 =>
      obtain ⟨vp, x1, rfl, hvp, h0, h2, h1⟩ := hv
      refine g_isi (TyX.tup hvp) (b := true) (kit_ty (a := "tuple") (by decide +kernel)) ?_
      walk_at "go"
      refine ⟨_, _, rfl, .inr hvp, ?_⟩
      walk_at "go"
      rw [decide_eq_true (show (([x0, x1, x2].length : Nat) : Int) = 3 from rfl)]
      walk_at "go"
      refine g_ixT hvp (v := x1) rfl ?_
      walk_at "go"
      cases pt with
      | none =>
        obtain ⟨t, t1, t2⟩ := Nt.tup (ownC T) h1
        refine g_isi t1 t2 ?_
        walk_at "go"
        exact q0 rfl
      | some zs =>
        obtain ⟨t, rfl, ht, hzl, hzs⟩ := h1
        refine g_isi (TyX.tup ht) (b := true) (kit_ty (a := "tuple") (by decide +kernel)) ?_
        walk_at "go"
        refine g_ixT hvp (v := x0) rfl ?_
        walk_at "go"
        refine ⟨d, x0, n, rfl, h0, ?_⟩
        cases e0 : wholeV n x0 with
        | false =>
          walk_at "go"
          exact q0 (by show post3 n b rs x0 zs x2 = false; unfold post3; rw [e0]; rfl)
        | true =>
          walk_at "go"
          refine g_ixT hvp (v := x2) rfl ?_
          walk_at "go"
          refine ⟨d, x2, n, rfl, h2, ?_⟩
          cases e2 : wholeV n x2 with
          | false =>
            walk_at "go"
            exact q0 (by show post3 n b rs x0 zs x2 = false; unfold post3; rw [e2]; simp)
          | true =>
            walk_at "go"
            refine g_ixT hvp (v := .ref t) rfl ?_
            walk_at "go"
            refine ⟨_, _, rfl, .inr ht, ?_⟩
            walk_at "go"
            refine ⟨_, _, rfl, .inr hp, ?_⟩
            walk_at "go"
            by_cases e3 : zs.length = rs.length
            case neg =>
              rw [decide_eq_false (show ¬ ((zs.length : Nat) : Int) = ys.length by omega)]
              walk_at "go"
              exact q0 (by show post3 n b rs x0 zs x2 = false; unfold post3; rw [decide_eq_false e3]; simp)
            rw [decide_eq_true (show ((zs.length : Nat) : Int) = ys.length by omega)]
            walk_at "go"
            refine g_ixT hvp (v := .ref t) rfl ?_
            refine ⟨t, rfl, ⟨_, ht⟩, fun D nD => ?_⟩
            refine lc_same (H0 := H) (walk_tup (K := K) (a := t) (xs := zs)) (fun i => ((zs.take i).map (wholeV n)).map V.bl) rfl (fun i hi => ?_) (Same.refl _) nD nD (fun H' s => (Tx.of s).seq ht) (fun i x H2 H3 C Cn hi s hy hC hN => ?_) (fun H1 s1 hD1 => ?_)
            · rw [List.length_map, List.length_map, List.length_take]
              exact small100k (by omega)
            · obtain ⟨rfl, hx⟩ := hy
              refine ⟨rfl, ?_⟩
              walk_at "go"
              refine ⟨d, x, n, rfl, (hzs x (List.mem_of_getElem? hx)).fr (Fr.of s) (Tx.of s), hC _ _ (Same.refl _) ?_⟩
              rw [take_snoc hx, List.map_append, List.map_append]
              rfl
            · walk_at "go"
              refine ⟨D, _, rfl, SqL.at hD1, ?_⟩
              rw [List.take_length, List.all_map, show (id ∘ wholeV n) = wholeV n from rfl]
              cases e4 : zs.all (wholeV n) with
              | false =>
                walk_at "go"
                have e5 : postB n b rs (.three x0 (some zs) x2) = false := by show post3 n b rs x0 zs x2 = false; unfold post3; rw [e4]; simp
                exact e5 ▸ q _ s1
              | true =>
                obtain ⟨st, rfl, hst⟩ := ints_whole e4
                rw [List.length_map] at e3
                have e5 : postB n b rs (.three x0 (some (st.map V.int)) x2) = (stands b rs st).all id := by
                  show post3 n b rs x0 _ x2 = _
                  unfold post3
                  rw [e0, e2, e4, standsV_int, decide_eq_true (by rw [List.length_map]; exact e3)]
                  rfl
                rw [e5] at q
                have hvp1 := (Tx.of s1).seq hvp
                have ht1 := (Tx.of s1).seq ht
                have hp1 := (Tx.of s1).seq hp
                walk_at "go"
                refine g_ixT hvp1 (v := .ref t) rfl ?_
                walk_at "go"
                refine ⟨_, _, _, _, rfl, .inr ⟨ht1, hp1, fun D2 nD2 => ?_⟩⟩
                refine lc_same (H0 := H1) (walk_zipT (K := K) (a := t) (b := p) (xs := st.map V.int) (ys := ys) rfl) (fun i => ((stands b rs st).take i).map V.bl) rfl (fun i _ => ?_) (Same.refl _) nD2 nD2 (fun H' s => ⟨(Tx.of s).seq ht1, (Tx.of s).seq hp1⟩) (fun i x H2 H3 C Cn hi s hy hC hN => ?_) (fun H' s hD => ?_)
                · rw [List.length_map, List.length_take, stands_len]
                  exact small100k (by omega)
                · obtain ⟨Tp, xx1, y1, rfl, nT, rfl, e1, e2⟩ := hy
                  obtain ⟨cc, gc, rfl⟩ := map_at e1
                  obtain ⟨dd, gd, rd⟩ := DpAll.get ha e2
                  obtain ⟨r, gr, rfl⟩ := map_at gd
                  have hc := hst cc (List.mem_of_getElem? gc)
                  have sT : Same H2 (upd H2 Tp (.tup [V.int cc, y1])) := same_new nT
                  refine ⟨Tp, _, rfl, SqT.new, rfl, _, _, rfl, _, _, rfl, rfl, rfl, ?_⟩
                  walk_at "go"
                  refine ⟨b, n, y1, r, rfl, Dp.same (s1.trans (s.trans sT)) _ _ rd, hgood r (List.mem_of_getElem? gr), ?_⟩
                  walk_at "go"
                  refine hC _ _ sT ?_
                  rw [take_snoc (stands_at gc gr), List.map_append, free_of hc.1]
                  rfl
                · walk_at "go"
                  refine ⟨D2, _, rfl, SqL.at hD, ?_⟩
                  rw [List.length_map, List.take_of_length_le (by rw [stands_len]; omega)]
                  exact q _ (s1.trans s)
/-- things 18 deep -/
def DeepAt (K : PySem.W.Frag) (H H' : Hp) (k : Int) (v : V) : Prop := ∃ p, v = .ref p ∧ ((k = 0 ∧ ∃ t ys, SqT K H' p [.ref t] ∧ SqT K H' t ys) ∨ (k = 1 ∧ H p = none ∧ ∃ xs, H' p = some (.lst xs)) ∨ (k = 2 ∧ ∃ x y, SqT K H' p [x, y]))
def sp_law_deep (K : PySem.W.Frag) : Sp := fun vs H Q _ => ∃ k, vs = [.int k] ∧ (k = 0 ∨ k = 1 ∨ k = 2) ∧ ∀ H' v, Same H H' → DeepAt K H H' k v → Q v H'
theorem ok_law_deep (T : Txt K mg a) : FnOk P w K mg base CX0 1 a.f_law_deep a.d_law_deep ["_law_kind"] (sp_law_deep K) := by
  refine T.F_law_deep.ok sc_law_deep (fun vs H Q E h => ?_) (fun cdv A outer s H vs Q E hr h => ?_)
  · obtain ⟨k, rfl, _⟩ := h
    rfl
  · obtain ⟨k, rfl, hk, q⟩ := h
    refine ⟨_, (pss_cons (ps_set (i := 1) sc_law_deep.nd rfl (.inl rfl) (pe_tup pa_nil))
  (pss_cons (ps_for PassesOwn.never rfl (pi_range1 rfl T.z_range (pa_cons pe_int pa_nil)) (pg_name (i := 2) sc_law_deep.nd rfl (.inl rfl))
  (pss_one (ps_set (i := 1) sc_law_deep.nd rfl (.inl rfl) (pe_ix (kIxL K rfl) (pe_lst (pa_cons (pe_tup (pa_cons (pe_tup (pa_cons pe_int (pa_cons (pv 1) pa_nil))) pa_nil)) (pa_cons (pe_lst (pa_cons (pe_lst (pa_cons (pv 1) pa_nil)) pa_nil)) (pa_cons (pe_tup (pa_cons pe_str (pa_cons (pe_tup (pa_cons (pv 1) pa_nil)) pa_nil))) pa_nil)))) (pv 0) (fun _ _ => rfl)))))
  (pss_one (ps_ret (pv 1))))), ?_⟩
    walk_at "go"
    refine ⟨Nat.zero_le _, fun t0 nt0 => ?_⟩
    walk_at "go"
    refine ⟨_, rfl, by decide, by decide, ?_⟩
    refine for_it walk_rng0 (fun i σ H' => ∃ v y2, σ = [some (.int k), some v, y2] ∧ Same H H' ∧ (0 < i → DeepAt K H H' k v)) ⟨_, _, rfl, same_new nt0, fun h => absurd h (by decide)⟩ (fun _ _ _ _ _ => trivial) (fun i z σ H1 H1' hi hP hy => ?_) (fun σ H' hP => ?_)
    · obtain ⟨v, y2, rfl, s1, _⟩ := hP
      obtain ⟨rfl, rfl⟩ := hy
      walk_at "go"
      refine ⟨by show 2 ≤ sizeLine; decide, fun t1 n1 => ?_⟩
      walk_at "go"
      refine ⟨by show 1 ≤ sizeLine; decide, fun t2 n2 => ?_⟩
      walk_at "go"
      refine ⟨by show 1 ≤ sizeLine; decide, fun l1 n3 => ?_⟩
      walk_at "go"
      refine ⟨by show 1 ≤ sizeLine; decide, fun l2 n4 => ?_⟩
      walk_at "go"
      refine ⟨by show 1 ≤ sizeLine; decide, fun t3 n5 => ?_⟩
      walk_at "go"
      refine ⟨by show 2 ≤ sizeLine; decide, fun t4 n6 => ?_⟩
      walk_at "go"
      refine ⟨by show 3 ≤ sizeLine; decide, fun L nL => ?_⟩
      walk_at "go"
      have sa := (same_new (o := .tup [.int 0, v]) n1).trans (same_new (o := .tup [.ref t1]) n2)
      have h2 := (SqT.new : SqT K (upd (upd H1' t1 (.tup [.int 0, v])) t2 (.tup [.ref t1])) t2 [.ref t1])
      have sb := (same_new (o := .lst [v]) n3).trans (same_new (o := .lst [.ref l1]) n4)
      have sc := (same_new (o := .tup [v]) n5).trans (same_new (o := .tup [.str "post", .ref t3]) n6)
      have sd := same_new (o := .lst [.ref t2, .ref l2, .ref t4]) nL
      have sall := sa.trans (sb.trans (sc.trans sd))
      have nl2 : H l2 = none := s1.free (sa.free ((same_new (o := .lst [v]) n3).free n4))
      rcases hk with rfl | rfl | rfl
      · refine g_ixL (SqL.new) (v := .ref t2) rfl ?_
        walk_at "go"
        exact ⟨_, _, rfl, s1.trans sall, fun _ => ⟨t2, rfl, .inl ⟨rfl, t1, _, (Tx.of (sb.trans (sc.trans sd))).seq h2, (Tx.of ((same_new (o := .tup [.ref t1]) n2).trans (sb.trans (sc.trans sd)))).seq SqT.new⟩⟩⟩
      · refine g_ixL (SqL.new) (v := .ref l2) rfl ?_
        walk_at "go"
        exact ⟨_, _, rfl, s1.trans sall, fun _ => ⟨l2, rfl, .inr (.inl ⟨rfl, nl2, _, (sc.trans sd) _ _ upd_same⟩)⟩⟩
      · refine g_ixL (SqL.new) (v := .ref t4) rfl ?_
        walk_at "go"
        exact ⟨_, _, rfl, s1.trans sall, fun _ => ⟨t4, rfl, .inr (.inr ⟨rfl, _, _, (Tx.of sd).seq SqT.new⟩)⟩⟩
    · obtain ⟨v, y2, rfl, s1, hd⟩ := hP
      walk_at "go"
      exact q _ _ s1 (hd (by decide))

end

section
variable {P : Program} {w : World} {K : PySem.W.Frag} {mg : Str → Option Value} {base : Heap} {a : Ad}
/-! ### drawn rows, the other way -/
def sp_law_row (K : PySem.W.Frag) : Sp := fun vs H Q _ => ∃ (d c : Addr) (n sh : Int), vs = [.ref d, .int n, .int sh] ∧ Dice d c H ∧ 2 ≤ n ∧ n ≤ 12 ∧ ∀ H' v r, Fr d H H' → Dice d c H' → Dp K H' v (rowD r) → GoodRow n r → Q v H'
theorem ok_law_row (T : Txt K mg a) : FnOk P w K mg base CX0 2 a.f_law_row a.d_law_row ["_law_hand_here", "_law_offices_here", "_law_share"] (sp_law_row K) := by
  refine T.F_law_row.ok sc_law_row (fun vs H Q E h => ?_) (fun cdv A outer s H vs Q E hr h => ?_)
  · obtain ⟨d, c, n, sh, rfl, _⟩ := h
    rfl
  · obtain ⟨d, c, n, sh, rfl, hD, n2, n12, q⟩ := h
    refine ⟨_, (pss_cons (ps_set (i := 3) sc_law_row.nd rfl (.inl rfl) (pe_call (ok_law_draw T) (hr.mono (by first | decide | omega)) (by rfl) T.g_law_draw T.F_law_draw.kp (T.b_law_draw) .nil pass0 (pa_cons (pv 0) (pa_cons (pv 1) pa_nil))))
  (pss_cons (ps_set (i := 4) sc_law_row.nd rfl (.inl rfl) (pe_op op_sub (pe_op op_add (pv 3) pe_int) (pe_op op_mul pe_int (pe_call (ok_law_draw T) (hr.mono (by first | decide | omega)) (by rfl) T.g_law_draw T.F_law_draw.kp (T.b_law_draw) .nil pass0 (pa_cons (pv 0) (pa_cons pe_int pa_nil))))))
  (pss_cons (ps_if (PW.pt (pw_or (pt_cmpR op_lt (pv 4) pe_int (nomark _)) (pw_or1 (pt_cmpR op_eq (pv 4) (pv 1) (nomark _)))))
  (pss_one (ps_set (i := 4) sc_law_row.nd rfl (.inl rfl) (pe_op op_sub (pe_op op_mul pe_int (pv 3)) (pv 4))))
  pss_nil)
  (pss_one (ps_ret (pe_tup (pa_cons (pv 3) (pa_cons (pv 4) (pa_cons (pe_cmpR op_lt (pe_call (ok_law_draw T) (hr.mono (by first | decide | omega)) (by rfl) T.g_law_draw T.F_law_draw.kp (T.b_law_draw) .nil pass0 (pa_cons (pv 0) (pa_cons pe_int pa_nil))) (pv 2) (nomark _)) pa_nil))))))))), ?_⟩
    walk_at "go"
    refine ⟨d, c, n, rfl, hD, by omega, by omega, fun H1 x f1 hD1 x0 x1 => ?_⟩
    walk_at "go"
    refine ⟨d, c, 2, rfl, hD1, by decide, by decide, fun H2 z f2 hD2 z0 z1 => ?_⟩
    walk_at "gs"
    refine g_rI (.inl ⟨by decide, by decide⟩) ?_
    walk_at "gs"
    refine seq_cut (fun σ' H' => ∃ y, σ' = [some (.ref d), some (.int n), some (.int sh), some (.int x), some (.int y)] ∧ Fr d H H' ∧ Dice d c H' ∧ GoodRow n (x, y, true)) ?_ ?_
    · rintro σ' H2 ⟨y, rfl, f2, hD2, g⟩
      walk_at "go"
      refine ⟨d, c, 12, rfl, hD2, by decide, by decide, fun H3 z f3 hD3 _ _ => ?_⟩
      walk_at "go"
      refine ⟨by show 3 ≤ sizeLine; decide, fun p np => ?_⟩
      exact q _ _ (x, y, decide (z < sh)) ((f2.trans f3).trans (Fr.new np)) (hD3.new np) (dp_row SqT.new) g
    · intro N hN
      walk_at "go"
      have fin : ∀ y : Int, 0 ≤ y → y < n → (x - y = 1 ∨ y - x = 1) → N [some (.ref d), some (.int n), some (.int sh), some (.int x), some (.int y)] H2 := fun y y0 y1 e => hN _ _ ⟨y, rfl, f1.trans f2, hD2, x0, x1, y0, y1, by show y = x + 1 ∨ y = x - 1; omega⟩
      refine g_ite (fun e0 => ?_) (fun e0 => ?_)
      · walk_at "go"
        refine g_rI (.inl ⟨by decide, by decide⟩) ?_
        walk_at "go"
        exact fin _ (by omega) (by omega) (by omega)
      · walk_at "go"
        refine g_ite (fun e1 => ?_) (fun e1 => ?_)
        · walk_at "go"
          refine g_rI (.inl ⟨by decide, by decide⟩) ?_
          walk_at "go"
          exact fin _ (by omega) (by omega) (by omega)
        · walk_at "go"
          exact fin _ (by omega) (by omega) (by omega)
theorem rows_of {n : Int} : ∀ {ds : List PyData}, (∀ e ∈ ds, ∃ r, e = rowD r ∧ GoodRow n r) → ∃ rs : List Row, ds = rs.map rowD ∧ ∀ r ∈ rs, GoodRow n r
  | [], _ => ⟨[], rfl, fun r h => by cases h⟩
  | e :: ds, h => by
    obtain ⟨rs, e1, e2⟩ := rows_of fun z hz => h z (List.mem_cons_of_mem _ hz)
    obtain ⟨r, rfl, g⟩ := h e (List.mem_cons_self ..)
    refine ⟨r :: rs, by rw [e1]; rfl, fun z hz => ?_⟩
    rcases List.mem_cons.mp hz with rfl | hz
    · exact g
    · exact e2 z hz
def sp_law_rows (K : PySem.W.Frag) : Sp := fun vs H Q _ => ∃ (d c : Addr) (n m sh : Int), vs = [.ref d, .int n, .int m, .int sh] ∧ Dice d c H ∧ 1 ≤ n ∧ n ≤ 12 ∧ 0 ≤ m ∧ m ≤ 60 ∧ ∀ H' v rs, Fr d H H' → Dice d c H' → Dp K H' v (rowsD rs) → (∀ r ∈ rs, GoodRow n r) → (rs.length : Int) ≤ m → (2 ≤ n → (rs.length : Int) = m) → Q v H'
theorem ok_law_rows (T : Txt K mg a) : FnOk P w K mg base CX0 3 a.f_law_rows a.d_law_rows ["_law_hand_here", "_law_offices_here", "_law_many", "_law_share"] (sp_law_rows K) := by
  refine T.F_law_rows.ok sc_law_rows (fun vs H Q E h => ?_) (fun cdv A outer s H vs Q E hr h => ?_)
  · obtain ⟨d, c, n, m, sh, rfl, _⟩ := h
    rfl
  · obtain ⟨d, c, n, m, sh, rfl, hD, n1, n12, m0, m60, q⟩ := h
    refine ⟨_, (pss_cons (ps_if (pt_cmpR op_eq (pv 1) pe_int (nomark _))
  (pss_one (ps_ret (pe_tup pa_nil)))
  pss_nil)
  (pss_one (ps_ret (pe_callTy (kTupOf K rfl) (by rfl) T.z_tuple (by decide +kernel) (pa_cons (pe_lc (own := [("_law_turn", 4)]) (g := (gName 4)) rfl sc_law_rows.nd (pi_range1 rfl T.z_range (pa_cons (pv 2) pa_nil)) (blkOk_by (own := [("_law_turn", 4)]) (N := ["_law_hand_here", "_law_offices_here", "_law_many", "_law_share", "_law_turn"]) (sc := defScope s_law_rows) (by decide +kernel)) (fun _ _ _ _ _ => (pg_name (i := 4) sc_law_rows.nd rfl (.inl rfl))) (fun _ _ _ _ _ => pts_nil) (fun _ _ _ _ _ => (pe_call (ok_law_row T) (hr.mono (by first | decide | omega)) (by rfl) T.g_law_row T.F_law_row.kp (T.b_law_row) .nil pass0 (pa_cons (pv 0) (pa_cons (pv 1) (pa_cons (pv 3) pa_nil)))))) pa_nil))))), ?_⟩
    walk_at "go"
    refine g_ite (fun e0 => ?_) (fun e0 => ?_)
    · walk_at "go"
      refine ⟨by show 0 ≤ sizeLine; decide, fun p np => ?_⟩
      exact q _ _ [] (Fr.new np) (hD.new np) (.tup SqT.new .nil) (fun r h => by cases h) m0 (fun h => by omega)
    · walk_at "go"
      refine ⟨_, rfl, by omega, by omega, fun D nDD => ?_⟩
      refine lc_draw (K := K) (d := d) (c := c) walk_rng0 (fun e => ∃ r, e = rowD r ∧ GoodRow n r) (small1000 (by omega)) (fun e ⟨z, h, _⟩ => by rw [h]; rfl) nDD hD (fun _ _ => trivial) (fun j x H9 H9' C Cn hj f9 hD9 hy hC => ?_) (fun H' ys ds f9 hD9 hDl hys hn hall => ?_)
      · obtain ⟨rfl, rfl⟩ := hy
        refine ⟨rfl, ?_⟩
        walk_at "go"
        exact ⟨d, c, n, sh, rfl, hD9, by omega, n12, fun H10 v r f10 hD10 hv g => hC _ _ _ f10 hD10 hv ⟨r, rfl, g⟩⟩
      · obtain ⟨rs, rfl, hgood⟩ := rows_of hall
        rw [List.length_map] at hn
        walk_at "go"
        refine ⟨D, ys, rfl, .inl ⟨SqL.at hDl, fun p np => ?_⟩⟩
        exact q _ _ rs (f9.trans (Fr.new np)) (hD9.new np) (.tup SqT.new (Dp.sameAll (same_new np) _ _ hys)) hgood (by omega) (fun _ => by omega)
def sp_law_offices : Sp := fun vs H Q _ => ∃ (d c : Addr) (m : Int), vs = [.ref d, .int m] ∧ Dice d c H ∧ 3 ≤ m ∧ m ≤ 12 ∧ ∀ H' n, Fr d H H' → Dice d c H' → 1 ≤ n → n ≤ m → Q (.int n) H'
theorem ok_law_offices (T : Txt K mg a) : FnOk P w K mg base CX0 2 a.f_law_offices a.d_law_offices ["_law_hand_here", "_law_most"] sp_law_offices := by
  refine T.F_law_offices.ok sc_law_offices (fun vs H Q E h => ?_) (fun cdv A outer s H vs Q E hr h => ?_)
  · obtain ⟨d, c, m, rfl, _⟩ := h
    rfl
  · obtain ⟨d, c, m, rfl, hD, m3, m12, q⟩ := h
    refine ⟨_, (pss_cons (ps_if (pt_cmpR op_eq (pe_call (ok_law_draw T) (hr.mono (by first | decide | omega)) (by rfl) T.g_law_draw T.F_law_draw.kp (T.b_law_draw) .nil pass0 (pa_cons (pv 0) (pa_cons pe_int pa_nil))) pe_int (nomark _))
  (pss_one (ps_ret (pe_op op_add pe_int (pe_call (ok_law_draw T) (hr.mono (by first | decide | omega)) (by rfl) T.g_law_draw T.F_law_draw.kp (T.b_law_draw) .nil pass0 (pa_cons (pv 0) (pa_cons (pv 1) pa_nil))))))
  pss_nil)
  (pss_one (ps_ret (pe_op op_add pe_int (pe_call (ok_law_draw T) (hr.mono (by first | decide | omega)) (by rfl) T.g_law_draw T.F_law_draw.kp (T.b_law_draw) .nil pass0 (pa_cons (pv 0) (pa_cons (pe_op op_sub (pv 1) pe_int) pa_nil))))))), ?_⟩
    walk_at "go"
    refine ⟨d, c, 8, rfl, hD, by decide, by decide, fun H1 z f1 hD1 _ _ => ?_⟩
    walk_at "go"
    refine g_ite (fun e0 => ?_) (fun e0 => ?_)
    · walk_at "go"
      refine ⟨d, c, m, rfl, hD1, by omega, by omega, fun H2 o f2 hD2 o0 o1 => ?_⟩
      walk_at "go"
      exact q _ _ (f1.trans f2) hD2 (by omega) (by omega)
    · walk_at "go"
      refine ⟨d, c, m - 2, rfl, hD1, by omega, by omega, fun H2 o f2 hD2 o0 o1 => ?_⟩
      walk_at "go"
      exact q _ _ (f1.trans f2) hD2 (by omega) (by omega)

end

section
variable {P : Program} {w : World} {K : PySem.W.Frag} {mg : Str → Option Value} {base : Heap} {a : Ad}
def sp_law_some (K : PySem.W.Frag) : Sp := fun vs H Q _ => ∃ (d c p : Addr) (zs : List V), vs = [.ref d, .ref p] ∧ Dice d c H ∧ H p = some (.lst zs) ∧ p ≠ d ∧ 0 < zs.length ∧ zs.length ≤ 1000 ∧ ∀ H' z, Fr d H H' → Dice d c H' → z ∈ zs → Q z H'
theorem ok_law_some (T : Txt K mg a) : FnOk P w K mg base CX0 2 a.f_law_some a.d_law_some ["_law_hand_here", "_law_things"] (sp_law_some K) := by
  refine T.F_law_some.ok sc_law_some (fun vs H Q E h => ?_) (fun cdv A outer s H vs Q E hr h => ?_)
  · obtain ⟨d, c, p, zs, rfl, _⟩ := h
    rfl
  · obtain ⟨d, c, p, zs, rfl, hD, hp, hne, l1, l2, q⟩ := h
    refine ⟨_, (pss_one (ps_ret (pe_ix (kIxL K rfl) (pv 1) (pe_call (ok_law_draw T) (hr.mono (by first | decide | omega)) (by rfl) T.g_law_draw T.F_law_draw.kp (T.b_law_draw) .nil pass0 (pa_cons (pv 0) (pa_cons (pe_callB (kLen K rfl) (by rfl) T.z_len (by decide +kernel) (pa_cons (pv 1) pa_nil)) pa_nil))) (fun _ _ => rfl)))), ?_⟩
    walk_at "go"
    refine ⟨_, _, rfl, .inl (SqL.at hp), ?_⟩
    walk_at "go"
    refine ⟨d, c, (zs.length : Nat), rfl, hD, by omega, by omega, fun H1 k f1 hD1 k0 k1 => ?_⟩
    have gz := List.getElem?_eq_getElem (show k.toNat < zs.length by omega)
    refine g_ixL (SqL.at (f1 _ _ hne hp)) (atI_at k0 gz) ?_
    exact q _ _ f1 hD1 (List.mem_of_getElem? gz)

end

section
variable {P : Program} {w : World} {K : PySem.W.Frag} {mg : Str → Option Value} {base : Heap} {a : Ad}
/-! ### a thing spoiled -/
section
variable {d C : Addr} {H : Hp} {m : Nat}
theorem ret3 {p : Addr} {x0 x1 x2 : V} {pt : Option (List V)} (h0 : Th K d C H x0) (h2 : Th K d C H x2) (h1 : PartV K d C H m x1 pt) (np : H p = none) : Thing K d C (upd H p (.tup [x0, x1, x2])) m (.ref p) (.three x0 pt x2) :=
  ⟨p, x1, rfl, SqT.new, h0.fr (Fr.new np) (Tx.new np), h2.fr (Fr.new np) (Tx.new np), h1.fr (Fr.new np) (Tx.new np) (Nat.le_refl _)⟩
theorem splice {ys : List V} {x : V} {i j : Nat} (hy : ∀ y ∈ ys, Th K d C H y) (hx : Th K d C H x) : ∀ y ∈ ys.take i ++ [x] ++ ys.drop j, Th K d C H y := fun y h => by
  rcases List.mem_append.mp h with h | h
  · rcases List.mem_append.mp h with h | h
    · exact hy y (List.mem_of_mem_take h)
    · rw [List.mem_singleton.mp h]; exact hx
  · exact hy y (List.mem_of_mem_drop h)
theorem splice_len {ys : List V} {x : V} {i j : Nat} (h : i ≤ j) : (ys.take i ++ [x] ++ ys.drop j).length ≤ ys.length + 1 := by
  rw [List.length_append, List.length_append, List.length_take, List.length_drop, List.length_singleton]
  omega
theorem DeepAt.th0 {H' : Hp} {v : V} (h : DeepAt K H H' 0 v) : ∃ p t ys, v = .ref p ∧ SqT K H' p [.ref t] ∧ SqT K H' t ys := by
  obtain ⟨p, e, ⟨_, t, ys, h⟩ | ⟨z, _⟩ | ⟨z, _⟩⟩ := h
  · exact ⟨p, t, ys, e, h⟩
  · cases z
  · cases z
theorem DeepAt.th1 {H' : Hp} {v : V} (hd : H d ≠ none) (h : DeepAt K H H' 1 v) : Nt d C H' v := by
  obtain ⟨p, e, ⟨z, _⟩ | ⟨_, n, xs, h⟩ | ⟨z, _⟩⟩ := h
  · cases z
  · rw [e]; exact .lst h (fun z => hd (z ▸ n))
  · cases z
theorem DeepAt.th2 {H' : Hp} {v : V} (h : DeepAt K H H' 2 v) : ∃ p x y, v = .ref p ∧ SqT K H' p [x, y] := by
  obtain ⟨p, e, ⟨z, _⟩ | ⟨z, _⟩ | ⟨_, x, y, h⟩⟩ := h
  · cases z
  · cases z
  · exact ⟨p, x, y, e, h⟩
end
def sp_law_spoiled (K : PySem.W.Frag) (C : Addr) : Sp := fun vs H Q _ => ∃ (d c : Addr) (n : Int) (rv : V) (rs : List Row) (b : Bool) (v odd : V) (m : Nat) (sh : Sh), vs = [.ref d, .int n, rv, .str (sideS b), v, odd] ∧ Dice d c H ∧ Dp K H rv (rowsD rs) ∧ (∀ r ∈ rs, GoodRow n r) ∧ 1 ≤ n ∧ n ≤ 12 ∧ rs.length ≤ 60 ∧ Thing K d C H m v sh ∧ m ≤ 1000 ∧ Nt d C H odd ∧ ∀ H' v' sh', Fr d H H' → Dice d c H' → Thing K d C H' (m + 1) v' sh' → Q v' H'
set_option maxHeartbeats 8000000 in
theorem ok_law_spoiled (T : Txt K mg a) : FnOk P w K mg base CX0 3 a.f_law_spoiled a.d_law_spoiled ["_law_hand_here", "_law_offices_here", "_law_rows_here", "_law_side", "_law_thing", "_law_odd"] (sp_law_spoiled K a.c_Log) := by
  refine T.F_law_spoiled.ok sc_law_spoiled (fun vs H Q E h => ?_) (fun cdv A outer s H vs Q E hr h => ?_)
  · obtain ⟨d, c, n, rv, rs, b, v, odd, m, sh, rfl, _⟩ := h
    rfl
  · obtain ⟨d, c, n, rv, rs, b, v, odd, m, sh, rfl, hD, hrv, hgood, n1, n12, hmax, hv, hm, hodd, q⟩ := h
    refine ⟨_, (pss_cons (ps_if (PW.pt (pw_or (pt_not (pt_val (pe_callB (kIsi K rfl) (by rfl) T.z_isinstance (by decide +kernel) (pa_cons (pv 4) (pa_cons (pe_bltn (v := .ty "tuple") (by rfl) T.z_tuple (by decide +kernel) rfl) pa_nil))))) (pw_or (pt_cmpR op_ne (pe_callB (kLen K rfl) (by rfl) T.z_len (by decide +kernel) (pa_cons (pv 4) pa_nil)) pe_int (nomark _)) (pw_or1 (pt_not (pt_val (pe_callB (kIsi K rfl) (by rfl) T.z_isinstance (by decide +kernel) (pa_cons (pe_ix (kIxT K rfl) (pv 4) pe_int (fun _ _ => rfl)) (pa_cons (pe_bltn (v := .ty "tuple") (by rfl) T.z_tuple (by decide +kernel) rfl) pa_nil)))))))))
  (pss_one (ps_ret (pv 4)))
  pss_nil)
  (pss_cons (ps_asg (pv 4) (kgTup K rfl rfl (pgs_cons (pg_name (i := 6) sc_law_spoiled.nd rfl (.inl rfl)) (pgs_cons (pg_name (i := 7) sc_law_spoiled.nd rfl (.inl rfl)) (pgs_cons (pg_name (i := 8) sc_law_spoiled.nd rfl (.inl rfl)) pgs_nil)))))
  (pss_cons (ps_set (i := 9) sc_law_spoiled.nd rfl (.inl rfl) (pe_call (ok_law_draw T) (hr.mono (by first | decide | omega)) (by rfl) T.g_law_draw T.F_law_draw.kp (T.b_law_draw) .nil pass0 (pa_cons (pv 0) (pa_cons pe_int pa_nil))))
  (pss_cons (ps_set (i := 10) sc_law_spoiled.nd rfl (.inl rfl) (pe_lst (pa_cons pe_int (pa_cons (pv 1) (pa_cons (pe_op op_add (pv 1) pe_int) (pa_cons (pe_un un_neg pe_int) (pa_cons pe_bl (pa_cons pe_non (pa_cons pe_str (pa_cons (pe_tup (pa_cons pe_int pa_nil)) (pa_cons (pe_op op_pow pe_int pe_int) (pa_cons (pe_call (ok_law_draw T) (hr.mono (by first | decide | omega)) (by rfl) T.g_law_draw T.F_law_draw.kp (T.b_law_draw) .nil pass0 (pa_cons (pv 0) (pa_cons (pe_op op_add (pv 1) pe_int) pa_nil))) (pa_cons (pv 5) pa_nil)))))))))))))
  (pss_cons (ps_set (i := 11) sc_law_spoiled.nd rfl (.inl rfl) (pe_call (ok_law_some T) (hr.mono (by first | decide | omega)) (by rfl) T.g_law_some T.F_law_some.kp (T.b_law_some) .nil pass0 (pa_cons (pv 0) (pa_cons (pv 10) pa_nil))))
  (pss_cons (ps_set (i := 12) sc_law_spoiled.nd rfl (.inl rfl) (pe_call (ok_law_draw T) (hr.mono (by first | decide | omega)) (by rfl) T.g_law_draw T.F_law_draw.kp (T.b_law_draw) .nil pass0 (pa_cons (pv 0) (pa_cons (pe_op op_add (pe_callB (kLen K rfl) (by rfl) T.z_len (by decide +kernel) (pa_cons (pv 7) pa_nil)) pe_int) pa_nil))))
  (pss_cons (ps_if (pt_cmpR op_eq (pv 9) pe_int (nomark _))
  (pss_one (ps_ret (pe_call (ok_law_some T) (hr.mono (by first | decide | omega)) (by rfl) T.g_law_some T.F_law_some.kp (T.b_law_some) .nil pass0 (pa_cons (pv 0) (pa_cons (pe_lst (pa_cons (pe_tup (pa_cons (pv 11) (pa_cons (pv 7) (pa_cons (pv 8) pa_nil)))) (pa_cons (pe_tup (pa_cons (pv 6) (pa_cons (pv 7) (pa_cons (pv 11) pa_nil)))) pa_nil))) pa_nil)))))
  pss_nil)
  (pss_cons (ps_if (PW.pt (pw_and (pt_cmpR op_eq (pv 9) pe_int (nomark _)) (pw_and (pt_cmpR op_lt (pv 12) (pe_callB (kLen K rfl) (by rfl) T.z_len (by decide +kernel) (pa_cons (pv 2) pa_nil)) (nomark _)) (pw_and1 (pt_cmpR op_lt (pv 12) (pe_callB (kLen K rfl) (by rfl) T.z_len (by decide +kernel) (pa_cons (pv 7) pa_nil)) (nomark _))))))
  (pss_cons (ps_set (i := 13) sc_law_spoiled.nd rfl (.inl rfl) (pe_call (ok_law_bars T) (hr.mono (by first | decide | omega)) (by rfl) T.g_law_bars T.F_law_bars.kp (T.b_law_bars) .nil pass0 (pa_cons (pv 3) (pa_cons (pe_ix (kIxT K rfl) (pv 2) (pv 12) (fun _ _ => rfl)) pa_nil))))
  (pss_one (ps_ret (pe_tup (pa_cons (pv 6) (pa_cons (pe_op (kCatA K rfl) (pe_op (kCatA K rfl) (pe_slice (kSlA K rfl) (pv 7) po_none (po_some (pv 12))) (pe_tup (pa_cons (pe_ifExp (pt_cmpR op_ge (pv 13) pe_int (nomark _)) (pv 13) (pv 11)) pa_nil))) (pe_slice (kSlA K rfl) (pv 7) (po_some (pe_op op_add (pv 12) pe_int)) po_none)) (pa_cons (pv 8) pa_nil)))))))
  pss_nil)
  (pss_cons (ps_if (pt_cmpR op_eq (pv 9) pe_int (nomark _))
  (pss_one (ps_ret (pe_tup (pa_cons (pv 6) (pa_cons (pe_call (ok_law_some T) (hr.mono (by first | decide | omega)) (by rfl) T.g_law_some T.F_law_some.kp (T.b_law_some) .nil pass0 (pa_cons (pv 0) (pa_cons (pe_lst (pa_cons (pe_op (kCatA K rfl) (pe_op (kCatA K rfl) (pe_slice (kSlA K rfl) (pv 7) po_none (po_some (pv 12))) (pe_tup (pa_cons (pv 11) pa_nil))) (pe_slice (kSlA K rfl) (pv 7) (po_some (pv 12)) po_none)) (pa_cons (pe_slice (kSlA K rfl) (pv 7) (po_some pe_int) po_none) (pa_cons (pe_callTy (kLstOf K rfl) (by rfl) T.z_list (by decide +kernel) (pa_cons (pv 7) pa_nil)) (pa_cons pe_non (pa_cons (pe_tup pa_nil) pa_nil)))))) pa_nil))) (pa_cons (pv 8) pa_nil))))))
  pss_nil)
  (pss_cons (ps_if (pt_cmpR op_eq (pv 9) pe_int (nomark _))
  (pss_cons (ps_set (i := 14) sc_law_spoiled.nd rfl (.inl rfl) (pe_lst (pa_cons (pe_lst (pa_cons (pv 6) (pa_cons (pv 7) (pa_cons (pv 8) pa_nil)))) (pa_cons (pe_tup (pa_cons (pv 6) (pa_cons (pv 7) pa_nil))) (pa_cons (pe_tup (pa_cons (pv 6) (pa_cons (pv 7) (pa_cons (pv 8) (pa_cons pe_int pa_nil))))) (pa_cons pe_non (pa_cons (pe_tup pa_nil) (pa_cons pe_int (pa_cons pe_str (pa_cons pe_dnewK (pa_cons pe_bl (pa_cons (pv 5) pa_nil))))))))))))
  (pss_cons (ps_set (i := 14) sc_law_spoiled.nd rfl (.inl rfl) (pe_op op_cat (pv 14) (pe_lst (pa_cons (pe_call (ok_law_deep T) (hr.mono (by first | decide | omega)) (by rfl) T.g_law_deep T.F_law_deep.kp (T.b_law_deep) .nil pass0 (pa_cons pe_int pa_nil)) (pa_cons (pe_call (ok_law_deep T) (hr.mono (by first | decide | omega)) (by rfl) T.g_law_deep T.F_law_deep.kp (T.b_law_deep) .nil pass0 (pa_cons pe_int pa_nil)) (pa_cons (pe_tup (pa_cons (pv 8) (pa_cons (pv 7) (pa_cons (pv 6) pa_nil)))) (pa_cons (pe_tup (pa_cons (pv 6) (pa_cons (pe_call (ok_law_deep T) (hr.mono (by first | decide | omega)) (by rfl) T.g_law_deep T.F_law_deep.kp (T.b_law_deep) .nil pass0 (pa_cons pe_int pa_nil)) (pa_cons (pv 8) pa_nil)))) pa_nil)))))))
  (pss_one (ps_ret (pe_call (ok_law_some T) (hr.mono (by first | decide | omega)) (by rfl) T.g_law_some T.F_law_some.kp (T.b_law_some) .nil pass0 (pa_cons (pv 0) (pa_cons (pv 14) pa_nil)))))))
  pss_nil)
  (pss_one (ps_ret (pe_tup (pa_cons (pv 6) (pa_cons (pe_op (kCatA K rfl) (pe_op (kCatA K rfl) (pe_slice (kSlA K rfl) (pv 7) po_none (po_some (pv 12))) (pe_tup (pa_cons (pv 11) pa_nil))) (pe_slice (kSlA K rfl) (pv 7) (po_some (pe_op op_add (pv 12) pe_int)) po_none)) (pa_cons (pv 8) pa_nil)))))))))))))))), ?_⟩
    walk_at "go"
    cases sh with
    | no =>
      rcases hv with hv | ⟨vp, xs, rfl, hvp, hne⟩
      · obtain ⟨t, t1, t2⟩ := hv.tup (ownC T)
        refine g_isi t1 t2 ?_
        walk_at "go"
        exact q _ _ .no (Fr.refl d H) hD (.inl hv)
      · refine g_isi (TyX.tup hvp) (b := true) (kit_ty (a := "tuple") (by decide +kernel)) ?_
        walk_at "go"
        refine ⟨_, _, rfl, .inr hvp, ?_⟩
        walk_at "go"
        rw [decide_eq_false (show ¬ ((xs.length : Nat) : Int) = 3 by omega)]
        walk_at "go"
        exact q _ _ .no (Fr.refl d H) hD (.inr ⟨vp, xs, rfl, hvp, hne⟩)
    | three x0 pt x2 =>
      obtain ⟨vp, x1, rfl, hvp, h0, h2, h1⟩ := hv
      refine g_isi (TyX.tup hvp) (b := true) (kit_ty (a := "tuple") (by decide +kernel)) ?_
      walk_at "go"
      refine ⟨_, _, rfl, .inr hvp, ?_⟩
      walk_at "go"
      rw [decide_eq_true (show (([x0, x1, x2].length : Nat) : Int) = 3 from rfl)]
      walk_at "go"
      refine g_ixT hvp (v := x1) rfl ?_
      walk_at "go"
      cases pt with
      | none =>
        obtain ⟨t, t1, t2⟩ := Nt.tup (ownC T) h1
        refine g_isi t1 t2 ?_
        walk_at "go"
        exact q _ _ (.three x0 none x2) (Fr.refl d H) hD ⟨vp, x1, rfl, hvp, h0, h2, h1⟩
      | some zs =>
        obtain ⟨t, rfl, ht, hzl, hzs⟩ := h1
        refine g_isi (TyX.tup ht) (b := true) (kit_ty (a := "tuple") (by decide +kernel)) ?_
        walk_at "go"
        refine ⟨vp, _, rfl, hvp, rfl, _, _, rfl, _, _, rfl, _, _, rfl, rfl, ?_⟩
        obtain ⟨p, ys, rfl, hp, ha⟩ := of_tup hrv
        have hl := DpAll.len ha
        rw [List.length_map] at hl
        walk_at "go"
        refine ⟨d, c, 6, rfl, hD, by decide, by decide, fun H1 kd F1 hD1 kd0 kd1 => ?_⟩
        walk_at "go"
        refine ⟨by show 1 ≤ sizeLine; decide, fun t0 nt0 => ?_⟩
        walk_at "go"
        refine g_rI ⟨by decide, by decide, by decide⟩ ?_
        walk_at "go"
        refine ⟨d, c, n + 1, rfl, hD1.new nt0, by omega, by omega, fun H2 dc f2 hD2 dc0 dc1 => ?_⟩
        have F2 := (F1.trans (Fr.new nt0)).trans f2
        walk_at "go"
        refine ⟨by show 11 ≤ sizeLine; decide, fun L nL => ?_⟩
        walk_at "go"
        refine ⟨d, c, L, _, rfl, hD2.new nL, upd_same, hD2.nd nL, by show 0 < 11; decide, by show 11 ≤ 1000; decide, fun H3 cut f3 hD3 hcut => ?_⟩
        have F3 := (F2.trans (Fr.new nL)).trans f3
        have ht03 : SqT K H3 t0 [.int 0] := ((hD1.new nt0).tx (f2.trans ((Fr.new nL).trans f3))).seq SqT.new
        have hcut3 : Th K d a.c_Log H3 cut := by
          simp only [List.mem_cons, List.not_mem_nil, or_false] at hcut
          rcases hcut with rfl | rfl | rfl | rfl | rfl | rfl | rfl | rfl | rfl | rfl | rfl
          · exact .int _
          · exact .int _
          · exact .int _
          · exact .int _
          · exact .inl (.bl _)
          · exact .inl .non
          · exact .inl (.str _)
          · exact .tup ht03
          · exact .int _
          · exact .int _
          · exact .inl (hodd.fr F3)
        have X3 := hD.tx F3
        walk_at "go"
        refine ⟨_, _, rfl, .inr (X3.seq ht), ?_⟩
        walk_at "go"
        refine ⟨d, c, ((zs.length : Nat) : Int) + 1, rfl, hD3, by omega, by omega, fun H4 at_ f4 hD4 at0 at1 => ?_⟩
        have F4 := F3.trans f4
        have X4 := hD.tx F4
        have hcut4 := hcut3.fr f4 (hD3.tx f4)
        have g0 := h0.fr F4 X4
        have g2 := h2.fr F4 X4
        have gt := X4.seq ht
        have gs : ∀ y ∈ zs, Th K d a.c_Log H4 y := fun y hy => (hzs y hy).fr F4 X4
        have godd := hodd.fr F4
        have gp := X4.seq hp
        clear X3 hcut3 ht03 hcut F3 f4 f3 hD3
        have eat : at_ = ((at_.toNat : Nat) : Int) := by omega
        have hz62 : zs.length ≤ 1000 := Nat.le_trans hzl hm
        have small : ∀ {x : Nat}, x ≤ 2000 → x ≤ sizeLine := fun h => Nat.le_trans h (by decide)
        walk_at "go"
        refine g_ite (fun e0 => ?_) (fun e0 => ?_)
        · walk_at "go"
          refine ⟨by show 3 ≤ sizeLine; decide, fun p1 np1 => ?_⟩
          walk_at "go"
          refine ⟨by show 3 ≤ sizeLine; decide, fun p2 np2 => ?_⟩
          walk_at "go"
          refine ⟨by show 2 ≤ sizeLine; decide, fun L2_ nL2 => ?_⟩
          walk_at "go"
          have hD5 := ((hD4.new (o := .tup [cut, .ref t, x2]) np1).new (o := .tup [x0, .ref t, cut]) np2).new (o := .lst [.ref p1, .ref p2]) nL2
          have f5 := ((Fr.new (d := d) (o := .tup [cut, .ref t, x2]) np1).trans (Fr.new (o := .tup [x0, .ref t, cut]) np2)).trans (Fr.new (o := .lst [.ref p1, .ref p2]) nL2)
          have r1 := ret3 (K := K) (C := a.c_Log) (m := m) (pt := some zs) hcut4 g2 ⟨t, rfl, gt, hzl, gs⟩ np1
          have r2 := ret3 (K := K) (C := a.c_Log) (m := m) (pt := some zs) (g0.fr (Fr.new (o := .tup [cut, .ref t, x2]) np1) (Tx.new np1)) (hcut4.fr (Fr.new (o := .tup [cut, .ref t, x2]) np1) (Tx.new np1)) ⟨t, rfl, (Tx.new np1).seq gt, hzl, fun y hy => (gs y hy).fr (Fr.new np1) (Tx.new np1)⟩ np2
          refine ⟨d, c, L2_, _, rfl, hD5, upd_same, (((hD4.new np1).new np2).nd nL2), by show 0 < 2; decide, by show 2 ≤ 1000; decide, fun H5 z f6 hD6 hz => ?_⟩
          simp only [List.mem_cons, List.not_mem_nil, or_false] at hz
          rcases hz with rfl | rfl
          · exact q _ _ _ ((F4.trans f5).trans f6) hD6 (r1.fr (((Fr.new np2).trans (Fr.new nL2)).trans f6) ((hD4.new np1).tx (((Fr.new np2).trans (Fr.new nL2)).trans f6)) (Nat.le_succ _))
          · exact q _ _ _ ((F4.trans f5).trans f6) hD6 (r2.fr ((Fr.new nL2).trans f6) (((hD4.new np1).new np2).tx ((Fr.new nL2).trans f6)) (Nat.le_succ _))
        · walk_at "gs"
          refine seq_cut (fun σ' H' => σ' = [some (.ref d), some (.int n), some (.ref p), some (.str (sideS b)), some (.ref vp), some odd, some x0, some (.ref t), some x2, some (.int kd), some (.ref L), some cut, some (.int at_), none, none] ∧ H' = H4) ?_ ?_
          · rintro σ' H' ⟨rfl, rfl⟩
            walk_at "go"
            refine g_ite (fun e1 => ?_) (fun e1 => ?_)
            · walk_at "go"
              refine g_slA gt (fun p2 H5 s5 h5 => ?_)
              rw [eat, cutV_take] at h5
              walk_at "go"
              refine ⟨by show 1 ≤ sizeLine; decide, fun p3 n3 => ?_⟩
              refine g_catA ((Tx.new n3).seq h5) SqT.new (small (by simp only [List.length_take, List.length_cons, List.length_nil]; omega)) (fun p4 H6 s6 h6 => ?_)
              walk_at "go"
              have s46 : Same H' H6 := fun b_ o_ e_ => s6 _ _ (same_new n3 _ _ (s5 _ _ e_))
              refine g_slA ((Tx.of s46).seq gt) (fun p5 H7 s7 h7 => ?_)
              rw [eat, cutV_drop] at h7
              refine g_catA ((Tx.of s7).seq h6) h7 (small (by simp only [List.length_append, List.length_take, List.length_drop, List.length_cons, List.length_nil]; omega)) (fun p6 H8 s8 h8 => ?_)
              walk_at "go"
              have s48 : Same H' H8 := s46.trans (s7.trans s8)
              refine g_slA ((Tx.of s48).seq gt) (fun p7 H9 s9 h9 => ?_)
              rw [show (1 : Int) = ((1 : Nat) : Int) from rfl, cutV_drop] at h9
              walk_at "go"
              have s49 := s48.trans s9
              refine ⟨_, _, rfl, .inr ((Tx.of s49).seq gt), fun l nl => ?_⟩
              walk_at "go"
              refine ⟨Nat.zero_le _, fun t1 nt1 => ?_⟩
              walk_at "go"
              refine ⟨by show 5 ≤ sizeLine; decide, fun L2_ nL2 => ?_⟩
              walk_at "go"
              have sl : Same H9 (upd (upd H9 l (.lst zs)) t1 (.tup [])) := (same_new nl).trans (same_new nt1)
              have s50 := s49.trans sl
              have hD9 := hD4.fr s50
              refine ⟨d, c, L2_, _, rfl, hD9.new nL2, upd_same, hD9.nd nL2, by show 0 < 5; decide, by show 5 ≤ 1000; decide, fun H10 z f10 hD10 hz => ?_⟩
              walk_at "go"
              refine ⟨by show 3 ≤ sizeLine; decide, fun p8 n8 => ?_⟩
              have fz := (Fr.new nL2).trans f10
              have xz := hD9.tx fz
              have F10 := (Fr.of s50).trans fz
              have X10 := (Tx.of s50).trans xz
              obtain ⟨pt', hpt⟩ : ∃ pt', PartV K d a.c_Log H10 (m + 1) z pt' := by
                simp only [List.mem_cons, List.not_mem_nil, or_false] at hz
                rcases hz with rfl | rfl | rfl | rfl | rfl
                · exact ⟨some _, p6, rfl, xz.seq ((Tx.of (s9.trans sl)).seq h8), Nat.le_trans (splice_len (Nat.le_refl _)) (by omega), splice (fun y hy => (gs y hy).fr F10 X10) (hcut4.fr F10 X10)⟩
                · exact ⟨some _, p7, rfl, xz.seq ((Tx.of sl).seq h9), by rw [List.length_drop]; omega, fun y hy => (gs y (List.mem_of_mem_drop hy)).fr F10 X10⟩
                · exact ⟨none, .lst (fz _ _ ((hD4.fr s49).nd nl) ((same_new nt1) _ _ upd_same)) ((hD4.fr s49).nd nl)⟩
                · exact ⟨none, .non⟩
                · exact ⟨some [], t1, rfl, xz.seq SqT.new, Nat.zero_le _, fun y hy => by cases hy⟩
              exact q _ _ _ ((F4.trans F10).trans (Fr.new n8)) (hD10.new n8) (ret3 (K := K) (C := a.c_Log) (m := m + 1) (g0.fr F10 X10) (g2.fr F10 X10) hpt n8)
            · walk_at "go"
              refine g_ite (fun e2 => ?_) (fun e2 => ?_)
              · walk_at "go"
                refine ⟨by show 3 ≤ sizeLine; decide, fun l1 k1 => ?_⟩
                walk_at "go"
                refine ⟨by show 2 ≤ sizeLine; decide, fun t2 k2 => ?_⟩
                walk_at "go"
                refine ⟨by show 4 ≤ sizeLine; decide, fun t3 k3 => ?_⟩
                walk_at "go"
                refine ⟨Nat.zero_le _, fun t4 k4 => ?_⟩
                walk_at "go"
                refine fun m5 k5 => ?_
                walk_at "go"
                have r5 := same_new (o := .dK []) k5
                have r4 := (same_new (o := .tup []) k4).trans r5
                have r3 := (same_new (o := .tup [x0, .ref t, x2, .int 0]) k3).trans r4
                have r2 := (same_new (o := .tup [x0, .ref t]) k2).trans r3
                have r1 := (same_new (o := .lst [x0, .ref t, x2]) k1).trans r2
                have n5 : m5 ≠ d := (hD4.fr ((((same_new (o := .lst [x0, .ref t, x2]) k1).trans (same_new (o := .tup [x0, .ref t]) k2)).trans (same_new (o := .tup [x0, .ref t, x2, .int 0]) k3)).trans (same_new (o := .tup []) k4))).nd k5
                refine ⟨by show 10 ≤ sizeLine; decide, fun l6 k6 => ?_⟩
                walk_at "go"
                refine ⟨0, rfl, .inl rfl, fun Ha va sa da => ?_⟩
                walk_at "go"
                refine ⟨1, rfl, .inr (.inl rfl), fun Hb vb sb db => ?_⟩
                walk_at "go"
                refine ⟨by show 3 ≤ sizeLine; decide, fun t7 k7 => ?_⟩
                walk_at "go"
                refine ⟨0, rfl, .inl rfl, fun Hc vc sc dc_ => ?_⟩
                have SC := (same_new k7).trans sc
                walk_at "go"
                refine ⟨by show 3 ≤ sizeLine; decide, fun t8 k8 => ?_⟩
                walk_at "go"
                refine ⟨by show 4 ≤ sizeLine; decide, fun l9 k9 => ?_⟩
                walk_at "go"
                have S9 := (same_new (o := .tup [x0, vc, x2]) k8).trans (same_new (o := .lst [va, vb, .ref t7, .ref t8]) k9)
                have S69 := (sa.trans (sb.trans SC)).trans S9
                refine ⟨l6, l9, _, _, rfl, rfl, S69 _ _ upd_same, upd_same, by show 14 ≤ sizeLine; decide, fun l10 k10 => ?_⟩
                walk_at "go"
                have S59 := (same_new k6).trans S69
                have SS := r1.trans S59
                have hD9 := hD4.fr SS
                have hDa := hD4.fr (r1.trans ((same_new k6).trans sa))
                have hda : Ha d ≠ none := fun z => by
                  obtain ⟨_, _, _, _, _, z1, _⟩ := hDa
                  rw [z] at z1
                  cases z1
                refine ⟨d, c, l10, _, rfl, hD9.new k10, upd_same, hD9.nd k10, by show 0 < 14; decide, by show 14 ≤ 1000; decide, fun H11 z f11 hD11 hz => ?_⟩
                have fz := (Fr.new k10).trans f11
                have xz := hD9.tx fz
                have F11 := (Fr.of SS).trans fz
                have X11 := (Tx.of SS).trans xz
                have n1 : l1 ≠ d := hD4.nd k1
                obtain ⟨sh', hsh⟩ : ∃ sh', Thing K d a.c_Log H11 (m + 1) z sh' := by
                  simp only [List.mem_append, List.mem_cons, List.not_mem_nil, or_false] at hz
                  rcases hz with (rfl | rfl | rfl | rfl | rfl | rfl | rfl | rfl | rfl | rfl) | (rfl | rfl | rfl | rfl)
                  · exact ⟨.no, .inl (.lst (fz _ _ n1 (S59 _ _ (r2 _ _ upd_same))) n1)⟩
                  · exact ⟨.no, .inr ⟨t2, _, rfl, xz.seq ((Tx.of (r3.trans S59)).seq SqT.new), by show 2 ≠ 3; decide⟩⟩
                  · exact ⟨.no, .inr ⟨t3, _, rfl, xz.seq ((Tx.of (r4.trans S59)).seq SqT.new), by show 4 ≠ 3; decide⟩⟩
                  · exact ⟨.no, .inl .non⟩
                  · exact ⟨.no, .inr ⟨t4, _, rfl, xz.seq ((Tx.of (r5.trans S59)).seq SqT.new), by show 0 ≠ 3; decide⟩⟩
                  · exact ⟨.no, .inl (.int _)⟩
                  · exact ⟨.no, .inl (.str _)⟩
                  · exact ⟨.no, .inl (.dct (fz _ _ n5 (S59 _ _ upd_same)) n5)⟩
                  · exact ⟨.no, .inl (.bl _)⟩
                  · exact ⟨.no, .inl (godd.fr F11)⟩
                  · obtain ⟨pp, tt, yy, rfl, e1, _⟩ := da.th0
                    exact ⟨.no, .inr ⟨pp, _, rfl, xz.seq ((Tx.of (sb.trans (SC.trans S9))).seq e1), by show 1 ≠ 3; decide⟩⟩
                  · exact ⟨.no, .inl ((DeepAt.th1 hda db).fr ((Fr.of (SC.trans S9)).trans fz))⟩
                  · exact ⟨.three x2 (some zs) x0, t7, .ref t, rfl, xz.seq ((Tx.of (sc.trans S9)).seq SqT.new), g2.fr F11 X11, g0.fr F11 X11, t, rfl, X11.seq gt, Nat.le_succ_of_le hzl, fun y hy => (gs y hy).fr F11 X11⟩
                  · obtain ⟨pp, tt, yy, rfl, e1, e2⟩ := dc_.th0
                    exact ⟨.three x0 (some [.ref tt]) x2, t8, .ref pp, rfl, xz.seq ((Tx.of (same_new k9)).seq SqT.new), g0.fr F11 X11, g2.fr F11 X11, pp, rfl, xz.seq ((Tx.of S9).seq e1), by show 1 ≤ m + 1; omega, fun y hy => by
                      rw [List.mem_singleton.mp hy]
                      exact .tup (xz.seq ((Tx.of S9).seq e2))⟩
                exact q _ _ _ (F4.trans F11) hD11 hsh
              · walk_at "go"
                refine g_slA gt (fun p2 H5 s5 h5 => ?_)
                rw [eat, cutV_take] at h5
                walk_at "go"
                refine ⟨by show 1 ≤ sizeLine; decide, fun p3 n3 => ?_⟩
                refine g_catA ((Tx.new n3).seq h5) SqT.new (small (by simp only [List.length_take, List.length_cons, List.length_nil]; omega)) (fun p4 H6 s6 h6 => ?_)
                walk_at "go"
                have s46 : Same H' H6 := fun b_ o_ e_ => s6 _ _ (same_new n3 _ _ (s5 _ _ e_))
                refine g_slA ((Tx.of s46).seq gt) (fun p5 H7 s7 h7 => ?_)
                rw [show at_ + 1 = ((at_.toNat + 1 : Nat) : Int) by omega, cutV_drop] at h7
                refine g_catA ((Tx.of s7).seq h6) h7 (small (by simp only [List.length_append, List.length_take, List.length_drop, List.length_cons, List.length_nil]; omega)) (fun p6 H8 s8 h8 => ?_)
                walk_at "go"
                refine ⟨by show 3 ≤ sizeLine; decide, fun p7 n7 => ?_⟩
                have s48 : Same H' H8 := s46.trans (s7.trans s8)
                have F8 : Fr d H' H8 := Fr.of s48
                have X8 : Tx H' H8 := Tx.of s48
                exact q _ _ _ ((F4.trans F8).trans (Fr.new n7)) ((hD4.fr s48).new n7) (ret3 (K := K) (C := a.c_Log) (m := m + 1) (pt := some _) (g0.fr F8 X8) (g2.fr F8 X8) ⟨p6, rfl, h8, Nat.le_trans (splice_len (by omega)) (by omega), splice (fun y hy => (gs y hy).fr F8 X8) (by first | exact Th.int _ | exact hcut4.fr F8 X8)⟩ n7)
          · intro N hN
            walk_at "go"
            refine g_ite (fun e1 => ?_) (fun e1 => ?_)
            · walk_at "go"
              refine ⟨_, _, rfl, .inr gp, ?_⟩
              walk_at "go"
              refine g_ite (fun e2 => ?_) (fun e2 => ?_)
              · walk_at "go"
                refine ⟨_, _, rfl, .inr gt, ?_⟩
                walk_at "go"
                refine g_ite (fun e3 => ?_) (fun e3 => ?_)
                · have gr := List.getElem?_eq_getElem (show at_.toNat < rs.length by omega)
                  generalize rs[at_.toNat] = r at gr
                  obtain ⟨y, gy⟩ : ∃ y, ys[at_.toNat]? = some y := ⟨_, List.getElem?_eq_getElem (by omega)⟩
                  obtain ⟨dd, gd, rd⟩ := DpAll.get (Dp.txAll X4 _ _ (imAll_map im_rowD _) ha) gy
                  obtain ⟨r', gr', rfl⟩ := map_at gd
                  rw [gr] at gr'
                  cases gr'
                  walk_at "go"
                  refine g_ixT gp (v := y) (atI_at at0 gy) ?_
                  walk_at "go"
                  refine ⟨b, n, y, r, rfl, rd, hgood r (List.mem_of_getElem? gr), ?_⟩
                  walk_at "go"
                  refine g_slA gt (fun p2 H5 s5 h5 => ?_)
                  rw [eat, cutV_take] at h5
                  walk_at "go"
                  refine g_ite (fun e4 => ?_) (fun e4 => ?_)
                  all_goals
                    walk_at "go"
                    refine ⟨by show 1 ≤ sizeLine; decide, fun p3 n3 => ?_⟩
                    refine g_catA ((Tx.new n3).seq h5) SqT.new (small (by simp only [List.length_take, List.length_cons, List.length_nil]; omega)) (fun p4 H6 s6 h6 => ?_)
                    walk_at "go"
                    have s46 : Same H4 H6 := fun b_ o_ e_ => s6 _ _ (same_new n3 _ _ (s5 _ _ e_))
                    refine g_slA ((Tx.of s46).seq gt) (fun p5 H7 s7 h7 => ?_)
                    rw [show at_ + 1 = ((at_.toNat + 1 : Nat) : Int) by omega, cutV_drop] at h7
                    refine g_catA ((Tx.of s7).seq h6) h7 (small (by simp only [List.length_append, List.length_take, List.length_drop, List.length_cons, List.length_nil]; omega)) (fun p6 H8 s8 h8 => ?_)
                    walk_at "go"
                    refine ⟨by show 3 ≤ sizeLine; decide, fun p7 n7 => ?_⟩
                    have s48 : Same H4 H8 := s46.trans (s7.trans s8)
                    have F8 : Fr d H4 H8 := Fr.of s48
                    have X8 : Tx H4 H8 := Tx.of s48
                    exact q _ _ _ ((F4.trans F8).trans (Fr.new n7)) ((hD4.fr s48).new n7) (ret3 (K := K) (C := a.c_Log) (m := m + 1) (pt := some _) (g0.fr F8 X8) (g2.fr F8 X8) ⟨p6, rfl, h8, Nat.le_trans (splice_len (by omega)) (by omega), splice (fun y hy => (gs y hy).fr F8 X8) (by first | exact Th.int _ | exact hcut4.fr F8 X8)⟩ n7)
                · walk_at "go"
                  exact hN _ _ ⟨rfl, rfl⟩
              · walk_at "go"
                exact hN _ _ ⟨rfl, rfl⟩
            · walk_at "go"
              exact hN _ _ ⟨rfl, rfl⟩

end

section
variable {P : Program} {w : World} {K : PySem.W.Frag} {mg : Str → Option Value} {base : Heap} {a : Ad}
/-! ### a drawn post -/
theorem stands_all {b : Bool} {rs : List Row} {st : List Int} (h : ∀ (j : Nat) (c : Int) (r : Row), st[j]? = some c → rs[j]? = some r → freeB b c r = true) : (stands b rs st).all id = true := by
  rw [List.all_eq_true]
  intro x hx
  unfold stands at hx
  obtain ⟨⟨c, r⟩, hp, rfl⟩ := List.mem_map.mp hx
  obtain ⟨i, hi⟩ := List.mem_iff_getElem?.mp hp
  obtain ⟨h1, h2⟩ := List.getElem?_zip_eq_some.mp hi
  exact h i c r h1 h2
def sp_law_drawn_post (K : PySem.W.Frag) : Sp := fun vs H Q _ => ∃ (d c : Addr) (n : Int) (b : Bool) (rv : V) (rs : List Row), vs = [.ref d, .int n, rv, .str (sideS b)] ∧ Dice d c H ∧ Dp K H rv (rowsD rs) ∧ 1 ≤ n ∧ n ≤ 12 ∧ rs.length ≤ 60 ∧ (∀ r ∈ rs, GoodRow n r) ∧ ∀ H' v f st l, Fr d H H' → Dice d c H' → Dp K H' v (postD f st l) → WfPost n rs f st l → (stands b rs st).all id = true → Q v H'
theorem ok_law_drawn_post (T : Txt K mg a) : FnOk P w K mg base CX0 2 a.f_law_drawn_post a.d_law_drawn_post ["_law_hand_here", "_law_offices_here", "_law_rows_here", "_law_side"] (sp_law_drawn_post K) := by
  refine T.F_law_drawn_post.ok sc_law_drawn_post (fun vs H Q E h => ?_) (fun cdv A outer s H vs Q E hr h => ?_)
  · obtain ⟨d, c, n, b, rv, rs, rfl, _⟩ := h
    rfl
  · obtain ⟨d, c, n, b, rv, rs, rfl, hD, hrv, n1, n12, hmax, hgood, q⟩ := h
    obtain ⟨p, ys, rfl, hp, ha⟩ := of_tup hrv
    have hl := DpAll.len ha
    rw [List.length_map] at hl
    refine ⟨_, (pss_cons (ps_set (i := 4) sc_law_drawn_post.nd rfl (.inl rfl) (pe_lst pa_nil))
  (pss_cons (ps_set (i := 5) sc_law_drawn_post.nd rfl (.inl rfl) (pe_call (ok_law_draw T) (hr.mono (by first | decide | omega)) (by rfl) T.g_law_draw T.F_law_draw.kp (T.b_law_draw) .nil pass0 (pa_cons (pv 0) (pa_cons (pe_op op_add (pv 1) pe_int) pa_nil))))
  (pss_cons (ps_set (i := 6) sc_law_drawn_post.nd rfl (.inl rfl) (pv 5))
  (pss_cons (ps_for PassesOwn.never rfl (kiTup K rfl (pv 2)) (pg_name (i := 7) sc_law_drawn_post.nd rfl (.inl rfl))
  (pss_cons (ps_if (pt_cmpR op_eq (pe_call (ok_law_draw T) (hr.mono (by first | decide | omega)) (by rfl) T.g_law_draw T.F_law_draw.kp (T.b_law_draw) .nil pass0 (pa_cons (pv 0) (pa_cons pe_int pa_nil))) pe_int (nomark _))
  (pss_one (ps_set (i := 5) sc_law_drawn_post.nd rfl (.inl rfl) (pe_call (ok_law_draw T) (hr.mono (by first | decide | omega)) (by rfl) T.g_law_draw T.F_law_draw.kp (T.b_law_draw) .nil pass0 (pa_cons (pv 0) (pa_cons (pe_op op_add (pv 1) pe_int) pa_nil)))))
  pss_nil)
  (pss_cons (ps_if (pt_cmpR op_eq (pv 5) (pe_call (ok_law_bars T) (hr.mono (by first | decide | omega)) (by rfl) T.g_law_bars T.F_law_bars.kp (T.b_law_bars) .nil pass0 (pa_cons (pv 3) (pa_cons (pv 7) pa_nil))) (nomark _))
  (pss_one (ps_set (i := 5) sc_law_drawn_post.nd rfl (.inl rfl) (pe_ifExp (PW.pt (pw_or (pt_cmpR op_eq (pv 5) (pv 1) (nomark _)) (pw_or1 (pt_cmpR op_eq (pe_call (ok_law_draw T) (hr.mono (by first | decide | omega)) (by rfl) T.g_law_draw T.F_law_draw.kp (T.b_law_draw) .nil pass0 (pa_cons (pv 0) (pa_cons pe_int pa_nil))) pe_int (nomark _))))) (pe_op op_sub (pv 5) pe_int) (pe_op op_add (pv 5) pe_int))))
  pss_nil)
  (pss_one (ps_expr (pe_bm PySem.F.plainAttrs_list PySem.F.slot_list_append PySem.F.type_list_append mt_append (pv 4) (pa_cons (pv 5) pa_nil)))))))
  (pss_one (ps_ret (pe_tup (pa_cons (pv 6) (pa_cons (pe_callTy (kTupOf K rfl) (by rfl) T.z_tuple (by decide +kernel) (pa_cons (pv 4) pa_nil)) (pa_cons (pe_call (ok_law_draw T) (hr.mono (by first | decide | omega)) (by rfl) T.g_law_draw T.F_law_draw.kp (T.b_law_draw) .nil pass0 (pa_cons (pv 0) (pa_cons (pe_op op_add (pv 1) pe_int) pa_nil))) pa_nil)))))))))), ?_⟩
    walk_at "go"
    refine ⟨Nat.zero_le _, fun D nD => ?_⟩
    have nDd := hD.nd nD
    have nDc := hD.nc nD
    have hD0 := hD.new (o := .lst []) nD
    walk_at "go"
    refine ⟨d, c, n + 1, rfl, hD0, by omega, by omega, fun H1 f f1 hD1 f0 fn => ?_⟩
    have hl1 : H1 D = some (.lst []) := f1 _ _ nDd upd_same
    have fr1 : Fr d H H1 := (Fr.new nD).trans f1
    walk_at "go"
    refine ⟨p, rfl, ⟨_, (hD.tx fr1).seq hp⟩, ?_⟩
    refine for_it (walk_tup (K := K) (a := p) (xs := ys)) (fun i σ H' => ∃ hh y7, σ = [some (.ref d), some (.int n), some (.ref p), some (.str (sideS b)), some (.ref D), some (.int hh), some (.int f), y7] ∧ 0 ≤ hh ∧ hh ≤ n ∧ Fr d H H' ∧ Dice d c H' ∧ ∃ st : List Int, H' D = some (.lst (st.map V.int)) ∧ st.length = i ∧ (∀ z ∈ st, 0 ≤ z ∧ z ≤ n) ∧ ∀ (j : Nat) (z : Int) (r : Row), st[j]? = some z → rs[j]? = some r → freeB b z r = true)
      ⟨f, _, rfl, f0, by omega, fr1, hD1, [], hl1, rfl, (fun z hz => by cases hz), (fun j z r h1 _ => by cases h1)⟩ (fun i σ H' _ hP => ?_) (fun i x σ H2 H3 hi hP hy => ?_) (fun σ H' hP => ?_)
    · obtain ⟨hh, y7, rfl, _, _, fr, _⟩ := hP
      exact (hD.tx fr).seq hp
    · obtain ⟨hh, y7, rfl, hh0, hhn, fr, hD2, st, hst, hsl, hsb, hsf⟩ := hP
      obtain ⟨rfl, hx⟩ := hy
      obtain ⟨dd, gd, rd⟩ := DpAll.get ha hx
      obtain ⟨r, gr, rfl⟩ := map_at gd
      have hg := hgood r (List.mem_of_getElem? gr)
      have him : im (rowD r) = true := im_rowD r
      walk_at "gs"
      refine seq_cut (fun σ' H' => ∃ hh, σ' = [some (.ref d), some (.int n), some (.ref p), some (.str (sideS b)), some (.ref D), some (.int hh), some (.int f), some x] ∧ 0 ≤ hh ∧ hh ≤ n ∧ Fr d H H' ∧ Dice d c H' ∧ H' D = some (.lst (st.map V.int))) ?_ ?_
      · rintro σ' H4 ⟨hh, rfl, hh0, hhn, fr4, hD4, hst4⟩
        refine seq_cut (fun σ' H' => ∃ hh, σ' = [some (.ref d), some (.int n), some (.ref p), some (.str (sideS b)), some (.ref D), some (.int hh), some (.int f), some x] ∧ 0 ≤ hh ∧ hh ≤ n ∧ Fr d H H' ∧ Dice d c H' ∧ H' D = some (.lst (st.map V.int)) ∧ hh ≠ barI b r) ?_ ?_
        · rintro σ' H5 ⟨hh, rfl, hh0, hhn, fr5, hD5, hst5, hbar⟩
          walk_at "go"
          refine ⟨.inl ⟨rfl, _, SqL.at hst5⟩, ?_⟩
          walk_at "go"
          refine ⟨D, _, .int hh, rfl, rfl, hst5, by rw [List.length_map]; exact small1000 (by omega), ?_⟩
          refine ⟨hh, _, rfl, hh0, hhn, Fr.put fr5 nD, hD5.put nDd nDc, st ++ [hh], ?_, by rw [List.length_append, hsl]; rfl, fun z hz => ?_, fun j z r' h1 h2 => ?_⟩
          · rw [upd_same, List.map_append]
            rfl
          · rcases List.mem_append.mp hz with hz | hz
            · exact hsb z hz
            · rw [List.mem_singleton.mp hz]; exact ⟨hh0, hhn⟩
          · by_cases hj : j < st.length
            · rw [List.getElem?_append_left hj] at h1
              exact hsf j z r' h1 h2
            · have hj2 : j < (st ++ [hh]).length := (List.getElem?_eq_some_iff.mp h1).1
              rw [List.length_append, List.length_singleton] at hj2
              have ej : j = i := by omega
              subst ej
              rw [List.getElem?_append_right (by omega), show j - st.length = 0 by omega] at h1
              cases h1
              rw [gr] at h2
              cases h2
              rw [free_of hh0, decide_eq_false hbar]
              rfl
        · intro N hN
          walk_at "go"
          refine ⟨b, n, x, r, rfl, Dp.tx (hD.tx fr4) _ _ him rd, hg, ?_⟩
          walk_at "go"
          refine g_ite (fun e0 => ?_) (fun e0 => ?_)
          · have hb := bar_in (b := b) hg
            walk_at "go"
            refine g_ite (fun e1 => ?_) (fun e1 => ?_)
            · exfalso
              omega
            · walk_at "go"
              refine ⟨d, c, 2, rfl, hD4, by decide, by decide, fun H5 z f5 hD5 _ _ => ?_⟩
              walk_at "go"
              refine g_ite (fun e2 => ?_) (fun e2 => ?_)
              · walk_at "go"
                exact hN _ _ ⟨hh - 1, rfl, by omega, by omega, fr4.trans f5, hD5, f5 _ _ nDd hst4, by omega⟩
              · walk_at "go"
                exact hN _ _ ⟨hh + 1, rfl, by omega, by omega, fr4.trans f5, hD5, f5 _ _ nDd hst4, by omega⟩
          · walk_at "go"
            exact hN _ _ ⟨hh, rfl, hh0, hhn, fr4, hD4, hst4, e0⟩
      · intro N hN
        walk_at "go"
        refine ⟨d, c, 3, rfl, hD2, by decide, by decide, fun H4 z f4 hD4 _ _ => ?_⟩
        walk_at "go"
        refine g_ite (fun e0 => ?_) (fun e0 => ?_)
        · walk_at "go"
          refine ⟨d, c, n + 1, rfl, hD4, by omega, by omega, fun H5 h5 f5 hD5 h50 h5n => ?_⟩
          walk_at "go"
          exact hN _ _ ⟨h5, rfl, h50, by omega, (fr.trans f4).trans f5, hD5, f5 _ _ nDd (f4 _ _ nDd hst)⟩
        · walk_at "go"
          exact hN _ _ ⟨hh, rfl, hh0, hhn, fr.trans f4, hD4, f4 _ _ nDd hst⟩
    · obtain ⟨hh, y7, rfl, _, _, fr, hD2, st, hst, hsl, hsb, hsf⟩ := hP
      walk_at "go"
      refine ⟨D, _, rfl, .inl ⟨SqL.at hst, fun t1 nt1 => ?_⟩⟩
      have s3 : Same H' (upd H' t1 (.tup (st.map V.int))) := same_new nt1
      have hD3 := hD2.fr s3
      walk_at "go"
      refine ⟨d, c, n + 1, rfl, hD3, by omega, by omega, fun H4 l f4 hD4 l0 ln => ?_⟩
      walk_at "go"
      refine ⟨by show 3 ≤ sizeLine; decide, fun t2 nt2 => ?_⟩
      have ht1 : SqT K (upd H4 t2 (.tup [.int f, .ref t1, .int l])) t1 (st.map V.int) := (Tx.of (same_new nt2)).seq ((hD3.tx f4).seq SqT.new)
      exact q _ _ f st l (((fr.trans (Fr.of s3)).trans f4).trans (Fr.new nt2)) (hD4.new nt2) (.tup SqT.new (.cons (.int f) (.cons (dp_ints ht1) (.cons (.int l) .nil)))) ⟨f0, by omega, l0, by omega, by omega, hsb⟩ (stands_all hsf)

end

section
variable {P : Program} {w : World} {K : PySem.W.Frag} {mg : Str → Option Value} {base : Heap} {a : Ad}
/-! ### the word for a side that is none, and the law -/
def lawLevel : Nat := 12
def sp_law_word (K : PySem.W.Frag) (C : Addr) : Sp := fun vs H Q _ => ∃ lg sd v n rs, vs = [lg, sd, v] ∧ LogAt K C H lg n rs ∧ rs.length ≤ 100000 ∧ BadSide K H sd ∧ ∀ H', Same H H' → Q (.str "side") H'
theorem ok_law_word (T : Txt K mg a) : FnOk P w K mg base CX0 6 a.f_law_word a.d_law_word ["_law_log", "_law_side", "_law_thing"] (sp_law_word K a.c_Log) := by
  refine T.F_law_word.ok sc_law_word (fun vs H Q E h => ?_) (fun cdv A outer s H vs Q E hr h => ?_)
  · obtain ⟨lg, sd, v, n, rs, rfl, _⟩ := h
    rfl
  · obtain ⟨lg, sd, v, n, rs, rfl, hlog, hmax, hs, q⟩ := h
    refine ⟨_, (pss_cons (ps_set (i := 3) sc_law_word.nd rfl (.inl rfl) pe_str)
  (pss_cons (ps_try_only rfl rfl ⟨rfl, by decide, .inl T.gc_NoSide⟩ takes0 (fun W pn xe tk _ => (pss_one (ps_expr (pe_callS (ok_is_post T) (hr.mono (by first | decide | omega)) (by rfl) T.g_is_post T.F_is_post.kp (T.b_is_post) (fun σ => passAt tk σ) (pa_cons (pv 0) (pa_cons (pv 1) (pa_cons (pv 2) pa_nil)))))))
  (fun a oe cls d pn _ _ => (pss_one (ps_set (i := 3) sc_law_word.nd rfl (.inl rfl) pe_str))))
  (pss_one (ps_ret (pv 3))))), ?_⟩
    walk_at "go"
    refine g_callS ?_
    walk_at "go"
    refine ⟨lg, sd, v, n, rs, rfl, hlog, hmax, .inr ⟨hs, fun H' s' => ?_⟩⟩
    refine ⟨true, T.ex_NoSide_NoSide, fun _ e he => ?_, fun z => nomatch z⟩
    walk_at "go"
    exact q _ s'
theorem thing_post {d C : Addr} {H : Hp} {v : V} {f l : Int} {st : List Int} {m : Nat} (h : Dp K H v (postD f st l)) (hm : st.length ≤ m) : Thing K d C H m v (.three (.int f) (some (st.map V.int)) (.int l)) := by
  obtain ⟨p, t, rfl, hp, ht⟩ := of_post h
  exact ⟨p, .ref t, rfl, hp, .int f, .int l, t, rfl, ht, by rw [List.length_map]; exact hm, fun y hy => by
    obtain ⟨i, _, rfl⟩ := List.mem_map.mp hy
    exact .int i⟩
theorem post_good {n : Int} {b : Bool} {rs : List Row} {f l : Int} {st : List Int} (hw : WfPost n rs f st l) (hall : (stands b rs st).all id = true) : postB n b rs (.three (.int f) (some (st.map V.int)) (.int l)) = true := by
  obtain ⟨f0, f1, l0, l1, hl, hst⟩ := hw
  show post3 n b rs _ _ _ = true
  unfold post3
  rw [standsV_int, hall, List.length_map, decide_eq_true hl, show wholeV n (.int f) = true from decide_eq_true ⟨f0, f1⟩, show wholeV n (.int l) = true from decide_eq_true ⟨l0, l1⟩, List.all_map,
    show st.all (wholeV n ∘ V.int) = true from List.all_eq_true.mpr fun c hc => (show wholeV n (.int c) = true from decide_eq_true (hst c hc))]
  rfl
theorem bad_of {d C : Addr} {H : Hp} {v : V} (c : OwnC K C) (h : Th K d C H v) (hs : ∀ s, v = .str s → ∀ b, s ≠ sideS b) : BadSide K H v := by
  rcases h.strs c with ⟨s, rfl⟩ | ⟨_, z⟩
  · exact .inl ⟨s, rfl, hs s rfl⟩
  · exact .inr z
def sp_law (K : PySem.W.Frag) : Sp := fun vs H Q _ => ∃ (a : Addr) (ns : List Int), vs = [.ref a] ∧ SqL K H a (ns.map V.int) ∧ ns.length ≤ 63 ∧ ∀ H', Q (.bl true) H'
set_option maxHeartbeats 8000000 in
theorem ok_law (T : Txt K mg a) : FnOk P w K mg base CX0 lawLevel a.f_law a.d_law ["_law_script"] (sp_law K) := by
  refine T.F_law.ok sc_law (fun vs H Q E h => ?_) (fun cdv A outer s H vs Q E hr h => ?_)
  · obtain ⟨sa, ns, rfl, _⟩ := h
    rfl
  · obtain ⟨sa, cells, rfl, hS, hlen, q⟩ := h
    unfold lawLevel at hr
    refine ⟨_, (pss_cons (ps_set (i := 1) sc_law.nd rfl (.inl rfl) (pe_call (ok_law_hand T) (hr.mono (by first | decide | omega)) (by rfl) T.g_law_hand T.F_law_hand.kp (T.b_law_hand) .nil pass0 (pa_cons (pv 0) pa_nil)))
  (pss_cons (ps_for PassesOwn.never rfl (pi_range1 rfl T.z_range (pa_cons pe_int pa_nil)) (pg_name (i := 2) sc_law.nd rfl (.inl rfl))
  (pss_cons (ps_set (i := 3) sc_law.nd rfl (.inl rfl) (pe_call (ok_law_offices T) (hr.mono (by first | decide | omega)) (by rfl) T.g_law_offices T.F_law_offices.kp (T.b_law_offices) .nil pass0 (pa_cons (pv 1) (pa_cons pe_int pa_nil))))
  (pss_cons (ps_set (i := 4) sc_law.nd rfl (.inl rfl) (pe_call (ok_law_rows T) (hr.mono (by first | decide | omega)) (by rfl) T.g_law_rows T.F_law_rows.kp (T.b_law_rows) .nil pass0 (pa_cons (pv 1) (pa_cons (pv 3) (pa_cons (pe_call (ok_law_draw T) (hr.mono (by first | decide | omega)) (by rfl) T.g_law_draw T.F_law_draw.kp (T.b_law_draw) .nil pass0 (pa_cons (pv 1) (pa_cons pe_int pa_nil))) (pa_cons pe_int pa_nil))))))
  (pss_cons (ps_set (i := 5) sc_law.nd rfl (.inl rfl) (pe_make T.mk_Log (ok_Log_init T) (hr.mono (by first | decide | omega)) (by rfl) T.gc_Log T.b_Log_init .nil pass0 (pa_cons (pv 3) (pa_cons (pv 4) pa_nil))))
  (pss_cons (ps_set (i := 6) sc_law.nd rfl (.inl rfl) (pe_call (ok_law_some T) (hr.mono (by first | decide | omega)) (by rfl) T.g_law_some T.F_law_some.kp (T.b_law_some) .nil pass0 (pa_cons (pv 1) (pa_cons (pe_lst (pa_cons pe_str (pa_cons pe_str pa_nil))) pa_nil))))
  (pss_cons (ps_set (i := 7) sc_law.nd rfl (.inl rfl) (pe_call (ok_law_drawn_post T) (hr.mono (by first | decide | omega)) (by rfl) T.g_law_drawn_post T.F_law_drawn_post.kp (T.b_law_drawn_post) .nil pass0 (pa_cons (pv 1) (pa_cons (pv 3) (pa_cons (pv 4) (pa_cons (pv 6) pa_nil))))))
  (pss_cons (ps_if (pt_not (pt_val (pe_call (ok_law_is T 0) (hr.mono (by first | decide | omega)) (by rfl) T.g_law_is T.F_law_is.kp (T.b_law_is) .nil pass0 (pa_cons (pe_call (ok_is_post T) (hr.mono (by first | decide | omega)) (by rfl) T.g_is_post T.F_is_post.kp (T.b_is_post) .nil passL (pa_cons (pv 5) (pa_cons (pv 6) (pa_cons (pv 7) pa_nil)))) (pa_cons pe_bl pa_nil)))))
  (pss_one (ps_ret pe_bl))
  pss_nil)
  (pss_cons (ps_for PassesOwn.never rfl (pi_range1 rfl T.z_range (pa_cons (pe_op op_add pe_int (pe_call (ok_law_draw T) (hr.mono (by first | decide | omega)) (by rfl) T.g_law_draw T.F_law_draw.kp (T.b_law_draw) .nil pass0 (pa_cons (pv 1) (pa_cons pe_int pa_nil)))) pa_nil)) (pg_name (i := 8) sc_law.nd rfl (.inl rfl))
  (pss_one (ps_set (i := 7) sc_law.nd rfl (.inl rfl) (pe_call (ok_law_spoiled T) (hr.mono (by first | decide | omega)) (by rfl) T.g_law_spoiled T.F_law_spoiled.kp (T.b_law_spoiled) .nil pass0 (pa_cons (pv 1) (pa_cons (pv 3) (pa_cons (pv 4) (pa_cons (pv 6) (pa_cons (pv 7) (pa_cons (pv 5) pa_nil))))))))))
  (pss_cons (ps_if (pt_not (pt_val (pe_call (ok_law_is T 0) (hr.mono (by first | decide | omega)) (by rfl) T.g_law_is T.F_law_is.kp (T.b_law_is) .nil pass0 (pa_cons (pe_call (ok_is_post T) (hr.mono (by first | decide | omega)) (by rfl) T.g_is_post T.F_is_post.kp (T.b_is_post) .nil passL (pa_cons (pv 5) (pa_cons (pv 6) (pa_cons (pv 7) pa_nil)))) (pa_cons (pe_call (ok_law_is_post T) (hr.mono (by first | decide | omega)) (by rfl) T.g_law_is_post T.F_law_is_post.kp (T.b_law_is_post) .nil pass0 (pa_cons (pv 3) (pa_cons (pv 4) (pa_cons (pv 6) (pa_cons (pv 7) pa_nil))))) pa_nil)))))
  (pss_one (ps_ret pe_bl))
  pss_nil)
  (pss_cons (ps_set (i := 9) sc_law.nd rfl (.inl rfl) (pe_call (ok_law_some T) (hr.mono (by first | decide | omega)) (by rfl) T.g_law_some T.F_law_some.kp (T.b_law_some) .nil pass0 (pa_cons (pv 1) (pa_cons (pe_lst (pa_cons pe_str (pa_cons pe_str (pa_cons pe_str (pa_cons pe_str (pa_cons pe_non (pa_cons pe_int (pa_cons pe_bl (pa_cons (pe_tup (pa_cons pe_str pa_nil)) (pa_cons (pe_lst (pa_cons pe_str pa_nil)) (pa_cons pe_dnewK (pa_cons (pv 5) (pa_cons (pe_call (ok_law_deep T) (hr.mono (by first | decide | omega)) (by rfl) T.g_law_deep T.F_law_deep.kp (T.b_law_deep) .nil pass0 (pa_cons pe_int pa_nil)) pa_nil))))))))))))) pa_nil))))
  (pss_one (ps_if (pt_cmpR op_ne (pe_call (ok_law_word T) (hr.mono (by first | decide | omega)) (by rfl) T.g_law_word T.F_law_word.kp (T.b_law_word) .nil pass0 (pa_cons (pv 5) (pa_cons (pv 9) (pa_cons (pv 7) pa_nil)))) pe_str (nomark _))
  (pss_one (ps_ret pe_bl))
  pss_nil))))))))))))
  (pss_one (ps_ret pe_bl)))), ?_⟩
    walk_at "go"
    refine ⟨sa, cells, rfl, hS, hlen, fun H1 d c s1 nd hD1 => ?_⟩
    walk_at "go"
    refine ⟨_, rfl, by decide, by decide, ?_⟩
    refine for_it walk_rng0 (fun i σ H' => ∃ y2 y3 y4 y5 y6 y7 y8 y9, σ = [some (.ref sa), some (.ref d), y2, y3, y4, y5, y6, y7, y8, y9] ∧ Dice d c H') ⟨_, _, _, _, _, _, _, _, rfl, hD1⟩ (fun _ _ _ _ _ => trivial) (fun i z σ H4 H4' hi hP hy => ?_) (fun σ H' hP => ?_)
    · obtain ⟨y2, y3, y4, y5, y6, y7, y8, y9, rfl, hD4⟩ := hP
      obtain ⟨rfl, rfl⟩ := hy
      walk_at "go"
      refine ⟨d, c, 6, rfl, hD4, by decide, by decide, fun H5 n f5 hD5 n1 n6 => ?_⟩
      walk_at "go"
      refine ⟨d, c, 9, rfl, hD5, by decide, by decide, fun H6 m f6 hD6 m0 m1 => ?_⟩
      walk_at "go"
      refine ⟨d, c, n, m, 2, rfl, hD6, n1, by omega, m0, by omega, fun H7 v rs f7 hD7 hv hgood hl _ => ?_⟩
      have hG : GoodLog n rs := ⟨n1, by omega, by omega, hgood⟩
      obtain ⟨p, ys, rfl, hp, ha⟩ := of_tup hv
      walk_at "go"
      intro x dx nx ndx nxd
      refine ⟨x, dx, n, p, rs, rfl, upd_same, ?_, hG, fun H8 f8 hx8 => ⟨rfl, ?_⟩⟩
      · exact Dp.same ((same_new ndx).trans (same_new (by rw [upd_ne nxd.symm]; exact nx))) _ _ hv
      have s8 := log_made nx ndx f8
      have hv8 := Dp.same s8 _ _ hv
      have hD8 := hD7.fr s8
      have hlog8 : LogAt K a.c_Log H8 (.ref x) n rs := ⟨x, dx, p, rfl, hx8, hv8⟩
      have nxD : x ≠ d := hD7.nd nx
      walk_at "go"
      refine ⟨by show 2 ≤ sizeLine; decide, fun L nL => ?_⟩
      walk_at "go"
      refine ⟨d, c, L, _, rfl, hD8.new nL, upd_same, hD8.nd nL, by show 0 < 2; decide, by show 2 ≤ 1000; decide, fun H9 sd f9 hD9 hsd => ?_⟩
      obtain ⟨b, rfl⟩ : ∃ b, sd = .str (sideS b) := by
        simp only [List.mem_cons, List.not_mem_nil, or_false] at hsd
        rcases hsd with rfl | rfl
        · exact ⟨true, rfl⟩
        · exact ⟨false, rfl⟩
      have F9 := (Fr.new nL).trans f9
      have X9 := hD8.tx F9
      walk_at "go"
      refine ⟨d, c, n, b, .ref p, rs, rfl, hD9, Dp.tx X9 _ _ (im_rowsD rs) hv8, n1, by omega, by omega, hgood, fun H10 v f st l f10 hD10 hpost hw hall => ?_⟩
      have F10 := F9.trans f10
      have X10 := hD8.tx F10
      have hsl : st.length ≤ 60 := by have := hw.2.2.2.2.1; omega
      have hth : Thing K d a.c_Log H10 60 v (.three (.int f) (some (st.map V.int)) (.int l)) := thing_post hpost hsl
      walk_at "go"
      refine ⟨.ref x, _, v, n, rs, rfl, hlog8.tx X10, by omega, .inl ⟨b, rfl, d, 60, _, hth, by decide, fun H11 s11 => ?_⟩⟩
      rw [post_good hw hall]
      walk_at "go"
      refine ⟨_, _, .bool true, rfl, .bl true, .bl true, by unfold dep; exact Nat.le_refl _, by unfold sm; rfl, fun H12 s12 => ?_⟩
      have s1012 := s11.trans s12
      have hD12 := hD10.fr s1012
      have F12 := F10.trans (Fr.of s1012)
      have hth12 := hth.fr (Fr.of s1012) (Tx.of s1012) (Nat.le_refl _)
      walk_at "go"
      refine ⟨d, c, 2, rfl, hD12, by decide, by decide, fun H13 k f13 hD13 k0 k1 => ?_⟩
      have F13 := F12.trans f13
      have hth13 := hth12.fr f13 (hD12.tx f13) (Nat.le_refl _)
      walk_at "go"
      refine ⟨_, rfl, by omega, by omega, ?_⟩
      refine for_it walk_rng0 (fun j σ H' => ∃ v sh y8, σ = [some (.ref sa), some (.ref d), some (.int ((i : Nat) : Int)), some (.int n), some (.ref p), some (.ref x), some (.str (sideS b)), some v, y8, y9] ∧ Fr d H8 H' ∧ Dice d c H' ∧ Thing K d a.c_Log H' (60 + j) v sh)
        ⟨_, _, _, rfl, F13, hD13, hth13⟩ (fun _ _ _ _ _ => trivial) (fun j z σ H14 H14' hj hP hy => ?_) (fun σ H' hP => ?_)
      · obtain ⟨v2, sh2, y8', rfl, F14, hD14, hth14⟩ := hP
        obtain ⟨rfl, rfl⟩ := hy
        have X14 := hD8.tx F14
        walk_at "go"
        refine ⟨d, c, n, .ref p, rs, b, v2, .ref x, 60 + j, sh2, rfl, hD14, Dp.tx X14 _ _ (im_rowsD rs) hv8, hgood, n1, by omega, by omega, hth14, by omega, .own (F14 _ _ nxD hx8) nxD, fun H15 v3 sh3 f15 hD15 hth15 => ?_⟩
        walk_at "go"
        exact ⟨_, sh3, _, rfl, F14.trans f15, hD15, hth15⟩
      · obtain ⟨v2, sh2, y8', rfl, F14, hD14, hth14⟩ := hP
        have X14 := hD8.tx F14
        walk_at "go"
        refine ⟨.ref x, _, v2, n, rs, rfl, hlog8.tx X14, by omega, .inl ⟨b, rfl, d, _, sh2, hth14, by omega, fun H15 s15 => ?_⟩⟩
        walk_at "go"
        refine ⟨n, .ref p, rs, b, v2, d, _, sh2, rfl, Dp.tx (X14.trans (Tx.of s15)) _ _ (im_rowsD rs) hv8, hgood, by omega, hth14.fr (Fr.of s15) (Tx.of s15) (Nat.le_refl _), by omega, fun H16 s16 => ?_⟩
        walk_at "go"
        refine ⟨_, _, .bool (postB n b rs sh2), rfl, .bl _, .bl _, by unfold dep; exact Nat.le_refl _, by unfold sm; rfl, fun H17 s17 => ?_⟩
        have s1417 := s15.trans (s16.trans s17)
        have F17 := F14.trans (Fr.of s1417)
        have hD17 := hD14.fr s1417
        walk_at "go"
        refine ⟨by show 1 ≤ sizeLine; decide, fun t1 k1_ => ?_⟩
        walk_at "go"
        refine ⟨by show 1 ≤ sizeLine; decide, fun l2 k2 => ?_⟩
        walk_at "go"
        refine fun m3 k3 => ?_
        walk_at "go"
        have r3 := same_new (o := .dK []) k3
        have r2 := (same_new (o := .lst [.str (Str.ofString "left")]) k2).trans r3
        have r1 := (same_new (o := .tup [.str (Str.ofString "left")]) k1_).trans r2
        have nl2 : l2 ≠ d := (hD17.fr (same_new (o := .tup [.str (Str.ofString "left")]) k1_)).nd k2
        have nm3 : m3 ≠ d := (hD17.fr ((same_new (o := .tup [.str (Str.ofString "left")]) k1_).trans (same_new (o := .lst [.str (Str.ofString "left")]) k2))).nd k3
        refine ⟨2, rfl, .inr (.inr rfl), fun Ha va s_a da => ?_⟩
        walk_at "go"
        refine ⟨by show 12 ≤ sizeLine; decide, fun L4 k4 => ?_⟩
        walk_at "go"
        have hDa := hD17.fr (r1.trans s_a)
        have Fa := F17.trans (Fr.of (r1.trans s_a))
        refine ⟨d, c, L4, _, rfl, hDa.new k4, upd_same, hDa.nd k4, by show 0 < 12; decide, by show 12 ≤ 1000; decide, fun H18 odd f18 hD18 hodd => ?_⟩
        have fz := (Fr.new k4).trans f18
        have xz := hDa.tx fz
        have F18 := Fa.trans fz
        have X18 := hD8.tx F18
        have hbad : BadSide K H18 odd := by
          simp only [List.mem_cons, List.not_mem_nil, or_false] at hodd
          have hstr : ∀ s : Str, (∀ b, s ≠ sideS b) → ∀ s', V.str s = .str s' → ∀ b, s' ≠ sideS b := fun s h s' e => by cases e; exact h
          rcases hodd with rfl | rfl | rfl | rfl | rfl | rfl | rfl | rfl | rfl | rfl | rfl | rfl
          · exact bad_of (d := d) (ownC T) (.inl (.str _)) (hstr _ fun b => by cases b <;> decide)
          · exact bad_of (d := d) (ownC T) (.inl (.str _)) (hstr _ fun b => by cases b <;> decide)
          · exact bad_of (d := d) (ownC T) (.inl (.str _)) (hstr _ fun b => by cases b <;> decide)
          · exact bad_of (d := d) (ownC T) (.inl (.str _)) (hstr _ fun b => by cases b <;> decide)
          · exact bad_of (d := d) (ownC T) (.inl .non) (fun s e => by cases e)
          · exact bad_of (d := d) (ownC T) (.inl (.int _)) (fun s e => by cases e)
          · exact bad_of (d := d) (ownC T) (.inl (.bl _)) (fun s e => by cases e)
          · exact bad_of (d := d) (ownC T) (.tup (xz.seq ((Tx.of (r2.trans s_a)).seq SqT.new))) (fun s e => by cases e)
          · exact bad_of (d := d) (ownC T) (.inl (.lst (fz _ _ nl2 ((r3.trans s_a) _ _ upd_same)) nl2)) (fun s e => by cases e)
          · exact bad_of (d := d) (ownC T) (.inl (.dct (fz _ _ nm3 (s_a _ _ upd_same)) nm3)) (fun s e => by cases e)
          · exact bad_of (d := d) (ownC T) (.inl (.own (F18 _ _ nxD hx8) nxD)) (fun s e => by cases e)
          · obtain ⟨pp, xx, yy, rfl, e1⟩ := da.th2
            exact bad_of (d := d) (ownC T) (.tup (xz.seq e1)) (fun s e => by cases e)
        walk_at "go"
        refine ⟨.ref x, odd, v2, n, rs, rfl, hlog8.tx X18, by omega, hbad, fun H19 s19 => ?_⟩
        walk_at "go"
        refine ⟨rfl, ?_⟩
        walk_at "go"
        rw [decide_eq_true rfl]
        walk_at "go"
        exact ⟨_, _, _, _, _, _, _, _, rfl, hD18.fr s19⟩
    · obtain ⟨y2, y3, y4, y5, y6, y7, y8, y9, rfl, hD4⟩ := hP
      walk_at "go"
      exact q _

end

set_option maxHeartbeats 0 in
theorem all_mk {l : PySem.W.OpenLaw} {w : World} {K : PySem.W.Frag} {h : Heap} {mg : Str → Option Value} {fa : Addr} (X : K.In h) (G : h.Ns mainGlobals mg) (hfa : mg "law" = some (.ref fa))
    {f0 : Addr} {od0 an0 : Option Addr} {sl0 : Array (Option Value)} {oc0 kV0 dc0 pm0 cd0 ct0 : Value}
    {C_NoSide : Addr}
    (a0 : PySem.W.findIn K (.ref C_NoSide) "__init__" = some (some (.ref f0))) (i0 : PySem.W.isFn K (.ref f0) = true) (l0 : K.lookup f0 = some ⟨oc0, od0, .func (PySem.W.fnOf "__init__" "NoSide.__init__" (defArgs s_NoSide_init) (defBody s_NoSide_init) (defScope s_NoSide_init) .none kV0 dc0 pm0 an0 cd0 ct0), sl0⟩) (c0 : PySem.W.codeIn K cd0 "NoSide.__init__" = true) (k0 : PySem.W.keepIn K (.ref f0) = true)
    {f1 : Addr} {od1 an1 : Option Addr} {sl1 : Array (Option Value)} {oc1 kV1 dc1 pm1 cd1 ct1 : Value}
    (a1 : PySem.W.nsIn K mainGlobals "is_integer" = some (some (.ref f1))) (l1 : K.lookup f1 = some ⟨oc1, od1, .func (PySem.W.fnOf "is_integer" "is_integer" (defArgs s_is_integer) (defBody s_is_integer) (defScope s_is_integer) .none kV1 dc1 pm1 an1 cd1 ct1), sl1⟩) (c1 : PySem.W.codeIn K cd1 "is_integer" = true) (k1 : PySem.W.keepIn K (.ref f1) = true)
    {f2 : Addr} {od2 an2 : Option Addr} {sl2 : Array (Option Value)} {oc2 kV2 dc2 pm2 cd2 ct2 : Value}
    (a2 : PySem.W.nsIn K mainGlobals "is_between" = some (some (.ref f2))) (l2 : K.lookup f2 = some ⟨oc2, od2, .func (PySem.W.fnOf "is_between" "is_between" (defArgs s_is_between) (defBody s_is_between) (defScope s_is_between) .none kV2 dc2 pm2 an2 cd2 ct2), sl2⟩) (c2 : PySem.W.codeIn K cd2 "is_between" = true) (k2 : PySem.W.keepIn K (.ref f2) = true)
    {f3 : Addr} {od3 an3 : Option Addr} {sl3 : Array (Option Value)} {oc3 kV3 dc3 pm3 cd3 ct3 : Value}
    (a3 : PySem.W.nsIn K mainGlobals "is_number" = some (some (.ref f3))) (l3 : K.lookup f3 = some ⟨oc3, od3, .func (PySem.W.fnOf "is_number" "is_number" (defArgs s_is_number) (defBody s_is_number) (defScope s_is_number) .none kV3 dc3 pm3 an3 cd3 ct3), sl3⟩) (c3 : PySem.W.codeIn K cd3 "is_number" = true) (k3 : PySem.W.keepIn K (.ref f3) = true)
    {f4 : Addr} {od4 an4 : Option Addr} {sl4 : Array (Option Value)} {oc4 kV4 dc4 pm4 cd4 ct4 : Value}
    (a4 : PySem.W.nsIn K mainGlobals "is_word" = some (some (.ref f4))) (l4 : K.lookup f4 = some ⟨oc4, od4, .func (PySem.W.fnOf "is_word" "is_word" (defArgs s_is_word) (defBody s_is_word) (defScope s_is_word) .none kV4 dc4 pm4 an4 cd4 ct4), sl4⟩) (c4 : PySem.W.codeIn K cd4 "is_word" = true) (k4 : PySem.W.keepIn K (.ref f4) = true)
    {f5 : Addr} {od5 an5 : Option Addr} {sl5 : Array (Option Value)} {oc5 kV5 dc5 pm5 cd5 ct5 : Value}
    (a5 : PySem.W.nsIn K mainGlobals "is_tuple_of" = some (some (.ref f5))) (l5 : K.lookup f5 = some ⟨oc5, od5, .func (PySem.W.fnOf "is_tuple_of" "is_tuple_of" (defArgs s_is_tuple_of) (defBody s_is_tuple_of) (defScope s_is_tuple_of) .none kV5 dc5 pm5 an5 cd5 ct5), sl5⟩) (c5 : PySem.W.codeIn K cd5 "is_tuple_of" = true) (k5 : PySem.W.keepIn K (.ref f5) = true)
    {f6 : Addr} {od6 an6 : Option Addr} {sl6 : Array (Option Value)} {oc6 kV6 dc6 pm6 cd6 ct6 : Value}
    (a6 : PySem.W.nsIn K mainGlobals "are_numbers" = some (some (.ref f6))) (l6 : K.lookup f6 = some ⟨oc6, od6, .func (PySem.W.fnOf "are_numbers" "are_numbers" (defArgs s_are_numbers) (defBody s_are_numbers) (defScope s_are_numbers) .none kV6 dc6 pm6 an6 cd6 ct6), sl6⟩) (c6 : PySem.W.codeIn K cd6 "are_numbers" = true) (k6 : PySem.W.keepIn K (.ref f6) = true)
    {f7 : Addr} {od7 an7 : Option Addr} {sl7 : Array (Option Value)} {oc7 kV7 dc7 pm7 cd7 ct7 : Value}
    (a7 : PySem.W.nsIn K mainGlobals "is_side" = some (some (.ref f7))) (l7 : K.lookup f7 = some ⟨oc7, od7, .func (PySem.W.fnOf "is_side" "is_side" (defArgs s_is_side) (defBody s_is_side) (defScope s_is_side) .none kV7 dc7 pm7 an7 cd7 ct7), sl7⟩) (c7 : PySem.W.codeIn K cd7 "is_side" = true) (k7 : PySem.W.keepIn K (.ref f7) = true)
    {f8 : Addr} {od8 an8 : Option Addr} {sl8 : Array (Option Value)} {oc8 kV8 dc8 pm8 cd8 ct8 : Value}
    (a8 : PySem.W.nsIn K mainGlobals "check_side" = some (some (.ref f8))) (l8 : K.lookup f8 = some ⟨oc8, od8, .func (PySem.W.fnOf "check_side" "check_side" (defArgs s_check_side) (defBody s_check_side) (defScope s_check_side) .none kV8 dc8 pm8 an8 cd8 ct8), sl8⟩) (c8 : PySem.W.codeIn K cd8 "check_side" = true) (k8 : PySem.W.keepIn K (.ref f8) = true)
    {f9 : Addr} {od9 an9 : Option Addr} {sl9 : Array (Option Value)} {oc9 kV9 dc9 pm9 cd9 ct9 : Value}
    (a9 : PySem.W.nsIn K mainGlobals "is_copying" = some (some (.ref f9))) (l9 : K.lookup f9 = some ⟨oc9, od9, .func (PySem.W.fnOf "is_copying" "is_copying" (defArgs s_is_copying) (defBody s_is_copying) (defScope s_is_copying) .none kV9 dc9 pm9 an9 cd9 ct9), sl9⟩) (c9 : PySem.W.codeIn K cd9 "is_copying" = true) (k9 : PySem.W.keepIn K (.ref f9) = true)
    {f10 : Addr} {od10 an10 : Option Addr} {sl10 : Array (Option Value)} {oc10 kV10 dc10 pm10 cd10 ct10 : Value}
    (a10 : PySem.W.nsIn K mainGlobals "is_row" = some (some (.ref f10))) (l10 : K.lookup f10 = some ⟨oc10, od10, .func (PySem.W.fnOf "is_row" "is_row" (defArgs s_is_row) (defBody s_is_row) (defScope s_is_row) .none kV10 dc10 pm10 an10 cd10 ct10), sl10⟩) (c10 : PySem.W.codeIn K cd10 "is_row" = true) (k10 : PySem.W.keepIn K (.ref f10) = true)
    {f11 : Addr} {od11 an11 : Option Addr} {sl11 : Array (Option Value)} {oc11 kV11 dc11 pm11 cd11 ct11 : Value}
    (a11 : PySem.W.nsIn K mainGlobals "wrong_part" = some (some (.ref f11))) (l11 : K.lookup f11 = some ⟨oc11, od11, .func (PySem.W.fnOf "wrong_part" "wrong_part" (defArgs s_wrong_part) (defBody s_wrong_part) (defScope s_wrong_part) .none kV11 dc11 pm11 an11 cd11 ct11), sl11⟩) (c11 : PySem.W.codeIn K cd11 "wrong_part" = true) (k11 : PySem.W.keepIn K (.ref f11) = true)
    {f12 : Addr} {od12 an12 : Option Addr} {sl12 : Array (Option Value)} {oc12 kV12 dc12 pm12 cd12 ct12 : Value}
    (a12 : PySem.W.nsIn K mainGlobals "is_left" = some (some (.ref f12))) (l12 : K.lookup f12 = some ⟨oc12, od12, .func (PySem.W.fnOf "is_left" "is_left" (defArgs s_is_left) (defBody s_is_left) (defScope s_is_left) .none kV12 dc12 pm12 an12 cd12 ct12), sl12⟩) (c12 : PySem.W.codeIn K cd12 "is_left" = true) (k12 : PySem.W.keepIn K (.ref f12) = true)
    {f13 : Addr} {od13 an13 : Option Addr} {sl13 : Array (Option Value)} {oc13 kV13 dc13 pm13 cd13 ct13 : Value}
    (a13 : PySem.W.nsIn K mainGlobals "cut_between" = some (some (.ref f13))) (l13 : K.lookup f13 = some ⟨oc13, od13, .func (PySem.W.fnOf "cut_between" "cut_between" (defArgs s_cut_between) (defBody s_cut_between) (defScope s_cut_between) .none kV13 dc13 pm13 an13 cd13 ct13), sl13⟩) (c13 : PySem.W.codeIn K cd13 "cut_between" = true) (k13 : PySem.W.keepIn K (.ref f13) = true)
    {f14 : Addr} {od14 an14 : Option Addr} {sl14 : Array (Option Value)} {oc14 kV14 dc14 pm14 cd14 ct14 : Value}
    (a14 : PySem.W.nsIn K mainGlobals "barred_cut" = some (some (.ref f14))) (l14 : K.lookup f14 = some ⟨oc14, od14, .func (PySem.W.fnOf "barred_cut" "barred_cut" (defArgs s_barred_cut) (defBody s_barred_cut) (defScope s_barred_cut) .none kV14 dc14 pm14 an14 cd14 ct14), sl14⟩) (c14 : PySem.W.codeIn K cd14 "barred_cut" = true) (k14 : PySem.W.keepIn K (.ref f14) = true)
    {f15 : Addr} {od15 an15 : Option Addr} {sl15 : Array (Option Value)} {oc15 kV15 dc15 pm15 cd15 ct15 : Value}
    (a15 : PySem.W.nsIn K mainGlobals "is_post" = some (some (.ref f15))) (l15 : K.lookup f15 = some ⟨oc15, od15, .func (PySem.W.fnOf "is_post" "is_post" (defArgs s_is_post) (defBody s_is_post) (defScope s_is_post) .none kV15 dc15 pm15 an15 cd15 ct15), sl15⟩) (c15 : PySem.W.codeIn K cd15 "is_post" = true) (k15 : PySem.W.keepIn K (.ref f15) = true)
    {f16 : Addr} {od16 an16 : Option Addr} {sl16 : Array (Option Value)} {oc16 kV16 dc16 pm16 cd16 ct16 : Value}
    {C_Log : Addr}
    (a16 : PySem.W.findIn K (.ref C_Log) "__init__" = some (some (.ref f16))) (i16 : PySem.W.isFn K (.ref f16) = true) (l16 : K.lookup f16 = some ⟨oc16, od16, .func (PySem.W.fnOf "__init__" "Log.__init__" (defArgs s_Log_init) (defBody s_Log_init) (defScope s_Log_init) .none kV16 dc16 pm16 an16 cd16 ct16), sl16⟩) (c16 : PySem.W.codeIn K cd16 "Log.__init__" = true) (k16 : PySem.W.keepIn K (.ref f16) = true)
    {f17 : Addr} {od17 an17 : Option Addr} {sl17 : Array (Option Value)} {oc17 kV17 dc17 pm17 cd17 ct17 : Value}
    (a17 : PySem.W.nsIn K mainGlobals "_law_hand" = some (some (.ref f17))) (l17 : K.lookup f17 = some ⟨oc17, od17, .func (PySem.W.fnOf "_law_hand" "_law_hand" (defArgs s_law_hand) (defBody s_law_hand) (defScope s_law_hand) .none kV17 dc17 pm17 an17 cd17 ct17), sl17⟩) (c17 : PySem.W.codeIn K cd17 "_law_hand" = true) (k17 : PySem.W.keepIn K (.ref f17) = true)
    {f18 : Addr} {od18 an18 : Option Addr} {sl18 : Array (Option Value)} {oc18 kV18 dc18 pm18 cd18 ct18 : Value}
    (a18 : PySem.W.nsIn K mainGlobals "_law_draw" = some (some (.ref f18))) (l18 : K.lookup f18 = some ⟨oc18, od18, .func (PySem.W.fnOf "_law_draw" "_law_draw" (defArgs s_law_draw) (defBody s_law_draw) (defScope s_law_draw) .none kV18 dc18 pm18 an18 cd18 ct18), sl18⟩) (c18 : PySem.W.codeIn K cd18 "_law_draw" = true) (k18 : PySem.W.keepIn K (.ref f18) = true)
    {f19 : Addr} {od19 an19 : Option Addr} {sl19 : Array (Option Value)} {oc19 kV19 dc19 pm19 cd19 ct19 : Value}
    (a19 : PySem.W.nsIn K mainGlobals "_law_is" = some (some (.ref f19))) (l19 : K.lookup f19 = some ⟨oc19, od19, .func (PySem.W.fnOf "_law_is" "_law_is" (defArgs s_law_is) (defBody s_law_is) (defScope s_law_is) .none kV19 dc19 pm19 an19 cd19 ct19), sl19⟩) (c19 : PySem.W.codeIn K cd19 "_law_is" = true) (k19 : PySem.W.keepIn K (.ref f19) = true)
    {f20 : Addr} {od20 an20 : Option Addr} {sl20 : Array (Option Value)} {oc20 kV20 dc20 pm20 cd20 ct20 : Value}
    (a20 : PySem.W.nsIn K mainGlobals "_law_some" = some (some (.ref f20))) (l20 : K.lookup f20 = some ⟨oc20, od20, .func (PySem.W.fnOf "_law_some" "_law_some" (defArgs s_law_some) (defBody s_law_some) (defScope s_law_some) .none kV20 dc20 pm20 an20 cd20 ct20), sl20⟩) (c20 : PySem.W.codeIn K cd20 "_law_some" = true) (k20 : PySem.W.keepIn K (.ref f20) = true)
    {f21 : Addr} {od21 an21 : Option Addr} {sl21 : Array (Option Value)} {oc21 kV21 dc21 pm21 cd21 ct21 : Value}
    (a21 : PySem.W.nsIn K mainGlobals "_law_whole" = some (some (.ref f21))) (l21 : K.lookup f21 = some ⟨oc21, od21, .func (PySem.W.fnOf "_law_whole" "_law_whole" (defArgs s_law_whole) (defBody s_law_whole) (defScope s_law_whole) .none kV21 dc21 pm21 an21 cd21 ct21), sl21⟩) (c21 : PySem.W.codeIn K cd21 "_law_whole" = true) (k21 : PySem.W.keepIn K (.ref f21) = true)
    {f22 : Addr} {od22 an22 : Option Addr} {sl22 : Array (Option Value)} {oc22 kV22 dc22 pm22 cd22 ct22 : Value}
    (a22 : PySem.W.nsIn K mainGlobals "_law_deep" = some (some (.ref f22))) (l22 : K.lookup f22 = some ⟨oc22, od22, .func (PySem.W.fnOf "_law_deep" "_law_deep" (defArgs s_law_deep) (defBody s_law_deep) (defScope s_law_deep) .none kV22 dc22 pm22 an22 cd22 ct22), sl22⟩) (c22 : PySem.W.codeIn K cd22 "_law_deep" = true) (k22 : PySem.W.keepIn K (.ref f22) = true)
    {f23 : Addr} {od23 an23 : Option Addr} {sl23 : Array (Option Value)} {oc23 kV23 dc23 pm23 cd23 ct23 : Value}
    (a23 : PySem.W.nsIn K mainGlobals "_law_row" = some (some (.ref f23))) (l23 : K.lookup f23 = some ⟨oc23, od23, .func (PySem.W.fnOf "_law_row" "_law_row" (defArgs s_law_row) (defBody s_law_row) (defScope s_law_row) .none kV23 dc23 pm23 an23 cd23 ct23), sl23⟩) (c23 : PySem.W.codeIn K cd23 "_law_row" = true) (k23 : PySem.W.keepIn K (.ref f23) = true)
    {f24 : Addr} {od24 an24 : Option Addr} {sl24 : Array (Option Value)} {oc24 kV24 dc24 pm24 cd24 ct24 : Value}
    (a24 : PySem.W.nsIn K mainGlobals "_law_rows" = some (some (.ref f24))) (l24 : K.lookup f24 = some ⟨oc24, od24, .func (PySem.W.fnOf "_law_rows" "_law_rows" (defArgs s_law_rows) (defBody s_law_rows) (defScope s_law_rows) .none kV24 dc24 pm24 an24 cd24 ct24), sl24⟩) (c24 : PySem.W.codeIn K cd24 "_law_rows" = true) (k24 : PySem.W.keepIn K (.ref f24) = true)
    {f25 : Addr} {od25 an25 : Option Addr} {sl25 : Array (Option Value)} {oc25 kV25 dc25 pm25 cd25 ct25 : Value}
    (a25 : PySem.W.nsIn K mainGlobals "_law_bars" = some (some (.ref f25))) (l25 : K.lookup f25 = some ⟨oc25, od25, .func (PySem.W.fnOf "_law_bars" "_law_bars" (defArgs s_law_bars) (defBody s_law_bars) (defScope s_law_bars) .none kV25 dc25 pm25 an25 cd25 ct25), sl25⟩) (c25 : PySem.W.codeIn K cd25 "_law_bars" = true) (k25 : PySem.W.keepIn K (.ref f25) = true)
    {f26 : Addr} {od26 an26 : Option Addr} {sl26 : Array (Option Value)} {oc26 kV26 dc26 pm26 cd26 ct26 : Value}
    (a26 : PySem.W.nsIn K mainGlobals "_law_is_post" = some (some (.ref f26))) (l26 : K.lookup f26 = some ⟨oc26, od26, .func (PySem.W.fnOf "_law_is_post" "_law_is_post" (defArgs s_law_is_post) (defBody s_law_is_post) (defScope s_law_is_post) .none kV26 dc26 pm26 an26 cd26 ct26), sl26⟩) (c26 : PySem.W.codeIn K cd26 "_law_is_post" = true) (k26 : PySem.W.keepIn K (.ref f26) = true)
    {f27 : Addr} {od27 an27 : Option Addr} {sl27 : Array (Option Value)} {oc27 kV27 dc27 pm27 cd27 ct27 : Value}
    (a27 : PySem.W.nsIn K mainGlobals "_law_drawn_post" = some (some (.ref f27))) (l27 : K.lookup f27 = some ⟨oc27, od27, .func (PySem.W.fnOf "_law_drawn_post" "_law_drawn_post" (defArgs s_law_drawn_post) (defBody s_law_drawn_post) (defScope s_law_drawn_post) .none kV27 dc27 pm27 an27 cd27 ct27), sl27⟩) (c27 : PySem.W.codeIn K cd27 "_law_drawn_post" = true) (k27 : PySem.W.keepIn K (.ref f27) = true)
    {f28 : Addr} {od28 an28 : Option Addr} {sl28 : Array (Option Value)} {oc28 kV28 dc28 pm28 cd28 ct28 : Value}
    (a28 : PySem.W.nsIn K mainGlobals "_law_offices" = some (some (.ref f28))) (l28 : K.lookup f28 = some ⟨oc28, od28, .func (PySem.W.fnOf "_law_offices" "_law_offices" (defArgs s_law_offices) (defBody s_law_offices) (defScope s_law_offices) .none kV28 dc28 pm28 an28 cd28 ct28), sl28⟩) (c28 : PySem.W.codeIn K cd28 "_law_offices" = true) (k28 : PySem.W.keepIn K (.ref f28) = true)
    {f29 : Addr} {od29 an29 : Option Addr} {sl29 : Array (Option Value)} {oc29 kV29 dc29 pm29 cd29 ct29 : Value}
    (a29 : PySem.W.nsIn K mainGlobals "_law_spoiled" = some (some (.ref f29))) (l29 : K.lookup f29 = some ⟨oc29, od29, .func (PySem.W.fnOf "_law_spoiled" "_law_spoiled" (defArgs s_law_spoiled) (defBody s_law_spoiled) (defScope s_law_spoiled) .none kV29 dc29 pm29 an29 cd29 ct29), sl29⟩) (c29 : PySem.W.codeIn K cd29 "_law_spoiled" = true) (k29 : PySem.W.keepIn K (.ref f29) = true)
    {f30 : Addr} {od30 an30 : Option Addr} {sl30 : Array (Option Value)} {oc30 kV30 dc30 pm30 cd30 ct30 : Value}
    (a30 : PySem.W.nsIn K mainGlobals "_law_word" = some (some (.ref f30))) (l30 : K.lookup f30 = some ⟨oc30, od30, .func (PySem.W.fnOf "_law_word" "_law_word" (defArgs s_law_word) (defBody s_law_word) (defScope s_law_word) .none kV30 dc30 pm30 an30 cd30 ct30), sl30⟩) (c30 : PySem.W.codeIn K cd30 "_law_word" = true) (k30 : PySem.W.keepIn K (.ref f30) = true)
    {f31 : Addr} {od31 an31 : Option Addr} {sl31 : Array (Option Value)} {oc31 kV31 dc31 pm31 cd31 ct31 : Value}
    (a31 : PySem.W.nsIn K mainGlobals "law" = some (some (.ref f31))) (l31 : K.lookup f31 = some ⟨oc31, od31, .func (PySem.W.fnOf "law" "law" (defArgs s_law) (defBody s_law) (defScope s_law) .none kV31 dc31 pm31 an31 cd31 ct31), sl31⟩) (c31 : PySem.W.codeIn K cd31 "law" = true) (k31 : PySem.W.keepIn K (.ref f31) = true)
    (gc_Log : PySem.W.nsIn K mainGlobals "Log" = some (some (.ref C_Log)))
    (pg_Log : PySem.W.plainGet K C_Log Str.empty = true) (hd_Log : PySem.W.hasDictIn K C_Log = true) (po_Log : PySem.W.plainOver K C_Log = true) (sa_Log : PySem.W.findIn K (.ref C_Log) "__setattr__" = some (some (.builtin "object.__setattr__"))) (mk_Log : PySem.W.makesIn K C_Log = true) (kc_Log : PySem.W.keepIn K (.ref C_Log) = true)
    (na_Log_offices : PySem.W.findIn K (.ref C_Log) "offices" = some none)
    (na_Log_rows : PySem.W.findIn K (.ref C_Log) "rows" = some none)
    (ia_Log : PySem.W.findIn K (.ref C_Log) "__class__" = some (some (.builtin "object.__class__"))) (ib_Log : PySem.W.specialIn K (.builtin "object.__class__") "__get__" = some (some (.builtin "getset_descriptor.__get__"))) (ic_Log : PySem.W.takesIn K (.builtin "object.__class__") = some true) (id_Log : PySem.W.mroIn K C_Log (.type "object") = some true)
    {C_SheetError : Addr}
    (gc_SheetError : PySem.W.nsIn K mainGlobals "SheetError" = some (some (.ref C_SheetError)))
    (rd_SheetError : PySem.W.readsIn K C_SheetError (.type "type") = true) (ga_SheetError : PySem.W.specialIn K (.ref C_SheetError) "__getattribute__" = some (some (.builtin "type.__getattribute__"))) (vI_SheetError : PySem.W.findCls K (.ref C_SheetError) (.type "type") "__init__" = some (.val (.builtin "ValueError.__init__")))
    (gc_NoSide : PySem.W.nsIn K mainGlobals "NoSide" = some (some (.ref C_NoSide)))
    {nm_NoSide q_NoSide : Str} {N_NoSide : Addr} {bs_NoSide bm_NoSide : List Value} {sn_NoSide : List Str} {sub_NoSide : List Value} {ab_NoSide : Bool} {col_NoSide : Option Bool} {dd_NoSide : Option Addr} {m0_NoSide m1_NoSide m2_NoSide m3_NoSide m5_NoSide : Option Value}
    (xL_NoSide : K.lookup C_NoSide = some (excClassObj nm_NoSide q_NoSide C_NoSide N_NoSide bs_NoSide bm_NoSide true sn_NoSide sub_NoSide ab_NoSide col_NoSide dd_NoSide m0_NoSide m1_NoSide m2_NoSide m3_NoSide m5_NoSide "ValueError.__new__"))
    (xR_NoSide : PySem.HandSPX.refsVE bm_NoSide = true) (sa_NoSide : PySem.W.findIn K (.ref C_NoSide) "__setattr__" = some (some (.builtin "object.__setattr__"))) (eC_NoSide : PySem.W.subIn K (.ref C_NoSide) (.type "BaseException") = some true) (tC_NoSide : PySem.W.typeIn K (.ref C_NoSide) = some (.type "type")) (kc_NoSide : PySem.W.keepIn K (.ref C_NoSide) = true)
    (ot_NoSide : PySem.W.typeIn K (.ref f0) = some (.type "function"))
    (eX_NoSide : PySem.W.subIn K (.ref C_NoSide) (.type "BaseException") = some true) (hd_NoSide : PySem.W.hasDictIn K C_NoSide = true) (tX_NoSide : PySem.W.typeIn K (.ref C_NoSide) = some (.type "type"))
    (sb_NoSide_NoSide : PySem.W.subIn K (.ref C_NoSide) (.ref C_NoSide) = some true)
    (mt_tuple : PySem.W.mroIn K C_Log (.type "tuple") = some false)
    (mt_list : PySem.W.mroIn K C_Log (.type "list") = some false)
    (mt_int : PySem.W.mroIn K C_Log (.type "int") = some false)
    (mt_bool : PySem.W.mroIn K C_Log (.type "bool") = some false)
    (mt_str : PySem.W.mroIn K C_Log (.type "str") = some false)
    {t_MOST_OFFICES : Tok} (v_MOST_OFFICES : PySem.W.nsIn K mainGlobals "MOST_OFFICES" = some (some (.int 12 t_MOST_OFFICES)))
    {t_MOST_ROWS : Tok} (v_MOST_ROWS : PySem.W.nsIn K mainGlobals "MOST_ROWS" = some (some (.int 60 t_MOST_ROWS)))
    (z0 : PySem.W.nsIn K mainGlobals "isinstance" = some none)
    (z1 : PySem.W.nsIn K mainGlobals "int" = some none)
    (z2 : PySem.W.nsIn K mainGlobals "bool" = some none)
    (z3 : PySem.W.nsIn K mainGlobals "tuple" = some none)
    (z4 : PySem.W.nsIn K mainGlobals "list" = some none)
    (z5 : PySem.W.nsIn K mainGlobals "len" = some none)
    (z6 : PySem.W.nsIn K mainGlobals "abs" = some none)
    (z7 : PySem.W.nsIn K mainGlobals "all" = some none)
    (z8 : PySem.W.nsIn K mainGlobals "zip" = some none)
    (z9 : PySem.W.nsIn K mainGlobals "range" = some none)
    (z10 : PySem.W.nsIn K mainGlobals "enumerate" = some none)
    (z11 : PySem.W.nsIn K mainGlobals "max" = some none)
    (z12 : PySem.W.nsIn K mainGlobals "str" = some none)
    : ∃ fd : FuncData, (∀ (s : Shared) (v : Value), BindsTo s fd ⟨[v], []⟩ [("_law_script", v)]) ∧ ∀ base : Heap, K.In base → base.Ns mainGlobals mg → FnOk l.prog w K mg base CX0 lawLevel fa fd ["_law_script"] (sp_law K) := by
  have e := hfa.symm.trans (PySem.W.mg_of X G a31)
  cases e
  have F0 := fun_mk (st := s_NoSide_init) l0 c0 k0
  have b0 := F0.binds (ps := ["self"]) fun _ _ _ _ _ _ us hl => match us, hl with | [_], _ => rfl
  have F1 := fun_mk (st := s_is_integer) l1 c1 k1
  have b1 := F1.binds (ps := ["thing"]) fun _ _ _ _ _ _ us hl => match us, hl with | [_], _ => rfl
  have F2 := fun_mk (st := s_is_between) l2 c2 k2
  have b2 := F2.binds (ps := ["thing", "least", "most"]) fun _ _ _ _ _ _ us hl => match us, hl with | [_, _, _], _ => rfl
  have F3 := fun_mk (st := s_is_number) l3 c3 k3
  have b3 := F3.binds (ps := ["thing", "many"]) fun _ _ _ _ _ _ us hl => match us, hl with | [_, _], _ => rfl
  have F4 := fun_mk (st := s_is_word) l4 c4 k4
  have b4 := F4.binds (ps := ["thing", "word"]) fun _ _ _ _ _ _ us hl => match us, hl with | [_, _], _ => rfl
  have F5 := fun_mk (st := s_is_tuple_of) l5 c5 k5
  have b5 := F5.binds (ps := ["thing", "many"]) fun _ _ _ _ _ _ us hl => match us, hl with | [_, _], _ => rfl
  have F6 := fun_mk (st := s_are_numbers) l6 c6 k6
  have b6 := F6.binds (ps := ["things", "many"]) fun _ _ _ _ _ _ us hl => match us, hl with | [_, _], _ => rfl
  have F7 := fun_mk (st := s_is_side) l7 c7 k7
  have b7 := F7.binds (ps := ["thing"]) fun _ _ _ _ _ _ us hl => match us, hl with | [_], _ => rfl
  have F8 := fun_mk (st := s_check_side) l8 c8 k8
  have b8 := F8.binds (ps := ["side"]) fun _ _ _ _ _ _ us hl => match us, hl with | [_], _ => rfl
  have F9 := fun_mk (st := s_is_copying) l9 c9 k9
  have b9 := F9.binds (ps := ["offices", "thing"]) fun _ _ _ _ _ _ us hl => match us, hl with | [_, _], _ => rfl
  have F10 := fun_mk (st := s_is_row) l10 c10 k10
  have b10 := F10.binds (ps := ["offices", "thing"]) fun _ _ _ _ _ _ us hl => match us, hl with | [_, _], _ => rfl
  have F11 := fun_mk (st := s_wrong_part) l11 c11 k11
  have b11 := F11.binds (ps := ["offices", "rows", "is_right"]) fun _ _ _ _ _ _ us hl => match us, hl with | [_, _, _], _ => rfl
  have F12 := fun_mk (st := s_is_left) l12 c12 k12
  have b12 := F12.binds (ps := ["row"]) fun _ _ _ _ _ _ us hl => match us, hl with | [_], _ => rfl
  have F13 := fun_mk (st := s_cut_between) l13 c13 k13
  have b13 := F13.binds (ps := ["row"]) fun _ _ _ _ _ _ us hl => match us, hl with | [_], _ => rfl
  have F14 := fun_mk (st := s_barred_cut) l14 c14 k14
  have b14 := F14.binds (ps := ["side", "row"]) fun _ _ _ _ _ _ us hl => match us, hl with | [_, _], _ => rfl
  have F15 := fun_mk (st := s_is_post) l15 c15 k15
  have b15 := F15.binds (ps := ["log", "side", "thing"]) fun _ _ _ _ _ _ us hl => match us, hl with | [_, _, _], _ => rfl
  have F16 := fun_mk (st := s_Log_init) l16 c16 k16
  have b16 := F16.binds (ps := ["self", "offices", "rows"]) fun _ _ _ _ _ _ us hl => match us, hl with | [_, _, _], _ => rfl
  have F17 := fun_mk (st := s_law_hand) l17 c17 k17
  have b17 := F17.binds (ps := ["_law_script"]) fun _ _ _ _ _ _ us hl => match us, hl with | [_], _ => rfl
  have F18 := fun_mk (st := s_law_draw) l18 c18 k18
  have b18 := F18.binds (ps := ["_law_hand_here", "_law_many"]) fun _ _ _ _ _ _ us hl => match us, hl with | [_, _], _ => rfl
  have F19 := fun_mk (st := s_law_is) l19 c19 k19
  have b19 := F19.binds (ps := ["_law_told", "_law_due"]) fun _ _ _ _ _ _ us hl => match us, hl with | [_, _], _ => rfl
  have F20 := fun_mk (st := s_law_some) l20 c20 k20
  have b20 := F20.binds (ps := ["_law_hand_here", "_law_things"]) fun _ _ _ _ _ _ us hl => match us, hl with | [_, _], _ => rfl
  have F21 := fun_mk (st := s_law_whole) l21 c21 k21
  have b21 := F21.binds (ps := ["_law_thing", "_law_low", "_law_high"]) fun _ _ _ _ _ _ us hl => match us, hl with | [_, _, _], _ => rfl
  have F22 := fun_mk (st := s_law_deep) l22 c22 k22
  have b22 := F22.binds (ps := ["_law_kind"]) fun _ _ _ _ _ _ us hl => match us, hl with | [_], _ => rfl
  have F23 := fun_mk (st := s_law_row) l23 c23 k23
  have b23 := F23.binds (ps := ["_law_hand_here", "_law_offices_here", "_law_share"]) fun _ _ _ _ _ _ us hl => match us, hl with | [_, _, _], _ => rfl
  have F24 := fun_mk (st := s_law_rows) l24 c24 k24
  have b24 := F24.binds (ps := ["_law_hand_here", "_law_offices_here", "_law_many", "_law_share"]) fun _ _ _ _ _ _ us hl => match us, hl with | [_, _, _, _], _ => rfl
  have F25 := fun_mk (st := s_law_bars) l25 c25 k25
  have b25 := F25.binds (ps := ["_law_side", "_law_row_here"]) fun _ _ _ _ _ _ us hl => match us, hl with | [_, _], _ => rfl
  have F26 := fun_mk (st := s_law_is_post) l26 c26 k26
  have b26 := F26.binds (ps := ["_law_offices_here", "_law_rows_here", "_law_side", "_law_thing"]) fun _ _ _ _ _ _ us hl => match us, hl with | [_, _, _, _], _ => rfl
  have F27 := fun_mk (st := s_law_drawn_post) l27 c27 k27
  have b27 := F27.binds (ps := ["_law_hand_here", "_law_offices_here", "_law_rows_here", "_law_side"]) fun _ _ _ _ _ _ us hl => match us, hl with | [_, _, _, _], _ => rfl
  have F28 := fun_mk (st := s_law_offices) l28 c28 k28
  have b28 := F28.binds (ps := ["_law_hand_here", "_law_most"]) fun _ _ _ _ _ _ us hl => match us, hl with | [_, _], _ => rfl
  have F29 := fun_mk (st := s_law_spoiled) l29 c29 k29
  have b29 := F29.binds (ps := ["_law_hand_here", "_law_offices_here", "_law_rows_here", "_law_side", "_law_thing", "_law_odd"]) fun _ _ _ _ _ _ us hl => match us, hl with | [_, _, _, _, _, _], _ => rfl
  have F30 := fun_mk (st := s_law_word) l30 c30 k30
  have b30 := F30.binds (ps := ["_law_log", "_law_side", "_law_thing"]) fun _ _ _ _ _ _ us hl => match us, hl with | [_, _, _], _ => rfl
  have F31 := fun_mk (st := s_law) l31 c31 k31
  have b31 := F31.binds (ps := ["_law_script"]) fun _ _ _ _ _ _ us hl => match us, hl with | [_], _ => rfl
  have T : Txt K mg ⟨f0, _, f1, _, f2, _, f3, _, f4, _, f5, _, f6, _, f7, _, f8, _, f9, _, f10, _, f11, _, f12, _, f13, _, f14, _, f15, _, f16, _, f17, _, f18, _, f19, _, f20, _, f21, _, f22, _, f23, _, f24, _, f25, _, f26, _, f27, _, f28, _, f29, _, f30, _, _, _, C_Log, C_SheetError, C_NoSide⟩ := ⟨F0, b0, F1, PySem.W.mg_of X G a1, b1, F2, PySem.W.mg_of X G a2, b2, F3, PySem.W.mg_of X G a3, b3, F4, PySem.W.mg_of X G a4, b4, F5, PySem.W.mg_of X G a5, b5, F6, PySem.W.mg_of X G a6, b6, F7, PySem.W.mg_of X G a7, b7, F8, PySem.W.mg_of X G a8, b8, F9, PySem.W.mg_of X G a9, b9, F10, PySem.W.mg_of X G a10, b10, F11, PySem.W.mg_of X G a11, b11, F12, PySem.W.mg_of X G a12, b12, F13, PySem.W.mg_of X G a13, b13, F14, PySem.W.mg_of X G a14, b14, F15, PySem.W.mg_of X G a15, b15, F16, b16, F17, PySem.W.mg_of X G a17, b17, F18, PySem.W.mg_of X G a18, b18, F19, PySem.W.mg_of X G a19, b19, F20, PySem.W.mg_of X G a20, b20, F21, PySem.W.mg_of X G a21, b21, F22, PySem.W.mg_of X G a22, b22, F23, PySem.W.mg_of X G a23, b23, F24, PySem.W.mg_of X G a24, b24, F25, PySem.W.mg_of X G a25, b25, F26, PySem.W.mg_of X G a26, b26, F27, PySem.W.mg_of X G a27, b27, F28, PySem.W.mg_of X G a28, b28, F29, PySem.W.mg_of X G a29, b29, F30, PySem.W.mg_of X G a30, b30, F31, PySem.W.mg_of X G a31, b31, PySem.W.mg_of X G gc_Log, ⟨pg_Log, hd_Log, po_Log, sa_Log⟩, na_Log_offices, na_Log_rows, ⟨mk_Log, a16, i16, kc_Log⟩, ⟨⟨pg_Log, hd_Log, po_Log, sa_Log⟩, ia_Log, ib_Log, ic_Log, id_Log, kit_self⟩, PySem.W.mg_of X G gc_SheetError, ⟨rd_SheetError, ga_SheetError, vI_SheetError⟩, PySem.W.mg_of X G gc_NoSide, ⟨⟨_, _, _, _, _, _, _, _, _, _, _, _, _, _, _, xL_NoSide, xR_NoSide⟩, sa_NoSide, eC_NoSide, tC_NoSide, kc_NoSide⟩, a0, ot_NoSide, PySem.W.exm_ref eX_NoSide hd_NoSide tX_NoSide sb_NoSide_NoSide, mt_tuple, mt_list, mt_int, mt_bool, mt_str, ⟨_, PySem.W.mg_of X G v_MOST_OFFICES⟩, ⟨_, PySem.W.mg_of X G v_MOST_ROWS⟩, PySem.W.mg_none_of X G z0, PySem.W.mg_none_of X G z1, PySem.W.mg_none_of X G z2, PySem.W.mg_none_of X G z3, PySem.W.mg_none_of X G z4, PySem.W.mg_none_of X G z5, PySem.W.mg_none_of X G z6, PySem.W.mg_none_of X G z7, PySem.W.mg_none_of X G z8, PySem.W.mg_none_of X G z9, PySem.W.mg_none_of X G z10, PySem.W.mg_none_of X G z11, PySem.W.mg_none_of X G z12⟩
  exact ⟨_, fun s v => .of_eq rfl, fun base _ _ => ok_law T⟩
end Pf
open PySem PySem.W PyProof.Rows
set_option maxHeartbeats 0 in
theorem PySem.Challenge.cw_takenover_k19_posts_judged_and_spoiled_holds : PySem.Challenge.rw_takenover_k19_posts_judged_and_spoiled.Holds := by
  w_on; o_law; k_head; (case hw => w_witness2)
  k_fill
  refine L2.walk_of (l := PySem.Challenge.rw_takenover_k19_posts_judged_and_spoiled) (n := 63) (k := Pf.lawLevel) (x := "_law_script") (CX := fun _ => L2.CX0) (sp := fun w => Pf.sp_law _) rfl (by decide) rfl ⟨rfl, by decide, by decide⟩ (fun w h Y => PySem.W.kIn_of Y) ?F (fun _ _ a ns hl _ hS => ⟨a, ns, rfl, hS, hl, fun _ => rfl⟩) (fun _ _ _ _ _ h => h)
  case F =>
    intro w mg fa h KX G hmg
    refine' Pf.all_mk KX G hmg ?a0 ?i0 ?l0 ?c0 ?k0 ?a1 ?l1 ?c1 ?k1 ?a2 ?l2 ?c2 ?k2 ?a3 ?l3 ?c3 ?k3 ?a4 ?l4 ?c4 ?k4 ?a5 ?l5 ?c5 ?k5 ?a6 ?l6 ?c6 ?k6 ?a7 ?l7 ?c7 ?k7 ?a8 ?l8 ?c8 ?k8 ?a9 ?l9 ?c9 ?k9 ?a10 ?l10 ?c10 ?k10 ?a11 ?l11 ?c11 ?k11 ?a12 ?l12 ?c12 ?k12 ?a13 ?l13 ?c13 ?k13 ?a14 ?l14 ?c14 ?k14 ?a15 ?l15 ?c15 ?k15 ?a16 ?i16 ?l16 ?c16 ?k16 ?a17 ?l17 ?c17 ?k17 ?a18 ?l18 ?c18 ?k18 ?a19 ?l19 ?c19 ?k19 ?a20 ?l20 ?c20 ?k20 ?a21 ?l21 ?c21 ?k21 ?a22 ?l22 ?c22 ?k22 ?a23 ?l23 ?c23 ?k23 ?a24 ?l24 ?c24 ?k24 ?a25 ?l25 ?c25 ?k25 ?a26 ?l26 ?c26 ?k26 ?a27 ?l27 ?c27 ?k27 ?a28 ?l28 ?c28 ?k28 ?a29 ?l29 ?c29 ?k29 ?a30 ?l30 ?c30 ?k30 ?a31 ?l31 ?c31 ?k31 ?gc_Log ?pg_Log ?hd_Log ?po_Log ?sa_Log ?mk_Log ?kc_Log ?na_Log_offices ?na_Log_rows ?ia_Log ?ib_Log ?ic_Log ?id_Log ?gc_SheetError ?rd_SheetError ?ga_SheetError ?vI_SheetError ?gc_NoSide ?xL_NoSide ?xR_NoSide ?sa_NoSide ?eC_NoSide ?tC_NoSide ?kc_NoSide ?ot_NoSide ?eX_NoSide ?hd_NoSide ?tX_NoSide ?sb_NoSide_NoSide ?mt_tuple ?mt_list ?mt_int ?mt_bool ?mt_str ?v_MOST_OFFICES ?v_MOST_ROWS ?z0 ?z1 ?z2 ?z3 ?z4 ?z5 ?z6 ?z7 ?z8 ?z9 ?z10 ?z11 ?z12
    (case gc_Log => k_is); (case gc_SheetError => k_is); (case gc_NoSide => k_is); (case a0 => k_is); (case i0 => k_is); (case l0 => k_is); (case c0 => k_is); (case k0 => k_is); (case a1 => k_is); (case l1 => k_is); (case c1 => k_is); (case k1 => k_is); (case a2 => k_is); (case l2 => k_is); (case c2 => k_is); (case k2 => k_is); (case a3 => k_is); (case l3 => k_is); (case c3 => k_is); (case k3 => k_is); (case a4 => k_is); (case l4 => k_is); (case c4 => k_is); (case k4 => k_is); (case a5 => k_is); (case l5 => k_is); (case c5 => k_is); (case k5 => k_is); (case a6 => k_is); (case l6 => k_is); (case c6 => k_is); (case k6 => k_is); (case a7 => k_is); (case l7 => k_is); (case c7 => k_is); (case k7 => k_is); (case a8 => k_is); (case l8 => k_is); (case c8 => k_is); (case k8 => k_is); (case a9 => k_is); (case l9 => k_is); (case c9 => k_is); (case k9 => k_is); (case a10 => k_is); (case l10 => k_is); (case c10 => k_is); (case k10 => k_is); (case a11 => k_is); (case l11 => k_is); (case c11 => k_is); (case k11 => k_is); (case a12 => k_is); (case l12 => k_is); (case c12 => k_is); (case k12 => k_is); (case a13 => k_is); (case l13 => k_is); (case c13 => k_is); (case k13 => k_is); (case a14 => k_is); (case l14 => k_is); (case c14 => k_is); (case k14 => k_is); (case a15 => k_is); (case l15 => k_is); (case c15 => k_is); (case k15 => k_is); (case a16 => k_is); (case i16 => k_is); (case l16 => k_is); (case c16 => k_is); (case k16 => k_is); (case a17 => k_is); (case l17 => k_is); (case c17 => k_is); (case k17 => k_is); (case a18 => k_is); (case l18 => k_is); (case c18 => k_is); (case k18 => k_is); (case a19 => k_is); (case l19 => k_is); (case c19 => k_is); (case k19 => k_is); (case a20 => k_is); (case l20 => k_is); (case c20 => k_is); (case k20 => k_is); (case a21 => k_is); (case l21 => k_is); (case c21 => k_is); (case k21 => k_is); (case a22 => k_is); (case l22 => k_is); (case c22 => k_is); (case k22 => k_is); (case a23 => k_is); (case l23 => k_is); (case c23 => k_is); (case k23 => k_is); (case a24 => k_is); (case l24 => k_is); (case c24 => k_is); (case k24 => k_is); (case a25 => k_is); (case l25 => k_is); (case c25 => k_is); (case k25 => k_is); (case a26 => k_is); (case l26 => k_is); (case c26 => k_is); (case k26 => k_is); (case a27 => k_is); (case l27 => k_is); (case c27 => k_is); (case k27 => k_is); (case a28 => k_is); (case l28 => k_is); (case c28 => k_is); (case k28 => k_is); (case a29 => k_is); (case l29 => k_is); (case c29 => k_is); (case k29 => k_is); (case a30 => k_is); (case l30 => k_is); (case c30 => k_is); (case k30 => k_is); (case a31 => k_is); (case l31 => k_is); (case c31 => k_is); (case k31 => k_is); (case pg_Log => k_is); (case hd_Log => k_is); (case po_Log => k_is); (case sa_Log => k_is); (case mk_Log => k_is); (case kc_Log => k_is); (case na_Log_offices => k_is); (case na_Log_rows => k_is); (case ia_Log => k_is); (case ib_Log => k_is); (case ic_Log => k_is); (case id_Log => k_is); (case rd_SheetError => k_is); (case ga_SheetError => k_is); (case vI_SheetError => k_is); (case xL_NoSide => k_is); (case xR_NoSide => decide +kernel); (case sa_NoSide => k_is); (case eC_NoSide => k_is); (case tC_NoSide => k_is); (case kc_NoSide => k_is); (case ot_NoSide => k_is); (case eX_NoSide => k_is); (case hd_NoSide => k_is); (case tX_NoSide => k_is); (case sb_NoSide_NoSide => first | rfl | k_is); (case mt_tuple => k_is); (case mt_list => k_is); (case mt_int => k_is); (case mt_bool => k_is); (case mt_str => k_is); (case v_MOST_OFFICES => k_is); (case v_MOST_ROWS => k_is); (case z0 => k_is); (case z1 => k_is); (case z2 => k_is); (case z3 => k_is); (case z4 => k_is); (case z5 => k_is); (case z6 => k_is); (case z7 => k_is); (case z8 => k_is); (case z9 => k_is); (case z10 => k_is); (case z11 => k_is); (case z12 => k_is)
