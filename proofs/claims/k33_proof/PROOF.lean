import PyProof.Rows.All
import Wide.All
import OpenK.AllK
import Wide.FinOn
import HandS.ForMost
import HandS.ForExc
import HandS.IsInst
import HandS.Codes
import HandS.Walk
import HandS.Conv
import HandS.Deep
import HandS.TupAny
import HandS.Star
import PySem.Challenge.RW_boxshift_k33_whole_growing
import HandS.ExcInit
import HandS.FStr
import KE.KExcSuper
import KE.GoesEnum
import HandS.TupMul
import HandS.Lambda
import HandS.Nested
import HandS.TryMany
import KE.DataEq
import HandS.Style
import HandS.ExcOwn
import HandS.Ends
import HandS.EndTab
import KE.KNestM
import PyProof.ExcBaseAll.ValueError
import KE.RegKSuper
set_option Elab.async false
set_option linter.all false
set_option maxRecDepth 100000
set_option maxHeartbeats 4000000
namespace Bx
open PySem PySem.Spec PyProof.Rows L2 C8

theorem b_len : bootBuiltins "len" = some (.builtin "len") := by decide +kernel
theorem b_isinstance : bootBuiltins "isinstance" = some (.builtin "isinstance") := by decide +kernel
theorem b_sum : bootBuiltins "sum" = some (.builtin "sum") := by decide +kernel
theorem b_int : bootBuiltins "int" = some (.type "int") := by decide +kernel
theorem b_bool : bootBuiltins "bool" = some (.type "bool") := by decide +kernel
theorem b_list : bootBuiltins "list" = some (.type "list") := by decide +kernel
theorem b_tuple : bootBuiltins "tuple" = some (.type "tuple") := by decide +kernel

theorem same_new {H : Hp} {p : Addr} (h : H p = none) (o : HO) : Same H (upd H p o) := fun b u q => by
  rw [upd_ne (ne_of_none q h)]
  exact q
/-- all but the objects of S is as it was -/
def SameX (S : List Addr) (H H' : Hp) : Prop := ∀ b o, b ∉ S → H b = some o → H' b = some o
theorem SameX.refl (S : List Addr) (H : Hp) : SameX S H H := fun _ _ _ h => h
theorem SameX.trans {S : List Addr} {H H1 H2 : Hp} (a : SameX S H H1) (b : SameX S H1 H2) : SameX S H H2 := fun c o n h => b c o n (a c o n h)
theorem SameX.of {S : List Addr} {H H' : Hp} (a : Same H H') : SameX S H H' := fun b o _ h => a b o h
theorem SameX.put {S : List Addr} {H H' : Hp} {p : Addr} {o : HO} (a : SameX S H H') (hp : p ∈ S) : SameX S H (upd H' p o) := fun b u n h => by
  rw [upd_ne (show b ≠ p from fun e => n (by rw [e]; exact hp))]
  exact a b u n h
theorem SameX.putNew {S : List Addr} {H H' : Hp} {p : Addr} {o : HO} (a : SameX S H H') (hp : H p = none) : SameX S H (L2.upd H' p o) := fun b u n h => by
  rw [upd_ne (ne_of_none h hp)]
  exact a b u n h
theorem SameX.mono {S T : List Addr} {H H' : Hp} (a : SameX S H H') (h : ∀ x ∈ S, x ∈ T) : SameX T H H' := fun b o n q => a b o (fun z => n (h b z)) q
/-- Same out of a walk that changed only what was new -/
theorem Same.putNew {H H' : Hp} {p : Addr} {o : HO} (a : Same H H') (hp : H p = none) : Same H (upd H' p o) := fun b u h => by
  rw [upd_ne (ne_of_none h hp)]
  exact a b u h
theorem Same.sqt {K : PySem.W.Frag} {H H' : Hp} {a : Addr} {xs : List V} (e : Same H H') (h : SqT K H a xs) : SqT K H' a xs := by
  rcases h with (h | ⟨o, h⟩) | h
  · exact .inl (.inl (e _ _ h))
  · exact .inl (.inr ⟨o, e _ _ h⟩)
  · exact .inr h
theorem SameX.seq {S : List Addr} {K : PySem.W.Frag} {H H' : Hp} {a : Addr} {xs : List V} (e : SameX S H H') (n : a ∉ S) (h : SqL K H a xs) : SqL K H' a xs := by
  rcases h with (h | ⟨o, h⟩) | h
  · exact .inl (.inl (e _ _ n h))
  · exact .inl (.inr ⟨o, e _ _ n h⟩)
  · exact .inr h
theorem SameX.sqt {S : List Addr} {K : PySem.W.Frag} {H H' : Hp} {a : Addr} {xs : List V} (e : SameX S H H') (n : a ∉ S) (h : SqT K H a xs) : SqT K H' a xs := by
  rcases h with (h | ⟨o, h⟩) | h
  · exact .inl (.inl (e _ _ n h))
  · exact .inl (.inr ⟨o, e _ _ n h⟩)
  · exact .inr h
theorem small {n : Nat} (h : n ≤ 1000) : n ≤ sizeLine := Nat.le_of_lt (small1000 h)

theorem tyL {K : PySem.W.Frag} {H : Hp} {a : Addr} {xs : List V} (h : SqL K H a xs) : TyX K H (.ref a) (.type "list") := by
  rcases h with (h | ⟨o, h⟩) | ⟨o, its, n, h, c, _⟩
  · exact .base (.lst h)
  · exact .base (.frz h)
  · exact .kList h c
theorem tyT {K : PySem.W.Frag} {H : Hp} {a : Addr} {xs : List V} (h : SqT K H a xs) : TyX K H (.ref a) (.type "tuple") := by
  rcases h with (h | ⟨o, h⟩) | ⟨o, its, n, h, c, _⟩
  · exact .base (.tup h)
  · exact .fTuple h
  · exact .kTuple h c
theorem k_int_int {K : PySem.W.Frag} : PySem.W.kitOne K (.type "int") (.type "int") = some true := kit_ty (by decide +kernel)
theorem k_int_bool {K : PySem.W.Frag} : PySem.W.kitOne K (.type "int") (.type "bool") = some false := kit_ty (by decide +kernel)
theorem k_int_tuple {K : PySem.W.Frag} : PySem.W.kitOne K (.type "int") (.type "tuple") = some false := kit_ty (by decide +kernel)
theorem k_tuple_int {K : PySem.W.Frag} : PySem.W.kitOne K (.type "tuple") (.type "int") = some false := kit_ty (by decide +kernel)
theorem k_tuple_tuple {K : PySem.W.Frag} : PySem.W.kitOne K (.type "tuple") (.type "tuple") = some true := kit_ty (by decide +kernel)
theorem k_str_tuple {K : PySem.W.Frag} : PySem.W.kitOne K (.type "str") (.type "tuple") = some false := kit_ty (by decide +kernel)
theorem k_list_lt {K : PySem.W.Frag} : PySem.W.kitAny K (.type "list") [.type "list", .type "tuple"] = some true :=
  kitAny_cons (b := true) (kit_ty (by decide +kernel)) (fun h => by cases h) (fun _ => rfl)
theorem k_tuple_lt {K : PySem.W.Frag} : PySem.W.kitAny K (.type "tuple") [.type "list", .type "tuple"] = some true :=
  kitAny_cons (b := false) (kit_ty (by decide +kernel)) (fun _ => kitAny_cons (b := true) (kit_ty (by decide +kernel)) (fun h => by cases h) (fun _ => rfl)) (fun h => by cases h)
theorem cls_lt : Paired ClsV [V.ty "list", V.ty "tuple"] [Value.type "list", Value.type "tuple"] := .cons (.ty _) (.cons (.ty _) .nil)

abbrev vn (n : Nat) : V := .int (n : Int)
structure Cells (K : PySem.W.Frag) (H : Hp) (a : Addr) (cs : List Nat) : Prop where
  sq : SqL K H a (cs.map vn) ∨ SqT K H a (cs.map vn)
  len : cs.length ≤ 30
  top : ∀ n ∈ cs, n ≤ 99
theorem Cells.same {K : PySem.W.Frag} {H H' : Hp} {a : Addr} {cs : List Nat} (e : Same H H') (h : Cells K H a cs) : Cells K H' a cs :=
  ⟨h.sq.elim (fun z => .inl (e.seq z)) (fun z => .inr (Same.sqt e z)), h.len, h.top⟩
theorem Cells.samex {S : List Addr} {K : PySem.W.Frag} {H H' : Hp} {a : Addr} {cs : List Nat} (e : SameX S H H') (n : a ∉ S) (h : Cells K H a cs) : Cells K H' a cs :=
  ⟨h.sq.elim (fun z => .inl (e.seq n z)) (fun z => .inr (e.sqt n z)), h.len, h.top⟩
/-- the cell at a place -/
def cel (cs : List Nat) (i : Nat) : Nat := cs.getD i 0
theorem cel_some {cs : List Nat} {i : Nat} (h : i < cs.length) : (cs.map vn)[i]? = some (vn (cel cs i)) := by
  rw [List.getElem?_map, List.getElem?_eq_getElem h, cel, List.getD_eq_getElem?_getD, List.getElem?_eq_getElem h]
  rfl
theorem cel_top {K : PySem.W.Frag} {H : Hp} {a : Addr} {cs : List Nat} (h : Cells K H a cs) (i : Nat) : cel cs i ≤ 99 := by
  rw [cel, List.getD_eq_getElem?_getD]
  cases e : cs[i]? with
  | none => exact Nat.zero_le _
  | some n => exact h.top n (List.mem_of_getElem? e)
/-- cells[i] -/
theorem Cells.ix {K : PySem.W.Frag} {H : Hp} {a : Addr} {cs : List Nat} {Q : VK} {i : Int} (j : Nat) (h : Cells K H a cs) (e : i = (j : Int)) (hj : j < cs.length) (q : Q (vn (cel cs j)) H) : rIx K (.ref a) (.int i) H Q := by
  subst e
  rcases h.sq with z | z
  · exact .inl ⟨a, _, _, _, rfl, rfl, z, atI_nat (cel_some hj), q⟩
  · exact .inr (.inl ⟨a, _, _, _, rfl, rfl, z, atI_nat (cel_some hj), q⟩)
end Bx

namespace Bx
open PySem PySem.Spec PyProof.Rows L2 C8
section
variable {K : PySem.W.Frag} {σ : L2.St} {H : Hp} {Q : VK} {D : Ends} {t u : TS} {ta tb tc : TE} {tt tu : TT} {v x y : V} {r : R2} {g : TG} {i : Nat} {QB : Bool → Hp → Prop}
theorem g_seq (h : t { D with nx := u D } σ H) : tSeq t u D σ H := h
theorem g_next (h : D.nx σ H) : tNext D σ H := h
theorem g_asg (h : ta σ H fun x H1 => g x σ H1 D.nx) : tAsg ta g D σ H := h
theorem g_name {N : L2.St → Hp → Prop} (h : N (σ.set i (some v)) H) : gName i v σ H N := h
theorem g_var (e : σ[i]? = some (some v)) (h : Q v H) : tVar i σ H Q := ⟨v, e, h⟩
theorem g_c (h : Q v H) : tC v σ H Q := h
theorem g_op (h : ta σ H fun x H1 => tb σ H1 fun y H2 => r x y H2 Q) : tOp r ta tb σ H Q := h
theorem g_test (h : ta σ H fun x H' => ∃ k, x = .bl k ∧ QB k H') : tTest ta σ H QB := h
theorem g_B (h : ta σ H fun x H' => ∃ k, x = .bl k ∧ QB k H') : tB ta σ H QB := h
theorem g_ifS {c : TT} (h : c σ H fun b H1 => if b = true then t D σ H1 else u D σ H1) : tIfS c t u D σ H := h
theorem g_ret (h : ta σ H D.rt) : tRet ta D σ H := h
theorem g_retN (h : D.rt .non H) : tRetN D σ H := h
theorem g_drop (h : ta σ H fun _ H1 => D.nx σ H1) : tDrop ta D σ H := h
theorem g_nil {QA : List V → Hp → Prop} (h : QA [] H) : tNil σ H QA := h
theorem g_cons {tr : TA} {QA : List V → Hp → Prop} (h : ta σ H fun x H1 => tr σ H1 fun xs H2 => QA (x :: xs) H2) : tCons ta tr σ H QA := h
theorem g_cb {rc : List V → Hp → VK → Prop} {tr : TA} (h : tr σ H fun xs H1 => rc xs H1 Q) : tCB rc tr σ H Q := h
theorem g_call {sp : Sp} {dvs : List V} {E : XK} {tr : TA} (h : tr σ H fun vs H1 => sp (vs ++ dvs) H1 Q E) : tCall sp dvs E tr σ H Q := h
theorem g_not (h : tt σ H fun c H1 => QB (!c) H1) : tNot tt σ H QB := h
theorem g_and (h : tt σ H fun c H1 => if c = true then tu σ H1 QB else QB false H1) : tAnd tt tu σ H QB := h
theorem g_or (h : tt σ H fun c H1 => if c = true then QB true H1 else tu σ H1 QB) : tOr tt tu σ H QB := h
theorem g_if {c : TT} (h : c σ H fun b H1 => if b = true then ta σ H1 Q else tb σ H1 Q) : tIf c ta tb σ H Q := h
theorem g_I0 {f : Int → Int → V} {a b : Int} (h : Q (f a b) H) : rI0 f (.int a) (.int b) H Q := ⟨a, b, rfl, rfl, h⟩
theorem g_eq (e : scal x y = true) (h : Q (.bl (decide (x = y))) H) : rEq x y H Q := ⟨e, h⟩
theorem g_ne (e : scal x y = true) (h : Q (.bl (!decide (x = y))) H) : rNe x y H Q := ⟨e, h⟩
theorem g_chain {r r' : R2} (h : ta σ H fun x H1 => tb σ H1 fun y H2 => r x y H2 fun z H3 => ∃ k, z = .bl k ∧ (if k = true then tc σ H3 fun w' H4 => r' y w' H4 Q else Q (.bl false) H3)) : tChain r r' ta tb tc σ H Q := h
theorem g_tup {tr : TA} (h : tr σ H fun xs H1 => xs.length ≤ sizeLine ∧ ∀ p, H1 p = none → Q (.ref p) (upd H1 p (.tup xs))) : tTup tr σ H Q := h
theorem g_lst {tr : TA} (h : tr σ H fun xs H1 => xs.length ≤ sizeLine ∧ ∀ p, H1 p = none → Q (.ref p) (upd H1 p (.lst xs))) : tLst tr σ H Q := h
theorem g_bm {T : String} {m : V → List V → Hp → VK → Prop} {tr : TA} (h : ta σ H fun x H1 => tyV K T x H1 ∧ tr σ H1 fun xs H2 => m x xs H2 Q) : tBM K T m ta tr σ H Q := h
theorem g_isN (h : Q (.bl (decide (x = .non))) H) : (fun (x y : V) (H : Hp) (Q : VK) => y = .non ∧ Q (.bl (decide (x = .non))) H) x .non H Q := ⟨rfl, h⟩
theorem g_bl {b : Bool} {R : Bool → Prop} (h : R b) : ∃ k, V.bl b = .bl k ∧ R k := ⟨b, rfl, h⟩
theorem g_aug {ti : TIp} (e : σ[i]? = some (some x)) (h : ta σ H fun y H1 => ti x y H1 fun z H2 => D.nx (σ.set i (some z)) H2) : tAug i ta ti D σ H := ⟨x, e, h⟩
theorem g_ipI {f : Int → Int → Int} {a b : Int} (h : Q (.int (f a b)) H) : ipI f (.int a) (.int b) H Q := ⟨a, b, rfl, rfl, h⟩
/-- a test's two ways, by a proposition -/
theorem g_ite {p : Prop} [Decidable p] {A B : Prop} (h1 : p → A) (h2 : ¬ p → B) : if decide p = true then A else B := by
  by_cases h : p
  · rw [decide_eq_true h]
    exact iteT (h1 h)
  · rw [decide_eq_false h]
    exact iteF (h2 h)
theorem g_iteN {p : Prop} [Decidable p] {A B : Prop} (h1 : ¬ p → A) (h2 : p → B) : if (!decide p) = true then A else B := by
  by_cases h : p
  · rw [decide_eq_true h]
    exact iteF (h2 h)
  · rw [decide_eq_false h]
    exact iteT (h1 h)
end
end Bx

namespace Bx
open PySem PySem.Spec PyProof.Rows L2 C8
section
variable {K : PySem.W.Frag} {σ : L2.St} {H : Hp} {Q : VK}
theorem isi_ii {v : Int} (h : Q (.bl true) H) : rIsi K [.int v, .ty "int"] H Q := ⟨_, _, _, _, _, rfl, .ty _, .base (.int v), k_int_int, h⟩
theorem isi_ib {v : Int} (h : Q (.bl false) H) : rIsi K [.int v, .ty "bool"] H Q := ⟨_, _, _, _, _, rfl, .ty _, .base (.int v), k_int_bool, h⟩
theorem isi_it {v : Int} (h : Q (.bl false) H) : rIsi K [.int v, .ty "tuple"] H Q := ⟨_, _, _, _, _, rfl, .ty _, .base (.int v), k_int_tuple, h⟩
theorem isi_st {v : Str} (h : Q (.bl false) H) : rIsi K [.str v, .ty "tuple"] H Q := ⟨_, _, _, _, _, rfl, .ty _, .base (.str v), k_str_tuple, h⟩
theorem isi_tt {a : Addr} {xs : List V} (t : SqT K H a xs) (h : Q (.bl true) H) : rIsi K [.ref a, .ty "tuple"] H Q := ⟨_, _, _, _, _, rfl, .ty _, tyT t, k_tuple_tuple, h⟩
theorem isi_ti {a : Addr} {xs : List V} (t : SqT K H a xs) (h : Q (.bl false) H) : rIsi K [.ref a, .ty "int"] H Q := ⟨_, _, _, _, _, rfl, .ty _, tyT t, k_tuple_int, h⟩
theorem g_nT {A B : Prop} (h : B) : if (!true) = true then A else B := iteF h
theorem g_nF {A B : Prop} (h : A) : if (!false) = true then A else B := iteT h
theorem sl_seq {X : Cx} : SlR X (fun x lo hi H Q => rSlL X.K x lo hi H Q ∨ rSlA X.K x lo hi H Q) := by
  intro pins s σ H x v vl vu lo hi sl Q I rx hs pl pu h
  exact h.elim (sl_list pins s σ H x v vl vu lo hi sl Q I rx hs pl pu) (sl_tupA pins s σ H x v vl vu lo hi sl Q I rx hs pl pu)
end
end Bx

namespace Bx
open PySem PySem.Spec PyProof.Rows L2 C8
section
variable {p A B : Prop} [Decidable p]
theorem g_dT (hp : p) (h : A) : if decide p = true then A else B := by
  rw [decide_eq_true hp]
  exact iteT h
theorem g_dF (hp : ¬ p) (h : B) : if decide p = true then A else B := by
  rw [decide_eq_false hp]
  exact iteF h
theorem g_ndT (hp : ¬ p) (h : A) : if (!decide p) = true then A else B := by
  rw [decide_eq_false hp]
  exact iteT h
theorem g_ndF (hp : p) (h : B) : if (!decide p) = true then A else B := by
  rw [decide_eq_true hp]
  exact iteF h
theorem int_non {i : Int} : ¬ (V.int i = .non) := fun h => nomatch h
end
end Bx
theorem Bx.g_nn {B : Prop} (h : B) : L2.V.non = L2.V.non ∧ B := ⟨rfl, h⟩

namespace Bx
open PySem PySem.Spec PyProof.Rows L2 C8
section
variable {K : PySem.W.Frag} {H : Hp} {Q : VK} {l : Addr} {xs : List V} {v : V}
theorem ty_l (h : SqL K H l xs) : tyV K "list" (.ref l) H := .inl ⟨rfl, _, h⟩
theorem g_app (hl : H l = some (.lst xs)) (hz : xs.length ≤ 1000) (k : Q .non (upd H l (.lst (xs ++ [v])))) : rAppend (.ref l) [v] H Q := ⟨l, xs, v, rfl, rfl, hl, small1000 hz, k⟩
theorem while_v {c : TT} {tb : TS} {D : Ends} {σ : L2.St} {H : Hp} (W : Nat → L2.St → Hp → Prop) (m : Nat) (w0 : W m σ H)
    (hs : ∀ m σ H, W m σ H → c σ H fun b H1 => if b = true then ∃ N : L2.St → Hp → Prop, (∀ σ' H', N σ' H' → ∃ m', m' < m ∧ W m' σ' H') ∧ tb { D with nx := N, ct := N, bk := D.nx } σ H1 else D.nx σ H1) : tWhile c tb D σ H := ⟨W, ⟨m, w0⟩, hs⟩
theorem g_len {a : Addr} (h : SqL K H a xs ∨ SqT K H a xs) (k : Q (.int (xs.length : Int)) H) : (fun (xs : List V) (H : Hp) (Q : VK) => ∃ p ys, xs = [V.ref p] ∧ (SqL K H p ys ∨ SqT K H p ys) ∧ Q (.int (ys.length : Int)) H) [.ref a] H Q := ⟨a, xs, rfl, h, k⟩
theorem rg_nat (a b : Nat) : rgV (a : Int) (b : Int) = ((List.range (b - a)).map fun i => a + i).map vn := by
  unfold rgV
  rw [List.map_map, show ((b : Int) - (a : Int)).toNat = b - a by omega]
  refine List.map_congr_left fun i _ => ?_
  show V.int ((a : Int) + (i : Nat)) = V.int (((a + i : Nat) : Nat) : Int)
  rw [Int.natCast_add]
end
end Bx

namespace Bx
open PySem PySem.Spec PyProof.Rows L2 C8
section
variable {K : PySem.W.Frag} {σ : L2.St} {H : Hp} {Q : VK} {D : Ends} {ta tb tc : TE}
theorem g_lstRg {te : L2.St → Hp → (Int → Int → Hp → Prop) → Prop} (h : te σ H fun a b H1 => RgOk a b ∧ ∀ q, H1 q = none → Q (.ref q) (upd H1 q (.lst (rgV a b)))) : tLstRg te σ H Q := h
theorem g_rg2 {QI : Int → Int → Hp → Prop} (h : ta σ H fun x H1 => tb σ H1 fun y H2 => ∃ i j, x = .int i ∧ y = .int j ∧ QI i j H2) : tRg2 ta tb σ H QI := h
theorem g_rg1 {QI : Int → Int → Hp → Prop} (h : ta σ H fun x H1 => ∃ n, x = .int n ∧ QI 0 n H1) : tRg1 ta σ H QI := h
theorem g_dnewK (h : ∀ p, H p = none → Q (.ref p) (upd H p (.dK []))) : tDNewK σ H Q := h
theorem g_dnewT (h : ∀ p, H p = none → Q (.ref p) (upd H p (.dT []))) : tDNewT σ H Q := h
theorem g_dput (h : tc σ H fun v H1 => ta σ H1 fun x H2 => tb σ H2 fun y H3 => ∃ a H4, x = .ref a ∧ DPut H3 a y v H4 ∧ D.nx σ H4) : sDPut ta tb tc D σ H := h
theorem g_dnotin (h : tb σ H fun y H1 => ta σ H1 fun x H2 => ∃ a o, x = .ref a ∧ DGet H2 a y o ∧ Q (.bl (!o.isSome)) H2) : tDNotIn tb ta σ H Q := h
theorem g_din (h : tb σ H fun y H1 => ta σ H1 fun x H2 => ∃ a o, x = .ref a ∧ DGet H2 a y o ∧ Q (.bl o.isSome) H2) : tDIn tb ta σ H Q := h
theorem g_dget (h : ta σ H fun x H1 => tb σ H1 fun y H2 => ∃ a v, x = .ref a ∧ DGet H2 a y (some v) ∧ Q v H2) : tDGet ta tb σ H Q := h
theorem g_tupT {n : Nat} {t : TGs} {a : Addr} {xs : List V} {N : L2.St → Hp → Prop} (hs : SqT K H a xs) (hn : xs.length = n) (h : t xs σ H N) : gTup K n t (.ref a) σ H N := ⟨a, xs, rfl, hs, hn, h⟩
theorem g_gcons {t : TG} {u : TGs} {v : V} {r : List V} {N : L2.St → Hp → Prop} (h : t v σ H fun σ' H' => u r σ' H' N) : gCons t u (v :: r) σ H N := ⟨v, r, rfl, h⟩
theorem g_gnil {N : L2.St → Hp → Prop} (h : N σ H) : gNil [] σ H N := ⟨rfl, h⟩
end
end Bx

namespace Bx
open PySem PySem.Spec PyProof.Rows L2 C8
section
variable {K : PySem.W.Frag} {σ : L2.St} {H : Hp} {D : Ends} {ta tb tc : TE} {R : It → Hp → Prop}
theorem g_for {wi : TI} {g : TG} {tb : TS} (h : wi σ H fun J H1 => ∃ W : Nat → Nat → L2.St → Hp → Prop, (∃ m, W 0 m σ H1) ∧ ∀ i m σ H, W i m σ H →
  (J.stop i H ∧ D.nx σ H) ∨ (J.go i H ∧ ∃ N : L2.St → Hp → Prop, (∀ σ' H', N σ' H' → ∃ m', m' < m ∧ W (i + 1) m' σ' H') ∧ ∀ x H', J.yld i H x H' → g x σ H' fun σ2 H2 => tb { D with nx := N, ct := N, bk := D.nx } σ2 H2)) : tFor wi g tb D σ H := h
theorem g_iList (h : ta σ H fun x H1 => ∃ a, x = .ref a ∧ (∃ xs, SqL K H1 a xs) ∧ R (Itl K a) H1) : iList K ta σ H R := h
theorem g_iTup (h : ta σ H fun x H1 => ∃ a, x = .ref a ∧ (∃ xs, SqT K H1 a xs) ∧ R (Itt K a) H1) : iTup K ta σ H R := h
theorem g_iEnum {t : TA} (h : t σ H fun vs H1 => ∃ a xs, vs = [.ref a] ∧ SqL K H1 a xs ∧ R (Ite K a) H1) : iEnum K t σ H R := h
theorem g_iR1 {t : TA} (h : t σ H fun vs H1 => ∃ j : Int, vs = [.int j] ∧ -(2 ^ 62) ≤ j ∧ j < 2 ^ 62 ∧ R (Itr 0 j.toNat) H1) : iRng1 t σ H R := h
theorem g_lc {wi : TI} {g : TG} {tt : TT} {te : TE} {vs : List Nat} {Q : VK} (h : wi σ H fun J H1 => ∀ D, H1 D = none → ∃ W : Nat → Nat → Hp → Prop, (∃ m, W 0 m (upd H1 D (.lst []))) ∧ ∀ i m H, W i m H → (J.stop i H ∧ Q (.ref D) H) ∨
  (J.go i H ∧ ∃ Nx : Hp → Prop, (∀ H', Nx H' → ∃ m', m' < m ∧ W (i + 1) m' H') ∧ ∀ x H', J.yld i H x H' → g x (wipe σ vs) H' fun σ2 H2 => wipe σ2 vs = wipe σ vs ∧ tt σ2 H2 fun b H3 => if b = true then te σ2 H3 fun y H4 => ∃ acc, H4 D = some (.lst acc) ∧ acc.length < sizeLine ∧ Nx (upd H4 D (.lst (acc ++ [y]))) else Nx H3)) : tLc wi g tt te vs σ H Q := h
theorem Same.get {H H' : Hp} {a : Addr} {o : HO} (e : Same H H') (h : H a = some o) : H' a = some o := e a o h
end
end Bx

namespace Bx
open PySem PySem.Spec PyProof.Rows L2 C8
def iSeq (K : PySem.W.Frag) (te : TE) : TI := fun σ H R => te σ H fun v G => ∃ b, v = .ref b ∧ (((∃ ys, SqL K G b ys) ∧ R (Itl K b) G) ∨ ((∃ ys, SqT K G b ys) ∧ R (Itt K b) G))
theorem pi_seq {X : Cx} {tg l : Expr} {te : TE} (he : PE X l te) : PI X tg l (iSeq X.K te) := by
  refine ⟨fun pins s0 σ G0 R J hw => thn (he.run pins s0 σ G0 _ J hw) fun u st ⟨v, G, J1, rel, b, ev, q⟩ => ?_⟩
  subst ev
  cases rel
  have newest : ∀ c ∈ [st.heap.objs.size], FpOk X pins G c := fun c hc => by
    obtain rfl : c = st.heap.objs.size := List.mem_singleton.mp hc
    exact J1.fpOk (Nat.le_refl _) (J1.hok.fresh (Nat.le_refl _))
  have grown := fun (o : Obj) => J1.kept (t' := st.toks) (h' := st.heap.push o) fun c u e => Heap.get?_push_of_some _ e
  rcases q with ⟨⟨ys, hs⟩, q⟩ | ⟨⟨ys, hs⟩, q⟩
  · obtain ⟨vs, _, pl, _⟩ := J1.list hs
    exact wpAny_pyIter_list pl.isList ⟨_, [st.heap.objs.size], _, _, G, rfl, grown _, turn_list b _, ⟨_, Heap.get?_push_size _ rfl, rfl, rfl⟩, newest, q⟩
  · obtain ⟨vs, _, pl, _⟩ := J1.tuple hs
    exact wpAny_pyIter_tuple (s := st) (id pl) ⟨_, [st.heap.objs.size], _, _, G, rfl, grown _, turn_tuple b _, ⟨_, Heap.get?_push_size _ rfl, rfl, rfl⟩, newest, q⟩
section
variable {K : PySem.W.Frag} {σ : L2.St} {H : Hp} {Q : VK} {D : Ends} {ta tb tc : TE} {R : It → Hp → Prop}
theorem g_iSeq (h : ta σ H fun x H1 => ∃ a, x = .ref a ∧ (((∃ xs, SqL K H1 a xs) ∧ R (Itl K a) H1) ∨ ((∃ xs, SqT K H1 a xs) ∧ R (Itt K a) H1))) : iSeq K ta σ H R := h
theorem g_sl {r : V → Option Int → Option Int → Hp → VK → Prop} {tl th : TO} (h : ta σ H fun x H1 => tl σ H1 fun l H2 => th σ H2 fun u H3 => r x l u H3 Q) : L2.tSl r ta tl th σ H Q := h
theorem g_part {QO : Option Int → Hp → Prop} (h : ta σ H fun x H1 => ∃ i, x = .int i ∧ QO (some i) H1) : tPart ta σ H QO := h
theorem g_nopart {QO : Option Int → Hp → Prop} (h : QO none H) : tNoPart σ H QO := h
theorem g_in {i : Int} {R : Int → Prop} (h : R i) : ∃ j, V.int i = .int j ∧ R j := ⟨i, rfl, h⟩
theorem g_yes {QB : Bool → Hp → Prop} (h : QB true H) : tYes σ H QB := h
end
end Bx

namespace Bx
open PySem PySem.Spec PyProof.Rows L2 C8
section
variable {K : PySem.W.Frag} {σ : L2.St} {H : Hp} {Q : VK} {D : Ends}
theorem g_int {i : Int} {R : Int → Prop} {B : Prop} (h : R i) : (∃ j, [V.int i] = [V.int j] ∧ R j) ∨ B := .inl ⟨i, rfl, h⟩
theorem g_intB {b : Bool} {A : Prop} {R : Bool → Prop} (h : R b) : A ∨ ∃ k, [V.bl b] = [V.bl k] ∧ R k := .inr ⟨b, rfl, h⟩
theorem g_I {C : Int → Int → Prop} {f : Int → Int → V} {a b : Int} (hc : C a b) (h : Q (f a b) H) : rI C f (.int a) (.int b) H Q := ⟨a, b, rfl, rfl, hc, h⟩
theorem g_ixL {p : Addr} {xs : List V} {i : Int} {v : V} (j : Nat) (hl : SqL K H p xs) (e : i = (j : Int)) (hv : xs[j]? = some v) (h : Q v H) : rIxL K (.ref p) (.int i) H Q := by
  subst e
  exact ⟨p, xs, _, v, rfl, rfl, hl, atI_nat hv, h⟩
theorem g_cat {l b : Addr} {xs ys : List V} (h1 : H l = some (.lst xs)) (h2 : H b = some (.lst ys)) (hz : xs.length + ys.length ≤ 1000) (h : ∀ p, H p = none → Q (.ref p) (upd H p (.lst (xs ++ ys)))) : rCat (.ref l) (.ref b) H Q := ⟨l, b, xs, ys, rfl, rfl, h1, h2, small hz, h⟩
/-- a list of ints compared with the empty one -/
theorem dp_ints (ns : List Int) : ∀ {xs : List V}, xs = ns.map V.int → DpAll K H xs (ns.map PyData.int) := by
  induction ns with
  | nil =>
    rintro xs rfl
    exact .nil
  | cons n r ih =>
    rintro xs rfl
    exact .cons (.int n) (ih rfl)
theorem lay_ints : ∀ ns : List Int, PyData.canLayAll0 (ns.map PyData.int) = true
  | [] => rfl
  | n :: r => by
    rw [List.map_cons, PyData.canLayAll0, lay_ints r]
    rfl
theorem depth_ints : ∀ ns : List Int, PyData.depthAll (ns.map PyData.int) = 0
  | [] => rfl
  | n :: r => by
    rw [List.map_cons, PyData.depthAll, depth_ints r]
    rfl
theorem shaped_ints (ns : List Int) : SeqAt.shaped (.list (ns.map PyData.int)) = true := by
  unfold SeqAt.shaped
  have h1 : PyData.canLay0 (.list (ns.map PyData.int)) = true := by rw [PyData.canLay0]; exact lay_ints ns
  have h2 : PyData.depth (.list (ns.map PyData.int)) ≤ 64 := by rw [PyData.depth, depth_ints]; decide
  rw [h1, decide_eq_true h2]
  rfl
theorem shaped_nil : SeqAt.shaped (.list []) = true := shaped_ints []
theorem eqv_nil (ds : List PyData) : PyData.eqv (.list ds) (.list []) = decide (ds = []) := by
  cases ds with
  | nil => decide
  | cons d r => rfl
end
end Bx

namespace Bx
open PySem PySem.Spec PyProof.Rows L2 C8
section
variable {X : Cx} {K : PySem.W.Frag}
theorem isi_k (e : X.K = K) : CallR X (.builtin "isinstance") (rIsi K) := by
  subst e
  exact call_isi
theorem seq_k (e : X.K = K) : IxR X (rIx K) := by
  subst e
  exact ix_seq
theorem ixl_k (e : X.K = K) : IxR X (rIxL K) := by
  subst e
  exact ix_list
theorem ixt_k (e : X.K = K) : IxR X (rIxT K) := by
  subst e
  exact ix_tup
def rLen (K : PySem.W.Frag) : List V → Hp → VK → Prop := fun xs H Q => ∃ p ys, xs = [.ref p] ∧ (SqL K H p ys ∨ SqT K H p ys) ∧ Q (.int (ys.length : Int)) H
theorem len_k (e : X.K = K) : CallR X (.builtin "len") (rLen K) := by
  subst e
  exact call_len_seq
theorem in_k (e : X.K = K) : OpR X (compareOp .In) (rIn K false) := by
  subst e
  exact op_in_seq
theorem notin_k (e : X.K = K) : OpR X (compareOp .NotIn) (rIn K true) := by
  subst e
  exact op_notIn_seq
end
end Bx

namespace Bx
open PySem PySem.Spec PyProof.Rows L2 C8
section
variable {K : PySem.W.Frag} {σ : L2.St} {H : Hp} {Q : VK} {D : Ends} {to ti : TE}
theorem g_sub {v : V} {t : TSet} {N : L2.St → Hp → Prop} (h : to σ H fun o H1 => ti σ H1 fun i H2 => t o i v H2 fun H3 => N σ H3) : gSub to ti t v σ H N := h
theorem g_setL {l : Addr} {xs : List V} {v : V} {R : Hp → Prop} {i : Int} (j : Nat) (h : H l = some (.lst xs)) (e : i = (j : Int)) (hj : j < xs.length) (k : R (upd H l (.lst (xs.set j v)))) : rSetL (.ref l) (.int i) v H R := by
  subst e
  refine ⟨l, xs, _, j, rfl, rfl, h, ?_, k⟩
  unfold ixN
  rw [if_pos (by omega), if_pos (by omega), Int.toNat_natCast]
theorem SameX.upd1 {H' : Hp} {a : Addr} {o : HO} (e : SameX [a] H H') : SameX [a] H (upd H' a o) := e.put (List.mem_singleton.mpr rfl)
theorem SameX.get {S : List Addr} {H' : Hp} {a : Addr} {o : HO} (e : SameX S H H') (n : a ∉ S) (h : H a = some o) : H' a = some o := e a o n h
theorem nin {a b : Addr} (h : a ≠ b) : a ∉ [b] := fun z => h (List.mem_singleton.mp z)
end
end Bx

namespace Bx
open PySem PySem.Spec PyProof.Rows L2 C8
theorem pg_tup2 {X : Cx} {K : PySem.W.Frag} {es : List Expr} {k : Nat} {t : TGs} {pos : Pos} (e : X.K = K) (hc : X.calm = true) (h : PGs X es t) (hn : (assignEach es X.env).length = 2 := by rfl) (hst : (assignEach es X.env).findIdx? (·.1) = none := by rfl) : PG X (.Tuple es k pos) (gTup K 2 t) := by
  subst e
  exact pg_tup hc h hn hst
end Bx

namespace Bx
open PySem PySem.Spec PyProof.Rows L2 C8
section
variable {K : PySem.W.Frag} {σ : L2.St} {H : Hp} {Q : VK} {D : Ends} {ta : TE} {t u : TS}
theorem g_break (h : D.bk σ H) : tBreak D σ H := h
theorem g_par {i j : Nat} {tr : TA} (h : tr σ H fun vs H1 => ∃ v w, vs = [v, w] ∧ D.nx ((σ.set i (some v)).set j (some w)) H1) : tPar i j tr D σ H := h
theorem g_bm0 {T : String} {m : V → List V → Hp → VK → Prop} (h : ta σ H fun x H1 => tyV K T x H1 ∧ m x [] H1 Q) : tBM0 K T m ta σ H Q := h
theorem g_pop {l : Addr} {xs : List V} {y : V} (h : H l = some (.lst xs)) (hy : xs[xs.length - 1]? = some y) (k : Q y (upd H l (.lst xs.dropLast))) : rPop (.ref l) [] H Q := ⟨l, xs, y, rfl, rfl, h, hy, k⟩
theorem sne (a b : String) (h : Str.ofString a ≠ Str.ofString b := by decide +kernel) : ¬ V.str (Str.ofString a) = V.str (Str.ofString b) := fun z => h (V.str.inj z)
theorem shaped_nats (l : List Nat) : SeqAt.shaped (.list (l.map fun n => PyData.int (n : Nat))) = true := by
  have := shaped_ints (l.map fun (n : Nat) => (n : Int))
  rw [List.map_map] at this
  exact this
theorem cut1 (xs : List V) : cutV xs (some 1) none = xs.drop 1 := by
  unfold cutV
  rw [show HT.sIx xs.length 0 (some 1) = min 1 xs.length from HT.sIx_nat xs.length 0 1, HT.sIx_none]
  cases xs with
  | nil => rfl
  | cons x r =>
    rw [List.length_cons, show min 1 (r.length + 1) = 1 by omega]
    exact List.take_of_length_le (by rw [List.length_drop, List.length_cons]; exact Nat.le_refl _)
end
end Bx

namespace Bx
open PySem PySem.Spec PyProof.Rows L2 C8
theorem g_appB {H : Hp} {Q : VK} {l : Addr} {xs : List V} {v : V} (hl : H l = some (.lst xs)) (hz : xs.length ≤ 100000) (k : Q .non (upd H l (.lst (xs ++ [v])))) : rAppend (.ref l) [v] H Q := ⟨l, xs, v, rfl, rfl, hl, Nat.lt_of_le_of_lt hz (by decide), k⟩
end Bx

namespace Bx
open PySem PySem.Spec PyProof.Rows L2 C8
theorem g_ixT {K : PySem.W.Frag} {H : Hp} {Q : VK} {p : Addr} {xs : List V} {i : Int} {v : V} (j : Nat) (hl : SqT K H p xs) (e : i = (j : Int)) (hv : xs[j]? = some v) (h : Q v H) : rIxT K (.ref p) (.int i) H Q := by
  subst e
  exact ⟨p, xs, _, v, rfl, rfl, hl, atI_nat hv, h⟩
end Bx

namespace Bx
open PySem PySem.Spec PyProof.Rows L2 C8

/-- a box: its kind, its place, its length, the boxes in it -/
inductive Bo where
  | bx (kd p n : Nat) (ks : List Bo)

def hd (cs : List Nat) (a e dp : Nat) : Option Nat :=
  if e - a = 1 ∨ ¬ (1 ≤ cel cs a ∧ cel cs a ≤ 4) then some a
  else if cel cs a = 1 ∧ 1 < dp then some a
  else if ¬ (2 ≤ cel cs (a + 1) ∧ cel cs (a + 1) ≤ e - a) then some (a + 1) else none
theorem hd_none {cs : List Nat} {a e dp : Nat} (h : hd cs a e dp = none) : e - a ≠ 1 ∧ 1 ≤ cel cs a ∧ cel cs a ≤ 4 ∧ ¬ (cel cs a = 1 ∧ 1 < dp) ∧ 2 ≤ cel cs (a + 1) ∧ cel cs (a + 1) ≤ e - a := by
  unfold hd at h
  split at h
  · cases h
  · split at h
    · cases h
    · split at h
      · cases h
      · omega

def prs : Nat → List Nat → Nat → Nat → Nat → Except Nat (List Bo)
  | 0, _, _, _, _ => .ok []
  | f + 1, cs, a, e, dp =>
    if a < e then
      match hd cs a e dp with
      | some p => .error p
      | none =>
        match (if cel cs a = 1 then prs f cs (a + 2) (a + cel cs (a + 1)) (dp + 1) else .ok []) with
        | .error p => .error p
        | .ok ks =>
          match prs f cs (a + cel cs (a + 1)) e dp with
          | .error p => .error p
          | .ok bs => .ok (.bx (cel cs a) a (cel cs (a + 1)) ks :: bs)
    else .ok []
/-- where it is wrong -/
def err {α : Type} : Except Nat α → Option Nat
  | .error p => some p
  | .ok _ => none
section
variable {f : Nat} {cs : List Nat} {a e dp p : Nat} {ks bs : List Bo}
theorem prs_stop (h : ¬ a < e) : prs (f + 1) cs a e dp = .ok [] := by
  unfold prs
  rw [if_neg h]
theorem prs_bad (h : a < e) (q : hd cs a e dp = some p) : prs (f + 1) cs a e dp = .error p := by
  unfold prs
  rw [if_pos h, q]
theorem prs_in (h : a < e) (q : hd cs a e dp = none) (g : cel cs a = 1) (i : prs f cs (a + 2) (a + cel cs (a + 1)) (dp + 1) = .error p) : prs (f + 1) cs a e dp = .error p := by
  unfold prs
  rw [if_pos h, q]
  simp only [if_pos g, i]
theorem prs_go (h : a < e) (q : hd cs a e dp = none) (i : (if cel cs a = 1 then prs f cs (a + 2) (a + cel cs (a + 1)) (dp + 1) else .ok []) = .ok ks) :
    prs (f + 1) cs a e dp = (match prs f cs (a + cel cs (a + 1)) e dp with
      | .error p => .error p
      | .ok bs => .ok (.bx (cel cs a) a (cel cs (a + 1)) ks :: bs)) := by
  rw [prs, if_pos h, q]
  simp only [i]
theorem prs_err (h : a < e) (q : hd cs a e dp = none) (i : (if cel cs a = 1 then prs f cs (a + 2) (a + cel cs (a + 1)) (dp + 1) else .ok []) = .ok ks) :
    err (prs (f + 1) cs a e dp) = err (prs f cs (a + cel cs (a + 1)) e dp) := by
  rw [prs_go h q i]
  cases prs f cs (a + cel cs (a + 1)) e dp <;> rfl
/-- a success, seen from its first box -/
theorem prs_ok (h : prs (f + 1) cs a e dp = .ok bs) : (¬ a < e ∧ bs = []) ∨ (a < e ∧ hd cs a e dp = none ∧ ∃ ks r, (if cel cs a = 1 then prs f cs (a + 2) (a + cel cs (a + 1)) (dp + 1) else .ok []) = .ok ks ∧
    prs f cs (a + cel cs (a + 1)) e dp = .ok r ∧ bs = .bx (cel cs a) a (cel cs (a + 1)) ks :: r) := by
  by_cases hl : a < e
  · right
    cases q : hd cs a e dp with
    | some p =>
      rw [prs_bad hl q] at h
      cases h
    | none =>
      cases i : (if cel cs a = 1 then prs f cs (a + 2) (a + cel cs (a + 1)) (dp + 1) else .ok []) with
      | error p =>
        exfalso
        by_cases g : cel cs a = 1
        · rw [if_pos g] at i
          rw [prs_in hl q g i] at h
          cases h
        · rw [if_neg g] at i
          cases i
      | ok ks =>
        rw [prs_go hl q i] at h
        cases j : prs f cs (a + cel cs (a + 1)) e dp with
        | error p =>
          rw [j] at h
          cases h
        | ok r =>
          rw [j] at h
          exact ⟨hl, rfl, ks, r, rfl, rfl, (Except.ok.inj h).symm⟩
  · left
    rw [prs_stop hl] at h
    exact ⟨hl, (Except.ok.inj h).symm⟩
end

mutual
def hsB : Bo → List Nat
  | .bx _ p _ ks => p :: hsL ks
def hsL : List Bo → List Nat
  | [] => []
  | b :: r => hsB b ++ hsL r
end
def stp (cs : List Nat) (a : Nat) : Nat := if cel cs a = 1 then 2 else cel cs (a + 1)
inductive Pth (cs : List Nat) : Nat → Nat → List Nat → Prop
  | nil (a : Nat) : Pth cs a a []
  | cons {a e : Nat} {hs : List Nat} : a + 1 < cs.length → 2 ≤ stp cs a → Pth cs (a + stp cs a) e hs → Pth cs a e (a :: hs)
theorem Pth.append {cs : List Nat} {a b c : Nat} {h1 h2 : List Nat} (x : Pth cs a b h1) (y : Pth cs b c h2) : Pth cs a c (h1 ++ h2) := by
  induction x with
  | nil _ => exact y
  | cons q z _ ih => exact .cons q z (ih y)
theorem prs_pth : ∀ (f : Nat) (cs : List Nat) (a e dp : Nat) (bs : List Bo), prs f cs a e dp = .ok bs → e - a < f → a ≤ e → e ≤ cs.length → Pth cs a e (hsL bs)
  | 0, _, _, _, _, _, _, h, _, _ => absurd h (Nat.not_lt_zero _)
  | f + 1, cs, a, e, dp, bs, h, hf, hae, he => by
    rcases prs_ok h with ⟨hl, rfl⟩ | ⟨hl, q, ks, r, i, j, rfl⟩
    · have : a = e := by omega
      subst this
      rw [hsL]
      exact .nil _
    · obtain ⟨q1, q2, q3, q4, q5, q6⟩ := hd_none q
      have hr := prs_pth f cs _ e dp r j (by omega) (by omega) he
      rw [hsL, hsB]
      by_cases g : cel cs a = 1
      · rw [if_pos g] at i
        have hk := prs_pth f cs _ _ _ ks i (by omega) (by omega) (by omega)
        have es : stp cs a = 2 := if_pos g
        refine .cons (by omega) (by omega) ?_
        rw [es]
        exact hk.append hr
      · rw [if_neg g] at i
        cases i
        have es : stp cs a = cel cs (a + 1) := if_neg g
        refine .cons (by omega) (by omega) ?_
        rw [es, hsL]
        exact hr
theorem Pth.le {cs : List Nat} {a e : Nat} {hs : List Nat} (x : Pth cs a e hs) : a ≤ e ∧ ∀ h ∈ hs, a ≤ h := by
  induction x with
  | nil a => exact ⟨Nat.le_refl _, fun h z => by cases z⟩
  | @cons a e hs q z _ ih =>
    refine ⟨by omega, fun h y => ?_⟩
    rcases List.mem_cons.mp y with y | y
    · omega
    · have := ih.2 h y
      omega
/-- a head in the cells: it begins in them, and its own cells end in them (if it is no group) -/
theorem Pth.mem {cs : List Nat} {a e : Nat} {hs : List Nat} (x : Pth cs a e hs) : ∀ h ∈ hs, h + 1 < cs.length ∧ 2 ≤ stp cs h ∧ h + stp cs h ≤ e := by
  induction x with
  | nil a => exact fun h z => by cases z
  | @cons a e hs q z x ih =>
    intro h y
    rcases List.mem_cons.mp y with y | y
    · subst y
      exact ⟨q, z, x.le.1⟩
    · exact ih h y
theorem Pth.pair {cs : List Nat} {a e : Nat} {hs : List Nat} (x : Pth cs a e hs) : hs.Pairwise fun p q => p + stp cs p ≤ q := by
  induction x with
  | nil a => exact .nil
  | @cons a e hs q z x ih => exact .cons (fun h y => x.le.2 h y) ih

def isK (cs : List Nat) (k : Nat) (p : Nat) : Bool := decide (cel cs p = k)
def row (cs : List Nat) (p : Nat) : Nat × Nat := (p + 2, cel cs (p + 1) - 2)
def rws (cs hs : List Nat) : List (Nat × Nat) := (hs.filter (isK cs 2)).map (row cs)
def has (n : Nat) (r : Nat × Nat) : Bool := decide (r.1 ≤ n) && decide (n < r.1 + r.2)
def plc (r : Nat × Nat) : List Nat := (List.range r.2).map fun i => r.1 + i
def ens (cs hs : List Nat) : List Nat := ((hs.filter (isK cs 4)).map (fun p => plc (row cs p))).flatten
def fre (cs hs : List Nat) : Nat := ((hs.filter (isK cs 3)).map fun p => cel cs (p + 1)).sum
def own (rs : List (Nat × Nat)) (n : Nat) : Bool := rs.any (has n)
def Own (rs : List (Nat × Nat)) (n i j : Nat) : Prop := ∃ r, rs[i]? = some r ∧ r.1 ≤ n ∧ n < r.1 + r.2 ∧ j = n - r.1
def Apart (rs : List (Nat × Nat)) : Prop := rs.Pairwise fun r s => r.1 + r.2 ≤ s.1
theorem Pth.apart {cs : List Nat} {a e : Nat} {hs : List Nat} (x : Pth cs a e hs) : Apart (rws cs hs) := by
  unfold Apart rws
  rw [List.pairwise_map]
  refine List.Pairwise.imp_of_mem ?_ (x.pair.filter (isK cs 2))
  intro p q hp hq z
  have kp : cel cs p = 2 := of_decide_eq_true (List.mem_filter.mp hp).2
  obtain ⟨m1, m2, _⟩ := x.mem p (List.mem_filter.mp hp).1
  have es : stp cs p = cel cs (p + 1) := if_neg (by omega)
  rw [es] at z m2
  show p + 2 + (cel cs (p + 1) - 2) ≤ q + 2
  omega
theorem Apart.at {rs : List (Nat × Nat)} (x : Apart rs) {i k : Nat} {r s : Nat × Nat} (h : i < k) (hr : rs[i]? = some r) (hs : rs[k]? = some s) : r.1 + r.2 ≤ s.1 := by
  obtain ⟨h1, e1⟩ := List.getElem?_eq_some_iff.mp hr
  obtain ⟨h2, e2⟩ := List.getElem?_eq_some_iff.mp hs
  have := List.pairwise_iff_getElem.mp x i k h1 h2 h
  rw [e1, e2] at this
  exact this
theorem Apart.one {rs : List (Nat × Nat)} (x : Apart rs) {n i j k l : Nat} (h1 : Own rs n i j) (h2 : Own rs n k l) : i = k ∧ j = l := by
  obtain ⟨r, hr, a1, a2, rfl⟩ := h1
  obtain ⟨s, hs, b1, b2, rfl⟩ := h2
  have e : i = k := by
    rcases Nat.lt_trichotomy i k with h | h | h
    · have := x.at h hr hs
      omega
    · exact h
    · have := x.at h hs hr
      omega
  subst e
  rw [hr] at hs
  cases hs
  exact ⟨rfl, rfl⟩
theorem own_iff {rs : List (Nat × Nat)} {n : Nat} : own rs n = true ↔ ∃ i j, Own rs n i j := by
  unfold own
  rw [List.any_eq_true]
  constructor
  · rintro ⟨r, hr, h⟩
    obtain ⟨i, hi, e⟩ := List.mem_iff_getElem.mp hr
    unfold has at h
    rw [Bool.and_eq_true, decide_eq_true_eq, decide_eq_true_eq] at h
    exact ⟨i, n - r.1, r, by rw [List.getElem?_eq_getElem hi, e], h.1, h.2, rfl⟩
  · rintro ⟨i, j, r, hr, h1, h2, _⟩
    refine ⟨r, List.mem_of_getElem? hr, ?_⟩
    unfold has
    rw [Bool.and_eq_true, decide_eq_true_eq, decide_eq_true_eq]
    exact ⟨h1, h2⟩
/-- the target of a place -/
def tgt (rs : List (Nat × Nat)) (n : Nat) : Option (Nat × Nat) := (rs.findIdx? (has n)).bind fun i => (rs[i]?).map fun r => (i, n - r.1)
theorem tgt_own {rs : List (Nat × Nat)} {n i j : Nat} (x : Apart rs) (h : Own rs n i j) : tgt rs n = some (i, j) := by
  obtain ⟨r, hr, h1, h2, rfl⟩ := id h
  have hh : has n r = true := by
    unfold has
    rw [Bool.and_eq_true, decide_eq_true_eq, decide_eq_true_eq]
    exact ⟨h1, h2⟩
  unfold tgt
  cases e : rs.findIdx? (has n) with
  | none =>
    have := List.findIdx?_eq_none_iff.mp e r (List.mem_of_getElem? hr)
    rw [hh] at this
    cases this
  | some k =>
    obtain ⟨hk, q1, _⟩ := List.findIdx?_eq_some_iff_getElem.mp e
    unfold has at q1
    rw [Bool.and_eq_true, decide_eq_true_eq, decide_eq_true_eq] at q1
    have hk' : rs[k]? = some rs[k] := List.getElem?_eq_getElem hk
    obtain ⟨e1, e2⟩ := x.one h ⟨rs[k], hk', q1.1, q1.2, rfl⟩
    show (rs[k]?).map (fun r => (k, n - r.1)) = _
    rw [hk', Option.map_some, ← e2, e1]
theorem tgt_none {rs : List (Nat × Nat)} {n : Nat} (h : own rs n = false) : tgt rs n = none := by
  unfold tgt
  have : rs.findIdx? (has n) = none := List.findIdx?_eq_none_iff.mpr fun r hr => by
    unfold own at h
    have := List.any_eq_false.mp h r hr
    simpa using this
  rw [this]
  rfl

theorem Pth.len {cs : List Nat} {a e : Nat} {hs : List Nat} (x : Pth cs a e hs) : a + 2 * hs.length ≤ e := by
  induction x with
  | nil a => simp
  | @cons a e hs q z _ ih =>
    rw [List.length_cons]
    omega

theorem putK_len {κ : Type} [DecidableEq κ] (kvs : List (κ × V)) (k : κ) (v : V) : (putK kvs k v).length ≤ kvs.length + 1 := by
  unfold putK
  split
  · rw [List.length_map]
    omega
  · rw [List.length_append, List.length_singleton]
    omega
structure TgD (H : Hp) (d : Addr) (R : Nat → Nat → Nat → Prop) (m : Nat) : Prop where
  ex : ∃ kvs : List (Key × V), H d = some (.dK kvs) ∧ kvs.length ≤ m ∧ (∀ n i j, R n i j → ∃ t, valV kvs (Sum.inl (n : Int)) = some (.ref t) ∧ H t = some (.tup [.int (i : Int), .int (j : Int)])) ∧
    (∀ n : Nat, (∀ i j, ¬ R n i j) → valV kvs (Sum.inl (n : Int)) = none)
section
variable {H H' : Hp} {d : Addr} {R R' : Nat → Nat → Nat → Prop} {m m' : Nat}
theorem TgD.same (x : TgD H d R m) (e : Same H H') : TgD H' d R m := by
  obtain ⟨kvs, h1, h2, h3, h4⟩ := x.ex
  exact ⟨kvs, e _ _ h1, h2, fun n i j r => (h3 n i j r).imp fun t z => ⟨z.1, e _ _ z.2⟩, h4⟩
theorem TgD.iff (x : TgD H d R m) (h : ∀ n i j, R n i j ↔ R' n i j) (hm : m ≤ m') : TgD H d R' m' := by
  obtain ⟨kvs, h1, h2, h3, h4⟩ := x.ex
  exact ⟨kvs, h1, Nat.le_trans h2 hm, fun n i j r => h3 n i j ((h n i j).mpr r), fun n z => h4 n fun i j r => z i j ((h n i j).mp r)⟩
theorem TgD.nil (h : H d = some (.dK [])) (hR : ∀ n i j, ¬ R n i j) : TgD H d R m := ⟨[], h, Nat.zero_le _, fun n i j r => absurd r (hR n i j), fun _ _ => rfl⟩
/-- one more place -/
theorem TgD.put (x : TgD H d R m) {t : Addr} {n0 i0 j0 : Nat} (ht : H t = some (.tup [.int (i0 : Int), .int (j0 : Int)])) (hm : m ≤ 100000) {D : Hp → Prop}
    (h : ∀ H', (∀ b o, b ≠ d → H b = some o → H' b = some o) → (∀ b, b ≠ d → H' b = H b) → TgD H' d (fun n i j => (n = n0 ∧ i = i0 ∧ j = j0) ∨ (n ≠ n0 ∧ R n i j)) (m + 1) → D H') : ∃ a H', V.ref d = .ref a ∧ DPut H a (.int (n0 : Int)) (.ref t) H' ∧ D H' := by
  obtain ⟨kvs, h1, h2, h3, h4⟩ := x.ex
  have hl : kvs.length < sizeLine := Nat.lt_of_le_of_lt (Nat.le_trans h2 hm) (by decide)
  refine ⟨d, _, rfl, DPut.k (k := Sum.inl (n0 : Int)) h1 hl, h _ (fun b o n q => by rw [upd_ne n]; exact q) (fun b n => upd_ne n) ⟨putK kvs (Sum.inl (n0 : Int)) (.ref t), upd_same, Nat.le_trans (putK_len _ _ _) (Nat.succ_le_succ h2), fun n i j r => ?_, fun n z => ?_⟩⟩
  · rw [valV_put]
    rcases r with ⟨rfl, rfl, rfl⟩ | ⟨hn, r⟩
    · refine ⟨t, if_pos rfl, ?_⟩
      rw [upd_ne (ne_of ht h1 (by intro z; cases z))]
      exact ht
    · obtain ⟨u, e1, e2⟩ := h3 n i j r
      refine ⟨u, ?_, ?_⟩
      · rw [if_neg (fun z => hn (by have := Sum.inl.inj z; omega))]
        exact e1
      · rw [upd_ne (ne_of e2 h1 (by intro z; cases z))]
        exact e2
  · rw [valV_put]
    have hn : n ≠ n0 := fun e => z i0 j0 (.inl ⟨e, rfl, rfl⟩)
    rw [if_neg (fun z => hn (by have := Sum.inl.inj z; omega))]
    exact h4 n fun i j r => z i j (.inr ⟨hn, r⟩)
/-- d.get, d[k] -/
theorem TgD.get (x : TgD H d R m) {n i j : Nat} (r : R n i j) : ∃ t, DGet H d (.int (n : Int)) (some (.ref t)) ∧ H t = some (.tup [.int (i : Int), .int (j : Int)]) := by
  obtain ⟨kvs, h1, h2, h3, h4⟩ := x.ex
  obtain ⟨t, e1, e2⟩ := h3 n i j r
  refine ⟨t, ?_, e2⟩
  have := DGet.k (k := Sum.inl (n : Int)) h1
  rw [e1] at this
  exact this
theorem TgD.none (x : TgD H d R m) {n : Nat} (r : ∀ i j, ¬ R n i j) : DGet H d (.int (n : Int)) none := by
  obtain ⟨kvs, h1, h2, h3, h4⟩ := x.ex
  have := DGet.k (k := Sum.inl (n : Int)) h1
  rw [h4 n r] at this
  exact this
end
theorem rws_get {cs hs : List Nat} {i : Nat} {r : Nat × Nat} (h : (rws cs hs)[i]? = some r) : ∃ p, (hs.filter (isK cs 2))[i]? = some p ∧ r = row cs p := by
  unfold rws at h
  rw [List.getElem?_map] at h
  cases e : (hs.filter (isK cs 2))[i]? with
  | none =>
    rw [e] at h
    cases h
  | some p =>
    rw [e] at h
    exact ⟨p, rfl, (Option.some.inj h).symm⟩
theorem plc_get {r : Nat × Nat} {j n : Nat} (h : (plc r)[j]? = some n) : j < r.2 ∧ n = r.1 + j := by
  unfold plc at h
  rw [List.getElem?_map] at h
  obtain ⟨h1, h2⟩ : j < r.2 ∧ (List.range r.2)[j]? = some j := by
    by_cases hj : j < r.2
    · exact ⟨hj, List.getElem?_range hj⟩
    · rw [List.getElem?_eq_none (by rw [List.length_range]; omega)] at h
      cases h
  rw [h2] at h
  exact ⟨h1, (Option.some.inj h).symm⟩
theorem plc_len (r : Nat × Nat) : (plc r).length = r.2 := by unfold plc; rw [List.length_map, List.length_range]
theorem vn_get {l : List Nat} {i : Nat} {x : V} (h : (l.map vn)[i]? = some x) : ∃ n, l[i]? = some n ∧ x = vn n := by
  rw [List.getElem?_map] at h
  cases e : l[i]? with
  | none =>
    rw [e] at h
    cases h
  | some p =>
    rw [e] at h
    exact ⟨p, rfl, (Option.some.inj h).symm⟩
end Bx

namespace Bx
open PySem PySem.Spec PyProof.Rows L2 C8
/-- a number as data -/
abbrev pn (n : Nat) : PyData := .int (n : Int)
mutual
inductive Tp (K : PySem.W.Frag) (H : Hp) : V → PyData → Prop
  | non : Tp K H .non .none
  | bl (b : Bool) : Tp K H (.bl b) (.bool b)
  | int (i : Int) : Tp K H (.int i) (.int i)
  | str (x : Str) : Tp K H (.str x) (.str x)
  | tup {a : Addr} {xs : List V} {ds : List PyData} : H a = some (.tup xs) → TpAll K H xs ds → Tp K H (.ref a) (.tuple ds)
inductive TpAll (K : PySem.W.Frag) (H : Hp) : List V → List PyData → Prop
  | nil : TpAll K H [] []
  | cons {v : V} {vs : List V} {d : PyData} {ds : List PyData} : Tp K H v d → TpAll K H vs ds → TpAll K H (v :: vs) (d :: ds)
end
section
variable {K : PySem.W.Frag} {H H' : Hp}
/-- the tuples stand as they stood -/
def TK (K : PySem.W.Frag) (H H' : Hp) : Prop := ∀ (a : Addr) (xs : List V), H a = some (.tup xs) → H' a = some (.tup xs)
theorem Same.tk (e : Same H H') : TK K H H' := fun _ _ h => e _ _ h
theorem SameX.tk {S : List Addr} (e : SameX S H H') (hm : ∀ x ∈ S, ∀ xs, H x ≠ some (.tup xs)) : TK K H H' := fun a xs h => e _ _ (fun z => hm a z xs h) h
mutual
theorem Tp.mono (e : TK K H H') : ∀ (d : PyData) (v : V), Tp K H v d → Tp K H' v d
  | .none, _, h => by cases h; exact .non
  | .bool b, _, h => by cases h; exact .bl b
  | .int i, _, h => by cases h; exact .int i
  | .str x, _, h => by cases h; exact .str x
  | .list _, _, h => by cases h
  | .dict _, _, h => by cases h
  | .tuple ds, _, h => by
    cases h with
    | tup hs ha => exact .tup (e _ _ hs) (TpAll.mono e ds _ ha)
theorem TpAll.mono (e : TK K H H') : ∀ (ds : List PyData) (vs : List V), TpAll K H vs ds → TpAll K H' vs ds
  | [], _, h => by cases h; exact .nil
  | d :: ds, _, h => by
    cases h with
    | cons h1 h2 => exact .cons (Tp.mono e d _ h1) (TpAll.mono e ds _ h2)
end
mutual
theorem Tp.dp : ∀ (d : PyData) (v : V), Tp K H v d → Dp K H v d
  | .none, _, h => by cases h; exact .non
  | .bool b, _, h => by cases h; exact .bl b
  | .int i, _, h => by cases h; exact .int i
  | .str x, _, h => by cases h; exact .str x
  | .list _, _, h => by cases h
  | .dict _, _, h => by cases h
  | .tuple ds, _, h => by
    cases h with
    | tup hs ha => exact .tup (SqT.of hs) (TpAll.dp ds _ ha)
theorem TpAll.dp : ∀ (ds : List PyData) (vs : List V), TpAll K H vs ds → DpAll K H vs ds
  | [], _, h => by cases h; exact .nil
  | d :: ds, _, h => by
    cases h with
    | cons h1 h2 => exact .cons (Tp.dp d _ h1) (TpAll.dp ds _ h2)
end
theorem Tp.same {d : PyData} {v : V} (h : Tp K H v d) (e : Same H H') : Tp K H' v d := Tp.mono (Same.tk e) d v h
theorem TpAll.same {ds : List PyData} {vs : List V} (h : TpAll K H vs ds) (e : Same H H') : TpAll K H' vs ds := TpAll.mono (Same.tk e) ds vs h
theorem TpAll.append : ∀ {vs ws : List V} {ds es : List PyData}, TpAll K H vs ds → TpAll K H ws es → TpAll K H (vs ++ ws) (ds ++ es)
  | _, _, _, _, .nil, h => h
  | _, _, _, _, .cons a b, h => .cons a (TpAll.append b h)
theorem TpAll.snoc {vs : List V} {ds : List PyData} {v : V} {d : PyData} (h : TpAll K H vs ds) (hd : Tp K H v d) : TpAll K H (vs ++ [v]) (ds ++ [d]) := h.append (.cons hd .nil)
theorem TpAll.length : ∀ {vs : List V} {ds : List PyData}, TpAll K H vs ds → vs.length = ds.length
  | _, _, .nil => rfl
  | _, _, .cons _ b => by rw [List.length_cons, List.length_cons, TpAll.length b]
theorem TpAll.get : ∀ {vs : List V} {ds : List PyData} {i : Nat} {v : V}, TpAll K H vs ds → vs[i]? = some v → ∃ d, ds[i]? = some d ∧ Tp K H v d
  | _, _, i, _, .nil, e => by simp at e
  | _, _, 0, _, .cons a _, e => by
    simp at e
    subst e
    exact ⟨_, rfl, a⟩
  | _, _, i + 1, v, .cons _ b, e => by
    obtain ⟨d, h1, h2⟩ := TpAll.get (i := i) (v := v) b (by simpa using e)
    exact ⟨d, by simpa using h1, h2⟩
theorem TpAll.ints : ∀ (l : List Nat), TpAll K H (l.map vn) (l.map pn)
  | [] => .nil
  | n :: r => .cons (.int _) (TpAll.ints r)
/-- a pair of a text and a thing -/
theorem Tp.pair {a : Addr} {x : Str} {v : V} {d : PyData} (h : H a = some (.tup [.str x, v])) (hd : Tp K H v d) : Tp K H (.ref a) (.tuple [.str x, d]) := .tup h (.cons (.str x) (.cons hd .nil))
theorem Tp.pair_inv {v : V} {x : Str} {d : PyData} (h : Tp K H v (.tuple [.str x, d])) : ∃ a y, v = .ref a ∧ SqT K H a [.str x, y] ∧ Tp K H y d := by
  cases h with
  | tup hs ha =>
    cases ha with
    | cons h1 h2 =>
      cases h1
      cases h2 with
      | cons h3 h4 =>
        cases h4
        exact ⟨_, _, rfl, SqT.of hs, h3⟩
theorem Tp.tup_inv {v : V} {ds : List PyData} (h : Tp K H v (.tuple ds)) : ∃ a xs, v = .ref a ∧ SqT K H a xs ∧ TpAll K H xs ds := by
  cases h with
  | tup hs ha => exact ⟨_, _, rfl, SqT.of hs, ha⟩
theorem Tp.tup_get {v : V} {ds : List PyData} (h : Tp K H v (.tuple ds)) : ∃ a xs, v = .ref a ∧ H a = some (.tup xs) ∧ TpAll K H xs ds := by
  cases h with
  | tup hs ha => exact ⟨_, _, rfl, hs, ha⟩
end

/-- a list, a dict may change: the tuples stand -/
theorem tk_of {K : PySem.W.Frag} {H : Hp} {l : Addr} {o u : HO} (h : H l = some o) (h1 : ∀ xs, o ≠ .tup xs) : TK K H (upd H l u) := fun a xs z => by
  rw [upd_ne (ne_of z h (fun e => h1 xs e.symm))]
  exact z
theorem tk_lst {K : PySem.W.Frag} {H : Hp} {l : Addr} {ys : List V} {u : HO} (h : H l = some (.lst ys)) : TK K H (upd H l u) := tk_of h (fun _ z => nomatch z)
theorem tk_dK {K : PySem.W.Frag} {H : Hp} {l : Addr} {ys : List (Key × V)} {u : HO} (h : H l = some (.dK ys)) : TK K H (upd H l u) := tk_of h (fun _ z => nomatch z)
theorem SameX.tkl {K : PySem.W.Frag} {H H' : Hp} {a : Addr} {ys : List V} (e : SameX [a] H H') (h : H a = some (.lst ys)) : TK K H H' := SameX.tk e fun x hx => by
  obtain rfl := List.mem_singleton.mp hx
  exact fun xs z => by (rw [h] at z; cases z)
theorem TK.trans {K : PySem.W.Frag} {H H1 H2 : Hp} (a : TK K H H1) (b : TK K H1 H2) : TK K H H2 := fun c xs h => b c xs (a c xs h)

def ctn (cs : List Nat) (p : Nat) : List Nat := (plc (row cs p)).map (cel cs)
def tgd (rs : List (Nat × Nat)) (c : Nat) : PyData := match tgt rs c with
  | some (i, j) => .tuple [.int (i : Int), .int (j : Int)]
  | none => .none
def isF (cs : List Nat) : Bo → Bool
  | .bx _ p _ _ => decide (cel cs p = 3)
mutual
def da1 (fr : Bool) (cs : List Nat) (rs : List (Nat × Nat)) : Bo → PyData
  | .bx _ p _ ks =>
    if cel cs p = 1 then .tuple [.str "group", .tuple (daL fr cs rs ks)]
    else if cel cs p = 2 then .tuple [.str "data", .tuple ((ctn cs p).map pn)]
    else if cel cs p = 3 then .tuple [.str "free", .int ((cel cs (p + 1) : Int) - 2)]
    else .tuple [.str "table", .tuple ((ctn cs p).map (tgd rs))]
def daL (fr : Bool) (cs : List Nat) (rs : List (Nat × Nat)) : List Bo → List PyData
  | [] => []
  | b :: r => if fr = false ∧ isF cs b = true then daL fr cs rs r else da1 fr cs rs b :: daL fr cs rs r
end
theorem cut_ctn {cs : List Nat} {p : Nat} (h2 : 2 ≤ cel cs (p + 1)) (h : p + cel cs (p + 1) ≤ cs.length) : cutV (cs.map vn) (some ((p : Int) + 2)) (some ((p : Int) + (cel cs (p + 1) : Int))) = (ctn cs p).map vn := by
  unfold cutV
  rw [show ((p : Int) + 2) = ((p + 2 : Nat) : Int) by omega, show ((p : Int) + (cel cs (p + 1) : Int)) = ((p + cel cs (p + 1) : Nat) : Int) by omega, HT.sIx_nat, HT.sIx_nat, List.length_map]
  rw [show min (p + 2) cs.length = p + 2 by omega, show min (p + cel cs (p + 1)) cs.length = p + cel cs (p + 1) by omega]
  rw [show p + cel cs (p + 1) - (p + 2) = cel cs (p + 1) - 2 by omega]
  refine List.ext_getElem? fun i => ?_
  unfold ctn plc row
  rw [List.getElem?_take, List.getElem?_drop, List.map_map, List.map_map, List.getElem?_map, List.getElem?_map]
  show (if i < cel cs (p + 1) - 2 then (cs[p + 2 + i]?).map vn else none) = ((List.range (cel cs (p + 1) - 2))[i]?).map fun i => vn (cel cs (p + 2 + i))
  by_cases hi : i < cel cs (p + 1) - 2
  · have hl : p + 2 + i < cs.length := by omega
    rw [if_pos hi, List.getElem?_range hi, Option.map_some, ← List.getElem?_map, cel_some hl]
  · rw [if_neg hi, List.getElem?_eq_none (by rw [List.length_range]; omega)]
    rfl
/-- all its entries are places of cells in data -/
def Good (cs : List Nat) (rs : List (Nat × Nat)) (hs : List Nat) : Prop := ∀ p ∈ hs, cel cs p = 4 → ∀ c ∈ ctn cs p, own rs c = true
end Bx

namespace Bx
open PySem PySem.Spec PyProof.Rows L2 C8
-- the places of the text
def top (i : Nat) : Stmt := PySem.Challenge.pw_boxshift_k33_whole_growing.main.body.getD i (.Pass ⟨0, 0, 0, 0⟩)
abbrev sIsBetween : Stmt := top 6
abbrev NIsBetween : List Str := ["value", "least", "most"]
theorem scIsBetween : FnScope NIsBetween ["value", "least", "most"] (fnScope sIsBetween) := fnScope_by (by decide +kernel)
abbrev sFirstWrong : Stmt := top 16
abbrev NFirstWrong : List Str := ["cells", "wrong"]
theorem scFirstWrong : FnScope NFirstWrong ["cells"] (fnScope sFirstWrong) := fnScope_by (by decide +kernel)
abbrev sCheckFile : Stmt := top 17
abbrev NCheckFile : List Str := ["cells", "wrong"]
theorem scCheckFile : FnScope NCheckFile ["cells"] (fnScope sCheckFile) := fnScope_by (by decide +kernel)
abbrev sCheckCells : Stmt := top 18
abbrev NCheckCells : List Str := ["cells", "cell"]
theorem scCheckCells : FnScope NCheckCells ["cells"] (fnScope sCheckCells) := fnScope_by (by decide +kernel)
abbrev sIsCell : Stmt := top 19
abbrev NIsCell : List Str := ["value"]
theorem scIsCell : FnScope NIsCell ["value"] (fnScope sIsCell) := fnScope_by (by decide +kernel)
abbrev sWrongBox : Stmt := top 20
abbrev NWrongBox : List Str := ["cells", "begin", "end", "around", "at", "wrong"]
theorem scWrongBox : FnScope NWrongBox ["cells", "begin", "end", "around"] (fnScope sWrongBox) := fnScope_by (by decide +kernel)
abbrev sWrongHead : Stmt := top 21
abbrev NWrongHead : List Str := ["cells", "at", "end", "around", "left"]
theorem scWrongHead : FnScope NWrongHead ["cells", "at", "end", "around"] (fnScope sWrongHead) := fnScope_by (by decide +kernel)
abbrev sWrongEntry : Stmt := top 22
abbrev NWrongEntry : List Str := ["cells", "targets", "at", "place"]
theorem scWrongEntry : FnScope NWrongEntry ["cells"] (fnScope sWrongEntry) := fnScope_by (by decide +kernel)
abbrev sBoxPlaces : Stmt := top 23
abbrev NBoxPlaces : List Str := ["cells", "kind", "found", "at"]
theorem scBoxPlaces : FnScope NBoxPlaces ["cells", "kind"] (fnScope sBoxPlaces) := fnScope_by (by decide +kernel)
abbrev sContentPlaces : Stmt := top 24
abbrev NContentPlaces : List Str := ["cells", "at"]
theorem scContentPlaces : FnScope NContentPlaces ["cells", "at"] (fnScope sContentPlaces) := fnScope_by (by decide +kernel)
abbrev sDataTargets : Stmt := top 25
abbrev NDataTargets : List Str := ["cells", "targets", "number", "at", "index", "place"]
theorem scDataTargets : FnScope NDataTargets ["cells"] (fnScope sDataTargets) := fnScope_by (by decide +kernel)
abbrev sIsSize : Stmt := top 27
abbrev NIsSize : List Str := ["value"]
theorem scIsSize : FnScope NIsSize ["value"] (fnScope sIsSize) := fnScope_by (by decide +kernel)
abbrev sGrowths : Stmt := top 29
abbrev NGrowths : List Str := ["cells", "number"]
theorem scGrowths : FnScope NGrowths ["cells", "number"] (fnScope sGrowths) := fnScope_by (by decide +kernel)
abbrev sGrown : Stmt := top 30
abbrev NGrown : List Str := ["cells", "number", "content", "at", "row", "length", "end", "free"]
theorem scGrown : FnScope NGrown ["cells", "number", "content"] (fnScope sGrown) := fnScope_by (by decide +kernel)
abbrev sTight : Stmt := top 31
abbrev NTight : List Str := ["cells", "number", "at"]
theorem scTight : FnScope NTight ["cells"] (fnScope sTight) := fnScope_by (by decide +kernel)
abbrev sDataAt : Stmt := top 32
abbrev NDataAt : List Str := ["cells", "number", "begins"]
theorem scDataAt : FnScope NDataAt ["cells", "number"] (fnScope sDataAt) := fnScope_by (by decide +kernel)
abbrev sGrowthsAt : Stmt := top 33
abbrev NGrowthsAt : List Str := ["cells", "at", "free", "shorter", "more"]
theorem scGrowthsAt : FnScope NGrowthsAt ["cells", "at"] (fnScope sGrowthsAt) := fnScope_by (by decide +kernel)
abbrev sFreeAfter : Stmt := top 34
abbrev NFreeAfter : List Str := ["cells", "at", "end", "ends", "group"]
theorem scFreeAfter : FnScope NFreeAfter ["cells", "at"] (fnScope sFreeAfter) := fnScope_by (by decide +kernel)
abbrev sCanHold : Stmt := top 35
abbrev NCanHold : List Str := ["cells", "at", "content", "gone", "cell", "entry"]
theorem scCanHold : FnScope NCanHold ["cells", "at", "content"] (fnScope sCanHold) := fnScope_by (by decide +kernel)
abbrev sEntriesOf : Stmt := top 36
abbrev NEntriesOf : List Str := ["cells", "at", "place"]
theorem scEntriesOf : FnScope NEntriesOf ["cells"] (fnScope sEntriesOf) := fnScope_by (by decide +kernel)
abbrev sLNumber : Stmt := top 38
abbrev NLNumber : List Str := ["_law_script", "_law_index", "_law_cells", "_law_cell", "_law_low", "_law_high", "_law_mixed"]
theorem scLNumber : FnScope NLNumber ["_law_script", "_law_index"] (fnScope sLNumber) := fnScope_by (by decide +kernel)
abbrev sLData : Stmt := top 39
abbrev NLData : List Str := ["_law_seed", "_law_most", "_law_at"]
theorem scLData : FnScope NLData ["_law_seed"] (fnScope sLData) := fnScope_by (by decide +kernel)
abbrev sLBoxes : Stmt := top 40
abbrev NLBoxes : List Str := ["_law_script", "_law_index", "_law_many_here", "_law_found", "_law_turn", "_law_seed", "_law_kind"]
theorem scLBoxes : FnScope NLBoxes ["_law_script", "_law_index", "_law_many_here"] (fnScope sLBoxes) := fnScope_by (by decide +kernel)
abbrev sLFlat : Stmt := top 41
abbrev NLFlat : List Str := ["_law_boxes_here", "_law_found", "_law_word_here", "_law_content"]
theorem scLFlat : FnScope NLFlat ["_law_boxes_here"] (fnScope sLFlat) := fnScope_by (by decide +kernel)
abbrev sLPointed : Stmt := top 42
abbrev NLPointed : List Str := ["_law_boxes_here", "_law_script", "_law_index", "_law_targets_here", "_law_found", "_law_at", "_law_box", "_law_word_here", "_law_content", "_law_seed", "_law_count", "_law_turn"]
theorem scLPointed : FnScope NLPointed ["_law_boxes_here", "_law_script", "_law_index", "_law_targets_here"] (fnScope sLPointed) := fnScope_by (by decide +kernel)
abbrev sLTargets : Stmt := top 43
abbrev NLTargets : List Str := ["_law_shape_here", "_law_found", "_law_content", "_law_number_here", "_law_word_here", "_law_at"]
theorem scLTargets : FnScope NLTargets ["_law_shape_here"] (fnScope sLTargets) := fnScope_by (by decide +kernel)
abbrev sLShape : Stmt := top 44
abbrev NLShape : List Str := ["_law_script", "_law_index", "_law_many_here", "_law_shape_here"]
theorem scLShape : FnScope NLShape ["_law_script", "_law_index", "_law_many_here"] (fnScope sLShape) := fnScope_by (by decide +kernel)
abbrev sLFree : Stmt := top 45
abbrev NLFree : List Str := ["_law_gap"]
theorem scLFree : FnScope NLFree ["_law_gap"] (fnScope sLFree) := fnScope_by (by decide +kernel)
abbrev sLPut : Stmt := top 46
abbrev NLPut : List Str := ["_law_boxes_here", "_law_gaps", "_law_number_here", "_law_found", "_law_word_here", "_law_content", "_law_inner", "_law_at", "_law_cell", "_law_one"]
theorem scLPut : FnScope NLPut ["_law_boxes_here", "_law_gaps", "_law_number_here"] (fnScope sLPut) := fnScope_by (by decide +kernel)
abbrev sLFile : Stmt := top 47
abbrev NLFile : List Str := ["_law_shape_here", "_law_gaps", "_law_before", "_law_rows", "_law_found", "_law_spots", "_law_at", "_law_row"]
theorem scLFile : FnScope NLFile ["_law_shape_here", "_law_gaps", "_law_before"] (fnScope sLFile) := fnScope_by (by decide +kernel)
abbrev sLMany : Stmt := top 48
abbrev NLMany : List Str := ["_law_boxes_here", "_law_word_here", "_law_content"]
theorem scLMany : FnScope NLMany ["_law_boxes_here"] (fnScope sLMany) := fnScope_by (by decide +kernel)
abbrev sLSizes : Stmt := top 49
abbrev NLSizes : List Str := ["_law_shape_here", "_law_spare", "_law_found", "_law_turn", "_law_longer", "_law_some", "_law_left", "_law_gap"]
theorem scLSizes : FnScope NLSizes ["_law_shape_here", "_law_spare"] (fnScope sLSizes) := fnScope_by (by decide +kernel)
abbrev sLLength : Stmt := top 50
abbrev NLLength : List Str := ["_law_shape_here", "_law_word_here", "_law_content"]
theorem scLLength : FnScope NLLength ["_law_shape_here"] (fnScope sLLength) := fnScope_by (by decide +kernel)
abbrev sLDrawn : Stmt := top 51
abbrev NLDrawn : List Str := ["_law_script", "_law_index", "_law_many_here", "_law_spare", "_law_shape_here", "_law_sizes_here", "_law_noise", "_law_at"]
theorem scLDrawn : FnScope NLDrawn ["_law_script", "_law_index", "_law_many_here", "_law_spare"] (fnScope sLDrawn) := fnScope_by (by decide +kernel)
abbrev sLLooked : Stmt := top 52
abbrev NLLooked : List Str := ["_law_cells", "_law_begin", "_law_end", "_law_found", "_law_entries", "_law_place", "_law_kind", "_law_length_here", "_law_behind", "_law_more", "_law_some", "_law_spare"]
theorem scLLooked : FnScope NLLooked ["_law_cells", "_law_begin", "_law_end"] (fnScope sLLooked) := fnScope_by (by decide +kernel)
abbrev sLWord : Stmt := top 53
abbrev NLWord : List Str := ["_law_function", "_law_things"]
theorem scLWord : FnScope NLWord ["_law_function", "_law_things"] (fnScope sLWord) := fnScope_by (by decide +kernel)
abbrev sLBoxRight : Stmt := top 54
abbrev NLBoxRight : List Str := ["_law_cells", "_law_number_here", "_law_box", "_law_entries", "_law_place", "_law_size", "_law_spare", "_law_more", "_law_due", "_law_at", "_law_content", "_law_gone", "_law_later", "_law_cell", "_law_behind", "_law_entry"]
theorem scLBoxRight : FnScope NLBoxRight ["_law_cells", "_law_number_here", "_law_box", "_law_entries"] (fnScope sLBoxRight) := fnScope_by (by decide +kernel)
abbrev sLAllRight : Stmt := top 55
abbrev NLAllRight : List Str := ["_law_script", "_law_number_here", "_law_seed", "_law_shape_here", "_law_boxes_here", "_law_entries", "_law_at", "_law_box", "_law_bad", "_law_cells"]
theorem scLAllRight : FnScope NLAllRight ["_law_script"] (fnScope sLAllRight) := fnScope_by (by decide +kernel)
abbrev sLaw : Stmt := top 56
abbrev NLaw : List Str := ["_law_script"]
theorem scLaw : FnScope NLaw ["_law_script"] (fnScope sLaw) := fnScope_by (by decide +kernel)
/-- what the top holds under the names that the defs read -/
structure Txt (mg : Str → Option Value) : Prop where
  len : mg "len" = none
  isinstance : mg "isinstance" = none
  sum : mg "sum" = none
  int : mg "int" = none
  bool : mg "bool" = none
  list : mg "list" = none
  tuple : mg "tuple" = none
  range : mg "range" = none
  enumerate : mg "enumerate" = none
  all : mg "all" = none
  any : mg "any" = none
  cGROUP : ∃ u, mg "GROUP" = some u ∧ RelV (.int 1) u
  cDATA : ∃ u, mg "DATA" = some u ∧ RelV (.int 2) u
  cFREE : ∃ u, mg "FREE" = some u ∧ RelV (.int 3) u
  cTABLE : ∃ u, mg "TABLE" = some u ∧ RelV (.int 4) u
  cHEAD : ∃ u, mg "HEAD" = some u ∧ RelV (.int 2) u
  cMOST_CELLS : ∃ u, mg "MOST_CELLS" = some u ∧ RelV (.int 30) u
  cLARGEST_CELL : ∃ u, mg "LARGEST_CELL" = some u ∧ RelV (.int 99) u
  cMOST_GROUPS_AROUND : ∃ u, mg "MOST_GROUPS_AROUND" = some u ∧ RelV (.int 1) u
end Bx

namespace Bx
open PySem PySem.Spec PyProof.Rows L2 C8

/-- its __init__'s text -/
def supB (txt p : Str) (q0 q1 q2 q3 q4 q5 q6 q7 q8 r0 r1 r2 r3 : Pos) : List Stmt :=
  [.Expr (.Call (.Attribute (.Call (.Name "super" q0) [] [] q1) "__init__" q2) [.JoinedStr [.Constant (.str txt) 0 q3, .FormattedValue (.Name p q4) (-1) none q5] q6] [] q7) q8,
    .Assign [.Attribute (.Name "self" r0) p r1] (.Name p r2) r3]
structure SupI (p : Str) (sc : Scope) : Prop where
  kind : sc.kind = .function
  co : sc.isCoroutine = false
  gen : sc.isGenerator = false
  s1 : sc.names.lookup ("self" : Str) = some .local
  s2 : sc.names.lookup p = some .local
  s3 : sc.names.lookup ("__class__" : Str) = some .free
  s4 : sc.names.lookup ("super" : Str) = some .globalImplicit
  ne : ("self" : Str) ≠ p
  fr : ∀ y ∈ sc.names, y.2 = .free → y.1 = "__class__"
  nc : ∀ y ∈ sc.names, y.2 ≠ .cell
  d1 : (p == ("__debug__" : Str)) = false
  d2 : (p == ("__classdict__" : Str)) = false

/-- {x}, x None or an int -/
def tFmtN (te : TE) : TE := fun σ H Q => te σ H fun x H1 => (x = .non ∧ Q (.str "None") H1) ∨ ∃ i : Int, x = .int i ∧ i.natAbs.log2 < 1920 ∧ Q (.str (toString i)) H1
theorem pe_fmtN {X : Cx} {e : Expr} {te : TE} {pos : Pos} (he : PE X e te) : PE X (.FormattedValue e (-1) none pos) (tFmtN te) := by
  refine ⟨fun pins s σ H Q I h => ?_⟩
  refine wpAny_FormattedValue_plain (thn (he.run pins s σ H _ I h) fun v s1 hv => ?_)
  obtain ⟨x, H1, I1, r1, q⟩ := hv
  rcases q with ⟨rfl, q⟩ | ⟨i, rfl, hz, q⟩
  · cases r1
    exact wpAny_formatField_none ⟨.str "None", H1, I1.tok _, ⟨_, rfl⟩, q⟩
  · obtain ⟨t, rfl⟩ := r1
    exact wpAny_formatField_int hz ⟨.str (toString i), H1, I1.tok _, ⟨_, rfl⟩, q⟩

abbrev envS (qual : Str) (scope : Scope) (L f : Addr) (cd : Value) (cc : Addr) : Env := PySem.W.ksEnv qual scope L f cd cc
/-- the context of such an __init__'s body -/
def cxS (CX : CXT) (P : Program) (w : World) (K : PySem.W.Frag) (mg : Str → Option Value) (base : Heap) (N : List Str) (qual : Str) (scope : Scope) (f : Addr) (cd : Value) (cc : Addr) (A : Around) (outer : List Env) (s : Shared) (H : Hp) (E : XK) : Cx where
  prog := P
  w := w
  K := K
  mg := mg
  base := base
  A := A.deeper (envS qual scope s.heap.objs.size f cd cc)
  N := N
  s_0 := s
  H_0 := H
  env := envS qual scope s.heap.objs.size f cd cc
  outer := outer
  stack := envS qual scope s.heap.objs.size f cd cc :: outer
  ex := []
  calm := true
  fn := fun x => x != "__class__"
  pn := []
  xe := fun e s' => wpAny (model P w) (A.deeper (envS qual scope s.heap.objs.size f cd cc)) (leaving (envS qual scope s.heap.objs.size f cd cc) e) (fun _ s'' => CX outer H s E e s'') (fun e' s'' => CX outer H s E e' s'') s'

section
variable {CX : CXT} {P : Program} {w : World} {K : PySem.W.Frag} {mg : Str → Option Value} {base : Heap} {p qual : Str} {scope : Scope} {f cc D : Addr} {cd : Value} {A : Around} {outer : List Env} {s : Shared} {H : Hp} {E : XK} {u0 u1 : Value} {v0 v1 : V}
theorem inv_sup {cl : Value} {cld : Option Addr} {csl : Array (Option Value)} {h1 : Heap} {tk : Nat} (S : SupI p scope) (hd : A.handled = none) (e0 : Env0 P w K mg base A outer s H) (hcell : K.lookup cc = some ⟨cl, cld, .cell (some (.ref D)), csl⟩)
    (hns : h1.Ns s.heap.objs.size (fun x => ([("self", u0), (p, u1)] : List (Str × Value)).reverse.lookup x)) (hk : ∀ b o, s.heap.get? b = some o → h1.get? b = some o) (r0 : RelV v0 u0) (r1 : RelV v1 u1) :
    Inv (cxS CX P w K mg base ["self", p] qual scope f cd cc A outer s H E) [] [some v0, some v1] H { s with heap := h1, toks := tk } := by
  have noA : ∀ b : Addr, b ∉ (cxS CX P w K mg base ["self", p] qual scope f cd cc A outer s H E).ex := fun b z => absurd (show b ∈ ([] : List Addr) from z) (by simp)
  have hb : base.get? cc = some ⟨cl, cld, .cell (some (.ref D)), csl⟩ := e0.mod.kin _ _ hcell
  have cells : ∀ x c, (cxS CX P w K mg base ["self", p] qual scope f cd cc A outer s H E).env.cells.lookup x = some c → x = "__class__" ∧ c = cc := fun x c h => by
    have h : ([("__class__", cc)] : List (Str × Addr)).lookup x = some c := h
    by_cases e : x = "__class__"
    · subst e
      simp [List.lookup] at h
      exact ⟨rfl, h.symm⟩
    · have e' : (x == ("__class__" : Str)) = false := by simpa using e
      simp [List.lookup, e'] at h
  refine ⟨⟨e0.mod, S.kind, rfl, rfl, Nat.le_refl _, fun y z c a b => ((cells y c a).1).trans ((cells z c b).1).symm, fun y hy => ?_, fun y c hf h => ?_, fun _ => hd, Around.frames_deeper e0.frames, .inr ⟨rfl, rfl⟩, fun b z => absurd z (noA b), e0.bs, e0.bsz, fun b _ _ => noA b, fun b z => absurd z (noA b), e0.funs, e0.frf⟩,
    rfl, e0.bare, Un.kept hk, ⟨_, hns, fun i y v a b c => ?_⟩, fun y c h => ?_, e0.hok.fresh (Nat.le_refl _), fun y c h => ?_, fun p hp => absurd (show p ∈ ([] : List (Addr × Obj)) from hp) (by simp), e0.hok.kept hk, rfl⟩
  · have hy : scope.names.lookup y = some .cell ∨ scope.names.lookup y = some .free := hy
    rcases hy with hy | hy
    · exact absurd rfl (S.nc _ (PySem.mem_of_lookup hy))
    · have z := S.fr _ (PySem.mem_of_lookup hy) rfl
      dsimp only at z
      exact ⟨cc, by show ([("__class__", cc)] : List (Str × Addr)).lookup y = some cc; rw [z]; rfl⟩
  · have hf : (y != ("__class__" : Str)) = true := hf
    rw [(cells y c h).1] at hf
    exact absurd hf (by decide)
  · match i, a, b with
    | 0, a, b =>
      cases a
      cases b
      refine ⟨u0, r0, .inl ⟨S.s1, ?_⟩⟩
      have e' : (("self" : Str) == p) = false := by simpa using S.ne
      show ([(p, u1), ("self", u0)] : List (Str × Value)).lookup ("self" : Str) = some u0
      simp [List.lookup, e']
    | 1, a, b =>
      cases a
      cases b
      refine ⟨u1, r1, .inl ⟨S.s2, ?_⟩⟩
      show ([(p, u1), ("self", u0)] : List (Str × Value)).lookup p = some u1
      simp [List.lookup]
    | i + 2, a, b => exact absurd a (by simp [cxS])
  · rw [(cells y c h).2]
    exact ⟨_, _, hk _ _ (e0.bs _ _ hb).1, rfl⟩
  · rw [(cells y c h).2]
    exact (e0.bs _ _ hb).2
end
end Bx

namespace Bx
open PySem PySem.Spec PyProof.Rows L2 C8

/-- what the written part says of the class at D and of its __init__ -/
structure SupT (P : Program) (K : PySem.W.Frag) (mg : Str → Option Value) (p txt qual : Str) (scope : Scope) (params : Arguments) (D cc : Addr) (cdv : Value) : Prop where
  S : SupI p scope
  ps : ∃ ar, (params.posonlyargs ++ params.args).head? = some ar ∧ ar.arg = "self"
  code : ∃ cda ccl cdd vs ccs file tf, cdv = .ref cda ∧ K.lookup cda = some ⟨ccl, cdd, .fields vs, ccs⟩ ∧ vs[2]? = some (.str file tf) ∧ ((P.main.file : Str) == file) = true
  cell : ∃ cl cld csl, K.lookup cc = some ⟨cl, cld, .cell (some (.ref D)), csl⟩
  T : OexC K D
  sub : PySem.W.mroIn K D (.ref D) = some true
  sup : PySem.W.ks_superIn K D D "__init__" = some (some (.builtin "ValueError.__init__"))
  ve : PySem.W.subIn K (.ref D) (.type "ValueError") = some true
  opq : PySem.W.nsIn K cStatics "thirdparty.any" = some none
  noS : mg "super" = none
  top : (P.main.scope.names.lookup ("super" : Str)).isSome = false
  no : PySem.W.findIn K (.ref D) p = some none

section
variable {prog : Program} {w : World} {M : Model} {A : Around} {E : Value → Shared → Prop}
theorem cw1 {pos : Pos} {env : Env} {e : Expr} {rest : List Expr} {s : Shared} {u x : Addr} {i : String} {Q : Value → Shared → Prop}
    (h : wpAny M A (spliced (backTo pos (starEach (e :: rest) env))) (fun vs s₁ => PySem.W.KxsAt i u x s₁.heap ∧ wpAny M A (call (.ref u) vs) Q E s₁) E s)
    (he : starEach (e :: rest) env = (false, eval e env) :: starEach rest env := by rfl) (hplain : (backTo pos (starEach rest env)).any (·.1) = false := by rfl) :
    wpAny M A (callWith pos (.ref u) [] (backTo pos (starEach (e :: rest) env)) []) Q E s := by
  rw [he] at h ⊢
  refine PySem.W.kxs_callWith (i := i) (x := x) (by show (false || (backTo pos (starEach rest env)).any (·.1)) = false; rw [hplain]; rfl) ?_
  exact PySem.Calls.evalArgs_plain h
end

/-- the method-wrapper of super().__init__, called -/
theorem sup_call {X : Cx} {pins : List (Addr × Obj)} {σ : L2.St} {H : Hp} {s : Shared} {a D u : Addr} {us : List Value} {Q : Value → Shared → Prop} {E : Value → Shared → Prop} {A : Around} (T : OexC X.K D) (I : Inv X pins σ H s) (e : H a = some (exo a D none))
    (hu : s.heap.get? u = some (PySem.W.kxs_mw "ValueError.__init__" a)) (hl : us.length ≤ sizeLine) (h : ∀ s', Inv X pins σ H s' → Q .none s') : wpAny (model X.prog X.w) A (call (.ref u) us) Q E s := by
  obtain ⟨nm, q, N, bs, bm, sn, sub, ab, col, dd, k0, k1, k2, k3, k5, hC, hbm⟩ := T.cls
  obtain ⟨t1, ho⟩ := exo_at I.hok e
  obtain ⟨hp, g, d, t, os⟩ := s
  refine wpAny_call (codeAny_of_tree ?_)
  show wpAny _ A.in1 (callAny (.ref u) ⟨us, []⟩) _ _ _
  simp only [callAny]
  refine wpAny_bind (wpAny_load hu ?_)
  simp only [PySem.W.kxs_mw, show (Value.type "method-wrapper" == Value.type "method" || Value.type "method-wrapper" == Value.type "builtin_function_or_method" || Value.type "method-wrapper" == Value.type "method-wrapper") = true by decide, if_true]
  refine PySem.W.KFB.if_so (by decide) ?_
  refine wpAny_bind (PySem.W.check_bound_init F.excBase_ValueError.toExcCallFacts (I.kIn _ _ hC) ho rfl ?_)
  refine wpAny_bind (wpAny_pure (wpAny_pure ?_))
  refine ⟨plainId_quiet F.excBase_ValueError.init.plain _, codeAny_builtin F.excBase_ValueError.initEntry ?_⟩
  refine PySem.W.exc_init_tree (cls := .ref D) (t0 := t1) (dv := none) (c2 := .none) (c3 := .none) (b4 := .bool false) ho hl fun h' k hx _ => ?_
  have J := I.write (t' := t) (x := a) (e := a) (o := exo a D none) (by rw [e]; exact True.intro) (.inl rfl) k ⟨_, hx⟩ (exo_ok hx)
  have eu : upd H a (exo a D none) = H := by
    funext b
    by_cases hb : b = a
    · rw [hb, upd_same, e]
    · rw [upd_ne hb]
  rw [eu] at J
  exact h _ J
end Bx

namespace Bx
open PySem PySem.Spec PyProof.Rows L2 C8

def spSup (D : Addr) (p txt : Str) : Sp := fun vs H Q _ => ∃ (a : Addr) (y : V), vs = [.ref a, y] ∧ (y = .non ∨ ∃ i : Int, y = .int i ∧ i.natAbs.log2 < 1920 ∧ (txt ++ toString i : Str).length ≤ sizeLine) ∧ H a = some (exo a D none) ∧
  ∀ dx, H dx = none → dx ≠ a → Q .non (upd (upd H dx (exd dx [(p, y)])) a (exo a D (some dx)))

theorem b_super : bootBuiltins "super" = some (.type "super") := by decide +kernel
theorem he_of {o : Expr} {name : Str} {q2 q7 : Pos} {e : Expr} {env : Env} (hq : (q2.endLine == q7.line) = true) (hs : starEach [e] env = [(false, eval e env)]) :
    eval (.Call (.Attribute o name q2) [e] [] q7) env = (do
      let ov ← attributeBase o name env (eval o env)
      standAt q2.atName
      let (f, first) ← holding [ov] (getMethod ov name (do return (← importBound o env).getD true))
      callWith q7 f first (backTo q7 (starEach [e] env)) []) := by
  have e1 : ∀ few, methodCallPos few o env q2 q7 = pure q7 := fun few => by
    unfold methodCallPos
    rw [hq, Bool.or_true, if_pos rfl]
  rw [arm_eval_Call]
  simp only [methodCall, e1]
  rw [hs]
  rfl
section
variable {P : Program} {w : World} {K : PySem.W.Frag} {mg : Str → Option Value} {base : Heap} {CX : CXT} {k : Nat} {f cc D cda a : Addr} {name qual p txt : Str} {params : Arguments} {scope : Scope} {dV kV doc pm cdv ct oc : Value} {an od : Option Addr} {osl : Array (Option Value)}
  {q0 q1 q2 q3 q4 q5 q6 q7 q8 r0 r1 r2 r3 : Pos} {A : Around} {outer : List Env} {s s1 : Shared} {H : Hp} {E : XK} {y : V} {Q : VK}
theorem sup_body (hq : (q2.endLine == q7.line) = true) (lk : K.lookup f = some ⟨oc, od, .func (PySem.W.ksFn name qual params (supB txt p q0 q1 q2 q3 q4 q5 q6 q7 q8 r0 r1 r2 r3) scope dV kV doc pm an (Value.ref cda) ct cc), osl⟩) (Z : SupT P K mg p txt qual scope params D cc (.ref cda)) (ht : (txt ++ "None" : Str).length ≤ sizeLine) (ht0 : txt.length ≤ sizeLine)
    (hy : y = .non ∨ ∃ i : Int, y = .int i ∧ i.natAbs.log2 < 1920 ∧ (txt ++ toString i : Str).length ≤ sizeLine) (ea : H a = some (exo a D none)) (q : ∀ dx, H dx = none → dx ≠ a → Q .non (upd (upd H dx (exd dx [(p, y)])) a (exo a D (some dx))))
    (I : Inv (cxS CX P w K mg base ["self", p] qual scope f (Value.ref cda) cc A outer s H E) [] [some (V.ref a), some y] H s1) :
    _root_.PySem.wpAt (model P w) (cxS CX P w K mg base ["self", p] qual scope f (Value.ref cda) cc A outer s H E).A (.func (supB txt p q0 q1 q2 q3 q4 q5 q6 q7 q8 r0 r1 r2 r3) (cxS CX P w K mg base ["self", p] qual scope f (Value.ref cda) cc A outer s H E).env) (execs (supB txt p q0 q1 q2 q3 q4 q5 q6 q7 q8 r0 r1 r2 r3) (cxS CX P w K mg base ["self", p] qual scope f (Value.ref cda) cc A outer s H E).env) (SP (cxS CX P w K mg base ["self", p] qual scope f (Value.ref cda) cc A outer s H E) [] { nx := fun _ H' => Q .non H', rt := Q }) (cxS CX P w K mg base ["self", p] qual scope f (Value.ref cda) cc A outer s H E).xe s1 := by
  have gS : Gl (cxS CX P w K mg base ["self", p] qual scope f (Value.ref cda) cc A outer s H E) "super" := Z.S.s4
  have kC : (cxS CX P w K mg base ["self", p] qual scope f (Value.ref cda) cc A outer s H E).env.kindOf "__class__" = some .free := Z.S.s3
  have kS : (cxS CX P w K mg base ["self", p] qual scope f (Value.ref cda) cc A outer s H E).env.kindOf "self" = some .local := Z.S.s1
  have kP : (cxS CX P w K mg base ["self", p] qual scope f (Value.ref cda) cc A outer s H E).env.kindOf p = some .local := Z.S.s2
  have hKin : K.In s1.heap := I.kIn
  obtain ⟨cl, cld, csl, hcell⟩ := Z.cell
  obtain ⟨ar, har, hare⟩ := Z.ps
  obtain ⟨cda', ccl, cdd, cvs, ccs, file, tf, ez, hcode, hvs, hfile⟩ := Z.code
  cases ez
  obtain ⟨nm, qq, N, bs, bm, sn, sub, ab, col, dd, k0, k1, k2, k3, k5, hC, hbm⟩ := Z.T.cls
  have hcl : PySem.W.clsIn K D = some { name := nm, bases := bs, mro := .ref D :: bm, ns := N, qualname := qq, hasDict := true, slotNames := sn, subclasses := sub, abstract := ab, collection := col, hasDel := false } := by unfold PySem.W.clsIn; rw [hC] <;> rfl
  obtain ⟨t1, ho⟩ := exo_at I.hok ea
  have hDs : (PySem.W.Looks (model P w) s1.heap (isSubtype (.ref D) (.ref D)) true) := PySem.W.looks_mroIn hKin Z.sub
  have hveI : PySem.W.InstAt s1.heap a ({ cls := .ref D, dict := none, data := .fields #[.ref t1, .none, .none, .none, .bool false, .none] } : Obj) D none := ⟨ho, rfl, rfl, trivial⟩
  -- the tail: self.p = p
  have tail : ∀ s2, Inv (cxS CX P w K mg base ["self", p] qual scope f (Value.ref cda) cc A outer s H E) [] [some (V.ref a), some y] H s2 → wpAny (model P w) (cxS CX P w K mg base ["self", p] qual scope f (Value.ref cda) cc A outer s H E).A (execs [.Assign [.Attribute (.Name "self" r0) p r1] (.Name p r2) r3] (cxS CX P w K mg base ["self", p] qual scope f (Value.ref cda) cc A outer s H E).env) (SP (cxS CX P w K mg base ["self", p] qual scope f (Value.ref cda) cc A outer s H E) [] { nx := fun _ H' => Q .non H', rt := Q }) (cxS CX P w K mg base ["self", p] qual scope f (Value.ref cda) cc A outer s H E).xe s2 := by
    intro s2 I2
    refine (pss_one (ps_ost (f := p) (pe_var (i := 0) rfl (.inl kS)) (pe_var (i := 1) rfl (.inl kP) Z.S.d1 Z.S.d2))).run [] s2 _ H _ I2 ?_
    exact ⟨y, rfl, .ref a, rfl, a, D, rfl, Z.T, Z.no, .inl ⟨ea, fun dx hn hne => q dx hn hne⟩⟩
  refine ks_wpAt_execs_cons (ks_wpAt_Expr_any (hi := by unfold interactive; rw [show (cxS CX P w K mg base ["self", p] qual scope f (Value.ref cda) cc A outer s H E).env.scope.kind = .function from Z.S.kind]; rfl) (ks_wpAt_MethodCall (he := he_of hq rfl) ?_))
  refine ks_wpAt_super_base gS kC rfl rfl (hKin _ _ lk) rfl har rfl (hKin _ _ hcode) rfl hvs hfile Z.top ?_
  obtain ⟨mb, hb1, hb2⟩ := I.mod.blt
  refine PySem.W.ks_loadName_global Z.S.kind gS (PySem.Calls.loadGlobal_builtin (by rw [I.ok.glob]; exact I.mod.glob.keeps I.bk) Z.noS (by rw [I.ok.blt]; exact hb1.keeps I.bk) ((hb2 "super" (by decide)).trans b_super) ⟨rfl, ?_⟩)
  refine wpAny_loadName_free Z.S.kind kC rfl ⟨_, hKin _ _ hcell, rfl⟩ ?_
  have ldS : ∀ {s2 : Shared} {Q' : Value → Shared → Prop} {E' : Value → Shared → Prop}, Inv (cxS CX P w K mg base ["self", p] qual scope f (Value.ref cda) cc A outer s H E) [] [some (V.ref a), some y] H s2 → Q' (.ref a) s2 → wpAny (model P w) (cxS CX P w K mg base ["self", p] qual scope f (Value.ref cda) cc A outer s H E).A (loadName (cxS CX P w K mg base ["self", p] qual scope f (Value.ref cda) cc A outer s H E).env "self") Q' E' s2 := by
    intro s2 Q' E' I2 hq'
    obtain ⟨m, hn, hlk⟩ := id I2.loc
    obtain ⟨u, ru, lu⟩ := hlk 0 "self" (.ref a) rfl rfl (.inl Z.S.s1)
    obtain rfl : u = Value.ref a := ru
    rcases lu with ⟨_, hm⟩ | ⟨hz, _⟩
    · exact wpAny_loadName_local Z.S.kind kS hn hm hq'
    · rcases hz with hz | hz
      · rw [kS] at hz
        cases hz
      · rw [kS] at hz
        cases hz
  rw [hare]
  refine ldS I ?_
  have hDo := hKin _ _ hC
  obtain ⟨hp, g, d, t, os⟩ := s1
  refine ks_wpAny_isType_cls hDo rfl ⟨rfl, ?_⟩
  refine ks_wpAny_call_super hDo rfl ho rfl (fun c z => by cases z) hDs (fun h' e1 k1 => ?_)
  have I1 : Inv (cxS CX P w K mg base ["self", p] qual scope f (Value.ref cda) cc A outer s H E) [] [some (V.ref a), some y] H ⟨h', g, d, t, os⟩ := I.kept k1
  have hKin1 : K.In h' := I1.kIn
  have hDa : a ≠ D := fun z => by
    rw [z, hDo] at ho
    cases ho
  refine PySem.W.kxs_getMethod (l₀ := .ref D :: bm) PySem.W.kxs_ValueError e1 (PySem.W.looks_opaque hKin1 Z.opq) ((PySem.W.looks_clsIn hKin1 hcl).andThen .now) rfl hKin1 ?_ ?_ hDa rfl ?_
  · have z := Z.sup
    unfold PySem.W.ks_superIn at z
    rw [hcl] at z
    exact z
  · exact (PySem.W.InstAt.type (M := model P w) (⟨k1 _ _ ho, rfl, rfl, trivial⟩ : PySem.W.InstAt h' a ({ cls := .ref D, dict := none, data := .fields #[.ref t1, .none, .none, .none, .bool false, .none] } : Obj) D none)).andThen (PySem.W.looks_subIn hKin1 Z.ve)
  have I2 : Inv (cxS CX P w K mg base ["self", p] qual scope f (Value.ref cda) cc A outer s H E) [] [some (V.ref a), some y] H ⟨h'.push (PySem.W.kxs_mw "ValueError.__init__" a), g, d, t + 1, os⟩ := I1.kept (t' := t + 1) fun b o z => Heap.get?_push_of_some _ z
  have hq2 : (h'.push (PySem.W.kxs_mw "ValueError.__init__" a)).get? h'.objs.size = some (PySem.W.kxs_mw "ValueError.__init__" a) := Heap.get?_push_at rfl rfl
  have I3 : Inv (cxS CX P w K mg base ["self", p] qual scope f (Value.ref cda) cc A outer s H E) [(h'.objs.size, PySem.W.kxs_mw "ValueError.__init__" a)] [some (V.ref a), some y] H ⟨h'.push (PySem.W.kxs_mw "ValueError.__init__" a), g, d, t + 1, os⟩ := I2.pins_of fun p hp => by
    rcases List.mem_cons.mp hp with rfl | hp
    · exact ⟨hq2, I1.hok.fresh (Nat.le_refl _), Nat.ne_of_gt I1.lt, I1.nofs (Nat.le_refl _), fun v z => by cases z⟩
    · exact absurd hp (by simp)
  have PAj : PA (cxS CX P w K mg base ["self", p] qual scope f (Value.ref cda) cc A outer s H E) [.JoinedStr [.Constant (.str txt) 0 q3, .FormattedValue (.Name p q4) (-1) none q5] q6] _ :=
    pa_cons (pe_joined (PJ.cons pe_str (PJ.cons (pe_fmtN (pe_var (i := 1) rfl (.inl kP) Z.S.d1 Z.S.d2)) PJ.nil))) pa_nil
  refine cw1 (i := "ValueError.__init__") (x := a) (thn (PAj.run q7 _ _ _ H (fun vs H' => vs.length = 1 ∧ H' = H) I3 ?_) fun us s3 ⟨vs, H3, I4, r4, h4, e4⟩ => ?_)
  · have e0 : Str.empty ++ txt = txt := by first | rfl | exact Str.empty_append _ | simp
    refine ⟨txt, rfl, by rw [e0]; exact ht0, ?_⟩
    rw [e0]
    refine ⟨y, rfl, ?_⟩
    rcases hy with rfl | ⟨i, rfl, hi, hz⟩
    · refine .inl ⟨rfl, "None", rfl, ht, ?_⟩
      exact ⟨rfl, rfl⟩
    · refine .inr ⟨i, rfl, hi, _, rfl, hz, ?_⟩
      exact ⟨rfl, rfl⟩
  · subst e4
    have hu := (I4.pin (h'.objs.size, PySem.W.kxs_mw "ValueError.__init__" a) (List.mem_append_right _ List.mem_cons_self)).1
    refine ⟨hu, sup_call Z.T I4 ea hu (by rw [← r4.length, h4, sizeLine_eq]; decide) fun s4 I5 => ?_⟩
    exact PySem.wpAt_of_wpAny (tail s4 (I5.pins_of fun p hp => absurd hp (by simp)))
end
section
variable {P : Program} {w : World} {K : PySem.W.Frag} {mg : Str → Option Value} {base : Heap} {CX : CXT} {k : Nat} {f cc D : Addr} {name qual p txt : Str} {params : Arguments} {scope : Scope} {dV kV doc pm cdv ct oc : Value} {an od : Option Addr} {osl : Array (Option Value)}
  {q0 q1 q2 q3 q4 q5 q6 q7 q8 r0 r1 r2 r3 : Pos}
theorem fn_sup (hq : (q2.endLine == q7.line) = true) (lk : K.lookup f = some ⟨oc, od, .func (PySem.W.ksFn name qual params (supB txt p q0 q1 q2 q3 q4 q5 q6 q7 q8 r0 r1 r2 r3) scope dV kV doc pm an cdv ct cc), osl⟩) (hcd : PySem.W.codeIn K cdv qual = true)
    (Z : SupT P K mg p txt qual scope params D cc cdv) (ht : (txt ++ "None" : Str).length ≤ sizeLine) (ht0 : txt.length ≤ sizeLine) :
    FnOk P w K mg base CX (k + 1) f (PySem.W.ksFn name qual params (supB txt p q0 q1 q2 q3 q4 q5 q6 q7 q8 r0 r1 r2 r3) scope dV kV doc pm an cdv ct cc) ["self", p] (spSup D p txt) := by
  have len : ∀ vs H Q E, spSup D p txt vs H Q E → vs.length = (["self", p] : List Str).length := fun vs H Q E h => by
    obtain ⟨a, y, rfl, _⟩ := h
    rfl
  refine ⟨len, fun A outer s H args us vs Q E hr e0 hb r hsp => ?_⟩
  obtain ⟨a, y, rfl, hy, ea, q⟩ := hsp
  obtain ⟨u0, u1, rfl, ru0, ru1⟩ : ∃ u0 u1, us = [u0, u1] ∧ RelV (.ref a) u0 ∧ RelV y u1 := by
    cases r with
    | cons x r' =>
      cases r' with
      | cons x' r'' =>
        cases r''
        exact ⟨_, _, rfl, x, x'⟩
  obtain rfl : u0 = Value.ref a := ru0
  have KX : K.In s.heap := e0.mod.kin.keeps fun b o e => (e0.bs b o e).1
  have lim : s.heap.NoLimit := e0.mod.nolimit.keeps fun b o e => (e0.bs b o e).1
  have hroom : A.depth < recursionLimit := hr.depth
  obtain ⟨cl, cld, csl, hcell⟩ := Z.cell
  obtain ⟨cda, ccl, cdd, cvs, ccs, file, tf, rfl, hcode, hvs, hfile⟩ := Z.code
  obtain ⟨nm, qq, N, bs, bm, sn, sub, ab, col, dd, k0, k1, k2, k3, k5, hC, hbm⟩ := Z.T.cls
  have hcl : PySem.W.clsIn K D = some { name := nm, bases := bs, mro := .ref D :: bm, ns := N, qualname := qq, hasDict := true, slotNames := sn, subclasses := sub, abstract := ab, collection := col, hasDel := false } := by unfold PySem.W.clsIn; rw [hC] <;> rfl
  refine ks_codeAny_call_defAt (binds := [("self", .ref a), (p, u1)]) hroom (KX _ _ lk) rfl lim (PySem.W.codeRec_of KX hcd) rfl hb Z.S.nc (fun x hx => ?_) (fun h1 hns hk => ?_) Z.S.co Z.S.gen Z.S.kind
  · rcases List.mem_cons.mp hx with rfl | hx
    · exact Z.S.s1
    · rcases List.mem_cons.mp hx with rfl | hx
      · exact Z.S.s2
      · exact absurd hx (by simp)
  have I : Inv (cxS CX P w K mg base ["self", p] qual scope f (.ref cda) cc A outer s H E) [] [some (V.ref a), some y] H { s with heap := h1, toks := s.toks + 2 } :=
    inv_sup (u0 := .ref a) (u1 := u1) (v0 := .ref a) (v1 := y) Z.S hr.hd e0 hcell hns hk rfl ru1
  refine ks_wpAt_mono (sup_body (Q := Q) hq lk Z ht ht0 hy ea q I) (fun fl s' hs => ?_) fun e s' x => x
  have fin0 : ∀ {σ' : L2.St} {H' : Hp} {v : V} {u : Value}, Inv (cxS CX P w K mg base ["self", p] qual scope f (.ref cda) cc A outer s H E) [] σ' H' s' → RelV v u → Q v H' → CE outer P w H s Q u s' :=
    fun {σ' H' v u} J rv q => ⟨v, H', J.os, J.bare, J.base, J.hok, rv, q⟩
  cases fl with
  | ret u =>
    obtain ⟨v, σ', H', J, rv, q⟩ := hs
    exact fin0 J rv q
  | next =>
    obtain ⟨σ', H', J, q⟩ := hs
    exact fin0 (v := V.non) (u := Value.none) J rfl q
  | brk =>
    obtain ⟨_, _, _, q⟩ := hs
    exact False.elim q
  | cont =>
    obtain ⟨_, _, _, q⟩ := hs
    exact False.elim q
end
end Bx

namespace Bx
open PySem PySem.Spec PyProof.Rows L2
section
theorem enumT_end {prog : Program} {w : World} {A : Around} {E : Value → Shared → Prop} {s : Shared} {e it t : Addr} {i : Nat} {k : Int} {items : Array Value} {old : Value} {Q : Option Value → Shared → Prop} (hh : A.handled = none)
    (en : IsEnum s.heap e it k old) (hit : s.heap.IsTupleIter it t i) (ht : s.heap.IsTuple t items) (hx : items[i]? = none) (q : ∀ h', Heap.ExtBut it s.heap h' → Q none { s with heap := h' }) : wpAny (model prog w) A (pyNext (.ref e)) Q E s := by
  have hT : s.TypeIs (.ref e) "enumerate" := ⟨_, en, rfl⟩; unfold pyNext
  refine wpAny_bind (wpAny_attempt (wpAny_callSpecial?_slot (name := Str.ofString "__next__") hT F.slot_enumerate_next (wpAny_call_entry F.slot_enumerate_next hT F.entry_enumerate_next ?_ (F.args_enumerate_next_1 _))))
  show wpAny _ _ (field (.ref e) 2 >>= _) _ _ _
  refine wpAny_bind (wpAny_field en rfl (x := .ref it) rfl (wpAny_bind (wpAny_nextOf_tuple_end hh hit ht hx fun h' x he' ⟨o, ho, hc⟩ => wpAny_bind (wpAny_isInstance (T := "StopIteration") (b := true) ⟨o, ho, hc⟩ isSubtype_stop (wpAny_pure (q _ he'))))))
set_option maxHeartbeats 1000000 in
theorem meets_enumT {v : Value} {o : Obj} {Hc : Heap → Prop} (B : Begins v o Hc) : Meets (Builtin.«enumerate.__new__» ⟨[.type "enumerate", v], []⟩) (fun _ R s => Hc s.heap ∧
      R (.ok (.ret (.ref (s.heap.push o).objs.size))) { s with heap := (s.heap.push o).push { cls := .type "enumerate", data := .fields #[.none, .bool false, .ref s.heap.objs.size, rawInt 0, .none, .none] } }) :=
  .of_wp fun prog w A R s hall => by
    obtain ⟨hp, gg, dd, tk, osx⟩ := s; obtain ⟨hc1, hc2⟩ := hall; have hsubE := sub_enumerate
    have itr : ∀ {A2 : Around} {E2 Q2 : Value → Shared → Prop}, Q2 (.ref hp.objs.size) ⟨hp.push o, gg, dd, tk, osx⟩ → wpAny (model prog w) A2 (pyIter v) Q2 E2 ⟨hp, gg, dd, tk, osx⟩ := fun q => B.iter prog w _ _ ⟨hp, gg, dd, tk, osx⟩ _ hc1 q
    wp_walk using itr
    refine wpAny_stack_any fun stk => wpAny_pure ?_; split
    · rename_i c _ _ _ _ _; cases (c == Value.type "enumerate")
      · wp_walk using itr
        exact ⟨_, rfl, hc2⟩
      · wp_walk using itr
        exact ⟨_, rfl, hc2⟩
    · wp_walk using itr
      exact ⟨_, rfl, hc2⟩
variable {prog : Program} {w : World} {A : Around} {E : Value → Shared → Prop} {s : Shared}
theorem enumT_begins {t : Addr} {items : Array Value} {Q : Value → Shared → Prop} (ht : s.heap.IsTuple t items)
    (k : ∀ h', IsEnum h' (s.heap.objs.size + 1) s.heap.objs.size 0 .none → h'.IsTupleIter s.heap.objs.size t 0 → h'.objs.size = s.heap.objs.size + 2 → (∀ b o, s.heap.get? b = some o → h'.get? b = some o) → Q (.ref (s.heap.objs.size + 1)) { s with heap := h' }) :
    wpAny (model prog w) A (call (.type "enumerate") [.ref t]) Q E s := by
  have B := begins_tuple t items
  refine callType_new F.called_enumerate (by decide) (F.typeCall_enumerate_1 _) (F.newCall_enumerate_1 _) (fun ob => F.args_object_init_2 ob _) F.entry_enumerate_new (meets_enumT B) ⟨ht, ?_⟩
  have size1 : (s.heap.push { cls := .type "tuple_iterator", data := .fields #[.ref t, .int 0 0] }).objs.size = s.heap.objs.size + 1 := Heap.size_push ..
  show _ ∧ _; rw [size1]
  have en : IsEnum ((s.heap.push { cls := .type "tuple_iterator", data := .fields #[.ref t, .int 0 0] }).push { cls := .type "enumerate", data := .fields #[.none, .bool false, .ref s.heap.objs.size, rawInt 0, .none, .none] }) (s.heap.objs.size + 1) s.heap.objs.size 0 .none := by
    have z := Heap.get?_push_size (s.heap.push { cls := .type "tuple_iterator", data := .fields #[.ref t, .int 0 0] }) (o := { cls := .type "enumerate", data := .fields #[.none, .bool false, .ref s.heap.objs.size, rawInt 0, .none, .none] }) rfl
    rw [size1] at z; exact z
  exact ⟨⟨_, en, rfl⟩, k _ en ⟨_, Heap.get?_push_of_some _ (Heap.get?_push_size _ rfl), rfl, rfl⟩ (by rw [Heap.size_push, size1]) fun b ob z => Heap.get?_push_of_some _ (Heap.get?_push_of_some _ z)⟩
end
/-- the tuple at a, each item in a new pair -/
def Iet (K : PySem.W.Frag) (a : Addr) : It :=
  ⟨fun i H => ∃ (ys : List V) (y : V), SqT K H a ys ∧ ys[i]? = some y, fun i H v H' => ∃ T y, v = .ref T ∧ H T = none ∧ H' = upd H T (.tup [.int (i : Nat), y]) ∧ ∀ ys, SqT K H a ys → ys[i]? = some y, fun i H => ∃ ys : List V, SqT K H a ys ∧ ys.length ≤ i⟩
theorem turn_enumT {P : Program} {w : World} {K : PySem.W.Frag} {elts : List Expr} {kk : Nat} {tpos : Pos} (a e it : Addr) (hat : a ≠ it) :
    Turn P w K (.Tuple elts kk tpos) (Iet K a) [e, it] e (fun i h => (∃ old, IsEnum h e it ((i : Nat) : Int) old) ∧ h.IsTupleIter it a i ∧ e ≠ it) where
  mem := by simp
  obj := fun i h st b hb => by
    obtain ⟨⟨old, q1⟩, ⟨o, q2, _, q3⟩, _⟩ := st
    rcases (show b = e ∨ b = it by simpa using hb) with z | z
    · rw [z]; exact ⟨_, q1, fun v q => nomatch q⟩
    · rw [z]; exact ⟨o, q2, fun v q => by rw [q3] at q; cases q⟩
  keep := fun i h h' st k => let ⟨⟨old, q1⟩, q2, q3⟩ := st; ⟨⟨old, k e (by simp) _ q1⟩, q2.at fun o q => k it (by simp) o q, q3⟩
  item := by
    intro X hP hw hK hc i pins s σ H E I hf st hg
    subst hP hw hK; obtain ⟨⟨old, q1⟩, q2, q3⟩ := st; obtain ⟨ys, y, hq, hy⟩ := hg
    obtain ⟨its, rv, p, hz⟩ := I.tuple hq; obtain ⟨u, hu, ru⟩ := rv.get hy
    have le : e < s.heap.objs.size := Heap.lt_size q1
    have li : it < s.heap.objs.size := by obtain ⟨_, q, _⟩ := q2; exact Heap.lt_size q
    have la : a < s.heap.objs.size := by obtain ⟨_, q, _⟩ := p; exact Heap.lt_size q
    have D := Draws.tuple (prog := X.prog) (w := X.w) (A := X.A.in1) (I.ok.hd hc) it a hat its.toArray
    have hi : i < its.toArray.size := by
      have q : its[i]? = some u := hu
      have := (List.getElem?_eq_some_iff.mp q).1; simpa using this
    have ea : e ≠ a := fun z => by
      obtain ⟨o, q, oc, _⟩ := p; rw [← z] at q; rw [show s.heap.get? e = _ from q1] at q; cases q; exact absurd (show Value.type "enumerate" = Value.type "tuple" from oc) (by decide)
    refine wpAny_pyNext_enum_itemD D q1 ⟨q2, p⟩ hi q3 (by simp [q3, ea]) fun x h' tk px ho st' hT hsz hk => ⟨_, rfl, wpAny_letOwnedTupleGo_enum (s := { s with heap := h', toks := tk + 1 }) ho fun h'' he' sb => ?_⟩
    have ex : x = u := by
      have q : its[i]? = some x := by simpa using px
      rw [hu] at q; exact (Option.some.inj q).symm
    subst ex
    have hT2 : h''.get? s.heap.objs.size = some { cls := .type "tuple", data := .seq #[.int i tk, x] } := (sb.2 _ (Nat.ne_of_gt le)).trans hT
    have newT : ObjOk X.prog X.w (upd H s.heap.objs.size (.tup [.int (i : Nat), y])) h'' s.heap.objs.size (.tup [.int (i : Nat), y]) := ⟨by show 2 ≤ sizeLine; decide, [.int i tk, x], .cons ⟨_, rfl⟩ (.cons ru .nil), ⟨_, hT2, rfl, _, rfl⟩⟩
    have I1 : Inv X pins σ (upd H s.heap.objs.size (.tup [.int (i : Nat), y])) { s with heap := h'', toks := tk + 1 } := I.turnedNew (ch := [e, it]) (fun b ob hb q => (sb.2 b (fun z => hb (by simp [z]))).trans (hk b ob (fun z => hb (by simp [z])) (fun z => hb (by simp [z])) q)) hf (Nat.le_refl _) newT
    refine ⟨.ref s.heap.objs.size, _, I1, rfl, ⟨_, y, rfl, I.hok.fresh (Nat.le_refl _), rfl, fun zs hz' => by rw [I.tuple_inj hz' hq]; exact hy⟩, ⟨⟨x, ?_⟩, st'.1.at fun o q => (sb.2 it (Ne.symm q3)).trans q, q3⟩, fun b hb => ?_⟩
    · rw [show ((i + 1 : Nat) : Int) = (i : Int) + 1 by omega]; exact he'
    · have lb : b < s.heap.objs.size := by
        rcases (show b = e ∨ b = it by simpa using hb) with z | z
        · rw [z]; exact le
        · rw [z]; exact li
      rw [upd_ne (Nat.ne_of_lt lb)]; exact (hf b hb).1
  done := by
    intro X hP hw hK hc i pins s σ H E I hf st hg
    subst hP hw hK; obtain ⟨⟨old, q1⟩, q2, q3⟩ := st; obtain ⟨ys, hq, hy⟩ := hg
    obtain ⟨its, rv, p, hz⟩ := I.tuple hq; obtain ⟨f0, f1, f2, f3, f4, f5⟩ := hf it (by simp); have hl := rv.length
    exact enumT_end (I.ok.hd hc) q1 q2 p (by simp; omega) fun h' eb => ⟨rfl, I.turned (t' := s.toks) (fun b o hb z => eb b o hb z) f0 f1 f3 f4 f5⟩
  self := fun A i s Q E st h => let ⟨⟨_, q1⟩, _⟩ := st; wpAny_pyIter_enum q1 h
def iEnumT (K : PySem.W.Frag) (ta : TA) : TI := fun σ H R => ta σ H fun vs H1 => ∃ a xs, vs = [.ref a] ∧ SqT K H1 a xs ∧ R (Iet K a) H1
theorem pi_enumT {X : Cx} {e : Expr} {ta : TA} {p pos tpos : Pos} {elts : List Expr} {kk : Nat} (hg : Gl X "enumerate") (hm : X.mg "enumerate" = none) (ha : PA X [e] ta) (hs : starEach [e] X.env = [(false, eval e X.env)] := by rfl) : PI X (.Tuple elts kk tpos) (.Call (.Name "enumerate" p) [e] [] pos) (iEnumT X.K ta) := by
  refine ⟨fun pins s σ H R I hw => Call_ (ld_blt I hg hm boot_enumerate (PyProof.Rows.callWith_type1 (thn (ha.run pos pins s σ H _ I hw) fun us s1 ⟨vs, H1, I1, r1, q1⟩ => ?_) hs rfl))⟩
  obtain ⟨a, xs, ex, hq, q⟩ := q1; subst ex
  cases r1 with
  | cons r rr =>
    cases rr; cases r
    obtain ⟨its, rv, p', hz⟩ := I1.tuple hq
    have la : a < s1.heap.objs.size := by obtain ⟨_, q, _⟩ := p'; exact Heap.lt_size q
    refine enumT_begins p' fun h' he hit hsz hk => wpAny_pyIter_enum he ?_
    refine ⟨s1.heap.objs.size + 1, [s1.heap.objs.size + 1, s1.heap.objs.size], _, _, H1, rfl, I1.kept (t' := s1.toks) hk, turn_enumT a (s1.heap.objs.size + 1) s1.heap.objs.size (Nat.ne_of_lt la), ⟨⟨.none, he⟩, hit, Nat.succ_ne_self _⟩, fun b hb => ?_, q⟩
    have lb : s1.heap.objs.size ≤ b := by
      rcases (show b = s1.heap.objs.size + 1 ∨ b = s1.heap.objs.size by simpa using hb) with z | z
      · rw [z]; exact Nat.le_add_right _ _
      · rw [z]; exact Nat.le_refl _
    exact I1.fpOk lb (I1.hok.fresh lb)
theorem walk_enumT {K : PySem.W.Frag} {a : Addr} {xs : List V} : Walk (Iet K a) xs.length (fun H => SqT K H a xs) (YPair (fun i => some (.int (i : Nat))) (fun i => xs[i]?)) := by
  refine ⟨fun i _ hi q => ⟨xs, xs[i], q, by simp [hi]⟩, fun _ q => ⟨xs, q, Nat.le_refl _⟩, fun i H v H' _ q y => ?_⟩
  obtain ⟨T, x, h1, h2, h3, h4⟩ := y; exact ⟨T, .int (i : Nat), x, h1, h2, h3, rfl, h4 xs q⟩
theorem g_enumT {K : PySem.W.Frag} {σ : L2.St} {H : Hp} {R : It → Hp → Prop} {t : TA} (h : t σ H fun vs H1 => ∃ a xs, vs = [.ref a] ∧ SqT K H1 a xs ∧ R (Iet K a) H1) : iEnumT K t σ H R := h
end Bx

namespace Bx
open PySem PySem.Spec PyProof.Rows L2
def Izm (K : PySem.W.Frag) (la tb : Addr) : It :=
  ⟨fun n H => ∃ (vs us : List V) (v u : V), SqL K H la vs ∧ SqT K H tb us ∧ vs[n]? = some v ∧ us[n]? = some u,
    fun n H r H2 => ∃ q v u, r = .ref q ∧ H q = none ∧ H2 = upd H q (.tup [v, u]) ∧ (∀ vs, SqL K H la vs → vs[n]? = some v) ∧ ∀ us, SqT K H tb us → us[n]? = some u,
    fun n H => ∃ vs us : List V, SqL K H la vs ∧ SqT K H tb us ∧ n ≤ vs.length ∧ n ≤ us.length ∧ (n = vs.length ∨ n = us.length)⟩
/-- the five new cells of such a zip, and what they are -/
structure ZSt (la tb e ti to_ j1 j2 : Addr) (n : Nat) (h : Heap) : Prop where
  e1 : IsZip h e ti to_ .none
  e2 : IsTupOf2 h ti (.ref j1) (.ref j2)
  e3 : ∃ v u, IsTupOf2 h to_ v u
  e4 : h.IsListIter j1 la n
  e5 : h.IsTupleIter j2 tb n
theorem ZSt.lt {la tb e ti to_ j1 j2 : Addr} {n : Nat} {h : Heap} (x : ZSt la tb e ti to_ j1 j2 n h) : ∀ b ∈ [e, ti, to_, j1, j2], b < h.objs.size ∧ ∃ o, h.get? b = some o ∧ ∀ v, o.data ≠ .cell v := by
  obtain ⟨e1, e2, ⟨v, u, e3⟩, ⟨o1, p1, _, d1⟩, ⟨o2, p2, _, d2⟩⟩ := x
  intro b hb
  rcases (show b = e ∨ b = ti ∨ b = to_ ∨ b = j1 ∨ b = j2 by simpa using hb) with rfl | rfl | rfl | rfl | rfl
  · exact ⟨Heap.lt_size e1, _, e1, fun v z => nomatch z⟩
  · exact ⟨Heap.lt_size e2, _, e2, fun v z => nomatch z⟩
  · exact ⟨Heap.lt_size e3, _, e3, fun v z => nomatch z⟩
  · exact ⟨Heap.lt_size p1, _, p1, fun v z => by rw [d1] at z; cases z⟩
  · exact ⟨Heap.lt_size p2, _, p2, fun v z => by rw [d2] at z; cases z⟩
theorem turn_zipM {P : Program} {w : World} {K : PySem.W.Frag} {elts : List Expr} {kk : Nat} {tpos : Pos} {la tb e ti to_ j1 j2 : Addr} (D : ZipSep2 e ti to_ j1 j2 [j1, la] [j2, tb]) :
    Turn P w K (.Tuple elts kk tpos) (Izm K la tb) [e, ti, to_, j1, j2] e (ZSt la tb e ti to_ j1 j2) where
  mem := by simp
  obj := fun n h st b hb => (st.lt b hb).2
  keep := fun n h h2 st k => by
    obtain ⟨e1, e2, ⟨v, u, e3⟩, e4, e5⟩ := st
    exact ⟨k e (by simp) _ e1, k ti (by simp) _ e2, ⟨v, u, k to_ (by simp) _ e3⟩, e4.at fun o z => k j1 (by simp) o z, e5.at fun o z => k j2 (by simp) o z⟩
  item := by
    intro X hP hw hK hc n pins s σ H E I hf st hg
    subst hP hw hK
    have hlt := st.lt
    obtain ⟨e1, e2, ⟨v0, u0, e3⟩, e4, e5⟩ := st
    obtain ⟨vs, us, v, u, q1, q2, hv, hu⟩ := hg
    obtain ⟨as, ra, pa, _⟩ := I.list q1
    obtain ⟨bs, rb, pb, _⟩ := I.tuple q2
    obtain ⟨x, hx, rx⟩ := ra.get hv
    obtain ⟨y, hy, ry⟩ := rb.get hu
    have nla : la ≠ j1 := fun z => by
      obtain ⟨o, p, c, _⟩ := pa.isList
      obtain ⟨o2, p2, c2, _⟩ := e4
      rw [z, p2] at p
      cases p
      rw [c2] at c
      exact absurd (show Value.type "list_iterator" = Value.type "list" from c) (by decide)
    have ntb : tb ≠ j2 := fun z => by
      obtain ⟨o, p, c, _⟩ := pb
      obtain ⟨o2, p2, c2, _⟩ := e5
      rw [z, p2] at p
      cases p
      rw [c2] at c
      exact absurd (show Value.type "tuple_iterator" = Value.type "tuple" from c) (by decide)
    have D1 := Draws.list (prog := X.prog) (w := X.w) (A := X.A.in1) (I.ok.hd hc) j1 la nla as.toArray
    have D2 := Draws.tuple (prog := X.prog) (w := X.w) (A := X.A.in1) (I.ok.hd hc) j2 tb ntb bs.toArray
    have hxa : as.toArray[n]? = some x := by simpa using hx
    have hyb : bs.toArray[n]? = some y := by simpa using hy
    have n1 : n < as.toArray.size := by
      rcases Nat.lt_or_ge n as.toArray.size with z | z
      · exact z
      · rw [Array.getElem?_eq_none z] at hxa
        cases hxa
    have n2 : n < bs.toArray.size := by
      rcases Nat.lt_or_ge n bs.toArray.size with z | z
      · exact z
      · rw [Array.getElem?_eq_none z] at hyb
        cases hyb
    refine wpAny_pyNext_zipD2_item D D1 D2 e1 e2 e3 ⟨e4, pa.isList⟩ ⟨e5, pb⟩ n1 n2 fun x' y' h1 tk hx' hy' f1 f2 f3 f4 f5 fsz fk => ?_
    have ex : x' = x := Option.some.inj ((show as.toArray[n]? = some x' from hx').symm.trans hxa)
    have ey : y' = y := Option.some.inj ((show bs.toArray[n]? = some y' from hy').symm.trans hyb)
    subst ex
    subst ey
    have le := (hlt e (by simp)).1
    refine ⟨_, rfl, wpAny_letOwnedTupleGo_zip (s := { s with heap := h1, toks := tk }) f1 fun h2 g1 sb => ?_⟩
    have gT : h2.get? s.heap.objs.size = some { cls := .type "tuple", data := .seq #[x', y'] } := (sb.2 _ (Nat.ne_of_gt le)).trans f5
    have kp : ∀ b o, b ∉ [e, ti, to_, j1, j2] → s.heap.get? b = some o → h2.get? b = some o := fun b o hb z => by
      have m1 : b ≠ e := fun q => hb (by simp [q])
      have m2 : b ≠ to_ := fun q => hb (by simp [q])
      have m3 : b ≠ j1 := fun q => hb (by simp [q])
      have m4 : b ≠ j2 := fun q => hb (by simp [q])
      exact (sb.2 b m1).trans (fk b o m1 m2 m3 m4 z)
    have I2 : Inv X pins σ (upd H s.heap.objs.size (.tup [v, u])) { s with heap := h2, toks := tk } :=
      I.turnedNew (ch := [e, ti, to_, j1, j2]) kp hf (Nat.le_refl _) ⟨by show 2 ≤ sizeLine; decide, [x', y'], .cons rx (.cons ry .nil), ⟨_, gT, rfl, _, rfl⟩⟩
    refine ⟨.ref s.heap.objs.size, _, I2, rfl, ⟨_, v, u, rfl, I.hok.fresh (Nat.le_refl _), rfl, fun l hl => ?_, fun l hl => ?_⟩, ⟨g1, ?_, ⟨x', y', ?_⟩, ?_, ?_⟩, fun b hb => ?_⟩
    · rw [I.list_inj hl q1]
      exact hv
    · rw [I.tuple_inj hl q2]
      exact hu
    · exact (sb.2 _ D.TIz).trans (fk _ _ D.TIz D.TITO D.TIi1 D.TIi2 e2)
    · exact (sb.2 _ D.TOz).trans f2
    · exact f3.1.at fun o z => (sb.2 _ D.zi1.symm).trans z
    · exact f4.1.at fun o z => (sb.2 _ D.zi2.symm).trans z
    · rw [upd_ne (Nat.ne_of_lt (hlt b hb).1)]
      exact (hf b hb).1
  done := by
    intro X hP hw hK hc n pins s σ H E I hf st hg
    subst hP hw hK
    obtain ⟨e1, e2, ⟨v0, u0, e3⟩, e4, e5⟩ := st
    obtain ⟨vs, us, q1, q2, m1, m2, m3⟩ := hg
    obtain ⟨as, ra, pa, _⟩ := I.list q1
    obtain ⟨bs, rb, pb, _⟩ := I.tuple q2
    have l1 := ra.length
    have l2 := rb.length
    have nla : la ≠ j1 := fun z => by
      obtain ⟨o, p, c, _⟩ := pa.isList
      obtain ⟨o2, p2, c2, _⟩ := e4
      rw [z, p2] at p
      cases p
      rw [c2] at c
      exact absurd (show Value.type "list_iterator" = Value.type "list" from c) (by decide)
    have ntb : tb ≠ j2 := fun z => by
      obtain ⟨o, p, c, _⟩ := pb
      obtain ⟨o2, p2, c2, _⟩ := e5
      rw [z, p2] at p
      cases p
      rw [c2] at c
      exact absurd (show Value.type "tuple_iterator" = Value.type "tuple" from c) (by decide)
    have D1 := Draws.list (prog := X.prog) (w := X.w) (A := X.A.in1) (I.ok.hd hc) j1 la nla as.toArray
    have D2 := Draws.tuple (prog := X.prog) (w := X.w) (A := X.A.in1) (I.ok.hd hc) j2 tb ntb bs.toArray
    have s1 : as.toArray.size = as.length := by simp
    have s2 : bs.toArray.size = bs.length := by simp
    refine wpAny_pyNext_zipD2_end D D1 D2 e1 e2 e3 ⟨e4, pa.isList⟩ ⟨e5, pb⟩ (by omega) (by omega) (by omega) fun h1 tk hk => ⟨rfl, I.turnedL (ch := [e, ti, to_, j1, j2]) (fun b o hb z => ?_) hf⟩
    exact hk b o (fun q => hb (by simp [q])) (fun q => hb (by simp [q])) (fun q => hb (by simp [q])) (fun q => hb (by simp [q])) z
  self := fun A n s Q E st h => wpAny_pyIter_zip st.e1 h
def iZipM (K : PySem.W.Frag) (ta : TA) : TI := fun σ H R => ta σ H fun rs H1 => ∃ la tb vs us, rs = [.ref la, .ref tb] ∧ SqL K H1 la vs ∧ SqT K H1 tb us ∧ R (Izm K la tb) H1
theorem pi_zipM {X : Cx} {e e2 : Expr} {ta : TA} {p pos tpos : Pos} {elts : List Expr} {kk : Nat} (hg : Gl X "zip") (hm : X.mg "zip" = none) (ha : PA X [e, e2] ta)
    (hs : starEach [e, e2] X.env = (false, eval e X.env) :: starEach [e2] X.env := by rfl) (hpl : (backTo pos (starEach [e2] X.env)).any (·.1) = false := by rfl) : PI X (.Tuple elts kk tpos) (.Call (.Name "zip" p) [e, e2] [] pos) (iZipM X.K ta) := by
  refine ⟨fun pins s σ H R I hw => Call_ (ld_blt I hg hm PyProof.Rows.boot_zip (PyProof.Rows.callWith_type1 (thn (ha.run pos pins s σ H _ I hw) fun ws s1 ⟨rs, H1, I1, r1, q1⟩ => ?_) hs hpl))⟩
  obtain ⟨la, tb, vs, us, ex, z1, z2, q⟩ := q1
  subst ex
  cases r1 with
  | cons c1 c2 =>
    cases c1
    cases c2 with
    | cons c3 c4 =>
      cases c3
      cases c4
      obtain ⟨as, ra, pa, _⟩ := I1.list z1
      obtain ⟨bs, rb, pb, _⟩ := I1.tuple z2
      have l1 : la < s1.heap.objs.size := pa.lt
      have l2 : tb < s1.heap.objs.size := by obtain ⟨_, z, _⟩ := pb; exact Heap.lt_size z
      refine zip_begins2 (begins_list la as.toArray) (begins_tuple tb bs.toArray) pa.isList pb fun h2 y1 y2 y3 y4 y5 ysz yk => wpAny_pyIter_zip y1 ?_
      have D : ZipSep2 (s1.heap.objs.size + 4) (s1.heap.objs.size + 2) (s1.heap.objs.size + 3) s1.heap.objs.size (s1.heap.objs.size + 1) [s1.heap.objs.size, la] [s1.heap.objs.size + 1, tb] :=
        zip_sep2 (fun b hb => by rw [List.mem_singleton.mp hb]; exact l1) (fun b hb => by rw [List.mem_singleton.mp hb]; exact l2)
      refine ⟨_, _, _, _, H1, rfl, I1.kept (t' := s1.toks) yk, turn_zipM D, ⟨y1, y2, ⟨_, _, y3⟩, ⟨_, y4, rfl, rfl⟩, ⟨_, y5, rfl, rfl⟩⟩, fun b hb => ?_, q⟩
      have ge : s1.heap.objs.size ≤ b := by
        rcases (show b = s1.heap.objs.size + 4 ∨ b = s1.heap.objs.size + 2 ∨ b = s1.heap.objs.size + 3 ∨ b = s1.heap.objs.size ∨ b = s1.heap.objs.size + 1 by simpa using hb) with z | z | z | z | z <;> (rw [z]; first | exact Nat.le_refl _ | exact Nat.le_add_right _ _)
      exact I1.fpOk ge (I1.hok.fresh ge)
theorem walk_zipM {K : PySem.W.Frag} {la tb : Addr} {vs us : List V} {n : Nat} (h1 : vs.length = n) (h2 : us.length = n) : Walk (Izm K la tb) n (fun H => SqL K H la vs ∧ SqT K H tb us) (YPair (fun i => vs[i]?) (fun i => us[i]?)) := by
  refine ⟨fun i H hi q => ⟨vs, us, vs[i], us[i], q.1, q.2, by simp [h1, hi], by simp [h2, hi]⟩, fun H q => ⟨vs, us, q.1, q.2, by omega, by omega, .inl h1.symm⟩, fun i H r H2 _ q y => ?_⟩
  obtain ⟨t, v, u, y1, y2, y3, y4, y5⟩ := y
  exact ⟨t, v, u, y1, y2, y3, y4 vs q.1, y5 us q.2⟩
theorem g_zipM {K : PySem.W.Frag} {σ : L2.St} {H : Hp} {R : It → Hp → Prop} {t : TA} (h : t σ H fun rs H1 => ∃ la tb vs us, rs = [.ref la, .ref tb] ∧ SqL K H1 la vs ∧ SqT K H1 tb us ∧ R (Izm K la tb) H1) : iZipM K t σ H R := h
end Bx

namespace Bx
open PySem PySem.Spec PyProof.Rows L2
theorem tuple_mul1 (l : Addr) (items : Array Value) (n : Nat) (dd : Option Addr) (sl : Array (Option Value)) (x : Int) (u : Tok) (c0 : (decide (x < -(2 ^ 63)) || decide (x ≥ 2 ^ 63)) = false) (c1 : (items.isEmpty || x == 1) = true) :
    Meets (Builtin.«tuple.__mul__» ⟨[.ref l, .int x u], []⟩) (fun _ R s => s.heap.get? l = some { cls := .type "tuple", dict := dd, data := .seq items n, slots := sl } ∧ R (.ok (.ret (Value.ref l))) s) :=
  .of_wp fun prog w A R s h => by
    obtain ⟨hp, g, d, tk, os⟩ := s
    obtain ⟨hl, h⟩ := h
    have f1 := AutoSeq1.idx_int
    wp_walk using wpAny_loadPart' hl
    repeat (first
      | (refine wpAny_ite_false (decide_eq_false (by rw [c0]; exact Bool.false_ne_true)) ?_; wp_walk using wpAny_loadPart' hl)
      | (refine wpAny_ite_true (decide_eq_true c1) ?_; wp_walk using wpAny_loadPart' hl))
    exact ⟨_, rfl, h⟩
theorem tuple_mul0 (l : Addr) (items : Array Value) (n : Nat) (dd : Option Addr) (sl : Array (Option Value)) (x : Int) (u : Tok) (c0 : (decide (x < -(2 ^ 63)) || decide (x ≥ 2 ^ 63)) = false) (c1 : (items.isEmpty || x == 1) = false) (c2 : (decide (x ≤ 0) || items.isEmpty) = true) :
    Meets (Builtin.«tuple.__mul__» ⟨[.ref l, .int x u], []⟩) (fun _ R s => s.heap.get? l = some { cls := .type "tuple", dict := dd, data := .seq items n, slots := sl } ∧
      R (.ok (.ret (Value.ref s.heap.objs.size))) { s with heap := s.heap.push { cls := Value.type "tuple", data := Data.seq #[] }, toks := s.toks }) :=
  .of_wp fun prog w A R s h => by
    obtain ⟨hp, g, d, tk, os⟩ := s
    obtain ⟨hl, h⟩ := h
    have f1 := AutoSeq1.idx_int
    wp_walk using wpAny_loadPart' hl
    repeat (first
      | (refine wpAny_ite_false (decide_eq_false (by rw [c0]; exact Bool.false_ne_true)) ?_; wp_walk using wpAny_loadPart' hl)
      | (refine wpAny_ite_false (decide_eq_false (by rw [c1]; exact Bool.false_ne_true)) ?_; wp_walk using wpAny_loadPart' hl)
      | (refine wpAny_ite_true (decide_eq_true c2) ?_; wp_walk using wpAny_loadPart' hl))
    exact ⟨_, rfl, h⟩
def rRepN (K : PySem.W.Frag) : R2 := fun x y H Q => ∃ l xs, ∃ k : Nat, x = .ref l ∧ y = .int (k : Int) ∧ H l = some (.tup xs) ∧ xs ≠ [] ∧ k ≤ 1000 ∧ xs.length ≤ 1000 ∧ ∀ p H', Same H H' → H' p = some (.tup (List.replicate k xs).flatten) → Q (.ref p) H'
theorem op_repN {X : Cx} : OpR X (binaryOp .Mult) (rRepN X.K) := by
  intro pins s σ H x y v u Q I rx ry h
  obtain ⟨l, xs, k, rfl, rfl, hT, hne, h1, hz, q⟩ := h
  match k, h1, ry, q with
  | 0, h1, ry, q =>
    cases rx
    obtain ⟨t, rfl⟩ := ry
    obtain ⟨its, r, ⟨⟨cls, dd, data, sl⟩, ho, hc, n, hd⟩, hs⟩ := I.tuple (SqT.of hT)
    simp only at hc hd
    subst hc hd
    have hle : its.length = xs.length := r.length.symm
    have hi : its.toArray.isEmpty = false := by
      cases its with
      | nil => exact absurd (List.eq_nil_of_length_eq_zero hle.symm) hne
      | cons a b => rfl
    refine wpAny_binaryOp_repeat_ref (T := "tuple") (U := "int") (by decide) ⟨_, ho, rfl⟩ (fun s' => typeIs_int s' _ t) noFill_tuple_mul F.fills_int_mul F.slot_int_rmul repeat_tuple F.slot_int_index.lookup
      (call_meets F.slot_int_rmul (typeIs_int s _ t) F.entry_int_rmul (F.args_int_rmul_2 _ _) (int_rmul_tuple _ t l its.toArray n dd sl)
        ⟨ho, rfl, ⟨_, ho, rfl⟩, call_meets F.slot_tuple_mul ⟨_, ho, rfl⟩ F.entry_tuple_mul (F.args_tuple_mul_2 _ _) (tuple_mul0 l its.toArray n dd sl _ t (by decide) (by rw [hi]; decide) (by rw [hi]; decide)) ⟨ho, ?_⟩⟩)
    have hf := I.hok.fresh (Nat.le_refl s.heap.objs.size)
    refine ⟨.ref s.heap.objs.size, upd H s.heap.objs.size (.tup []), I.laid (t' := s.toks) (o := .tup []) (fun b ob q => Heap.get?_push_of_some _ q) (Nat.le_refl _) ?_, rfl, q _ _ (same_new hf _) upd_same⟩
    exact ⟨Nat.zero_le _, _, .nil, IsTup.new _ _⟩
  | 1, h1, ry, q =>
    cases rx
    obtain ⟨t, rfl⟩ := ry
    obtain ⟨its, r, ⟨⟨cls, dd, data, sl⟩, ho, hc, n, hd⟩, hs⟩ := I.tuple (SqT.of hT)
    simp only at hc hd
    subst hc hd
    refine wpAny_binaryOp_repeat_ref (T := "tuple") (U := "int") (by decide) ⟨_, ho, rfl⟩ (fun s' => typeIs_int s' _ t) noFill_tuple_mul F.fills_int_mul F.slot_int_rmul repeat_tuple F.slot_int_index.lookup
      (call_meets F.slot_int_rmul (typeIs_int s _ t) F.entry_int_rmul (F.args_int_rmul_2 _ _) (int_rmul_tuple _ t l its.toArray n dd sl)
        ⟨ho, rfl, ⟨_, ho, rfl⟩, call_meets F.slot_tuple_mul ⟨_, ho, rfl⟩ F.entry_tuple_mul (F.args_tuple_mul_2 _ _) (tuple_mul1 l its.toArray n dd sl _ t (by decide) (by rw [Bool.or_eq_true]; exact .inr (by decide))) ⟨ho, ?_⟩⟩)
    refine ⟨.ref l, H, I, rfl, q l H (Same.refl _) ?_⟩
    rw [hT]
    simp
  | k + 2, h1, ry, q =>
    refine op_repT pins s σ H _ _ v u Q I rx ry ⟨l, ((k + 2 : Nat) : Int), xs, rfl, rfl, SqT.of hT, hne, by omega, by omega, hz, fun p hp => q p _ (same_new hp _) ?_⟩
    rw [upd_same, Int.toNat_natCast]
end Bx

namespace Bx
open PySem PySem.Spec PyProof.Rows L2 C8
section
variable {X : Cx}
def gSlc (to : TE) (tl th : TO) : TG := fun v σ H Q => to σ H fun o H1 => tl σ H1 fun l H2 => th σ H2 fun u H3 => ∃ (a : Addr) (xs : List V) (b : Addr) (ys : List V) (i j : Nat), o = .ref a ∧ v = .ref b ∧ a ≠ b ∧ l = some (i : Int) ∧ u = some (j : Int) ∧ H3 a = some (.lst xs) ∧ H3 b = some (.lst ys) ∧ i ≤ j ∧ j ≤ xs.length ∧ xs.length + ys.length ≤ sizeLine ∧ Q σ (upd H3 a (.lst (xs.take i ++ ys ++ xs.drop j)))
theorem pg_slc {o : Expr} {lo hi : Option Expr} {to : TE} {tl th : TO} {p2 pos : Pos} (ho : PE X o to) (hl : PO X lo tl) (hu : PO X hi th)
    (ha : ∀ v, assign (.Subscript o (.Slice lo hi none p2) pos) X.env v = (do
      let ov ← holding [v] (eval o X.env)
      let iv ← holding [v, ov] (eval (.Slice lo hi none p2) X.env)
      standAt pos
      holding [v, ov, iv] (setItem ov iv v)
      release [iv, v, ov] []) := by intro _; rfl) : PG X (.Subscript o (.Slice lo hi none p2) pos) (gSlc to tl th) := by
  refine ⟨fun pins s σ H v u Q I r h => ?_⟩
  rw [ha]
  refine wpAny_bind (wpAny_holding (thn (ho.run pins s σ H _ I h) fun ov s1 ⟨x, H1, I1, r1, q1⟩ => ?_))
  refine wpAny_bind (wpAny_holding ?_)
  refine wpAny_Slice (thn (hl.run pins s1 σ H1 _ I1 q1) fun vl s2 ⟨l, H2, I2, pl, q2⟩ => thn (hu.run pins s2 σ H2 _ I2 q2) fun vu s3 ⟨w, H3, I3, pu, q3⟩ => ?_)
  rw [evalPart_none]
  refine wpAny_pure ?_
  obtain ⟨a, xs, b, ys, i, j, rfl, rfl, hne, rfl, rfl, e1, e2, hij, hj, hz, q⟩ := q3
  have I4 : Inv X pins σ H3 { s3 with heap := s3.heap.push { cls := .type "slice", data := .fields #[vl, vu, .none] } } := I3.kept (t' := s3.toks) fun b ob q => Heap.get?_push_of_some _ q
  cases r1
  cases r
  cases pl
  cases pu
  refine wpAny_bind (wpAny_standAt (wpAny_bind (wpAny_holding ?_)))
  refine set_slice I4 e1 e2 hne (Heap.IsSliceOf.new ..) ⟨_, rfl⟩ ⟨_, rfl⟩ (by omega) (by omega) (by omega) hz fun s' I' => ?_
  exact wpAny_release ⟨σ, _, I', by rw [Int.toNat_natCast, Int.toNat_natCast]; exact q⟩
theorem g_slc {to : TE} {tl th : TO} {v : V} {σ : L2.St} {H : Hp} {Q : L2.St → Hp → Prop} (h : to σ H fun o H1 => tl σ H1 fun l H2 => th σ H2 fun u H3 => ∃ (a : Addr) (xs : List V) (b : Addr) (ys : List V) (i j : Nat), o = .ref a ∧ v = .ref b ∧ a ≠ b ∧ l = some (i : Int) ∧ u = some (j : Int) ∧ H3 a = some (.lst xs) ∧ H3 b = some (.lst ys) ∧ i ≤ j ∧ j ≤ xs.length ∧ xs.length + ys.length ≤ sizeLine ∧ Q σ (upd H3 a (.lst (xs.take i ++ ys ++ xs.drop j)))) : gSlc to tl th v σ H Q := h
end
end Bx

namespace Bx
open PySem PySem.Spec PyProof.Rows L2 C8 LamX NdefX
/-- the lambda as a nested function -/
abbrev lamF (X : Cx) (params : Arguments) (scope : Scope) (c' : Addr) : NF := ⟨"<lambda>", X.env.qual ++ "<lambda>", params, [], scope, cloFrom X.env.cells scope.names [], c'⟩
/-- the context of its body -/
abbrev lamC (X : Cx) (NL : List Str) (params : Arguments) (scope : Scope) (f c' : Addr) (A : Around) (outer : List Env) (s : Shared) (H : Hp) (E : XK) : Cx :=
  ncx (L2.CX X.prog X.w) X.prog X.w X.K X.mg X.base NL (lamF X params scope c') f A outer s H E
/-- captured cells outlive what runs between -/
theorem cells_on {cl : List (Str × Addr)} {fr : List Str} {ws : List (Option V)} {h h1 : Heap} {H H1 : Hp} {fs : List Addr} (C : CellsAt cl fr ws h H) (un : Un fs [] H H1 h h1) : CellsAt cl fr ws h1 H1 where
  len := C.len
  inj := C.inj
  all := fun y a e => by
    obtain ⟨n, v, o, ho, d⟩ := C.all y a e
    exact ⟨un.free a o ho n List.not_mem_nil, v, (un.any ho n List.not_mem_nil).elim fun sl z => ⟨_, z, d⟩⟩
  has := fun i y e => by
    obtain ⟨a, ha, hv⟩ := C.has i y e
    refine ⟨a, ha, fun v ev => (hv v ev).imp fun u z => ⟨z.1, ?_⟩⟩
    obtain ⟨o, ho, d⟩ := z.2
    exact (un.any ho (C.all y a ha).1 List.not_mem_nil).elim fun sl z => ⟨_, z, d⟩
section
variable {X : Cx} {pins : List (Addr × Obj)} {σ : L2.St} {H : Hp} {s : Shared}
/-- reading a local name leaves the state as it is -/
theorem var_at {i : Nat} {x : Str} {v : V} {pos : Pos} {Er : Value → Shared → Prop} {Q : Value → Shared → Prop} (I : Inv X pins σ H s) (hi : X.N[i]? = some x) (hl : X.env.scope.names.lookup x = some .local) (e : σ[i]? = some (some v)) (dbg : (x == ("__debug__" : Str)) = false) (q : ∀ u, RelV v u → Q u s) : wpAny (model X.prog X.w) X.A (eval (.Name x pos) X.env) Q Er s :=
  match I.loc with
  | ⟨_, hn, look⟩ => match look i x v hi e (.inl hl) with
    | ⟨u, r, .inl ⟨k, m⟩⟩ => wpAny_Name (wpAny_loadName_local I.ok.kind k hn m (q u r)) dbg
    | ⟨_, _, .inr ⟨k, _⟩⟩ => absurd (hl.symm.trans (show X.env.scope.names.lookup x = _ from k.elim id fun z => absurd (hl.symm.trans z) (by simp))) (by simp)
/-- what the call of a made lambda with one value gives -/
theorem lam_one {NL fr : List Str} {a : Str} {params : Arguments} {body : Expr} {scope : Scope} {k : Nat} {f c' : Addr} {pm ctv : Value} {o : Obj} {ws : List (Option V)} {A : Around} {outer : List Env} {s1 : Shared} {HZ : Hp} {u : Value} {v : V} {tb : TE} {E : XK} {Q : VK}
    (S : NScope NL [a] fr scope) (C : CellsAt (cloFrom X.env.cells scope.names []) fr ws s1.heap HZ) (ho : s1.heap.get? f = some o) (od : o = PySem.W.kla_obj "<lambda>" (X.env.qual ++ "<lambda>") params body scope (cloFrom X.env.cells scope.names []) pm c' ctv) (hc : HZ c' = some (CodeO c' (X.env.qual ++ "<lambda>")))
    (hb : bindArgs (PySem.W.kla_fn "<lambda>" (X.env.qual ++ "<lambda>") params body scope (cloFrom X.env.cells scope.names []) pm (.ref c') ctv) ⟨[u], []⟩ = pure [(a, u)]) (e0 : Env0 X.prog X.w X.K X.mg X.base A outer s1 HZ) (lim : s1.heap.NoLimit) (hr : Room (k + 1) A) (ru : RelV v u)
    (body_ok : Room k (A.deeper (envF (lamF X params scope c') f s1.heap.objs.size)) → PE (lamC X NL params scope f c' A outer s1 HZ E) body tb) (hq : tb (startF NL [v] ws) HZ Q) :
    codeAny (model X.prog X.w) A (.call (.ref f) ⟨[u], []⟩) (CR (L2.CX X.prog X.w) outer X.prog X.w HZ s1 Q E) s1 := by
  subst od
  refine PySem.W.kla_callFunE hr.depth ho rfl S.co S.gen rfl (codeO_at e0.hok hc) ?_
  rw [hb]
  refine wpAny_pure (wpAny_newFunctionEnv S.nocell (fun y hy => List.mem_singleton.mp hy ▸ S.par a List.mem_cons_self) (fun h1 hns hsb => ⟨lim.fresh _ hsb, ?_⟩) S.kind)
  have J := inv_startN (CX := L2.CX X.prog X.w) (P := X.prog) (w := X.w) (F := lamF X params scope c') (f := f) (E := E) (tk := s1.toks + ([(a, u)] : List (Str × Value)).length) S hr.hd e0 (vs := [v]) rfl (.cons ru .nil) C hns fun b o e => hsb.extBut b o (Nat.ne_of_lt (Heap.lt_size e)) (Heap.get?_push_of_some _ e)
  refine PySem.W.kla_codeExpr (wpAny_mono ((body_ok (hr.deeper _)).run [] _ _ HZ Q J hq) (fun x s' z => ?_) fun _ _ z => z)
  exact z.elim fun y z => z.elim fun H' z => ⟨y, H', z.1.os, z.1.bare, z.1.base, z.1.hok, z.2⟩
/-- the def that calls what it got with its other argument, told by what it makes (TT) of the lambda's reading -/
def Takes1 (X : Cx) (Ng : List Str) (x : Str) (sg : Scope) (g : Addr) (cdg : Value) (bg : List Stmt) (fn th q : Str) (TT : (V → XK → Hp → VK → Prop) → V → Hp → VK → Prop) : Prop :=
  ∀ (f c' : Addr) (s : Shared) (H : Hp) (arg : V) (Q : VK) (tl : V → XK → Hp → VK → Prop), H c' = some (CodeO c' q) → TT tl arg H Q →
    (∀ (W : WX) (pn : List (Addr × Obj)) (xe : Value → Shared → Prop) (E : XK) (p1 p2 p3 : Pos), Takes ((cxOf C8.CX0 X.prog X.w X.K X.mg X.base Ng x sg g cdg X.A X.stack s H C8.E0).tr pn xe) W → (∀ cls d σ' H', E cls d H' → W cls d σ' H') →
      PE ((cxOf C8.CX0 X.prog X.w X.K X.mg X.base Ng x sg g cdg X.A X.stack s H C8.E0).tr pn xe) (.Call (.Name fn p1) [.Name th p3] [] p2) (fun σZ HZ Q => σZ[0]? = some (some (.ref f)) ∧ HZ c' = some (CodeO c' q) ∧ ∃ v, σZ[1]? = some (some v) ∧ tl v E HZ Q)) →
    ∃ t, PSs (cxOf C8.CX0 X.prog X.w X.K X.mg X.base Ng x sg g cdg X.A X.stack s H C8.E0).nox bg t ∧ t { nx := fun _ H' => Q .non H', rt := Q } (L2.start Ng [.ref f, arg]) H
def tLam1 (TL : List (Addr × Str)) (TT : (V → XK → Hp → VK → Prop) → V → Hp → VK → Prop) (NL : List Str) (js : List Nat) (t : XK → TE) (j : Nat) : TE := fun σ H Q => Tabs TL H ∧ ∃ v, σ[j]? = some (some v) ∧ ∀ H1, ExtN H H1 → Tabs TL H1 → TT (fun w E H' Q' => t E (startF NL [w] (js.map (slotAt σ))) H' Q') v H1 Q
theorem pe_lam1 {TL : List (Addr × Str)} {TT : (V → XK → Hp → VK → Prop) → V → Hp → VK → Prop} {x fn th a y : Str} {g c PT : Addr} {j k : Nat} {pg params : Arguments} {bg : List Stmt} {sg scope : Scope} {dV kV doc pm cdv ct oc : Value} {an od : Option Addr} {osl : Array (Option Value)} {Ng NL fr : List Str} {js : List Nat} {body : Expr} {t : XK → TE} {p lpos py pos : Pos}
    (hg : Gl X x) (hm : X.mg x = some (.ref g)) (hk : PySem.W.keepIn X.K (.ref g) = true) (lk : X.K.lookup g = some ⟨oc, od, .func (PySem.W.fnOf x x pg bg sg dV kV doc pm an cdv ct), osl⟩) (hcg : PySem.W.codeIn X.K cdv x = true) (hb : L2.Binds X.K (PySem.W.fnOf x x pg bg sg dV kV doc pm an cdv ct) [fn, th] []) (Sg : FnScope Ng [fn, th] sg)
    (n0 : Ng[0]? = some fn) (n1 : Ng[1]? = some th) (l0 : sg.names.lookup fn = some .local) (l1 : sg.names.lookup th = some .local) (d0 : (fn == ("__debug__" : Str)) = false) (d1 : (th == ("__debug__" : Str)) = false) (dx : (x == ("__debug__" : Str)) = false) (dy : (y == ("__debug__" : Str)) = false)
    (hG : Takes1 X Ng x sg g cdv bg fn th (X.env.qual ++ "<lambda>") TT) (TB : TabB X.base X.mg c PT) (hcode : X.env.code = .ref c) (hmT : (PT, X.env.qual ++ "<lambda>") ∈ TL) (hu : ∀ p ∈ TL, p.1 = PT → p.2 = X.env.qual ++ "<lambda>") (hr : Room (k + 2) X.A)
    (S : NScope NL [a] fr scope) (hfree : ∀ y ∈ scope.names, y.2 = .free → X.env.scope.names.lookup y.1 = some .cell ∨ X.env.scope.names.lookup y.1 = some .free) (hfr : ∀ y ∈ fr, (y, NameKind.free) ∈ scope.names) (hjs : js.map (fun j => X.N[j]?) = fr.map some) (hdef : defaultsOf params X.env = ([], []))
    (hbind : ∀ (q : Str) (cl : List (Str × Addr)) (pm cv ctv u : Value), bindArgs (PySem.W.kla_fn "<lambda>" q params body scope cl pm cv ctv) ⟨[u], []⟩ = pure [(a, u)])
    (hbody : ∀ (A : Around) (outer : List Env) (s : Shared) (H : Hp) (E : XK) (f c' : Addr), Room k (A.deeper (envF (lamF X params scope c') f s.heap.objs.size)) → PE (lamC X NL params scope f c' A outer s H E) body (t E))
    (hjN : X.N[j]? = some y) (hjl : X.env.scope.names.lookup y = some .local) : PE X (.Call (.Name x p) [.Lambda params body scope lpos, .Name y py] [] pos) (tLam1 TL TT NL js t j) := by
  constructor
  rintro pins s σ H Q I ⟨hT, v, hv, h⟩
  have cap := Caps.made (js := js) I.ok hfree hfr hjs
  refine wpAny_Call_Name_kw (ld_glob I hg hm (PySem.W.callWith_K (h₀ := X.base) I.ok.mod.kin hk (Calls.spliced_cons ?_) (by rfl) (by rfl)) dx)
  refine lam_make2 I TB hcode hmT hu hT hdef (fun y hy e => (hfree y hy e).elim (fun z => I.ok.has _ (.inl z)) fun z => I.ok.has _ (.inr z)) fun f c' pm' ctv H1 s' J eN T1 hf hfn hfr' hco => ?_
  refine Calls.spliced_cons (var_at J hjN hjl hv dy fun u ru => Calls.spliced_nil ⟨J.kIn, ?_⟩)
  have made := cells_of J cap
  refine wpAny_call (codeAny_mono (run_ofS (CX := C8.CX0) (Q := Q) (E := C8.E0) (N := Ng) (ps := [fn, th]) (vs := [.ref f, v]) lk hcg Sg hr J.env0 (hb s' [.ref f, u] J.kIn rfl) (.cons rfl (.cons ru .nil)) rfl fun hr' => ?_) fun r s2 z => ?_)
  · refine (hG f c' s' H1 v Q _ hco (h H1 eN T1) fun W pn xe E p1 p2 p3 tk hW => ⟨fun pZ sZ σZ HZ QZ IZ hZ => ?_⟩).imp fun t' z => ⟨z.1.nox, z.2⟩
    · obtain ⟨z0, zc, vz, z1, zt⟩ := hZ
      have fz := IZ.base.keep f _ hf hfn hfr' List.not_mem_nil
      refine wpAny_Call_Name_kw (var_at IZ n0 l0 z0 d0 fun uf rf => ?_)
      cases rf
      refine PySem.W.callWith_F ⟨_, _, _, _, fz⟩ (Calls.spliced_cons (var_at IZ n1 l1 z1 d1 fun uz rz => Calls.spliced_nil ⟨⟨_, _, _, _, fz⟩, ?_⟩))
      refine wpAny_call (codeAny_mono (lam_one (X := X) (E := E) (Q := QZ) (k := k) S (cells_on made IZ.base) fz rfl zc (hbind _ _ _ _ _ uz) IZ.env0 IZ.nolimit hr' rz (fun room => hbody _ _ sZ HZ E f c' room) zt) fun r s3 w => ?_)
      match r, w with
      | .error e, w => exact passes_call tk hW pZ σZ HZ sZ e s3 IZ w
      | .ok (.ret _), w => exact IZ.after w
      | .ok .next, w => exact w.elim
      | .ok .brk, w => exact w.elim
      | .ok .cont, w => exact w.elim
  · match r, z with
    | .error e, z => exact (show False from z).elim
    | .ok (.ret _), z => exact J.after z
    | .ok .next, z => exact z.elim
    | .ok .brk, z => exact z.elim
    | .ok .cont, z => exact z.elim
/-- what a def gives that calls its first argument with its second one in a try with two clauses, each of them a text; None behind it -/
def TWord (K : PySem.W.Frag) (CB CG : Addr) (r1 r2 : Str) : (V → XK → Hp → VK → Prop) → V → Hp → VK → Prop := fun tl v H Q =>
  tl v (fun cls _ H' => ∃ b, PySem.W.exmOne K cls (.ref CB) = some b ∧ (b = true → Q (.str r1) H') ∧ (b = false → ∃ b2, PySem.W.exmOne K cls (.ref CG) = some b2 ∧ (b2 = true → Q (.str r2) H') ∧ (b2 = false → False))) H (fun _ H' => Q .non H')
theorem word_takes {Ng : List Str} {x fn th e1 e2 q r1 r2 : Str} {sg : Scope} {g CB CG : Addr} {cdg : Value} {j1 j2 j3 : Nat} {p1 p2 p3 p4 p5 p6 p7 p8 p9 p10 p11 p12 p13 p14 p15 : Pos}
    (g1 : sg.names.lookup e1 = some .globalImplicit) (m1 : X.mg e1 = some (.ref CB)) (d1 : (e1 == ("__debug__" : Str)) = false) (g2 : sg.names.lookup e2 = some .globalImplicit) (m2 : X.mg e2 = some (.ref CG)) (d2 : (e2 == ("__debug__" : Str)) = false)
    (s0 : ∀ (f : Addr) (v : V), (L2.start Ng [V.ref f, v])[0]? = some (some (V.ref f)) ∧ (L2.start Ng [V.ref f, v])[1]? = some (some v)) :
    Takes1 X Ng x sg g cdg [.Try [.Expr (.Call (.Name fn p1) [.Name th p2] [] p3) p4] [.ExceptHandler (some (.Name e1 p5)) none [.Return (some (.Constant (.str r1) j1 p6)) p7] p8, .ExceptHandler (some (.Name e2 p9)) none [.Return (some (.Constant (.str r2) j2 p10)) p11] p12] [] [] p13, .Return (some (.Constant .none j3 p14)) p15] fn th q (TWord X.K CB CG r1 r2) := by
  intro f c' s H arg Q tl hc h act
  have two := HdsOk.cons (X := (cxOf C8.CX0 X.prog X.w X.K X.mg X.base Ng x sg g cdg X.A X.stack s H C8.E0).nox) (pos' := p8) (np := p5) (c := .ref CB) ⟨g1, d1, .inl m1⟩ (fun a oe cls d pn _ _ => pss_one (ps_ret (pos := p7) (pe_str (x := r1) (j := j1) (pos := p6))))
    (HdsOk.cons (pos' := p12) (np := p9) (c := .ref CG) ⟨g2, d2, .inl m2⟩ (fun a oe cls d pn _ _ => pss_one (ps_ret (pos := p11) (pe_str (x := r2) (j := j2) (pos := p10)))) .nil)
  refine ⟨_, pss_cons (ps_try_many (tb := fun W D σ H => ∃ Ech : XK, (∀ cls d σ' H', Ech cls d H' → W cls d σ' H') ∧ σ[0]? = some (some (.ref f)) ∧ H c' = some (CodeO c' q) ∧ ∃ v, σ[1]? = some (some v) ∧ tl v Ech H (fun _ H' => D.nx σ H')) rfl rfl LamX.takes0 (fun W pn xe tk _ => ⟨fun pins s' σ H' D I z => ?_⟩) two) (pss_one (ps_ret pe_non)), ?_⟩
  · exact (pss_one (ps_expr (pos := p4) (act W pn xe z.choose p1 p3 p2 tk z.choose_spec.1))).run pins s' σ H' D I z.choose_spec.2
  · refine ⟨_, fun cls d σ' H' z => ?_, (s0 f arg).1, hc, arg, (s0 f arg).2, h⟩
    obtain ⟨b, k1, k2, k3⟩ := z
    exact ⟨b, k1, fun hb _ _ => k2 hb, fun hb => (k3 hb).imp fun b2 z => ⟨z.1, fun hb2 _ _ => z.2.1 hb2, z.2.2⟩⟩
end
end Bx

section
open PySem PySem.Spec PyProof.Rows L2 C8 Bx
local macro_rules | `(tactic| walk_at "rd") => `(tactic| repeat (first
  | with_reducible refine g_seq ?_ | with_reducible refine g_asg ?_ | with_reducible refine g_name ?_
  | ((with_reducible show tVar _ _ _ _); refine ⟨_, rfl, ?_⟩) | with_reducible refine g_c ?_ | with_reducible refine g_op ?_ | with_reducible refine g_test ?_ | with_reducible refine g_B ?_
  | with_reducible refine g_ifS ?_ | with_reducible refine g_ret ?_ | with_reducible refine g_retN ?_ | with_reducible refine g_drop ?_ | with_reducible refine g_nil ?_ | with_reducible refine g_cons ?_
  | with_reducible refine g_cb ?_ | with_reducible refine g_call ?_ | with_reducible refine g_not ?_ | with_reducible refine g_and ?_ | with_reducible refine g_or ?_ | with_reducible refine g_if ?_
  | with_reducible refine g_I0 ?_ | ((with_reducible refine g_eq ?_ ?_); exact rfl) | ((with_reducible refine g_ne ?_ ?_); exact rfl) | with_reducible refine g_chain ?_ | with_reducible refine g_tup ?_ | with_reducible refine g_lst ?_ | with_reducible refine g_bm ?_
  | with_reducible refine g_bl ?_ | ((with_reducible show tAug _ _ _ _ _ _); refine ⟨_, rfl, ?_⟩) | with_reducible refine g_ipI ?_ | with_reducible refine g_next ?_ | with_reducible refine g_break ?_ | with_reducible refine g_par ?_ | with_reducible refine g_bm0 ?_ | with_reducible refine g_sub ?_ | with_reducible refine g_int ?_ | with_reducible refine g_intB ?_ | with_reducible refine g_iSeq ?_ | with_reducible refine g_sl ?_ | with_reducible refine g_part ?_ | with_reducible refine g_nopart ?_ | with_reducible refine g_in ?_ | with_reducible refine g_yes ?_ | with_reducible refine g_for ?_ | with_reducible refine g_iList ?_ | with_reducible refine g_iTup ?_ | with_reducible refine g_iEnum ?_ | with_reducible refine g_iR1 ?_ | with_reducible refine g_lc ?_ | with_reducible refine g_lstRg ?_ | with_reducible refine g_rg2 ?_ | with_reducible refine g_rg1 ?_ | with_reducible refine g_dput ?_ | with_reducible refine g_dnotin ?_ | with_reducible refine g_din ?_ | with_reducible refine g_dget ?_ | with_reducible refine g_gcons ?_ | with_reducible refine g_gnil ?_ | with_reducible refine g_nn ?_
  | with_reducible refine iteT ?_ | with_reducible refine iteF ?_ | with_reducible refine g_nT ?_ | with_reducible refine g_nF ?_ | with_reducible refine isi_ii ?_ | with_reducible refine isi_ib ?_ | with_reducible refine isi_it ?_ | with_reducible refine isi_st ?_))
local macro_rules | `(tactic| walk_at "rd1") => `(tactic| repeat (first
  | with_reducible refine g_seq ?_ | with_reducible refine g_asg ?_ | with_reducible refine g_name ?_
  | ((with_reducible show tVar _ _ _ _); refine ⟨_, rfl, ?_⟩) | with_reducible refine g_c ?_ | with_reducible refine g_op ?_ | with_reducible refine g_test ?_ | with_reducible refine g_B ?_
  | with_reducible refine g_ifS ?_ | with_reducible refine g_ret ?_ | with_reducible refine g_retN ?_ | with_reducible refine g_drop ?_ | with_reducible refine g_nil ?_ | with_reducible refine g_cons ?_
  | with_reducible refine g_cb ?_ | with_reducible refine g_call ?_ | with_reducible refine g_not ?_ | with_reducible refine g_and ?_ | with_reducible refine g_or ?_ | with_reducible refine g_if ?_
  | with_reducible refine g_I0 ?_ | ((with_reducible refine g_eq ?_ ?_); exact rfl) | ((with_reducible refine g_ne ?_ ?_); exact rfl) | with_reducible refine g_chain ?_ | with_reducible refine g_tup ?_ | with_reducible refine g_bm ?_
  | with_reducible refine g_bl ?_ | ((with_reducible show tAug _ _ _ _ _ _); refine ⟨_, rfl, ?_⟩) | with_reducible refine g_ipI ?_ | with_reducible refine g_next ?_ | with_reducible refine g_break ?_ | with_reducible refine g_par ?_ | with_reducible refine g_bm0 ?_ | with_reducible refine g_sub ?_ | with_reducible refine g_int ?_ | with_reducible refine g_intB ?_ | with_reducible refine g_iSeq ?_ | with_reducible refine g_sl ?_ | with_reducible refine g_part ?_ | with_reducible refine g_nopart ?_ | with_reducible refine g_in ?_ | with_reducible refine g_yes ?_ | with_reducible refine g_for ?_ | with_reducible refine g_iList ?_ | with_reducible refine g_iTup ?_ | with_reducible refine g_iEnum ?_ | with_reducible refine g_iR1 ?_ | with_reducible refine g_lc ?_ | with_reducible refine g_lstRg ?_ | with_reducible refine g_rg2 ?_ | with_reducible refine g_rg1 ?_ | with_reducible refine g_dput ?_ | with_reducible refine g_dnotin ?_ | with_reducible refine g_din ?_ | with_reducible refine g_dget ?_ | with_reducible refine g_gcons ?_ | with_reducible refine g_gnil ?_ | with_reducible refine g_nn ?_
  | with_reducible refine iteT ?_ | with_reducible refine iteF ?_ | with_reducible refine g_nT ?_ | with_reducible refine g_nF ?_ | with_reducible refine isi_ii ?_ | with_reducible refine isi_ib ?_ | with_reducible refine isi_it ?_ | with_reducible refine isi_st ?_))

namespace Bx
/-- None or a place -/
def oV : Option Nat → V
  | none => .non
  | some n => .int (n : Int)
section
variable {P : Program} {w : World} {K : PySem.W.Frag} {mg : Str → Option Value} {base : Heap}
def spBetween : Sp := fun vs H Q _ => ∃ v l m : Int, vs = [.int v, .int l, .int m] ∧ Q (.bl (decide (l ≤ v ∧ v ≤ m))) H
theorem ok_isBetween {f : Addr} {fd : FuncData} (F : Def K mg "is_between" sIsBetween f fd) (b : Binds K fd ["value", "least", "most"] []) (T : Txt mg) : Cal P w K mg base 1 "is_between" spBetween [] := by
  refine cal0 F b .nil scIsBetween (fun vs H Q E h => ?_) (fun cdv A outer s H vs Q E hr h => ?_)
  · obtain ⟨v, l, m, rfl, _⟩ := h
    rfl
  obtain ⟨v, l, m, rfl, q⟩ := h
  refine ⟨_, (pss_cons (ps_if (PW.pt (pw_or (pt_not (pt_val (pe_callB call_isi (by rfl) T.isinstance b_isinstance (pa_cons (pv 0) (pa_cons (pe_bltn (v := .ty "int") (by rfl) T.int b_int rfl) pa_nil))))) (pw_or1 (pt_val (pe_callB call_isi (by rfl) T.isinstance b_isinstance (pa_cons (pv 0) (pa_cons (pe_bltn (v := .ty "bool") (by rfl) T.bool b_bool rfl) pa_nil)))))))
      (pss_one (ps_ret pe_bl)) pss_nil)
    (pss_one (ps_ret (pe_chain op_le op_le (pv 1) (pv 0) (pv 2))))), ?_⟩
  walk_at "rd"
  refine g_ite (fun h1 => ?_) (fun h1 => ?_)
  · walk_at "rd"
    have e : decide (v ≤ m) = decide (l ≤ v ∧ v ≤ m) := decide_eq_decide.mpr ⟨fun z => ⟨h1, z⟩, fun z => z.2⟩
    show Q (V.bl (decide (v ≤ m))) H
    rw [e]
    exact q
  · have e : false = decide (l ≤ v ∧ v ≤ m) := (decide_eq_false fun z => h1 z.1).symm
    show Q (V.bl false) H
    rw [e]
    exact q
def spIsCell : Sp := fun vs H Q _ => ∃ v : Int, vs = [.int v] ∧ Q (.bl (decide (0 ≤ v ∧ v ≤ 99))) H
theorem ok_isCell {f : Addr} {fd : FuncData} (F : Def K mg "is_cell" sIsCell f fd) (b : Binds K fd ["value"] []) (T : Txt mg) (C_isBetween : Cal P w K mg base 1 "is_between" spBetween []) : Cal P w K mg base 2 "is_cell" spIsCell [] := by
  refine cal0 F b .nil scIsCell (fun vs H Q E h => ?_) (fun cdv A outer s H vs Q E hr h => ?_)
  · obtain ⟨v, rfl, _⟩ := h
    rfl
  obtain ⟨v, rfl, q⟩ := h
  refine ⟨_, (pss_one (ps_ret (pe_c C_isBetween hr (by decide) rfl (pa_cons (pv 0) (pa_cons pe_int (pa_cons (pe_gc rfl T.cLARGEST_CELL) pa_nil)))))), ?_⟩
  walk_at "rd"
  exact ⟨v, 0, 99, rfl, q⟩
def spCheckCells (K : PySem.W.Frag) : Sp := fun vs H Q _ => ∃ (a : Addr) (cs : List Nat), vs = [.ref a] ∧ Cells K H a cs ∧ ∀ H', Same H H' → Q .non H'
theorem ok_checkCells {f : Addr} {fd : FuncData} (F : Def K mg "check_cells" sCheckCells f fd) (b : Binds K fd ["cells"] []) (T : Txt mg) (C_isCell : Cal P w K mg base 2 "is_cell" spIsCell []) : Cal P w K mg base 3 "check_cells" (spCheckCells K) [] := by
  refine cal0 F b .nil scCheckCells (fun vs H Q E h => ?_) (fun cdv A outer s H vs Q E hr h => ?_)
  · obtain ⟨a, cs, rfl, _⟩ := h
    rfl
  obtain ⟨a, cs, rfl, hC, q⟩ := h
  have turn : ∀ (i : Nat) (x : V) (σ : L2.St) (H1 : Hp), (cs.map vn)[i]? = some x → (∃ n : Nat, x = .int n ∧ n ≤ 99) := fun i x σ H1 hi => by
    rw [List.getElem?_map] at hi
    cases e : cs[i]? with
    | none =>
      rw [e] at hi
      cases hi
    | some n =>
      rw [e] at hi
      exact ⟨n, (Option.some.inj hi).symm, hC.top n (List.mem_of_getElem? e)⟩
  have hlen : ((cs.map vn).length : Int) ≤ 30 := by
    have := hC.len
    rw [List.length_map]
    omega
  rcases hC.sq with z | z
  · refine ⟨_, (pss_cons (ps_if (PW.pt (pw_or (pt_not (pt_val (pe_callB call_isiT (by rfl) T.isinstance b_isinstance (pa_cons (pv 0) (pa_cons (pe_tup (pa_cons (pe_bltn (v := .ty "list") (by rfl) T.list b_list rfl) (pa_cons (pe_bltn (v := .ty "tuple") (by rfl) T.tuple b_tuple rfl) pa_nil))) pa_nil))))) (pw_or1 (pt_cmpR op_gt (pe_callB call_len_seq (by rfl) T.len b_len (pa_cons (pv 0) pa_nil)) (pe_gc rfl T.cMOST_CELLS) (nomark _)))))
      (pss_one ps_never) pss_nil)
    (pss_one (ps_for PassesOwn.never rfl (pi_list (pv 0)) (pg_name (i := 1) scCheckCells.nd rfl (.inl rfl))
      (pss_one (ps_if (pt_not (pt_val (pe_c C_isCell hr (by decide) rfl (pa_cons (pv 1) pa_nil))))
        (pss_one ps_never) pss_nil))))), ?_⟩
    walk_at "rd"
    refine ⟨by decide, fun p hp => ?_⟩
    have s1 : Same H (upd H p (.tup [V.ty "list", V.ty "tuple"])) := same_new hp _
    refine ⟨_, _, _, _, _, _, rfl, upd_same, cls_lt, tyL (s1.seq z), k_list_lt, ?_⟩
    walk_at "rd"
    refine ⟨_, _, rfl, .inl (s1.seq z), ?_⟩
    walk_at "rd"
    refine g_ite (fun h1 => absurd h1 (by show ¬ ((30 : Int) < _); omega)) (fun _ => ?_)
    walk_at "rd"
    refine ⟨a, rfl, ⟨_, s1.seq z⟩, for_list (K := K) (a := a) (xs := cs.map vn) (fun i σ H' => (∃ v, σ = [some (.ref a), v]) ∧ Same H H') ⟨⟨none, rfl⟩, s1⟩ (fun i σ H' _ ⟨_, e⟩ => e.seq z) ?_ ?_⟩
    · rintro i x σ H' hi ⟨⟨v, rfl⟩, e⟩
      obtain ⟨n, rfl, hn⟩ := turn i x [] H' hi
      walk_at "rd"
      refine ⟨_, rfl, ?_⟩
      rw [decide_eq_true (show (0 : Int) ≤ (n : Int) ∧ (n : Int) ≤ 99 by omega)]
      walk_at "rd"
      exact ⟨⟨_, rfl⟩, e⟩
    · rintro σ H' ⟨_, e⟩
      exact q _ e
  · refine ⟨_, (pss_cons (ps_if (PW.pt (pw_or (pt_not (pt_val (pe_callB call_isiT (by rfl) T.isinstance b_isinstance (pa_cons (pv 0) (pa_cons (pe_tup (pa_cons (pe_bltn (v := .ty "list") (by rfl) T.list b_list rfl) (pa_cons (pe_bltn (v := .ty "tuple") (by rfl) T.tuple b_tuple rfl) pa_nil))) pa_nil))))) (pw_or1 (pt_cmpR op_gt (pe_callB call_len_seq (by rfl) T.len b_len (pa_cons (pv 0) pa_nil)) (pe_gc rfl T.cMOST_CELLS) (nomark _)))))
      (pss_one ps_never) pss_nil)
    (pss_one (ps_for PassesOwn.never rfl (pi_tup (pv 0)) (pg_name (i := 1) scCheckCells.nd rfl (.inl rfl))
      (pss_one (ps_if (pt_not (pt_val (pe_c C_isCell hr (by decide) rfl (pa_cons (pv 1) pa_nil))))
        (pss_one ps_never) pss_nil))))), ?_⟩
    walk_at "rd"
    refine ⟨by decide, fun p hp => ?_⟩
    have s1 : Same H (upd H p (.tup [V.ty "list", V.ty "tuple"])) := same_new hp _
    refine ⟨_, _, _, _, _, _, rfl, upd_same, cls_lt, tyT (Same.sqt s1 z), k_tuple_lt, ?_⟩
    walk_at "rd"
    refine ⟨_, _, rfl, .inr (Same.sqt s1 z), ?_⟩
    walk_at "rd"
    refine g_ite (fun h1 => absurd h1 (by show ¬ ((30 : Int) < _); omega)) (fun _ => ?_)
    walk_at "rd"
    refine ⟨a, rfl, ⟨_, Same.sqt s1 z⟩, for_tup (K := K) (a := a) (xs := cs.map vn) (fun i σ H' => (∃ v, σ = [some (.ref a), v]) ∧ Same H H') ⟨⟨none, rfl⟩, s1⟩ (fun i σ H' _ ⟨_, e⟩ => Same.sqt e z) ?_ ?_⟩
    · rintro i x σ H' hi ⟨⟨v, rfl⟩, e⟩
      obtain ⟨n, rfl, hn⟩ := turn i x [] H' hi
      walk_at "rd"
      refine ⟨_, rfl, ?_⟩
      rw [decide_eq_true (show (0 : Int) ≤ (n : Int) ∧ (n : Int) ≤ 99 by omega)]
      walk_at "rd"
      exact ⟨⟨_, rfl⟩, e⟩
    · rintro σ H' ⟨_, e⟩
      exact q _ e
end
end Bx

namespace Bx
section
variable {P : Program} {w : World} {K : PySem.W.Frag} {mg : Str → Option Value} {base : Heap}
def spWrongHead (K : PySem.W.Frag) : Sp := fun vs H Q _ => ∃ (a : Addr) (cs : List Nat) (p e dp : Nat), vs = [.ref a, .int p, .int e, .int dp] ∧ Cells K H a cs ∧ p < e ∧ e ≤ cs.length ∧ Q (oV (hd cs p e dp)) H
theorem ok_wrongHead {f : Addr} {fd : FuncData} (F : Def K mg "wrong_head" sWrongHead f fd) (b : Binds K fd ["cells", "at", "end", "around"] []) (T : Txt mg) : Cal P w K mg base 1 "wrong_head" (spWrongHead K) [] := by
  refine cal0 F b .nil scWrongHead (fun vs H Q E h => ?_) (fun cdv A outer s H vs Q E hr h => ?_)
  · obtain ⟨a, cs, p, e, dp, rfl, _⟩ := h
    rfl
  obtain ⟨a, cs, p, e, dp, rfl, hC, hp, he, q⟩ := h
  refine ⟨_, (pss_cons (ps_set (i := 4) scWrongHead.nd rfl (Or.inl rfl) (pe_op op_sub (pv 2) (pv 1)))
    (pss_cons (ps_if (PW.pt (pw_or (pt_cmpR op_eq (pv 4) pe_int (nomark _)) (pw_or1 (pt_not (pt_chain op_le op_le (pe_gc rfl T.cGROUP) (pe_ix ix_seq (pv 0) (pv 1) (fun _ _ => rfl)) (pe_gc rfl T.cTABLE)))))) 
      (pss_one (ps_ret (pv 1))) pss_nil)
    (pss_cons (ps_if (PW.pt (pw_and (pt_cmpR op_eq (pe_ix ix_seq (pv 0) (pv 1) (fun _ _ => rfl)) (pe_gc rfl T.cGROUP) (nomark _)) (pw_and1 (pt_cmpR op_gt (pv 3) (pe_gc rfl T.cMOST_GROUPS_AROUND) (nomark _))))) 
      (pss_one (ps_ret (pv 1))) pss_nil)
    (pss_cons (ps_if (pt_not (pt_chain op_le op_le (pe_gc rfl T.cHEAD) (pe_ix ix_seq (pv 0) (pe_op op_add (pv 1) pe_int) (fun _ _ => rfl)) (pv 4))) 
      (pss_one (ps_ret (pe_op op_add (pv 1) pe_int))) pss_nil)
    (pss_one (ps_ret pe_non)))))), ?_⟩
  have bad1 : (e - p = 1 ∨ ¬ (1 ≤ cel cs p ∧ cel cs p ≤ 4)) → Q (.int p) H := fun z => by
    have := q
    rw [hd, if_pos z] at this
    exact this
  walk_at "rd"
  refine g_ite (fun h1 => ?_) (fun h1 => ?_)
  · walk_at "rd"
    have := V.int.inj h1
    exact bad1 (.inl (by omega))
  have h1' : e - p ≠ 1 := fun z => h1 (congrArg V.int (by omega))
  walk_at "rd"
  refine hC.ix p rfl (by omega) ?_
  walk_at "rd"
  have three : (¬ (1 ≤ cel cs p ∧ cel cs p ≤ 4) → Q (.int p) H) := fun z => bad1 (.inr z)
  refine g_ite (fun h2 => ?_) (fun h2 => ?_)
  rotate_left
  · walk_at "rd"
    exact three (by omega)
  walk_at "rd"
  refine g_iteN (fun h3 => ?_) (fun h3 => ?_)
  · walk_at "rd"
    exact three (by omega)
  have g1 : ¬ (e - p = 1 ∨ ¬ (1 ≤ cel cs p ∧ cel cs p ≤ 4)) := by omega
  have bad2 : (cel cs p = 1 ∧ 1 < dp) → Q (.int p) H := fun z => by
    have := q
    rw [hd, if_neg g1, if_pos z] at this
    exact this
  have last : ¬ (cel cs p = 1 ∧ 1 < dp) → tIfS (tNot (tTest (tChain (rI0 fun i j => V.bl (decide (i ≤ j))) (rI0 fun i j => V.bl (decide (i ≤ j))) (tC (.int 2)) (tOp (rIx K) (tVar 0) (tOp (rI0 fun i j => V.int (i + j)) (tVar 1) (tC (.int 1)))) (tVar 4))))
      (tRet (tOp (rI0 fun i j => V.int (i + j)) (tVar 1) (tC (.int 1)))) tNext { nx := tRet (tC .non) { nx := fun _ H' => Q V.non H', rt := Q }, rt := Q }
      ((L2.start NWrongHead [V.ref a, V.int p, V.int e, V.int dp]).set 4 (some (V.int ((e : Int) - p)))) H := fun z => by
    have rest := q
    rw [hd, if_neg g1, if_neg z] at rest
    walk_at "rd"
    refine hC.ix (p + 1) (by omega) (by omega) ?_
    walk_at "rd"
    refine g_ite (fun h4 => ?_) (fun h4 => ?_)
    · walk_at "rd"
      refine g_iteN (fun h5 => ?_) (fun h5 => ?_)
      · walk_at "rd"
        rw [if_pos (by omega)] at rest
        exact rest
      · walk_at "rd"
        rw [if_neg (by omega)] at rest
        exact rest
    · walk_at "rd"
      rw [if_pos (by omega)] at rest
      exact rest
  walk_at "rd"
  refine hC.ix p rfl (by omega) ?_
  walk_at "rd"
  refine g_ite (fun h4 => ?_) (fun h4 => ?_)
  · have h4' := V.int.inj h4
    walk_at "rd"
    refine g_ite (fun h5 => ?_) (fun h5 => ?_)
    · walk_at "rd"
      exact bad2 (by omega)
    · exact last (by omega)
  · have h4' : cel cs p ≠ 1 := fun z => h4 (congrArg V.int (by omega))
    exact last (by omega)
/-- a while, by a word and a measure: W turn by turn -/
theorem while_w {c : TT} {tb : TS} {D : Ends} {σ : L2.St} {H : Hp} (W : Nat → L2.St → Hp → Prop) (m : Nat) (w0 : W m σ H)
    (hs : ∀ m σ H, W m σ H → c σ H fun b H1 => if b = true then tb { D with nx := fun σ' H' => ∃ m', m' < m ∧ W m' σ' H', ct := fun σ' H' => ∃ m', m' < m ∧ W m' σ' H', bk := D.nx } σ H1 else D.nx σ H1)
    (mono : ∀ σ H (Q Q' : Bool → Hp → Prop), (∀ b H1, Q b H1 → Q' b H1) → c σ H Q → c σ H Q') : tWhile c tb D σ H := by
  refine ⟨W, ⟨m, w0⟩, fun m σ H w => ?_⟩
  refine mono σ H _ _ (fun b H1 q => ?_) (hs m σ H w)
  cases b with
  | true => exact ⟨_, fun σ' H' z => z, q⟩
  | false => exact q
/-- the test at < end -/
theorem mono_lt {i j : Nat} (σ : L2.St) (H : Hp) (Q Q' : Bool → Hp → Prop) (h : ∀ b H1, Q b H1 → Q' b H1) (q : (tTest (tOp (rI0 fun i j => V.bl (decide (i < j))) (tVar i) (tVar j))) σ H Q) : (tTest (tOp (rI0 fun i j => V.bl (decide (i < j))) (tVar i) (tVar j))) σ H Q' := by
  obtain ⟨v, e1, u, e2, x, y, rfl, rfl, k, e3, z⟩ := q
  exact ⟨_, e1, _, e2, x, y, rfl, rfl, k, e3, h _ _ z⟩
def spWrongBox (K : PySem.W.Frag) (n : Nat) : Sp := fun vs H Q _ => ∃ (a : Addr) (cs : List Nat) (p e dp f : Nat), vs = [.ref a, .int p, .int e, .int dp] ∧ Cells K H a cs ∧ e ≤ cs.length ∧ e - p < f ∧ f ≤ n ∧ Q (oV (err (prs f cs p e dp))) H
theorem ok_wrongBox {f : Addr} {fd : FuncData} (F : Def K mg "wrong_box" sWrongBox f fd) (b : Binds K fd ["cells", "begin", "end", "around"] []) (T : Txt mg) (C_wrongHead : Cal P w K mg base 1 "wrong_head" (spWrongHead K) []) :
    ∀ n : Nat, Cal P w K mg base (n + 1) "wrong_box" (spWrongBox K n) []
  | 0 => by
    refine cal0 F b .nil scWrongBox (fun vs H Q E h => ?_) (fun cdv A outer s H vs Q E hr h => ?_)
    · obtain ⟨a, cs, p, e, dp, f, rfl, _⟩ := h
      rfl
    · obtain ⟨a, cs, p, e, dp, f, rfl, _, _, h1, h2, _⟩ := h
      omega
  | n + 1 => by
    have C_wrongBox := ok_wrongBox F b T C_wrongHead n
    refine cal0 F b .nil scWrongBox (fun vs H Q E h => ?_) (fun cdv A outer s H vs Q E hr h => ?_)
    · obtain ⟨a, cs, p, e, dp, f, rfl, _⟩ := h
      rfl
    obtain ⟨a, cs, p, e, dp, f, rfl, hC, he, hf, hn, q⟩ := h
    refine ⟨_, (pss_cons (ps_set (i := 4) scWrongBox.nd rfl (Or.inl rfl) (pv 1))
    (pss_cons (ps_while PassesOwn.never (pt_cmpR op_lt (pv 4) (pv 2) (nomark _)) 
      (pss_cons (ps_set (i := 5) scWrongBox.nd rfl (Or.inl rfl) (pe_c C_wrongHead hr (by omega) rfl (pa_cons (pv 0) (pa_cons (pv 4) (pa_cons (pv 2) (pa_cons (pv 3) pa_nil))))))
      (pss_cons (ps_if (PW.pt (pw_and (pt_cmpR op_isN (pv 5) pe_non (nomark _)) (pw_and1 (pt_cmpR op_eq (pe_ix ix_seq (pv 0) (pv 4) (fun _ _ => rfl)) (pe_gc rfl T.cGROUP) (nomark _))))) 
        (pss_one (ps_set (i := 5) scWrongBox.nd rfl (Or.inl rfl) (pe_c C_wrongBox hr (by omega) rfl (pa_cons (pv 0) (pa_cons (pe_op op_add (pv 4) (pe_gc rfl T.cHEAD)) (pa_cons (pe_op op_add (pv 4) (pe_ix ix_seq (pv 0) (pe_op op_add (pv 4) pe_int) (fun _ _ => rfl))) (pa_cons (pe_op op_add (pv 3) pe_int) pa_nil))))))) pss_nil)
      (pss_cons (ps_if (pt_cmpR op_notN (pv 5) pe_non (nomark _)) 
        (pss_one (ps_ret (pv 5))) pss_nil)
      (pss_one (ps_aug (i := 4) scWrongBox.nd rfl (.inl rfl) (pe_ix ix_seq (pv 0) (pe_op op_add (pv 4) pe_int) (fun _ _ => rfl)) ip_add))))))
    (pss_one (ps_ret pe_non)))), ?_⟩
    walk_at "rd"
    refine while_w (fun m σ H' => ∃ (p' f' : Nat) (v : Option V), m = f' ∧ σ = [some (.ref a), some (.int p), some (.int e), some (.int dp), some (.int p'), v] ∧ H' = H ∧ e - p' < f' ∧ f' ≤ n + 1 ∧ err (prs f' cs p' e dp) = err (prs f cs p e dp))
      f ⟨p, f, none, rfl, rfl, rfl, hf, hn, rfl⟩ ?_ mono_lt
    rintro m σ H' ⟨p', f', v, rfl, rfl, rfl, g1, g2, g3⟩
    obtain ⟨f', rfl⟩ : ∃ g, m = g + 1 := ⟨m - 1, by omega⟩
    walk_at "rd"
    refine g_ite (fun h1 => ?_) (fun h1 => ?_)
    · have h1' : p' < e := by omega
      walk_at "rd"
      refine ⟨a, cs, p', e, dp, rfl, hC, h1', he, ?_⟩
      have fin : ∀ σ, err (prs (f' + 1) cs p' e dp) = σ → Q (oV σ) H' := fun σ z => by rw [← z, g3]; exact q
      cases q1 : hd cs p' e dp with
      | some z =>
        have q2 := fin (some z) (by rw [prs_bad h1' q1] <;> rfl)
        walk_at "rd"
        refine g_dF int_non ?_
        walk_at "rd"
        refine g_ndT int_non ?_
        walk_at "rd"
        exact q2
      | none =>
        obtain ⟨i1, i2, i3, i4, i5, i6⟩ := hd_none q1
        have tail : ∀ ks, (if cel cs p' = 1 then prs f' cs (p' + 2) (p' + cel cs (p' + 1)) (dp + 1) else .ok []) = .ok ks → err (prs f' cs (p' + cel cs (p' + 1)) e dp) = err (prs f cs p e dp) := fun ks z => by
          rw [← g3, prs_err h1' q1 z]
        walk_at "rd"
        refine g_dT rfl ?_
        walk_at "rd"
        refine hC.ix p' rfl (by omega) ?_
        walk_at "rd"
        refine g_ite (fun h2 => ?_) (fun h2 => ?_)
        · have h2' : cel cs p' = 1 := by
            have := V.int.inj h2
            omega
          walk_at "rd"
          refine hC.ix (p' + 1) (by omega) (by omega) ?_
          walk_at "rd"
          refine ⟨a, cs, p' + 2, p' + cel cs (p' + 1), dp + 1, f', rfl, hC, by omega, by omega, by omega, ?_⟩
          cases q2 : prs f' cs (p' + 2) (p' + cel cs (p' + 1)) (dp + 1) with
          | error z =>
            have q3 := fin (some z) (by rw [prs_in h1' q1 h2' q2] <;> rfl)
            walk_at "rd"
            refine g_ndT int_non ?_
            walk_at "rd"
            exact q3
          | ok ks =>
            walk_at "rd"
            refine g_ndF rfl ?_
            walk_at "rd"
            refine hC.ix (p' + 1) (by omega) (by omega) ?_
            walk_at "rd"
            exact ⟨f', Nat.lt_succ_self _, p' + cel cs (p' + 1), f', _, rfl, rfl, rfl, by omega, by omega, tail ks ((if_pos h2').trans q2)⟩
        · have h2' : cel cs p' ≠ 1 := fun z => h2 (congrArg V.int (by omega))
          walk_at "rd"
          refine g_ndF rfl ?_
          walk_at "rd"
          refine hC.ix (p' + 1) (by omega) (by omega) ?_
          walk_at "rd"
          exact ⟨f', Nat.lt_succ_self _, p' + cel cs (p' + 1), f', _, rfl, rfl, rfl, by omega, by omega, tail [] (if_neg h2')⟩
    · walk_at "rd"
      rw [prs_stop (by omega)] at g3
      rw [← g3] at q
      exact q
end
end Bx

namespace Bx
section
variable {P : Program} {w : World} {K : PySem.W.Frag} {mg : Str → Option Value} {base : Heap}
def spBoxPlaces (K : PySem.W.Frag) : Sp := fun vs H Q _ => ∃ (a : Addr) (cs hs : List Nat) (k : Nat), vs = [.ref a, .int k] ∧ Cells K H a cs ∧ Pth cs 0 cs.length hs ∧ hs.length ≤ 100 ∧
  ∀ (p : Addr) (H' : Hp), Same H H' → H p = none → H' p = some (.lst ((hs.filter (isK cs k)).map vn)) → Q (.ref p) H'
theorem ok_boxPlaces {f : Addr} {fd : FuncData} (F : Def K mg "box_places" sBoxPlaces f fd) (b : Binds K fd ["cells", "kind"] []) (T : Txt mg) : Cal P w K mg base 1 "box_places" (spBoxPlaces K) [] := by
  refine cal0 F b .nil scBoxPlaces (fun vs H Q E h => ?_) (fun cdv A outer s H vs Q E hr h => ?_)
  · obtain ⟨a, cs, hs, k, rfl, _⟩ := h
    rfl
  obtain ⟨a, cs, hs, k, rfl, hC, hP, hL, q⟩ := h
  refine ⟨_, (pss_cons (ps_set (i := 2) scBoxPlaces.nd rfl (Or.inl rfl) (pe_lst pa_nil))
    (pss_cons (ps_set (i := 3) scBoxPlaces.nd rfl (Or.inl rfl) pe_int)
    (pss_cons (ps_while PassesOwn.never (pt_cmpR op_lt (pv 3) (pe_callB call_len_seq (by rfl) T.len b_len (pa_cons (pv 0) pa_nil)) (nomark _)) 
      (pss_cons (ps_if (pt_cmpR op_eq (pe_ix ix_seq (pv 0) (pv 3) (fun _ _ => rfl)) (pv 1) (nomark _)) 
        (pss_one (ps_expr (pe_bm PySem.F.plainAttrs_list PySem.F.slot_list_append PySem.F.type_list_append mt_append (pv 2) (pa_cons (pv 3) pa_nil)))) pss_nil)
      (pss_one (ps_aug (i := 3) scBoxPlaces.nd rfl (.inl rfl) (pe_ifExp (pt_cmpR op_eq (pe_ix ix_seq (pv 0) (pv 3) (fun _ _ => rfl)) (pe_gc rfl T.cGROUP) (nomark _)) (pe_gc rfl T.cHEAD) (pe_ix ix_seq (pv 0) (pe_op op_add (pv 3) pe_int) (fun _ _ => rfl))) ip_add))))
    (pss_one (ps_ret (pv 2)))))), ?_⟩
  walk_at "rd"
  refine ⟨Nat.zero_le _, fun p hp => ?_⟩
  walk_at "rd"
  refine while_v (fun m σ H' => ∃ (pos : Nat) (rest done : List Nat), σ = [some (.ref a), some (.int k), some (.ref p), some (.int pos)] ∧ Pth cs pos cs.length rest ∧ m = rest.length ∧ hs = done ++ rest ∧ Same H H' ∧ H' p = some (.lst ((done.filter (isK cs k)).map vn)))
    hs.length ⟨0, hs, [], rfl, hP, rfl, rfl, same_new hp _, upd_same⟩ ?_
  rintro m σ H' ⟨pos, rest, done, rfl, hp1, rfl, e1, e2, e3⟩
  have hC' := hC.same e2
  walk_at "rd"
  refine ⟨_, _, rfl, hC'.sq, ?_⟩
  rw [List.length_map]
  walk_at "rd"
  cases hp1 with
  | nil =>
    refine g_dF (by omega) ?_
    walk_at "rd"
    rw [List.append_nil] at e1
    subst e1
    exact q p H' e2 hp e3
  | @cons _ _ rest' l1 l2 hr1 =>
    refine g_dT (by omega) ⟨_, fun _ _ z => z, ?_⟩
    have hz : ((done.filter (isK cs k)).map vn).length ≤ 1000 := by
      have := List.length_filter_le (isK cs k) done
      have : hs.length = done.length + (pos :: rest').length := by rw [e1, List.length_append]
      rw [List.length_map]
      omega
    have last : ∀ H'', Same H H'' → H'' p = some (.lst (((done ++ [pos]).filter (isK cs k)).map vn)) → ∀ (X : Nat), X = stp cs pos →
        ∃ m', m' < (pos :: rest').length ∧ ∃ (pos' : Nat) (rest done : List Nat), [some (V.ref a), some (V.int k), some (V.ref p), some (V.int ((pos : Int) + X))] = [some (V.ref a), some (V.int k), some (V.ref p), some (V.int pos')] ∧ Pth cs pos' cs.length rest ∧ m' = rest.length ∧ hs = done ++ rest ∧ Same H H'' ∧ H'' p = some (.lst ((done.filter (isK cs k)).map vn)) :=
      fun H'' s1 s2 X hX => ⟨rest'.length, Nat.lt_succ_self _, pos + stp cs pos, rest', done ++ [pos], by rw [hX, Int.natCast_add], hr1, rfl, by rw [e1, List.append_assoc] <;> rfl, s1, s2⟩
    walk_at "rd"
    refine hC'.ix pos rfl (by omega) ?_
    walk_at "rd"
    have aug : ∀ H'', Same H H'' → H'' p = some (.lst (((done ++ [pos]).filter (isK cs k)).map vn)) → tAug 3 (tIf (tTest (tOp rEq (tOp (rIx K) (tVar 0) (tVar 3)) (tC (.int 1)))) (tC (.int 2)) (tOp (rIx K) (tVar 0) (tOp (rI0 fun i j => V.int (i + j)) (tVar 3) (tC (.int 1))))) (ipI fun i j => i + j)
        { nx := fun σ' H'' => ∃ m', m' < (pos :: rest').length ∧ ∃ (pos' : Nat) (rest done : List Nat), σ' = [some (V.ref a), some (V.int k), some (V.ref p), some (V.int pos')] ∧ Pth cs pos' cs.length rest ∧ m' = rest.length ∧ hs = done ++ rest ∧ Same H H'' ∧ H'' p = some (.lst ((done.filter (isK cs k)).map vn)), rt := Q }
        [some (V.ref a), some (V.int k), some (V.ref p), some (V.int pos)] H'' := fun H'' s1 s2 => by
      have hC'' := hC.same s1
      walk_at "rd"
      refine hC''.ix pos rfl (by omega) ?_
      walk_at "rd"
      refine g_ite (fun h => ?_) (fun h => ?_)
      · walk_at "rd"
        have h' : cel cs pos = 1 := by
          have := V.int.inj h
          omega
        exact last H'' s1 s2 2 (if_pos h').symm
      · have h' : cel cs pos ≠ 1 := fun z => h (congrArg V.int (by omega))
        walk_at "rd"
        refine hC''.ix (pos + 1) (by omega) (by omega) ?_
        walk_at "rd"
        exact last H'' s1 s2 _ (if_neg h').symm
    refine g_ite (fun h => ?_) (fun h => ?_)
    · have h' : isK cs k pos = true := decide_eq_true (by have := V.int.inj h; omega)
      walk_at "rd"
      refine ⟨ty_l (SqL.of e3), ?_⟩
      walk_at "rd"
      refine g_app e3 hz ?_
      exact aug _ (Same.putNew e2 hp) (by rw [upd_same, List.filter_append, List.map_append, List.filter_cons_of_pos h'] <;> rfl)
    · have h' : isK cs k pos = false := decide_eq_false fun z => h (congrArg V.int (by omega))
      exact aug _ e2 (by rw [e3, List.filter_append, List.filter_cons_of_neg (by rw [h']; exact Bool.false_ne_true), List.filter_nil, List.append_nil])
def spContentPlaces (K : PySem.W.Frag) : Sp := fun vs H Q _ => ∃ (a : Addr) (cs : List Nat) (h : Nat), vs = [.ref a, .int h] ∧ Cells K H a cs ∧ h + 1 < cs.length ∧ 2 ≤ cel cs (h + 1) ∧
  ∀ (p : Addr) (H' : Hp), Same H H' → H p = none → H' p = some (.lst ((plc (row cs h)).map vn)) → Q (.ref p) H'
theorem ok_contentPlaces {f : Addr} {fd : FuncData} (F : Def K mg "content_places" sContentPlaces f fd) (b : Binds K fd ["cells", "at"] []) (T : Txt mg) : Cal P w K mg base 1 "content_places" (spContentPlaces K) [] := by
  refine cal0 F b .nil scContentPlaces (fun vs H Q E h => ?_) (fun cdv A outer s H vs Q E hr h => ?_)
  · obtain ⟨a, cs, h, rfl, _⟩ := h
    rfl
  obtain ⟨a, cs, h, rfl, hC, h1, h2, q⟩ := h
  refine ⟨_, (pss_one (ps_ret (pe_listRg rfl (by rfl) T.list (prg_2 (by rfl) T.range (pe_op op_add (pv 1) (pe_gc rfl T.cHEAD)) (pe_op op_add (pv 1) (pe_ix ix_seq (pv 0) (pe_op op_add (pv 1) pe_int) (fun _ _ => rfl))))))), ?_⟩
  walk_at "rd"
  refine hC.ix (h + 1) (by omega) h1 ?_
  walk_at "rd"
  have t2 := cel_top hC (h + 1)
  have t3 := hC.len
  refine ⟨_, _, rfl, rfl, .of_le (by omega) (by omega) (by omega) (by omega), fun p hp => ?_⟩
  refine q p _ (same_new hp _) hp ?_
  rw [upd_same]
  have e : rgV ((h : Int) + 2) ((h : Int) + (cel cs (h + 1) : Int)) = (plc (row cs h)).map vn := by
    rw [show (h : Int) + 2 = ((h + 2 : Nat) : Int) by omega, show (h : Int) + (cel cs (h + 1) : Int) = ((h + cel cs (h + 1) : Nat) : Int) by omega, rg_nat]
    rw [show h + cel cs (h + 1) - (h + 2) = cel cs (h + 1) - 2 by omega]
    rfl
  rw [e]
end
end Bx

namespace Bx
section
variable {P : Program} {w : World} {K : PySem.W.Frag} {mg : Str → Option Value} {base : Heap}
def spDataTargets (K : PySem.W.Frag) : Sp := fun vs H Q _ => ∃ (a : Addr) (cs hs : List Nat), vs = [.ref a] ∧ Cells K H a cs ∧ Pth cs 0 cs.length hs ∧
  ∀ (d : Addr) (H' : Hp), Same H H' → H d = none → TgD H' d (Own (rws cs hs)) 100000 → Q (.ref d) H'
theorem ok_dataTargets {f : Addr} {fd : FuncData} (F : Def K mg "data_targets" sDataTargets f fd) (b : Binds K fd ["cells"] []) (T : Txt mg) (C_boxPlaces : Cal P w K mg base 1 "box_places" (spBoxPlaces K) [])
    (C_contentPlaces : Cal P w K mg base 1 "content_places" (spContentPlaces K) []) : Cal P w K mg base 2 "data_targets" (spDataTargets K) [] := by
  refine cal0 F b .nil scDataTargets (fun vs H Q E h => ?_) (fun cdv A outer s H vs Q E hr h => ?_)
  · obtain ⟨a, cs, hs, rfl, _⟩ := h
    rfl
  obtain ⟨a, cs, hs, rfl, hC, hP, q⟩ := h
  have h30 := hC.len
  have hLs := hP.len
  refine ⟨_, (pss_cons (ps_set (i := 1) scDataTargets.nd rfl (Or.inl rfl) pe_dnewK)
    (pss_cons (ps_for PassesOwn.never rfl (pi_enum (by rfl) T.enumerate (pa_cons (pe_c C_boxPlaces hr (by decide) rfl (pa_cons (pv 0) (pa_cons (pe_gc rfl T.cDATA) pa_nil))) pa_nil)) (pg_tup rfl (pgs_cons (pg_name (i := 2) scDataTargets.nd rfl (.inl rfl)) (pgs_cons (pg_name (i := 3) scDataTargets.nd rfl (.inl rfl)) pgs_nil))) 
      (pss_one (ps_for PassesOwn.never rfl (pi_enum (by rfl) T.enumerate (pa_cons (pe_c C_contentPlaces hr (by decide) rfl (pa_cons (pv 0) (pa_cons (pv 3) pa_nil))) pa_nil)) (pg_tup rfl (pgs_cons (pg_name (i := 4) scDataTargets.nd rfl (.inl rfl)) (pgs_cons (pg_name (i := 5) scDataTargets.nd rfl (.inl rfl)) pgs_nil))) 
        (pss_one (ps_dput (hu_of hr) (pv 1) (pv 5) (pe_tup (pa_cons (pv 2) (pa_cons (pv 4) pa_nil))) rfl)))))
    (pss_one (ps_ret (pv 1))))), ?_⟩
  walk_at "rd"
  refine g_dnewK fun d hd => ?_
  have s0 : Same H (upd H d (.dK [])) := same_new hd _
  walk_at "rd"
  refine ⟨a, cs, hs, 2, rfl, hC.same s0, hP, by omega, fun l H1 s1 hl hl1 => ?_⟩
  have hld : l ≠ d := (ne_of_none upd_same hl).symm
  have hlH : H l = none := by
    rw [upd_ne hld] at hl
    exact hl
  walk_at "rd"
  have eHl := hl1
  refine ⟨l, _, rfl, SqL.of hl1, for_it (walk_enum) (fun i σ H' => (∃ v2 v3 v4 v5, σ = [some (.ref a), some (.ref d), v2, v3, v4, v5]) ∧ Same H H' ∧ H' l = some (.lst ((hs.filter (isK cs 2)).map vn)) ∧ TgD H' d (fun n k j => Own (rws cs hs) n k j ∧ k < i) (100 * i))
    ⟨⟨_, _, _, _, rfl⟩, s0.trans s1, hl1, (TgD.nil (s1 _ _ upd_same) (fun _ _ _ z => Nat.not_lt_zero _ z.2))⟩ (fun i σ H' _ z => SqL.of z.2.2.1) ?_ ?_⟩
  · rintro i x σ H2 H3 hi ⟨⟨v2, v3, v4, v5, rfl⟩, t1, t2, t3⟩ ⟨T1, x1, x2, rfl, nT, rfl, e1, e2⟩
    cases Option.some.inj e1
    obtain ⟨p, hp, rfl⟩ := vn_get e2
    have nTd : T1 ≠ d := fun z => by
      obtain ⟨_, z2, _⟩ := t3.ex
      rw [← z, nT] at z2
      cases z2
    have nTl : T1 ≠ l := fun z => by
      rw [z, t2] at nT
      cases nT
    have nTH : H T1 = none := t1.free nT
    have sT : Same H2 (upd H2 T1 (.tup [.int (i : Int), vn p])) := same_new nT _
    refine g_tupT (SqT.of upd_same) rfl ?_
    walk_at "rd"
    -- the cells of this box
    have hpm : p ∈ hs := (List.mem_filter.mp (List.mem_of_getElem? hp)).1
    have kp : cel cs p = 2 := of_decide_eq_true (List.mem_filter.mp (List.mem_of_getElem? hp)).2
    obtain ⟨m1, m2, m3⟩ := hP.mem p hpm
    have es : stp cs p = cel cs (p + 1) := if_neg (by omega)
    rw [es] at m2
    have hrow : (rws cs hs)[i]? = some (row cs p) := by
      unfold rws
      rw [List.getElem?_map, hp]
      rfl
    have hiL : i < hs.length := by
      have h1 := List.length_filter_le (isK cs 2) hs
      rw [List.length_map] at hi
      omega
    refine ⟨a, cs, p, rfl, (hC.same t1).same sT, m1, m2, fun l2 H4 s4 hl2 hl4 => ?_⟩
    walk_at "rd"
    have hl2d : l2 ≠ d := fun z => by
      have := (t3.same sT).ex
      obtain ⟨_, z2, _⟩ := this
      rw [z] at hl2
      rw [hl2] at z2
      cases z2
    have hl2l : l2 ≠ l := fun z => by
      have := sT _ _ t2
      rw [z] at hl2
      rw [hl2] at this
      cases this
    refine ⟨l2, _, rfl, SqL.of hl4, for_it (walk_enum) (fun j σ H' => (∃ v4 v5, σ = [some (.ref a), some (.ref d), some (.int (i : Int)), some (vn p), v4, v5]) ∧ Same H H' ∧ H' l = some (.lst ((hs.filter (isK cs 2)).map vn)) ∧ H' l2 = some (.lst ((plc (row cs p)).map vn)) ∧
      TgD H' d (fun n k jj => Own (rws cs hs) n k jj ∧ (k < i ∨ (k = i ∧ jj < j))) (100 * i + j))
      ⟨⟨_, _, rfl⟩, (t1.trans sT).trans s4, s4 _ _ (sT _ _ t2), hl4, ((t3.same sT).same s4).iff (fun n k j => ⟨fun z => ⟨z.1, .inl z.2⟩, fun z => ⟨z.1, z.2.elim id fun y => absurd y.2 (Nat.not_lt_zero _)⟩⟩) (Nat.le_refl _)⟩ (fun j σ H' _ z => SqL.of z.2.2.2.1) ?_ ?_⟩
    · rintro j y σ H5 H6 hj ⟨⟨v4', v5', rfl⟩, u1, u2, u3, u4⟩ ⟨T2, y1, y2, rfl, nT2, rfl, f1, f2⟩
      cases Option.some.inj f1
      obtain ⟨n, hn, rfl⟩ := vn_get f2
      obtain ⟨j1, j2⟩ := plc_get hn
      have sT2 : Same H5 (upd H5 T2 (.tup [.int (j : Int), vn n])) := same_new nT2 _
      refine g_tupT (SqT.of upd_same) rfl ?_
      walk_at "rd"
      refine ⟨(by show 2 ≤ sizeLine; decide), fun t ht => ?_⟩
      have sT3 : Same (upd H5 T2 (.tup [.int (j : Int), vn n])) (upd (upd H5 T2 (.tup [.int (j : Int), vn n])) t (.tup [.int (i : Int), .int (j : Int)])) := same_new ht _
      walk_at "rd"
      have tm := cel_top hC (p + 1)
      have hj100 : j < 100 := by
        have : (row cs p).2 = cel cs (p + 1) - 2 := rfl
        omega
      refine ((u4.same sT2).same sT3).put (n0 := n) (i0 := i) (j0 := j) upd_same (by omega) fun H7 k1 k2 k3 => ?_
      have hlk : ∀ {q : Addr} {o : HO}, q ≠ d → H5 q = some o → H7 q = some o := fun {q o} nq hq => k1 _ _ nq (sT3 _ _ (sT2 _ _ hq))
      refine ⟨⟨_, _, rfl⟩, fun b o hb => ?_, hlk hld u2, hlk hl2d u3, k3.iff (fun n' k' j' => ?_) (by omega)⟩
      · exact hlk (ne_of_none hb hd) (u1 _ _ hb)
      · have hOwn : Own (rws cs hs) n i j := ⟨row cs p, hrow, by omega, by omega, by omega⟩
        constructor
        · rintro (⟨rfl, rfl, rfl⟩ | ⟨z1, z2, z3⟩)
          · exact ⟨hOwn, .inr ⟨rfl, Nat.lt_succ_self _⟩⟩
          · exact ⟨z2, z3.imp id fun y => ⟨y.1, by omega⟩⟩
        · rintro ⟨z1, z2⟩
          by_cases hn' : n' = n
          · subst hn'
            obtain ⟨rfl, rfl⟩ := hP.apart.one z1 hOwn
            exact .inl ⟨rfl, rfl, rfl⟩
          · refine .inr ⟨hn', z1, z2.imp id fun y => ⟨y.1, ?_⟩⟩
            rcases Nat.lt_or_eq_of_le (Nat.lt_succ_iff.mp y.2) with y2 | y2
            · exact y2
            · exfalso
              obtain ⟨r, hr1, hr2, hr3, hr4⟩ := z1
              rw [y.1, hrow] at hr1
              cases hr1
              omega
    · rintro σ H5 ⟨⟨v4', v5', rfl⟩, u1, u2, u3, u4⟩
      refine ⟨⟨_, _, _, _, rfl⟩, u1, u2, u4.iff (fun n k j => ?_) ?_⟩
      · rw [List.length_map, plc_len]
        constructor
        · rintro ⟨z1, z2⟩
          exact ⟨z1, by omega⟩
        · rintro ⟨z1, z2⟩
          refine ⟨z1, ?_⟩
          by_cases hk : k < i
          · exact .inl hk
          · obtain rfl : k = i := by omega
            obtain ⟨r, hr1, hr2, hr3, rfl⟩ := z1
            rw [hrow] at hr1
            cases hr1
            exact .inr ⟨rfl, by omega⟩
      · rw [List.length_map, plc_len]
        have tm := cel_top hC (p + 1)
        have : (row cs p).2 = cel cs (p + 1) - 2 := rfl
        omega
  · rintro σ H' ⟨⟨v2, v3, v4, v5, rfl⟩, t1, t2, t3⟩
    walk_at "rd"
    refine q d H' t1 hd (t3.iff (fun n k j => ⟨fun z => z.1, fun z => ⟨z, ?_⟩⟩) ?_)
    · obtain ⟨r, hr1, _⟩ := z
      rw [List.length_map]
      have := (List.getElem?_eq_some_iff.mp hr1).1
      unfold rws at this
      rw [List.length_map] at this
      exact this
    · rw [List.length_map]
      have h1 := List.length_filter_le (isK cs 2) hs
      omega
end
end Bx

namespace Bx
/-- the first entry that is no place of a cell in data -/
def bad (cs hs : List Nat) (p : Nat) : Bool := !own (rws cs hs) (cel cs p)
def wre (cs hs : List Nat) : Option Nat := (ens cs hs).find? (bad cs hs)
/-- the first wrong place -/
def fwr (cs : List Nat) : Option Nat := match prs 31 cs 0 cs.length 0 with
  | .error p => some p
  | .ok bs => wre cs (hsL bs)
theorem plc_mem {r : Nat × Nat} {n : Nat} (h : n ∈ plc r) : r.1 ≤ n ∧ n < r.1 + r.2 := by
  obtain ⟨j, hj, e⟩ := List.mem_iff_getElem.mp h
  obtain ⟨h1, h2⟩ := plc_get (List.getElem?_eq_getElem hj)
  omega
/-- an entry's place lies in the cells -/
theorem ens_lt {cs hs : List Nat} (x : Pth cs 0 cs.length hs) {p n : Nat} (hp : p ∈ hs) (hk : cel cs p ≠ 1) (hn : n ∈ plc (row cs p)) : n < cs.length := by
  obtain ⟨m1, m2, m3⟩ := x.mem p hp
  have es : stp cs p = cel cs (p + 1) := if_neg hk
  have := plc_mem hn
  have : (row cs p).1 = p + 2 := rfl
  have : (row cs p).2 = cel cs (p + 1) - 2 := rfl
  omega
section
variable {P : Program} {w : World} {K : PySem.W.Frag} {mg : Str → Option Value} {base : Heap}
def spWrongEntry (K : PySem.W.Frag) : Sp := fun vs H Q _ => ∃ (a : Addr) (cs hs : List Nat), vs = [.ref a] ∧ Cells K H a cs ∧ Pth cs 0 cs.length hs ∧ ∀ H', Same H H' → Q (oV (wre cs hs)) H'
theorem ok_wrongEntry {f : Addr} {fd : FuncData} (F : Def K mg "wrong_entry" sWrongEntry f fd) (b : Binds K fd ["cells"] []) (T : Txt mg) (C_dataTargets : Cal P w K mg base 2 "data_targets" (spDataTargets K) []) (C_boxPlaces : Cal P w K mg base 1 "box_places" (spBoxPlaces K) [])
    (C_contentPlaces : Cal P w K mg base 1 "content_places" (spContentPlaces K) []) : Cal P w K mg base 3 "wrong_entry" (spWrongEntry K) [] := by
  refine cal0 F b .nil scWrongEntry (fun vs H Q E h => ?_) (fun cdv A outer s H vs Q E hr h => ?_)
  · obtain ⟨a, cs, hs, rfl, _⟩ := h
    rfl
  obtain ⟨a, cs, hs, rfl, hC, hP, q⟩ := h
  have h30 := hC.len
  have hLs := hP.len
  refine ⟨_, (pss_cons (ps_set (i := 1) scWrongEntry.nd rfl (Or.inl rfl) (pe_c C_dataTargets hr (by decide) rfl (pa_cons (pv 0) pa_nil)))
    (pss_cons (ps_for PassesOwn.never rfl (pi_list (pe_c C_boxPlaces hr (by decide) rfl (pa_cons (pv 0) (pa_cons (pe_gc rfl T.cTABLE) pa_nil)))) (pg_name (i := 2) scWrongEntry.nd rfl (.inl rfl)) 
      (pss_one (ps_for PassesOwn.never rfl (pi_list (pe_c C_contentPlaces hr (by decide) rfl (pa_cons (pv 0) (pa_cons (pv 2) pa_nil)))) (pg_name (i := 3) scWrongEntry.nd rfl (.inl rfl)) 
        (pss_one (ps_if (pt_cmp (pc_dnotin (hu_of hr) (pe_ix ix_seq (pv 0) (pv 3) (fun _ _ => rfl)) (pv 1))) 
          (pss_one (ps_ret (pv 3))) pss_nil)))))
    (pss_one (ps_ret pe_non)))), ?_⟩
  walk_at "rd"
  refine ⟨a, cs, hs, rfl, hC, hP, fun d H1 s1 hd hD => ?_⟩
  walk_at "rd"
  refine ⟨a, cs, hs, 4, rfl, hC.same s1, hP, by omega, fun l H2 s2 hl hl2 => ?_⟩
  have S2 : Same H H2 := s1.trans s2
  walk_at "rd"
  refine ⟨l, rfl, ⟨_, SqL.of hl2⟩, for_it walk_list (fun i σ H' => (∃ v2 v3, σ = [some (.ref a), some (.ref d), v2, v3]) ∧ Same H2 H' ∧ wre cs hs = ((((hs.filter (isK cs 4)).drop i).map fun p => plc (row cs p)).flatten).find? (bad cs hs))
    ⟨⟨_, _, rfl⟩, Same.refl _, rfl⟩ (fun i σ H' _ z => z.2.1.seq (SqL.of hl2)) ?_ ?_⟩
  · rintro i x σ H3 H4 hi ⟨⟨v2, v3, rfl⟩, t1, t2⟩ ⟨rfl, hx⟩
    obtain ⟨p, hp, rfl⟩ := vn_get hx
    walk_at "rd"
    have hpm : p ∈ hs := (List.mem_filter.mp (List.mem_of_getElem? hp)).1
    have kp : cel cs p = 4 := of_decide_eq_true (List.mem_filter.mp (List.mem_of_getElem? hp)).2
    obtain ⟨m1, m2, m3⟩ := hP.mem p hpm
    have es : stp cs p = cel cs (p + 1) := if_neg (by omega)
    rw [es] at m2
    have hiL : i < (hs.filter (isK cs 4)).length := by
      rw [List.length_map] at hi
      exact hi
    have edrop : (hs.filter (isK cs 4)).drop i = p :: (hs.filter (isK cs 4)).drop (i + 1) := by
      rw [List.drop_eq_getElem_cons hiL]
      rw [List.getElem?_eq_getElem hiL] at hp
      rw [Option.some.inj hp]
    rw [edrop, List.map_cons, List.flatten_cons] at t2
    refine ⟨a, cs, p, rfl, hC.same (S2.trans t1), m1, m2, fun l2 H5 s5 hl5 hl25 => ?_⟩
    walk_at "rd"
    refine ⟨l2, rfl, ⟨_, SqL.of hl25⟩, for_it walk_list (fun j σ H' => (∃ v3, σ = [some (.ref a), some (.ref d), some (vn p), v3]) ∧ Same H5 H' ∧ wre cs hs = ((plc (row cs p)).drop j ++ (((hs.filter (isK cs 4)).drop (i + 1)).map fun p => plc (row cs p)).flatten).find? (bad cs hs))
      ⟨⟨_, rfl⟩, Same.refl _, t2⟩ (fun i σ H' _ z => z.2.1.seq (SqL.of hl25)) ?_ ?_⟩
    · rintro j y σ H6 H7 hj ⟨⟨v3', rfl⟩, u1, u2⟩ ⟨rfl, hy⟩
      obtain ⟨n, hn, rfl⟩ := vn_get hy
      have S7 : Same H H7 := ((S2.trans t1).trans s5).trans u1
      have S1 : Same H1 H7 := ((s2.trans t1).trans s5).trans u1
      have hjL : j < (plc (row cs p)).length := by
        rw [List.length_map] at hj
        exact hj
      have edj : (plc (row cs p)).drop j = n :: (plc (row cs p)).drop (j + 1) := by
        rw [List.drop_eq_getElem_cons hjL]
        rw [List.getElem?_eq_getElem hjL] at hn
        rw [Option.some.inj hn]
      rw [edj, List.cons_append, List.find?_cons] at u2
      have hnl : n < cs.length := ens_lt hP hpm (by omega) (List.mem_of_getElem? hn)
      walk_at "rd"
      refine (hC.same S7).ix n rfl hnl ?_
      walk_at "rd"
      cases ho : own (rws cs hs) (cel cs n) with
      | true =>
        obtain ⟨i', j', hO⟩ := own_iff.mp ho
        obtain ⟨t, g1, g2⟩ := (hD.same S1).get hO
        refine ⟨d, _, rfl, g1, ?_⟩
        have hb : bad cs hs n = false := by
          unfold bad
          rw [ho]
          rfl
        rw [hb] at u2
        walk_at "rd"
        exact ⟨⟨_, rfl⟩, u1, u2⟩
      | false =>
        have hno : ∀ i j, ¬ Own (rws cs hs) (cel cs n) i j := fun i j z => by
          rw [own_iff.mpr ⟨i, j, z⟩] at ho
          cases ho
        refine ⟨d, _, rfl, (hD.same S1).none hno, ?_⟩
        have hb : bad cs hs n = true := by
          unfold bad
          rw [ho]
          rfl
        rw [hb] at u2
        walk_at "rd"
        refine iteT ?_
        walk_at "rd"
        have := q H7 S7
        rw [u2] at this
        exact this
    · rintro σ H6 ⟨⟨v3', rfl⟩, u1, u2⟩
      refine ⟨⟨_, _, rfl⟩, (t1.trans s5).trans u1, ?_⟩
      rw [u2, List.length_map, List.drop_length, List.nil_append]
  · rintro σ H3 ⟨⟨v2, v3, rfl⟩, t1, t2⟩
    walk_at "rd"
    have := q H3 (S2.trans t1)
    rw [t2, List.length_map, List.drop_length] at this
    exact this
def spFirstWrong (K : PySem.W.Frag) : Sp := fun vs H Q _ => ∃ (a : Addr) (cs : List Nat), vs = [.ref a] ∧ Cells K H a cs ∧ ∀ H', Same H H' → Q (oV (fwr cs)) H'
theorem ok_firstWrong {f : Addr} {fd : FuncData} (F : Def K mg "first_wrong" sFirstWrong f fd) (b : Binds K fd ["cells"] []) (T : Txt mg) (C_checkCells : Cal P w K mg base 3 "check_cells" (spCheckCells K) []) (C_wrongBox : Cal P w K mg base 32 "wrong_box" (spWrongBox K 31) [])
    (C_wrongEntry : Cal P w K mg base 3 "wrong_entry" (spWrongEntry K) []) : Cal P w K mg base 33 "first_wrong" (spFirstWrong K) [] := by
  refine cal0 F b .nil scFirstWrong (fun vs H Q E h => ?_) (fun cdv A outer s H vs Q E hr h => ?_)
  · obtain ⟨a, cs, rfl, _⟩ := h
    rfl
  obtain ⟨a, cs, rfl, hC, q⟩ := h
  have h30 := hC.len
  refine ⟨_, (pss_cons (ps_expr (pe_c C_checkCells hr (by decide) rfl (pa_cons (pv 0) pa_nil)))
    (pss_cons (ps_set (i := 1) scFirstWrong.nd rfl (Or.inl rfl) (pe_c C_wrongBox hr (by decide) rfl (pa_cons (pv 0) (pa_cons pe_int (pa_cons (pe_callB call_len_seq (by rfl) T.len b_len (pa_cons (pv 0) pa_nil)) (pa_cons pe_int pa_nil))))))
    (pss_cons (ps_if (pt_cmpR op_isN (pv 1) pe_non (nomark _)) 
      (pss_one (ps_set (i := 1) scFirstWrong.nd rfl (Or.inl rfl) (pe_c C_wrongEntry hr (by decide) rfl (pa_cons (pv 0) pa_nil)))) pss_nil)
    (pss_one (ps_ret (pv 1)))))), ?_⟩
  walk_at "rd"
  refine ⟨a, cs, rfl, hC, fun H1 s1 => ?_⟩
  walk_at "rd"
  refine ⟨_, _, rfl, (hC.same s1).sq, ?_⟩
  rw [List.length_map]
  walk_at "rd"
  refine ⟨a, cs, 0, cs.length, 0, 31, rfl, hC.same s1, Nat.le_refl _, by omega, Nat.le_refl _, ?_⟩
  cases e : prs 31 cs 0 cs.length 0 with
  | error p =>
    walk_at "rd"
    refine g_dF int_non ?_
    walk_at "rd"
    have := q H1 s1
    unfold fwr at this
    rw [e] at this
    exact this
  | ok bs =>
    walk_at "rd"
    refine g_dT rfl ?_
    walk_at "rd"
    refine ⟨a, cs, hsL bs, rfl, hC.same s1, prs_pth 31 cs 0 cs.length 0 bs e (by omega) (Nat.zero_le _) (Nat.le_refl _), fun H2 s2 => ?_⟩
    walk_at "rd"
    have := q H2 (s1.trans s2)
    unfold fwr at this
    rw [e] at this
    exact this
end
end Bx

namespace Bx
section
variable {P : Program} {w : World} {K : PySem.W.Frag} {mg : Str → Option Value} {base : Heap}
def spBoxesBetween (K : PySem.W.Frag) (n : Nat) : Sp := fun vs H Q _ => ∃ (a d : Addr) (cs : List Nat) (rs : List (Nat × Nat)) (b e f dp m : Nat) (bs : List Bo), vs = [.ref a, .int b, .int e, .ref d] ∧ Cells K H a cs ∧ TgD H d (Own rs) m ∧ Apart rs ∧
  prs f cs b e dp = .ok bs ∧ e - b < f ∧ f ≤ n ∧ b ≤ e ∧ e ≤ cs.length ∧ Good cs rs (hsL bs) ∧ ∀ v H', Same H H' → Tp K H' v (.tuple (daL true cs rs bs)) → Q v H'
def spBoxAt (K : PySem.W.Frag) (n : Nat) : Sp := fun vs H Q _ => ∃ (a d : Addr) (cs : List Nat) (rs : List (Nat × Nat)) (p e f dp m : Nat) (ks : List Bo), vs = [.ref a, .int p, .ref d] ∧ Cells K H a cs ∧ TgD H d (Own rs) m ∧ Apart rs ∧
  hd cs p e dp = none ∧ p < e ∧ e ≤ cs.length ∧ (if cel cs p = 1 then prs f cs (p + 2) (p + cel cs (p + 1)) (dp + 1) else .ok []) = .ok ks ∧ e - p < f + 1 ∧ f ≤ n ∧ Good cs rs (p :: hsL ks) ∧
  ∀ v H', Same H H' → Tp K H' v (da1 true cs rs (.bx (cel cs p) p (cel cs (p + 1)) ks)) → Q v H'
end
end Bx

namespace Bx
theorem hsL_cons (b : Bo) (r : List Bo) : hsL (b :: r) = hsB b ++ hsL r := by rw [hsL]
theorem daL_true (cs : List Nat) (rs : List (Nat × Nat)) (b : Bo) (r : List Bo) : daL true cs rs (b :: r) = da1 true cs rs b :: daL true cs rs r := by
  rw [daL, if_neg (fun z => Bool.noConfusion z.1)]
section
variable {P : Program} {w : World} {K : PySem.W.Frag} {mg : Str → Option Value} {base : Heap}
end
end Bx

namespace Bx
mutual
def depB : Bo → Nat
  | .bx _ _ _ ks => depL ks + 1
def depL : List Bo → Nat
  | [] => 0
  | b :: r => max (depB b) (depL r)
end
theorem prs_dep : ∀ (f : Nat) (cs : List Nat) (a e dp : Nat) (bs : List Bo), prs f cs a e dp = .ok bs → depL bs ≤ f
  | 0, _, _, _, _, _, h => by
    rw [prs] at h
    cases h
    exact Nat.le_refl _
  | f + 1, cs, a, e, dp, bs, h => by
    rcases prs_ok h with ⟨_, rfl⟩ | ⟨_, _, ks, r, i, j, rfl⟩
    · exact Nat.zero_le _
    · have hr := prs_dep f _ _ _ _ _ j
      rw [depL, depB]
      by_cases g : cel cs a = 1
      · rw [if_pos g] at i
        have hk := prs_dep f _ _ _ _ _ i
        omega
      · rw [if_neg g] at i
        cases i
        have : depL ([] : List Bo) = 0 := rfl
        omega
theorem ne_dg : ¬ V.str (Str.ofString "data") = V.str (Str.ofString "group") := fun h => absurd (V.str.inj h) (by decide +kernel)
theorem ne_fg : ¬ V.str (Str.ofString "free") = V.str (Str.ofString "group") := fun h => absurd (V.str.inj h) (by decide +kernel)
theorem ne_tg : ¬ V.str (Str.ofString "table") = V.str (Str.ofString "group") := fun h => absurd (V.str.inj h) (by decide +kernel)
theorem ne_df : ¬ V.str (Str.ofString "data") = V.str (Str.ofString "free") := fun h => absurd (V.str.inj h) (by decide +kernel)
theorem ne_tf : ¬ V.str (Str.ofString "table") = V.str (Str.ofString "free") := fun h => absurd (V.str.inj h) (by decide +kernel)
theorem ne_dt : ¬ V.str (Str.ofString "data") = V.str (Str.ofString "table") := fun h => absurd (V.str.inj h) (by decide +kernel)
theorem ne_ft : ¬ V.str (Str.ofString "free") = V.str (Str.ofString "table") := fun h => absurd (V.str.inj h) (by decide +kernel)
theorem ne_fd : ¬ V.str (Str.ofString "free") = V.str (Str.ofString "data") := fun h => absurd (V.str.inj h) (by decide +kernel)
theorem ne_td : ¬ V.str (Str.ofString "table") = V.str (Str.ofString "data") := fun h => absurd (V.str.inj h) (by decide +kernel)
theorem daL_false (cs : List Nat) (rs : List (Nat × Nat)) (b : Bo) (r : List Bo) : daL false cs rs (b :: r) = if isF cs b = true then daL false cs rs r else da1 false cs rs b :: daL false cs rs r := by
  rw [daL]
  by_cases h : isF cs b = true
  · rw [if_pos ⟨rfl, h⟩, if_pos h]
  · rw [if_neg (fun z => h z.2), if_neg h]
theorem daL_snoc (cs : List Nat) (rs : List (Nat × Nat)) : ∀ (l : List Bo) (b : Bo), daL false cs rs (l ++ [b]) = daL false cs rs l ++ (if isF cs b = true then [] else [da1 false cs rs b])
  | [], b => by
    rw [List.nil_append, daL_false, daL]
    rfl
  | c :: r, b => by
    rw [List.cons_append, daL_false, daL_false, daL_snoc cs rs r b]
    by_cases h : isF cs c = true
    · rw [if_pos h, if_pos h]
    · rw [if_neg h, if_neg h]
      rfl
theorem daL_get (cs : List Nat) (rs : List (Nat × Nat)) : ∀ (l : List Bo) (i : Nat), (daL true cs rs l)[i]? = (l[i]?).map (da1 true cs rs)
  | [], i => by
    rw [daL]
    rfl
  | b :: r, 0 => by
    rw [daL_true]
    rfl
  | b :: r, i + 1 => by
    rw [daL_true]
    exact daL_get cs rs r i
theorem dep_mem : ∀ (l : List Bo) (b : Bo), b ∈ l → depB b ≤ depL l
  | c :: r, b, h => by
    rw [depL]
    rcases List.mem_cons.mp h with h | h
    · subst h
      omega
    · have := dep_mem r b h
      omega
theorem len_hsL : ∀ bs : List Bo, bs.length ≤ (hsL bs).length
  | [] => Nat.zero_le _
  | .bx _ _ _ _ :: r => by
    have := len_hsL r
    rw [hsL_cons, hsB, List.length_append, List.length_cons, List.length_cons]
    omega
theorem mem_hsL : ∀ (bs : List Bo) (b : Bo), b ∈ bs → (hsB b).length ≤ (hsL bs).length
  | c :: r, b, h => by
    rw [hsL_cons, List.length_append]
    rcases List.mem_cons.mp h with h | h
    · subst h
      omega
    · have := mem_hsL r b h
      omega
section
variable {P : Program} {w : World} {K : PySem.W.Frag} {mg : Str → Option Value} {base : Heap}
def spWithoutFree (K : PySem.W.Frag) (n : Nat) : Sp := fun vs H Q _ => ∃ (v : V) (cs : List Nat) (rs : List (Nat × Nat)) (bs : List Bo), vs = [v] ∧ Tp K H v (.tuple (daL true cs rs bs)) ∧ depL bs < n ∧ (hsL bs).length ≤ 1000 ∧
  (∀ x H', Same H H' → Tp K H' x (.tuple (daL false cs rs bs)) → Q x H')
end
end Bx

namespace Bx
/-- the law's cell of a script -/
def cat (ns : List Int) (k : Nat) : Int := if k < ns.length then ns.getD k 0 else if ns = [] then (k : Int) * 48271 else ((ns.getD (k % ns.length) 0 + (k : Int)) * 48271) % 2147483647
/-- the script -/
structure Scr (K : PySem.W.Frag) (H : Hp) (S : Addr) (ns : List Int) : Prop where
  sq : SqL K H S (ns.map V.int)
  len : ns.length ≤ 63
theorem Scr.same {K : PySem.W.Frag} {H H' : Hp} {S : Addr} {ns : List Int} (x : Scr K H S ns) (e : Same H H') : Scr K H' S ns := ⟨e.seq x.sq, x.len⟩
theorem Scr.samex {L : List Addr} {K : PySem.W.Frag} {H H' : Hp} {S : Addr} {ns : List Int} (x : Scr K H S ns) (e : SameX L H H') (n : S ∉ L) : Scr K H' S ns := ⟨e.seq n x.sq, x.len⟩
theorem int_get {ns : List Int} {i : Nat} (h : i < ns.length) : (ns.map V.int)[i]? = some (.int (ns.getD i 0)) := by
  rw [List.getElem?_map, List.getElem?_eq_getElem h, List.getD_eq_getElem?_getD, List.getElem?_eq_getElem h]
  rfl
section
variable {P : Program} {w : World} {K : PySem.W.Frag} {mg : Str → Option Value} {base : Heap}
def spCellAt (K : PySem.W.Frag) : Sp := fun vs H Q _ => ∃ (S : Addr) (ns : List Int) (k : Nat), vs = [.ref S, .int k] ∧ Scr K H S ns ∧ k ≤ 100000 ∧ ∀ H', Same H H' → Q (.int (cat ns k)) H'
/-- row[int(cell) % len(row)] -/
def spPick (K : PySem.W.Frag) : Sp := fun vs H Q _ => ∃ (S R : Addr) (ns : List Int) (k : Nat) (xs : List V), vs = [.ref S, .int k, .ref R] ∧ Scr K H S ns ∧ k ≤ 100000 ∧ SqL K H R xs ∧ 0 < xs.length ∧
  ∀ H' j v, Same H H' → j = (cat ns k % (xs.length : Int)).toNat → xs[j]? = some v → Q v H'
end
end Bx

namespace Bx
def Ge (K : PySem.W.Frag) (te : TE) (d : PyData) : Prop := ∀ (σ : L2.St) (H : Hp) (Q : VK), (∀ v H', Same H H' → Tp K H' v d → Q v H') → te σ H Q
def Gv (K : PySem.W.Frag) (ta : TA) (ds : List PyData) : Prop := ∀ (σ : L2.St) (H : Hp) (Q : List V → Hp → Prop), (∀ vs H', Same H H' → TpAll K H' vs ds → Q vs H') → ta σ H Q
section
variable {K : PySem.W.Frag} {te : TE} {ta tr : TA} {d : PyData} {ds : List PyData}
theorem Ge.str (x : Str) : Ge K (tC (.str x)) (.str x) := fun _ H _ q => q _ H (Same.refl H) (.str x)
theorem Ge.int (x : Int) : Ge K (tC (.int x)) (.int x) := fun _ H _ q => q _ H (Same.refl H) (.int x)
theorem Gv.nil : Gv K tNil [] := fun _ H _ q => q _ H (Same.refl H) .nil
theorem Gv.cons (h1 : Ge K te d) (h2 : Gv K tr ds) : Gv K (tCons te tr) (d :: ds) := fun σ H Q q => h1 σ H _ fun v H1 s1 t1 => h2 σ H1 _ fun vs H2 s2 t2 => q _ H2 (s1.trans s2) (.cons (t1.same s2) t2)
theorem Ge.tup (h : Gv K ta ds) (hz : ds.length ≤ 1000) : Ge K (tTup ta) (.tuple ds) := fun σ H Q q => h σ H _ fun vs H1 s1 t1 => ⟨by rw [t1.length]; exact small hz, fun p hp => q _ _ (s1.trans (same_new hp _)) (.tup upd_same (t1.same (same_new hp _)))⟩
theorem Gv.lst {σ : L2.St} {H : Hp} {Q : VK} (h : Gv K ta ds) (hz : ds.length ≤ 1000) (q : ∀ l vs H', Same H H' → H l = none → H' l = some (.lst vs) → TpAll K H' vs ds → Q (.ref l) H') : tLst ta σ H Q := h σ H _ fun vs H1 s1 t1 => ⟨by rw [t1.length]; exact small hz, fun p hp =>
  q p vs _ (s1.trans (same_new hp _)) (s1.free hp) upd_same (t1.same (same_new hp _))⟩
end
/-- how boxes stand -/
inductive Kd where
  | D | T | G (ks : List Kd)
mutual
def kd1 : Kd → PyData
  | .D => .str "D"
  | .T => .str "T"
  | .G ks => .tuple (kdL ks)
def kdL : List Kd → List PyData
  | [] => []
  | k :: r => kd1 k :: kdL r
end
def kinds1 : List (List Kd) := [[.D], [.D, .T], [.T, .D], [.G [.D], .T], [.D, .G [.T]], [.G [.D, .T]], [.D, .D, .T]]
def kinds2 : List (List Kd) := [[.T, .G [.D], .D], [.G [.G [.D]], .T], [.D, .G []], [.T, .D, .T], [.G [.T, .G [.D]], .D]]
def kdT (l : List (List Kd)) : List PyData := l.map fun ks => .tuple (kdL ks)
section
variable {X : Cx} {k j : Nat} {x : Str} {sp : Sp} {dvs : List V} {p pos : Pos}
theorem pe_c0 (c : Cal X.prog X.w X.K X.mg X.base k x sp dvs) (hr : Room j X.A) (hk : k ≤ j) (hg : Gl X x) (hdb : (x == ("__debug__" : Str)) = false := by decide) : PE X (.Call (.Name x p) [] [] pos) (tCall sp dvs C8.E0 tNil) := by
  obtain ⟨f, fd, ps, ds, F, hm, kp, b, d⟩ := c.ex
  exact pe_call0 F (hr.mono hk) hg hm kp b d C8.pass0 hdb
end
section
variable {P : Program} {w : World} {K : PySem.W.Frag} {mg : Str → Option Value} {base : Heap}
def spKinds (K : PySem.W.Frag) : Sp := fun vs H Q _ => vs = [] ∧ ∀ l xs H', Same H H' → H l = none → H' l = some (.lst xs) → TpAll K H' xs (kdT (kinds1 ++ kinds2)) → Q (.ref l) H'
end
end Bx

namespace Bx
theorem sum_cast : ∀ l : List Nat, (l.map (fun (n : Nat) => (n : Int))).sum = ((l.sum : Nat) : Int)
  | [] => rfl
  | n :: r => by
    rw [List.map_cons, List.sum_cons, List.sum_cons, sum_cast r, Int.natCast_add]
theorem g_sumN {K : PySem.W.Frag} {H : Hp} {Q : VK} {a : Addr} {l : List Nat} (h : SqL K H a (l.map vn)) (q : Q (.int ((l.sum : Nat) : Int)) H) : rSum K [.ref a] H Q := by
  refine ⟨a, l.map (fun (n : Nat) => (n : Int)), rfl, ?_, ?_⟩
  · rw [List.map_map]
    exact h
  · rw [sum_cast]
    exact q
mutual
def cnt1 : Kd → Nat
  | .D => 1
  | .T => 0
  | .G ks => cntL ks
def cntL : List Kd → Nat
  | [] => 0
  | k :: r => cnt1 k + cntL r
end
mutual
def dpk1 : Kd → Nat
  | .D => 0
  | .T => 0
  | .G ks => dpkL ks + 1
def dpkL : List Kd → Nat
  | [] => 0
  | k :: r => max (dpk1 k) (dpkL r)
end
mutual
def szk1 : Kd → Nat
  | .D => 1
  | .T => 1
  | .G ks => szkL ks + 1
def szkL : List Kd → Nat
  | [] => 0
  | k :: r => szk1 k + szkL r
end
theorem szk_len : ∀ l : List Kd, l.length ≤ szkL l
  | [] => Nat.le_refl _
  | k :: r => by
    have := szk_len r
    have : 1 ≤ szk1 k := by cases k <;> simp [szk1]
    rw [szkL, List.length_cons]
    omega
theorem szk_mem : ∀ (l : List Kd) (k : Kd), k ∈ l → szk1 k ≤ szkL l
  | c :: r, k, h => by
    rw [szkL]
    rcases List.mem_cons.mp h with h | h
    · subst h
      omega
    · have := szk_mem r k h
      omega
theorem dpk_mem : ∀ (l : List Kd) (k : Kd), k ∈ l → dpk1 k ≤ dpkL l
  | c :: r, k, h => by
    rw [dpkL]
    rcases List.mem_cons.mp h with h | h
    · subst h
      omega
    · have := dpk_mem r k h
      omega
theorem cntL_sum : ∀ l : List Kd, (l.map cnt1).sum = cntL l
  | [] => rfl
  | k :: r => by
    rw [List.map_cons, List.sum_cons, cntL, cntL_sum r]
theorem kdL_map : ∀ l : List Kd, kdL l = l.map kd1
  | [] => rfl
  | k :: r => by
    rw [kdL, kdL_map r]
    rfl
theorem ne_TD : ¬ V.str (Str.ofString "T") = V.str (Str.ofString "D") := fun h => absurd (V.str.inj h) (by decide +kernel)
section
variable {P : Program} {w : World} {K : PySem.W.Frag} {mg : Str → Option Value} {base : Heap}
def spCount (K : PySem.W.Frag) (n : Nat) : Sp := fun vs H Q _ => ∃ (v : V) (ks : List Kd), vs = [v] ∧ Tp K H v (.tuple (kdL ks)) ∧ dpkL ks < n ∧ szkL ks ≤ 1000 ∧ ∀ H', Same H H' → Q (.int ((cntL ks : Nat) : Int)) H'
end
end Bx

namespace Bx
inductive Sh where
  | dat (cs : List Nat) | tab (ts : List (Nat × Nat)) | grp (ks : List Sh)
def pr (t : Nat × Nat) : PyData := .tuple [.int (t.1 : Int), .int (t.2 : Int)]
mutual
def sh1 : Sh → PyData
  | .dat cs => .tuple [.str "data", .tuple (cs.map pn)]
  | .tab ts => .tuple [.str "table", .tuple (ts.map pr)]
  | .grp ks => .tuple [.str "group", .tuple (shL ks)]
def shL : List Sh → List PyData
  | [] => []
  | s :: r => sh1 s :: shL r
end
mutual
/-- the box s stands as k says; data boxes from number i on, up to i' -/
def fit1 (szs : List Nat) : Kd → Sh → Nat → Nat → Prop
  | .D, .dat c, i, i' => i' = i + 1 ∧ szs[i]? = some c.length ∧ ∀ x ∈ c, x < 7
  | .T, .tab ts, i, i' => i' = i ∧ ts.length ≤ 2 ∧ ∀ t ∈ ts, ∃ m, szs[t.1]? = some m ∧ t.2 < m
  | .G ks, .grp ss, i, i' => fitL szs ks ss i i'
  | .D, .tab _, _, _ => False
  | .D, .grp _, _, _ => False
  | .T, .dat _, _, _ => False
  | .T, .grp _, _, _ => False
  | .G _, .dat _, _, _ => False
  | .G _, .tab _, _, _ => False
def fitL (szs : List Nat) : List Kd → List Sh → Nat → Nat → Prop
  | [], [], i, i' => i' = i
  | k :: r, s :: q, i, i' => ∃ j, fit1 szs k s i j ∧ fitL szs r q j i'
  | [], _ :: _, _, _ => False
  | _ :: _, [], _, _ => False
end
theorem fitL_snoc (szs : List Nat) : ∀ (ks : List Kd) (ss : List Sh) (k : Kd) (s : Sh) (i j i' : Nat), fitL szs ks ss i j → fit1 szs k s j i' → fitL szs (ks ++ [k]) (ss ++ [s]) i i'
  | [], [], k, s, i, j, i', h1, h2 => by
    rw [fitL] at h1
    subst h1
    rw [List.nil_append, List.nil_append, fitL]
    exact ⟨i', h2, by rw [fitL]⟩
  | k0 :: r, s0 :: q, k, s, i, j, i', h1, h2 => by
    rw [fitL] at h1
    obtain ⟨m, a, b⟩ := h1
    rw [List.cons_append, List.cons_append, fitL]
    exact ⟨m, a, fitL_snoc szs r q k s m j i' b h2⟩
  | [], _ :: _, _, _, _, _, _, h1, _ => by
    rw [fitL] at h1
    exact h1.elim
  | _ :: _, [], _, _, _, _, _, h1, _ => by
    rw [fitL] at h1
    exact h1.elim
theorem shL_map : ∀ l : List Sh, shL l = l.map sh1
  | [] => rfl
  | k :: r => by
    rw [shL, shL_map r]
    rfl
theorem cntL_append : ∀ a b : List Kd, cntL (a ++ b) = cntL a + cntL b
  | [], b => by
    rw [List.nil_append, cntL]
    omega
  | k :: r, b => by
    rw [List.cons_append, cntL, cntL, cntL_append r b]
    omega
theorem szkL_append : ∀ a b : List Kd, szkL (a ++ b) = szkL a + szkL b
  | [], b => by
    rw [List.nil_append, szkL]
    omega
  | k :: r, b => by
    rw [List.cons_append, szkL, szkL, szkL_append r b]
    omega
theorem take_snoc {α : Type} {l : List α} {i : Nat} {x : α} (h : l[i]? = some x) : l.take (i + 1) = l.take i ++ [x] := by
  rw [List.take_add_one, h]
  rfl
theorem cnt_take {ks : List Kd} {i : Nat} {k : Kd} (h : ks[i]? = some k) : cntL (ks.take (i + 1)) = cntL (ks.take i) + cnt1 k ∧ cntL (ks.take i) + cnt1 k ≤ cntL ks := by
  have e : cntL (ks.take (i + 1)) = cntL (ks.take i) + cnt1 k := by
    rw [take_snoc h, cntL_append, cntL, cntL]
    omega
  have e2 := cntL_append (ks.take (i + 1)) (ks.drop (i + 1))
  rw [List.take_append_drop] at e2
  omega
theorem szk_take {ks : List Kd} {i : Nat} {k : Kd} (h : ks[i]? = some k) : szkL (ks.take (i + 1)) = szkL (ks.take i) + szk1 k ∧ szkL (ks.take i) + szk1 k ≤ szkL ks := by
  have e : szkL (ks.take (i + 1)) = szkL (ks.take i) + szk1 k := by
    rw [take_snoc h, szkL_append, szkL, szkL]
    omega
  have e2 := szkL_append (ks.take (i + 1)) (ks.drop (i + 1))
  rw [List.take_append_drop] at e2
  omega
/-- all targets in data boxes of such sizes -/
def allT (szs : List Nat) : List (Nat × Nat) := ((List.range szs.length).map fun i => (List.range (szs.getD i 0)).map fun j => (i, j)).flatten
def allTo (szs : List Nat) (n : Nat) : List (Nat × Nat) := ((List.range n).map fun i => (List.range (szs.getD i 0)).map fun j => (i, j)).flatten
theorem allTo_succ (szs : List Nat) (n : Nat) : allTo szs (n + 1) = allTo szs n ++ (List.range (szs.getD n 0)).map fun j => (n, j) := by
  unfold allTo
  rw [List.range_succ, List.map_append, List.flatten_append]
  simp
theorem allTo_mem {szs : List Nat} {n : Nat} {t : Nat × Nat} (h : t ∈ allTo szs n) (hn : n ≤ szs.length) : ∃ m, szs[t.1]? = some m ∧ t.2 < m := by
  unfold allTo at h
  obtain ⟨l, hl, ht⟩ := List.mem_flatten.mp h
  obtain ⟨i, hi, rfl⟩ := List.mem_map.mp hl
  obtain ⟨j, hj, rfl⟩ := List.mem_map.mp ht
  have hi' : i < szs.length := Nat.lt_of_lt_of_le (List.mem_range.mp hi) hn
  refine ⟨szs[i], List.getElem?_eq_getElem hi', ?_⟩
  have := List.mem_range.mp hj
  rw [List.getD_eq_getElem?_getD, List.getElem?_eq_getElem hi'] at this
  exact this
theorem allTo_len {szs : List Nat} (h3 : ∀ x ∈ szs, x ≤ 3) : ∀ n : Nat, n ≤ szs.length → (allTo szs n).length ≤ 3 * n
  | 0, _ => Nat.le_refl _
  | n + 1, h => by
    have ih := allTo_len h3 n (by omega)
    rw [allTo_succ, List.length_append, List.length_map, List.length_range]
    have hn : n < szs.length := by omega
    have : szs.getD n 0 ≤ 3 := by
      rw [List.getD_eq_getElem?_getD, List.getElem?_eq_getElem hn]
      exact h3 _ (List.getElem_mem hn)
    omega
theorem lay_prs : ∀ l : List (Nat × Nat), PyData.canLayAll0 (l.map pr) = true
  | [] => rfl
  | n :: r => by
    rw [List.map_cons, PyData.canLayAll0, lay_prs r]
    rfl
theorem depth_prs : ∀ l : List (Nat × Nat), PyData.depthAll (l.map pr) ≤ 1
  | [] => Nat.zero_le _
  | n :: r => by
    have ih := depth_prs r
    rw [List.map_cons, PyData.depthAll]
    have : (pr n).depth = 1 := rfl
    omega
theorem shaped_prs (l : List (Nat × Nat)) : SeqAt.shaped (.list (l.map pr)) = true := by
  unfold SeqAt.shaped
  have h1 : PyData.canLay0 (.list (l.map pr)) = true := by rw [PyData.canLay0]; exact lay_prs l
  have h2 : PyData.depth (.list (l.map pr)) ≤ 64 := by
    rw [PyData.depth]
    have := depth_prs l
    omega
  rw [h1, decide_eq_true h2]
  rfl
end Bx

namespace Bx
section
variable {P : Program} {w : World} {K : PySem.W.Frag} {mg : Str → Option Value} {base : Heap}
def spMade (K : PySem.W.Frag) (n : Nat) : Sp := fun vs H Q _ => ∃ (S Z TK : Addr) (ns : List Int) (at_ i0 j0 : Nat) (v : V) (ks : List Kd) (szs : List Nat), vs = [.ref S, .int at_, v, .ref Z, .ref TK] ∧ Scr K H S ns ∧ at_ ≤ 1000 ∧ Tp K H v (.tuple (kdL ks)) ∧ dpkL ks < n ∧ szkL ks + j0 ≤ 100 ∧
  H Z = some (.lst (szs.map vn)) ∧ H TK = some (.lst [.int (i0 : Int), .int (j0 : Int)]) ∧ Z ≠ TK ∧ (∀ H', SameX [TK] H H' → Scr K H' S ns) ∧ szs.length ≤ 10 ∧ (∀ x ∈ szs, x ≤ 3) ∧ i0 + cntL ks ≤ szs.length ∧
  ∀ (v' : V) (H' : Hp) (i' j' : Nat) (ss : List Sh), SameX [TK] H H' → H' TK = some (.lst [.int (i' : Int), .int (j' : Int)]) → fitL szs ks ss i0 i' → i' = i0 + cntL ks → j' ≤ j0 + szkL ks → Tp K H' v' (.tuple (shL ss)) → Q v' H'
end
end Bx

namespace Bx
theorem same_of_x {H H1 H2 : Hp} {a : Addr} (s : Same H H1) (ha : H a = none) (e : SameX [a] H1 H2) : Same H H2 := fun b o h => e b o (nin (ne_of_none h ha)) (s b o h)
mutual
def gp1 : Sh → Nat
  | .dat _ => 1
  | .tab _ => 1
  | .grp ks => 1 + gpL ks
def gpL : List Sh → Nat
  | [] => 1
  | s :: r => gp1 s + gpL r
end
mutual
def ln1 : Sh → Nat
  | .dat c => 2 + c.length
  | .tab t => 2 + t.length
  | .grp ks => 2 + lnL ks
def lnL : List Sh → Nat
  | [] => 0
  | s :: r => ln1 s + lnL r
end
mutual
def dps1 : Sh → Nat
  | .dat _ => 0
  | .tab _ => 0
  | .grp ks => dpsL ks + 1
def dpsL : List Sh → Nat
  | [] => 0
  | s :: r => max (dps1 s) (dpsL r)
end
theorem gpL_sum : ∀ l : List Sh, gpL l = 1 + (l.map gp1).sum
  | [] => rfl
  | k :: r => by
    rw [List.map_cons, List.sum_cons, gpL, gpL_sum r]
    omega
theorem lnL_sum : ∀ l : List Sh, lnL l = (l.map ln1).sum
  | [] => rfl
  | k :: r => by
    rw [List.map_cons, List.sum_cons, lnL, lnL_sum r]
theorem ln_two (s : Sh) : 2 ≤ ln1 s := by
  cases s <;> rw [ln1] <;> omega
theorem lnL_len : ∀ l : List Sh, 2 * l.length ≤ lnL l
  | [] => Nat.le_refl _
  | k :: r => by
    have := lnL_len r
    have := ln_two k
    rw [lnL, List.length_cons]
    omega
theorem lnL_mem : ∀ (l : List Sh) (k : Sh), k ∈ l → ln1 k ≤ lnL l
  | c :: r, k, h => by
    rw [lnL]
    rcases List.mem_cons.mp h with h | h
    · subst h
      omega
    · have := lnL_mem r k h
      omega
theorem dps_mem : ∀ (l : List Sh) (k : Sh), k ∈ l → dps1 k ≤ dpsL l
  | c :: r, k, h => by
    rw [dpsL]
    rcases List.mem_cons.mp h with h | h
    · subst h
      omega
    · have := dps_mem r k h
      omega
mutual
theorem fit_ln (szs : List Nat) (h3 : ∀ x ∈ szs, x ≤ 3) : ∀ (k : Kd) (s : Sh) (i i' : Nat), fit1 szs k s i i' → ln1 s ≤ 5 * szk1 k ∧ dps1 s = dpk1 k ∧ i' = i + cnt1 k
  | .D, .dat c, i, i', h => by
    rw [fit1] at h
    have := h3 _ (List.mem_of_getElem? h.2.1)
    rw [ln1, szk1, dps1, dpk1, cnt1]
    omega
  | .T, .tab t, i, i', h => by
    rw [fit1] at h
    rw [ln1, szk1, dps1, dpk1, cnt1]
    omega
  | .G ks, .grp ss, i, i', h => by
    rw [fit1] at h
    have := fitL_ln szs h3 ks ss i i' h
    rw [ln1, szk1, dps1, dpk1, cnt1]
    omega
  | .D, .tab _, _, _, h => by rw [fit1] at h; exact h.elim
  | .D, .grp _, _, _, h => by rw [fit1] at h; exact h.elim
  | .T, .dat _, _, _, h => by rw [fit1] at h; exact h.elim
  | .T, .grp _, _, _, h => by rw [fit1] at h; exact h.elim
  | .G _, .dat _, _, _, h => by rw [fit1] at h; exact h.elim
  | .G _, .tab _, _, _, h => by rw [fit1] at h; exact h.elim
theorem fitL_ln (szs : List Nat) (h3 : ∀ x ∈ szs, x ≤ 3) : ∀ (ks : List Kd) (ss : List Sh) (i i' : Nat), fitL szs ks ss i i' → lnL ss ≤ 5 * szkL ks ∧ dpsL ss = dpkL ks ∧ i' = i + cntL ks
  | [], [], i, i', h => by
    rw [fitL] at h
    rw [lnL, szkL, dpsL, dpkL, cntL]
    omega
  | k :: r, s :: q, i, i', h => by
    rw [fitL] at h
    obtain ⟨j, a, b⟩ := h
    have := fit_ln szs h3 k s i j a
    have := fitL_ln szs h3 r q j i' b
    rw [lnL, szkL, dpsL, dpkL, cntL]
    omega
  | [], _ :: _, _, _, h => by rw [fitL] at h; exact h.elim
  | _ :: _, [], _, _, h => by rw [fitL] at h; exact h.elim
end
section
variable {P : Program} {w : World} {K : PySem.W.Frag} {mg : Str → Option Value} {base : Heap}
def spShape (K : PySem.W.Frag) : Sp := fun vs H Q _ => ∃ (S : Addr) (ns : List Int) (at_ : Nat) (v : V) (ks : List Kd), vs = [.ref S, .int at_, v] ∧ Scr K H S ns ∧ at_ ≤ 900 ∧ Tp K H v (.tuple (kdL ks)) ∧ dpkL ks < 10 ∧ szkL ks ≤ 100 ∧ cntL ks ≤ 10 ∧
  ∀ (v' : V) (H' : Hp) (ss : List Sh) (szs : List Nat), Same H H' → szs.length = cntL ks → (∀ x ∈ szs, x ≤ 3) → fitL szs ks ss 0 (cntL ks) → Tp K H' v' (.tuple (shL ss)) → Q v' H'
end
end Bx

namespace Bx
section
variable {P : Program} {w : World} {K : PySem.W.Frag} {mg : Str → Option Value} {base : Heap}
def spGapsIn (K : PySem.W.Frag) (n : Nat) : Sp := fun vs H Q _ => ∃ (v : V) (ss : List Sh), vs = [v] ∧ Tp K H v (.tuple (shL ss)) ∧ dpsL ss < n ∧ lnL ss ≤ 1000 ∧ ∀ H', Same H H' → Q (.int ((gpL ss : Nat) : Int)) H'
def spLength (K : PySem.W.Frag) (n : Nat) : Sp := fun vs H Q _ => ∃ (v : V) (ss : List Sh), vs = [v] ∧ Tp K H v (.tuple (shL ss)) ∧ dpsL ss < n ∧ lnL ss ≤ 1000 ∧ ∀ H', Same H H' → Q (.int ((lnL ss : Nat) : Int)) H'
def mnu : List Nat := [0, 0, 2, 3, 0, 4, 0, 2]
theorem mnu_get (j : Nat) (h : j < 8) : ∃ g, (mnu.map vn)[j]? = some (vn g) ∧ g ≤ 4 ∧ (g = 0 ∨ 2 ≤ g) := by
  match j, h with
  | 0, _ => exact ⟨0, rfl, by omega, by omega⟩
  | 1, _ => exact ⟨0, rfl, by omega, by omega⟩
  | 2, _ => exact ⟨2, rfl, by omega, by omega⟩
  | 3, _ => exact ⟨3, rfl, by omega, by omega⟩
  | 4, _ => exact ⟨0, rfl, by omega, by omega⟩
  | 5, _ => exact ⟨4, rfl, by omega, by omega⟩
  | 6, _ => exact ⟨0, rfl, by omega, by omega⟩
  | 7, _ => exact ⟨2, rfl, by omega, by omega⟩
theorem sum_snoc (l : List Nat) (x : Nat) : (l ++ [x]).sum = l.sum + x := by
  rw [List.sum_append, List.sum_cons, List.sum_nil, Nat.add_zero]
def spGaps (K : PySem.W.Frag) : Sp := fun vs H Q _ => ∃ (S : Addr) (ns : List Int) (at_ many spare : Nat), vs = [.ref S, .int at_, .int many, .int spare] ∧ Scr K H S ns ∧ at_ ≤ 1000 ∧ many ≤ 100 ∧
  ∀ (a : Addr) (H' : Hp) (gs : List Nat), Same H H' → SqT K H' a (gs.map vn) → gs.length = many → gs.sum ≤ spare → (∀ g ∈ gs, g = 0 ∨ 2 ≤ g) → Q (.ref a) H'
end
end Bx

namespace Bx
inductive Tok where
  | gap | cell (n : Nat) | length | close | dat (c : Nat) | ent (t : Nat × Nat) | fin (d : Bool)
def tkd : Tok → PyData
  | .gap => .tuple [.str "gap", .none]
  | .cell n => .tuple [.str "cell", .int (n : Int)]
  | .length => .tuple [.str "length", .none]
  | .close => .tuple [.str "close", .none]
  | .dat c => .tuple [.str "data", .int (c : Int)]
  | .ent t => .tuple [.str "entry", pr t]
  | .fin true => .tuple [.str "end", .str "data"]
  | .fin false => .tuple [.str "end", .str "table"]
mutual
def tk1 : Sh → List Tok
  | .dat c => [.gap, .cell 2, .cell (2 + c.length)] ++ c.map .dat ++ [.fin true]
  | .tab t => [.gap, .cell 4, .cell (2 + t.length)] ++ t.map .ent ++ [.fin false]
  | .grp ks => [.gap, .cell 1, .length] ++ tkL ks ++ [.close]
def tkL : List Sh → List Tok
  | [] => [.gap]
  | s :: r => tk1 s ++ tkL r
end
theorem tkL_flat : ∀ l : List Sh, tkL l = (l.map tk1).flatten ++ [.gap]
  | [] => rfl
  | k :: r => by
    rw [tkL, tkL_flat r, List.map_cons, List.flatten_cons, List.append_assoc]
mutual
theorem tk_len : ∀ s : Sh, (tk1 s).length ≤ 3 * ln1 s
  | .dat c => by
    rw [tk1, ln1]
    simp only [List.length_append, List.length_cons, List.length_nil, List.length_map]
    omega
  | .tab c => by
    rw [tk1, ln1]
    simp only [List.length_append, List.length_cons, List.length_nil, List.length_map]
    omega
  | .grp ks => by
    have := tkL_len ks
    rw [tk1, ln1]
    simp only [List.length_append, List.length_cons, List.length_nil]
    omega
theorem tkL_len : ∀ l : List Sh, (tkL l).length ≤ 3 * lnL l + 1
  | [] => Nat.le_refl _
  | s :: r => by
    have := tk_len s
    have := tkL_len r
    rw [tkL, lnL, List.length_append]
    omega
end
theorem flat_len (l : List Sh) : ((l.map tk1).flatten).length ≤ 3 * lnL l := by
  have := tkL_len l
  rw [tkL_flat, List.length_append, List.length_singleton] at this
  omega
theorem lnL_append : ∀ a b : List Sh, lnL (a ++ b) = lnL a + lnL b
  | [], b => by
    rw [List.nil_append, lnL]
    omega
  | k :: r, b => by
    rw [List.cons_append, lnL, lnL, lnL_append r b]
    omega
theorem lnL_take {l : List Sh} {i : Nat} : lnL (l.take i) ≤ lnL l := by
  have e2 := lnL_append (l.take i) (l.drop i)
  rw [List.take_append_drop] at e2
  omega
theorem tk_take {ss : List Sh} {i : Nat} {s : Sh} (h : ss[i]? = some s) : ((((ss.take (i + 1)).map tk1).flatten).length) = (((ss.take i).map tk1).flatten).length + (tk1 s).length := by
  rw [take_snoc h, List.map_append, List.flatten_append, List.length_append]
  show _ + ([tk1 s].flatten).length = _
  rw [List.flatten_cons, List.flatten_nil, List.append_nil]
theorem Ge.non {K : PySem.W.Frag} : Ge K (tC .non) .none := fun _ H _ q => q _ H (Same.refl H) .non
section
variable {P : Program} {w : World} {K : PySem.W.Frag} {mg : Str → Option Value} {base : Heap}
def spTokens (K : PySem.W.Frag) (n : Nat) : Sp := fun vs H Q _ => ∃ (v : V) (ss : List Sh), vs = [v] ∧ Tp K H v (.tuple (shL ss)) ∧ dpsL ss < n ∧ lnL ss ≤ 100 ∧ ∀ l xs H', Same H H' → H l = none → H' l = some (.lst xs) → TpAll K H' xs ((tkL ss).map tkd) → Q (.ref l) H'
end
end Bx

namespace Bx
structure Kst where
  m : Nat → Option Nat
  pl : Nat
  rest : List Nat
  op : List Nat
  en : List (Nat × (Nat × Nat))
  tg : Nat × Nat → Option Nat
  num : Nat
  off : Nat
def putM (m : Nat → Option Nat) (k v : Nat) : Nat → Option Nat := fun n => if n = k then some v else m n
/-- the first j cells of a free box of s cells at p -/
def fillG (bef : List Nat) (m : Nat → Option Nat) (p s j : Nat) : Nat → Option Nat := fun n => if p ≤ n ∧ n < p + j then some (if n = p then 3 else if n = p + 1 then s else bef.getD n 0) else m n
def stp1 (bef : List Nat) (k : Kst) : Tok → Option Kst
  | .gap => match k.rest with
    | [] => none
    | s :: r => some { k with m := fillG bef k.m k.pl s s, pl := k.pl + s, rest := r }
  | .close => some { k with m := putM k.m (k.op.getLastD 0) (k.pl - k.op.getLastD 0 + 1), op := k.op.dropLast }
  | .fin d => some { k with num := k.num + (if d = true then 1 else 0), off := 0 }
  | .length => some { k with op := k.op ++ [k.pl], pl := k.pl + 1 }
  | .ent t => some { k with en := k.en ++ [(k.pl, t)], pl := k.pl + 1 }
  | .dat c => some { k with tg := fun t => if t = (k.num, k.off) then some k.pl else k.tg t, off := k.off + 1, m := putM k.m k.pl c, pl := k.pl + 1 }
  | .cell n => some { k with m := putM k.m k.pl n, pl := k.pl + 1 }
def runK (bef : List Nat) : List Tok → Kst → Kst
  | [], k => k
  | t :: r, k => match stp1 bef k t with
    | none => k
    | some k' => runK bef r k'
def finM (tg : Nat × Nat → Option Nat) : List (Nat × (Nat × Nat)) → (Nat → Option Nat) → (Nat → Option Nat)
  | [], m => m
  | e :: r, m => finM tg r (match tg e.2 with
    | some v => putM m e.1 v
    | none => m)
def kn0 (gs : List Nat) : Kst := ⟨fun _ => none, 0, gs, [], [], fun _ => none, 0, 0⟩
def knR (bef : List Nat) (ss : List Sh) (gs : List Nat) : Kst := runK bef (tkL ss) (kn0 gs)
def knM (bef : List Nat) (ss : List Sh) (gs : List Nat) : Nat → Option Nat := finM (knR bef ss gs).tg (knR bef ss gs).en (knR bef ss gs).m
/-- groups are opened and closed -/
def okT : List Tok → Nat → Prop
  | [], _ => True
  | .close :: r, d => 0 < d ∧ okT r (d - 1)
  | .length :: r, d => okT r (d + 1)
  | .gap :: r, d => okT r d
  | .cell _ :: r, d => okT r d
  | .dat _ :: r, d => okT r d
  | .ent _ :: r, d => okT r d
  | .fin _ :: r, d => okT r d
theorem okT_dats : ∀ (l : List Nat) (r : List Tok) (d : Nat), okT r d → okT (l.map Tok.dat ++ r) d
  | [], _, _, h => h
  | c :: l, r, d, h => by
    rw [List.map_cons, List.cons_append, okT]
    exact okT_dats l r d h
theorem okT_ents : ∀ (l : List (Nat × Nat)) (r : List Tok) (d : Nat), okT r d → okT (l.map Tok.ent ++ r) d
  | [], _, _, h => h
  | c :: l, r, d, h => by
    rw [List.map_cons, List.cons_append, okT]
    exact okT_ents l r d h
mutual
theorem okT_1 : ∀ (s : Sh) (r : List Tok) (d : Nat), okT r d → okT (tk1 s ++ r) d
  | .dat c, r, d, h => by
    rw [tk1, List.append_assoc, List.append_assoc]
    show okT (Tok.gap :: Tok.cell 2 :: Tok.cell (2 + c.length) :: (c.map Tok.dat ++ (Tok.fin true :: r))) d
    rw [okT, okT, okT]
    exact okT_dats c _ d (by rw [okT]; exact h)
  | .tab c, r, d, h => by
    rw [tk1, List.append_assoc, List.append_assoc]
    show okT (Tok.gap :: Tok.cell 4 :: Tok.cell (2 + c.length) :: (c.map Tok.ent ++ (Tok.fin false :: r))) d
    rw [okT, okT, okT]
    exact okT_ents c _ d (by rw [okT]; exact h)
  | .grp ks, r, d, h => by
    rw [tk1, List.append_assoc, List.append_assoc]
    show okT (Tok.gap :: Tok.cell 1 :: Tok.length :: (tkL ks ++ (Tok.close :: r))) d
    rw [okT, okT, okT]
    exact okT_L ks _ (d + 1) (by rw [okT]; exact ⟨Nat.succ_pos _, h⟩)
theorem okT_L : ∀ (l : List Sh) (r : List Tok) (d : Nat), okT r d → okT (tkL l ++ r) d
  | [], r, d, h => by
    rw [tkL]
    show okT (Tok.gap :: r) d
    rw [okT]
    exact h
  | s :: q, r, d, h => by
    rw [tkL, List.append_assoc]
    exact okT_1 s _ d (okT_L q r d h)
end
theorem okT_all (l : List Sh) : okT (tkL l) 0 := by
  have := okT_L l [] 0 (by rw [okT] <;> trivial)
  rw [List.append_nil] at this
  exact this
def KsN (kvs : List (Key × V)) : Prop := ∃ ns : List Nat, kvs.map Prod.fst = ns.map (fun n : Nat => (Sum.inl (n : Int) : Key)) ∧ ns.Nodup
structure DN (H : Hp) (d : Addr) (m : Nat → Option Nat) (b : Nat) : Prop where
  ex : ∃ kvs : List (Key × V), H d = some (.dK kvs) ∧ kvs.length ≤ b ∧ (∀ n : Nat, valV kvs (Sum.inl (n : Int)) = (m n).map vn) ∧ KsN kvs
structure DT2 (H : Hp) (d : Addr) (m : Nat × Nat → Option Nat) (b : Nat) : Prop where
  ex : ∃ kvs : List (List Key × V), H d = some (.dT kvs) ∧ kvs.length ≤ b ∧ ∀ i j : Nat, valV kvs [Sum.inl (i : Int), Sum.inl (j : Int)] = (m (i, j)).map vn
section
variable {H H' : Hp} {d : Addr} {b b' : Nat} {m m' : Nat → Option Nat} {g : Nat × Nat → Option Nat}
theorem KsN.put {kvs : List (Key × V)} (h : KsN kvs) (n0 v : Nat) : KsN (putK kvs (Sum.inl (n0 : Int)) (.int (v : Int))) := by
  obtain ⟨ns, e, hn⟩ := h
  unfold putK
  by_cases a : (kvs.any fun kv => decide (kv.1 = (Sum.inl (n0 : Int) : Key))) = true
  · rw [if_pos a]
    refine ⟨ns, ?_, hn⟩
    rw [← e, List.map_map]
    refine List.map_congr_left fun p _ => ?_
    show (if p.1 = (Sum.inl (n0 : Int) : Key) then (p.1, (V.int (v : Int))) else p).1 = p.1
    split <;> rfl
  · rw [if_neg a]
    refine ⟨ns ++ [n0], by rw [List.map_append, e, List.map_append] <;> rfl, ?_⟩
    rw [List.nodup_append]
    refine ⟨hn, .cons (fun _ h => absurd h List.not_mem_nil) .nil, fun x hx y hy z => a ?_⟩
    obtain rfl := List.mem_singleton.mp hy
    subst z
    have : (Sum.inl (x : Int) : Key) ∈ kvs.map Prod.fst := by rw [e]; exact List.mem_map.mpr ⟨x, hx, rfl⟩
    obtain ⟨p, hp, hpe⟩ := List.mem_map.mp this
    exact List.any_eq_true.mpr ⟨p, hp, decide_eq_true hpe⟩
theorem DN.eq (x : DN H d m b) (h : ∀ n, m n = m' n) (hb : b ≤ b') : DN H d m' b' := by
  have e : m = m' := funext h
  subst e
  obtain ⟨kvs, h1, h2, h3, h4⟩ := x.ex
  exact ⟨kvs, h1, Nat.le_trans h2 hb, h3, h4⟩
theorem DN.at (x : DN H d m b) (e : H' d = H d) : DN H' d m b := by
  obtain ⟨kvs, h1, h2, h3, h4⟩ := x.ex
  exact ⟨kvs, e.trans h1, h2, h3, h4⟩
theorem DN.same (x : DN H d m b) (e : Same H H') : DN H' d m b := by
  obtain ⟨kvs, h1, h2, h3, h4⟩ := x.ex
  exact ⟨kvs, e _ _ h1, h2, h3, h4⟩
theorem DN.nil (h : H d = some (.dK [])) : DN H d (fun _ => none) b := ⟨[], h, Nat.zero_le _, fun _ => rfl, [], rfl, .nil⟩
theorem DN.dK (x : DN H d m b) : ∃ kvs, H d = some (.dK kvs) := x.ex.imp fun _ z => z.1
theorem DN.put (x : DN H d m b) {n0 v : Nat} (hb : b ≤ 100000) {D : Hp → Prop} (h : ∀ o, DN (upd H d o) d (putM m n0 v) (b + 1) → D (upd H d o)) : ∃ a H', V.ref d = .ref a ∧ DPut H a (.int (n0 : Int)) (.int (v : Int)) H' ∧ D H' := by
  obtain ⟨kvs, h1, h2, h3, h4⟩ := x.ex
  refine ⟨d, _, rfl, DPut.k (k := Sum.inl (n0 : Int)) h1 (Nat.lt_of_le_of_lt (Nat.le_trans h2 hb) (by decide)), h _ ⟨_, upd_same, Nat.le_trans (putK_len _ _ _) (Nat.succ_le_succ h2), fun n => ?_, h4.put n0 v⟩⟩
  rw [valV_put]
  unfold putM
  by_cases e : n = n0
  · rw [if_pos e, if_pos (by rw [e])]
    rfl
  · rw [if_neg e, if_neg (fun z => e (by have := Sum.inl.inj z; omega))]
    exact h3 n
theorem DN.get (x : DN H d m b) {n v : Nat} (h : m n = some v) : DGet H d (.int (n : Int)) (some (vn v)) := by
  obtain ⟨kvs, h1, h2, h3, h4⟩ := x.ex
  have := DGet.k (k := Sum.inl (n : Int)) h1
  rw [h3 n, h] at this
  exact this
theorem DT2.same (x : DT2 H d g b) (e : Same H H') : DT2 H' d g b := by
  obtain ⟨kvs, h1, h2, h3⟩ := x.ex
  exact ⟨kvs, e _ _ h1, h2, h3⟩
theorem DT2.at (x : DT2 H d g b) (e : H' d = H d) : DT2 H' d g b := by
  obtain ⟨kvs, h1, h2, h3⟩ := x.ex
  exact ⟨kvs, e.trans h1, h2, h3⟩
theorem DT2.mono (x : DT2 H d g b) (hb : b ≤ b') : DT2 H d g b' := by
  obtain ⟨kvs, h1, h2, h3⟩ := x.ex
  exact ⟨kvs, h1, Nat.le_trans h2 hb, h3⟩
theorem DT2.nil (h : H d = some (.dT [])) : DT2 H d (fun _ => none) b := ⟨[], h, Nat.zero_le _, fun _ _ => rfl⟩
theorem DT2.dT (x : DT2 H d g b) : ∃ kvs, H d = some (.dT kvs) := x.ex.imp fun _ z => z.1
theorem DT2.put (x : DT2 H d g b) {i0 j0 v : Nat} {t : Addr} (ht : H t = some (.tup [.int (i0 : Int), .int (j0 : Int)])) (hb : b ≤ 100000) {D : Hp → Prop}
    (h : ∀ o, DT2 (upd H d o) d (fun t => if t = (i0, j0) then some v else g t) (b + 1) → D (upd H d o)) : ∃ a H', V.ref d = .ref a ∧ DPut H a (.ref t) (.int (v : Int)) H' ∧ D H' := by
  obtain ⟨kvs, h1, h2, h3⟩ := x.ex
  refine ⟨d, _, rfl, DPut.t (k := [Sum.inl (i0 : Int), Sum.inl (j0 : Int)]) h1 ht (Nat.lt_of_le_of_lt (Nat.le_trans h2 hb) (by decide)), h _ ⟨_, upd_same, Nat.le_trans (putK_len _ _ _) (Nat.succ_le_succ h2), fun i j => ?_⟩⟩
  rw [valV_put]
  by_cases e : (i, j) = (i0, j0)
  · rw [if_pos e]
    obtain ⟨e1, e2⟩ := Prod.mk.inj e
    subst e1
    subst e2
    rw [if_pos rfl]
    rfl
  · rw [if_neg e, if_neg (fun z => e ?_)]
    · exact h3 i j
    · have z1 := Sum.inl.inj (List.cons.inj z).1
      have z2 := Sum.inl.inj (List.cons.inj (List.cons.inj z).2).1
      rw [show i = i0 by omega, show j = j0 by omega]
theorem DT2.get (x : DT2 H d g b) {i j : Nat} {t : Addr} (ht : H t = some (.tup [.int (i : Int), .int (j : Int)])) : DGet H d (.ref t) ((g (i, j)).map vn) := by
  obtain ⟨kvs, h1, h2, h3⟩ := x.ex
  have := DGet.t (k := [Sum.inl (i : Int), Sum.inl (j : Int)]) h1 ht
  rw [h3 i j] at this
  exact this
theorem tk_dT {K : PySem.W.Frag} {H : Hp} {l : Addr} {ys : List (List Key × V)} {u : HO} (h : H l = some (.dT ys)) : TK K H (upd H l u) := tk_of h (fun _ z => nomatch z)
end
theorem fill_succ (bef : List Nat) (m : Nat → Option Nat) (p s j n : Nat) : fillG bef m p s (j + 1) n = putM (fillG bef m p s j) (p + j) (if j = 0 then 3 else if j = 1 then s else bef.getD (p + j) 0) n := by
  unfold fillG putM
  dsimp only
  by_cases e : n = p + j
  · subst e
    rw [if_pos ⟨by omega, by omega⟩, if_pos rfl]
    by_cases h0 : j = 0
    · rw [if_pos (by omega), if_pos h0]
    · rw [if_neg (by omega), if_neg h0]
      by_cases h1 : j = 1
      · rw [if_pos (by omega), if_pos h1]
      · rw [if_neg (by omega), if_neg h1]
  · rw [if_neg e]
    by_cases h : p ≤ n ∧ n < p + j
    · rw [if_pos h, if_pos ⟨h.1, by omega⟩]
    · rw [if_neg h, if_neg (by omega)]
theorem fill_zero (bef : List Nat) (m : Nat → Option Nat) (p s n : Nat) : fillG bef m p s 0 n = m n := if_neg (by omega)
end Bx

namespace Bx
/-- an entry: its place, its target -/
def entd (e : Nat × (Nat × Nat)) : PyData := .tuple [.int (e.1 : Int), pr e.2]
/-- how the law's own objects tell a state: cells, rest, opened, entries, targets -/
structure KRep (K : PySem.W.Frag) (H : Hp) (Cd R O E Td : Addr) (k : Kst) (b : Nat) : Prop where
  c : DN H Cd k.m b
  r : H R = some (.lst (k.rest.map vn))
  o : H O = some (.lst (k.op.map vn))
  e : ∃ es, H E = some (.lst es) ∧ TpAll K H es (k.en.map entd) ∧ k.en.length ≤ b
  t : DT2 H Td k.tg b
  noe : O ≠ E
  nor : O ≠ R
  ner : E ≠ R
  pl : ∀ x ∈ k.op, x ≤ k.pl
  g : ∀ x ∈ k.rest, x ≤ 90
  ol : k.op.length ≤ b
theorem KRep.mono {K : PySem.W.Frag} {H H' : Hp} {Cd R O E Td : Addr} {k : Kst} {b b' : Nat} (x : KRep K H Cd R O E Td k b) (e : Same H H') (hb : b ≤ b') : KRep K H' Cd R O E Td k b' where
  c := (x.c.same e).eq (fun _ => rfl) hb
  r := e _ _ x.r
  o := e _ _ x.o
  e := by
    obtain ⟨es, h1, h2, h3⟩ := x.e
    exact ⟨es, e _ _ h1, h2.same e, by omega⟩
  t := (x.t.same e).mono hb
  noe := x.noe
  nor := x.nor
  ner := x.ner
  pl := x.pl
  g := x.g
  ol := Nat.le_trans x.ol hb
section
variable {P : Program} {w : World} {K : PySem.W.Frag} {mg : Str → Option Value} {base : Heap}
def spKnown (K : PySem.W.Frag) : Sp := fun vs H Q _ => ∃ (B Gp : Addr) (v : V) (bef gs : List Nat) (ss : List Sh), vs = [.ref B, v, .ref Gp] ∧ SqT K H B (bef.map vn) ∧ Tp K H v (.tuple (shL ss)) ∧ dpsL ss < 10 ∧ lnL ss ≤ 100 ∧ SqT K H Gp (gs.map vn) ∧ gs.length ≤ 500 ∧ (∀ g ∈ gs, g ≤ 90) ∧
  ∀ (t Cd : Addr) (H' : Hp), Same H H' → H' t = some (.tup [.ref Cd, .int ((knR bef ss gs).pl : Int)]) → DN H' Cd (knM bef ss gs) 100000 → H Cd = none → Q (.ref t) H'
end
end Bx

namespace Bx
structure Gd (szs : List Nat) (st : Kst) : Prop where
  full : ∀ n, n < st.pl → (∃ v, st.m n = some v) ∨ n ∈ st.op ∨ n ∈ st.en.map (·.1)
  low : ∀ n v, st.m n = some v → v ≤ 99
  tlow : ∀ t v, st.tg t = some v → v ≤ 99
  tg : ∀ i j, ((i < st.num ∧ j < szs.getD i 0) ∨ (i = st.num ∧ j < st.off)) → ∃ v, st.tg (i, j) = some v
  en : ∀ e ∈ st.en, ∃ m, szs[e.2.1]? = some m ∧ e.2.2 < m
section
variable {szs bef : List Nat} {st : Kst}
theorem putM_at (m : Nat → Option Nat) (k v : Nat) : putM m k v k = some v := if_pos rfl
theorem putM_ne {m : Nat → Option Nat} {k v n : Nat} (h : n ≠ k) : putM m k v n = m n := if_neg h
theorem putM_some {m : Nat → Option Nat} {k v n : Nat} (h : ∃ u, m n = some u) : ∃ u, putM m k v n = some u := by
  by_cases e : n = k
  · exact ⟨v, by rw [e, putM_at]⟩
  · rw [putM_ne e]
    exact h
theorem putM_low {m : Nat → Option Nat} {k v : Nat} (hv : v ≤ 99) (h : ∀ n u, m n = some u → u ≤ 99) : ∀ n u, putM m k v n = some u → u ≤ 99 := fun n u z => by
  by_cases e : n = k
  · rw [e, putM_at] at z
    have := Option.some.inj z
    omega
  · rw [putM_ne e] at z
    exact h n u z
theorem Gd.cell (x : Gd szs st) {v : Nat} (hv : v ≤ 99) : Gd szs { st with m := putM st.m st.pl v, pl := st.pl + 1 } where
  full := fun n hn => by
    by_cases e : n = st.pl
    · exact .inl ⟨v, by rw [e]; exact putM_at _ _ _⟩
    · rcases x.full n (by have : n < st.pl + 1 := hn; omega) with h | h
      · exact .inl (putM_some h)
      · exact .inr h
  low := putM_low hv x.low
  tlow := x.tlow
  tg := x.tg
  en := x.en
theorem Gd.dat (x : Gd szs st) {v : Nat} (hv : v ≤ 99) (hp : st.pl ≤ 99) : Gd szs { st with tg := fun t => if t = (st.num, st.off) then some st.pl else st.tg t, off := st.off + 1, m := putM st.m st.pl v, pl := st.pl + 1 } where
  full := (x.cell hv).full
  low := (x.cell hv).low
  tlow := fun t u z => by
    dsimp only at z
    by_cases e : t = (st.num, st.off)
    · rw [if_pos e] at z
      have := Option.some.inj z
      omega
    · rw [if_neg e] at z
      exact x.tlow t u z
  tg := fun i j h => by
    dsimp only at h ⊢
    by_cases e : (i, j) = (st.num, st.off)
    · exact ⟨st.pl, if_pos e⟩
    · rw [if_neg e]
      refine x.tg i j ?_
      rcases h with h | h
      · exact .inl h
      · refine .inr ⟨h.1, ?_⟩
        have : j ≠ st.off := fun z => e (by rw [h.1, z])
        omega
  en := x.en
theorem Gd.ent (x : Gd szs st) {t : Nat × Nat} (ht : ∃ m, szs[t.1]? = some m ∧ t.2 < m) : Gd szs { st with en := st.en ++ [(st.pl, t)], pl := st.pl + 1 } where
  full := fun n hn => by
    by_cases e : n = st.pl
    · refine .inr (.inr ?_)
      show n ∈ (st.en ++ [(st.pl, t)]).map (·.1)
      rw [List.map_append]
      exact List.mem_append_right _ (by rw [e]; exact List.mem_singleton.mpr rfl)
    · rcases x.full n (by have : n < st.pl + 1 := hn; omega) with h | h | h
      · exact .inl h
      · exact .inr (.inl h)
      · refine .inr (.inr ?_)
        show n ∈ (st.en ++ [(st.pl, t)]).map (·.1)
        rw [List.map_append]
        exact List.mem_append_left _ h
  low := x.low
  tlow := x.tlow
  tg := x.tg
  en := fun e he => by
    rcases List.mem_append.mp he with he | he
    · exact x.en e he
    · obtain rfl := List.mem_singleton.mp he
      exact ht
theorem Gd.length (x : Gd szs st) : Gd szs { st with op := st.op ++ [st.pl], pl := st.pl + 1 } where
  full := fun n hn => by
    by_cases e : n = st.pl
    · exact .inr (.inl (List.mem_append_right _ (by rw [e]; exact List.mem_singleton.mpr rfl)))
    · rcases x.full n (by have : n < st.pl + 1 := hn; omega) with h | h | h
      · exact .inl h
      · exact .inr (.inl (List.mem_append_left _ h))
      · exact .inr (.inr h)
  low := x.low
  tlow := x.tlow
  tg := x.tg
  en := x.en
theorem Gd.close {o : List Nat} {b : Nat} (x : Gd szs st) (ho : st.op = o ++ [b]) (hp : st.pl ≤ 98) : Gd szs { st with m := putM st.m (st.op.getLastD 0) (st.pl - st.op.getLastD 0 + 1), op := st.op.dropLast } where
  full := fun n hn => by
    have el : st.op.getLastD 0 = b := by rw [ho]; simp
    have ed : st.op.dropLast = o := by rw [ho]; simp
    dsimp only
    rw [el, ed]
    rcases x.full n hn with h | h | h
    · exact .inl (putM_some h)
    · rw [ho] at h
      rcases List.mem_append.mp h with h | h
      · exact .inr (.inl h)
      · obtain rfl := List.mem_singleton.mp h
        exact .inl ⟨_, putM_at _ _ _⟩
    · exact .inr (.inr h)
  low := putM_low (by omega) x.low
  tlow := x.tlow
  tg := x.tg
  en := x.en
theorem Gd.finF (x : Gd szs st) : Gd szs { st with num := st.num + (if false = true then 1 else 0), off := 0 } where
  full := x.full
  low := x.low
  tlow := x.tlow
  tg := fun i j h => x.tg i j (h.imp id fun z => absurd z.2 (Nat.not_lt_zero _))
  en := x.en
theorem Gd.finT (x : Gd szs st) (ho : szs.getD st.num 0 ≤ st.off) : Gd szs { st with num := st.num + (if true = true then 1 else 0), off := 0 } where
  full := x.full
  low := x.low
  tlow := x.tlow
  tg := fun i j h => by
    refine x.tg i j ?_
    rcases h with h | h
    · have h1 : i < st.num + 1 := h.1
      by_cases e : i = st.num
      · subst e
        exact .inr ⟨rfl, Nat.lt_of_lt_of_le h.2 ho⟩
      · exact .inl ⟨by omega, h.2⟩
    · exact absurd h.2 (Nat.not_lt_zero _)
  en := x.en
theorem Gd.gap (x : Gd szs st) {s : Nat} {r : List Nat} (hs : s ≤ 99) (hb : ∀ n, bef.getD n 0 ≤ 99) : Gd szs { st with m := fillG bef st.m st.pl s s, pl := st.pl + s, rest := r } where
  full := fun n hn => by
    have hn' : n < st.pl + s := hn
    by_cases e : st.pl ≤ n
    · exact .inl ⟨_, if_pos ⟨e, hn'⟩⟩
    · rcases x.full n (by omega) with h | h
      · refine .inl ?_
        show ∃ v, fillG bef st.m st.pl s s n = some v
        unfold fillG
        rw [if_neg (by omega)]
        exact h
      · exact .inr h
  low := fun n v z => by
    have z' : fillG bef st.m st.pl s s n = some v := z
    unfold fillG at z'
    by_cases e : st.pl ≤ n ∧ n < st.pl + s
    · rw [if_pos e] at z'
      have z2 := Option.some.inj z'
      by_cases e1 : n = st.pl
      · rw [if_pos e1] at z2
        omega
      · rw [if_neg e1] at z2
        by_cases e2 : n = st.pl + 1
        · rw [if_pos e2] at z2
          omega
        · rw [if_neg e2] at z2
          have := hb n
          omega
    · rw [if_neg e] at z'
      exact x.low n v z'
  tlow := x.tlow
  tg := x.tg
  en := x.en
theorem Gd.nil (gs : List Nat) : Gd szs (kn0 gs) where
  full := fun n hn => absurd hn (Nat.not_lt_zero _)
  low := fun _ _ z => by cases z
  tlow := fun _ _ z => by cases z
  tg := fun i j h => by
    rcases h with h | h
    · exact absurd h.1 (Nat.not_lt_zero _)
    · exact absurd h.2 (Nat.not_lt_zero _)
  en := fun _ h => absurd h List.not_mem_nil
/-- the pieces of data -/
theorem run_dats : ∀ (c : List Nat) (r : List Tok) (st : Kst), Gd szs st → (∀ x ∈ c, x < 7) → st.pl + c.length ≤ 60 → ∃ st', runK bef (c.map Tok.dat ++ r) st = runK bef r st' ∧ Gd szs st' ∧ st'.op = st.op ∧ st'.rest = st.rest ∧ st'.pl = st.pl + c.length ∧ st'.num = st.num ∧ st'.off = st.off + c.length
  | [], r, st, x, _, _ => ⟨st, rfl, x, rfl, rfl, rfl, rfl, rfl⟩
  | y :: c, r, st, x, h, hp => by
    rw [List.length_cons] at hp
    obtain ⟨st', a, b, e1, e2, e3, e4, e5⟩ := run_dats c r _ (x.dat (v := y) (by have := h y List.mem_cons_self; omega) (by omega)) (fun z hz => h z (List.mem_cons_of_mem _ hz)) (by show st.pl + 1 + c.length ≤ 60; omega)
    refine ⟨st', ?_, b, e1, e2, ?_, e4, ?_⟩
    · rw [List.map_cons, List.cons_append, runK]
      exact a
    · rw [e3, List.length_cons]
      show st.pl + 1 + c.length = _
      omega
    · rw [e5, List.length_cons]
      show st.off + 1 + c.length = _
      omega
theorem run_ents : ∀ (c : List (Nat × Nat)) (r : List Tok) (st : Kst), Gd szs st → (∀ t ∈ c, ∃ m, szs[t.1]? = some m ∧ t.2 < m) → ∃ st', runK bef (c.map Tok.ent ++ r) st = runK bef r st' ∧ Gd szs st' ∧ st'.op = st.op ∧ st'.rest = st.rest ∧ st'.pl = st.pl + c.length ∧ st'.num = st.num
  | [], r, st, x, _ => ⟨st, rfl, x, rfl, rfl, rfl, rfl⟩
  | y :: c, r, st, x, h => by
    obtain ⟨st', a, b, e1, e2, e3, e4⟩ := run_ents c r _ (x.ent (t := y) (h y List.mem_cons_self)) (fun z hz => h z (List.mem_cons_of_mem _ hz))
    refine ⟨st', ?_, b, e1, e2, ?_, e4⟩
    · rw [List.map_cons, List.cons_append, runK]
      exact a
    · rw [e3, List.length_cons]
      show st.pl + 1 + c.length = _
      omega
theorem run_gap (s : Nat) (q : List Nat) (h : st.rest = s :: q) (r : List Tok) : runK bef (Tok.gap :: r) st = runK bef r { st with m := fillG bef st.m st.pl s s, pl := st.pl + s, rest := q } := by
  rw [runK]
  unfold stp1
  rw [h]
theorem drop_one {l : List Nat} {s : Nat} {q : List Nat} (h : l = s :: q) (n : Nat) : q.drop n = l.drop (1 + n) ∧ s + (q.take n).sum = (l.take (1 + n)).sum := by
  subst h
  rw [Nat.add_comm 1 n]
  exact ⟨rfl, by rw [List.take_succ_cons, List.sum_cons]⟩
mutual
theorem run_1 (hb : ∀ n, bef.getD n 0 ≤ 99) : ∀ (k : Kd) (s : Sh) (i i' : Nat), fit1 szs k s i i' → ∀ (st : Kst) (r : List Tok), Gd szs st → st.num = i → st.off = 0 → gp1 s ≤ st.rest.length → (∀ g ∈ st.rest, g ≤ 90) → st.pl + ln1 s + (st.rest.take (gp1 s)).sum ≤ 60 →
    ∃ st', runK bef (tk1 s ++ r) st = runK bef r st' ∧ Gd szs st' ∧ st'.op = st.op ∧ st'.rest = st.rest.drop (gp1 s) ∧ st'.pl = st.pl + ln1 s + (st.rest.take (gp1 s)).sum ∧ st'.num = i' ∧ st'.off = 0
  | .D, .dat c, i, i', h, st, r, x, hn, ho, hg, h90, hp => by
    rw [fit1] at h
    obtain ⟨rfl, hc, h7⟩ := h
    rw [gp1] at hg hp ⊢
    rw [ln1] at hp ⊢
    cases hr : st.rest with
    | nil =>
      rw [hr] at hg
      exact absurd hg (by decide)
    | cons s q =>
      rw [hr] at hp
      have hs := h90 s (by rw [hr]; exact List.mem_cons_self)
      have et : ((s :: q).take 1).sum = s := by simp
      rw [et] at hp ⊢
      have x1 := (((x.gap (s := s) (r := q) (by omega) hb).cell (v := 2) (by decide)).cell (v := 2 + c.length) (by omega))
      obtain ⟨st', a, b, e1, e2, e3, e4, e5⟩ := run_dats (bef := bef) c (Tok.fin true :: r) _ x1 h7 (by show st.pl + s + 1 + 1 + c.length ≤ 60; omega)
      have e4' : st'.num = i := e4.trans hn
      have e5' : st'.off = c.length := by rw [e5]; show st.off + c.length = _; omega
      have hgd : szs.getD st'.num 0 = c.length := by rw [e4', List.getD_eq_getElem?_getD, hc] <;> rfl
      refine ⟨_, ?_, b.finT (by omega), e1, e2, ?_, ?_, rfl⟩
      · rw [tk1, List.append_assoc, List.append_assoc]
        show runK bef (Tok.gap :: Tok.cell 2 :: Tok.cell (2 + c.length) :: (c.map Tok.dat ++ (Tok.fin true :: r))) st = _
        rw [run_gap s q hr]
        exact a
      · show st'.pl = _
        rw [e3]
        show st.pl + s + 1 + 1 + c.length = _
        omega
      · show st'.num + 1 = i + 1
        rw [e4']
  | .T, .tab c, i, i', h, st, r, x, hn, ho, hg, h90, hp => by
    rw [fit1] at h
    obtain ⟨rfl, hc, h7⟩ := h
    rw [gp1] at hg hp ⊢
    rw [ln1] at hp ⊢
    cases hr : st.rest with
    | nil =>
      rw [hr] at hg
      exact absurd hg (by decide)
    | cons s q =>
      rw [hr] at hp
      have hs := h90 s (by rw [hr]; exact List.mem_cons_self)
      have et : ((s :: q).take 1).sum = s := by simp
      rw [et] at hp ⊢
      have x1 := (((x.gap (s := s) (r := q) (by omega) hb).cell (v := 4) (by decide)).cell (v := 2 + c.length) (by omega))
      obtain ⟨st', a, b, e1, e2, e3, e4⟩ := run_ents (bef := bef) c (Tok.fin false :: r) _ x1 h7
      refine ⟨_, ?_, b.finF, e1, e2, ?_, ?_, rfl⟩
      · rw [tk1, List.append_assoc, List.append_assoc]
        show runK bef (Tok.gap :: Tok.cell 4 :: Tok.cell (2 + c.length) :: (c.map Tok.ent ++ (Tok.fin false :: r))) st = _
        rw [run_gap s q hr]
        exact a
      · show st'.pl = _
        rw [e3]
        show st.pl + s + 1 + 1 + c.length = _
        omega
      · show st'.num + 0 = i'
        rw [e4]
        exact hn
  | .G ks, .grp ss, i, i', h, st, r, x, hn, ho, hg, h90, hp => by
    rw [fit1] at h
    rw [gp1] at hg hp ⊢
    rw [ln1] at hp ⊢
    cases hr : st.rest with
    | nil =>
      rw [hr] at hg
      exact absurd hg (by simp)
    | cons s q =>
      have hs := h90 s (by rw [hr]; exact List.mem_cons_self)
      obtain ⟨d1, d2⟩ := drop_one hr (gpL ss)
      rw [← hr, ← d1, ← d2]
      rw [← d2] at hp
      rw [hr, List.length_cons] at hg
      have x1 := (((x.gap (s := s) (r := q) (by omega) hb).cell (v := 1) (by decide)).length)
      obtain ⟨st', a, b, e1, e2, e3, e4, e5⟩ := run_L hb ks ss i i' h _ (Tok.close :: r) x1 hn ho (by show gpL ss ≤ q.length; omega) (fun g hg => h90 g (by rw [hr]; exact List.mem_cons_of_mem _ hg)) (by show st.pl + s + 1 + 1 + lnL ss + (q.take (gpL ss)).sum ≤ 60; omega)
      have e3' : st'.pl = st.pl + s + 1 + 1 + lnL ss + (q.take (gpL ss)).sum := e3
      have e1' : st'.op = st.op ++ [st.pl + s + 1] := e1
      refine ⟨_, ?_, b.close e1' (by omega), ?_, e2, ?_, e4, e5⟩
      · rw [tk1, List.append_assoc, List.append_assoc]
        show runK bef (Tok.gap :: Tok.cell 1 :: Tok.length :: (tkL ss ++ (Tok.close :: r))) st = _
        rw [run_gap s q hr]
        exact a
      · show st'.op.dropLast = st.op
        rw [e1', List.dropLast_concat]
      · show st'.pl = _
        rw [e3']
        omega
  | .D, .tab _, _, _, h, _, _, _, _, _, _, _, _ => by rw [fit1] at h; exact h.elim
  | .D, .grp _, _, _, h, _, _, _, _, _, _, _, _ => by rw [fit1] at h; exact h.elim
  | .T, .dat _, _, _, h, _, _, _, _, _, _, _, _ => by rw [fit1] at h; exact h.elim
  | .T, .grp _, _, _, h, _, _, _, _, _, _, _, _ => by rw [fit1] at h; exact h.elim
  | .G _, .dat _, _, _, h, _, _, _, _, _, _, _, _ => by rw [fit1] at h; exact h.elim
  | .G _, .tab _, _, _, h, _, _, _, _, _, _, _, _ => by rw [fit1] at h; exact h.elim
theorem run_L (hb : ∀ n, bef.getD n 0 ≤ 99) : ∀ (ks : List Kd) (ss : List Sh) (i i' : Nat), fitL szs ks ss i i' → ∀ (st : Kst) (r : List Tok), Gd szs st → st.num = i → st.off = 0 → gpL ss ≤ st.rest.length → (∀ g ∈ st.rest, g ≤ 90) → st.pl + lnL ss + (st.rest.take (gpL ss)).sum ≤ 60 →
    ∃ st', runK bef (tkL ss ++ r) st = runK bef r st' ∧ Gd szs st' ∧ st'.op = st.op ∧ st'.rest = st.rest.drop (gpL ss) ∧ st'.pl = st.pl + lnL ss + (st.rest.take (gpL ss)).sum ∧ st'.num = i' ∧ st'.off = 0
  | [], [], i, i', h, st, r, x, hn, ho, hg, h90, hp => by
    rw [fitL] at h
    subst h
    rw [gpL] at hg hp ⊢
    rw [lnL] at hp ⊢
    cases hr : st.rest with
    | nil =>
      rw [hr] at hg
      exact absurd hg (by decide)
    | cons s q =>
      rw [hr] at hp
      have hs := h90 s (by rw [hr]; exact List.mem_cons_self)
      have et : ((s :: q).take 1).sum = s := by simp
      rw [et] at hp ⊢
      refine ⟨_, ?_, x.gap (s := s) (r := q) (by omega) hb, rfl, rfl, rfl, hn, ho⟩
      rw [tkL]
      exact run_gap s q hr r
  | k :: ks, s :: ss, i, i', h, st, r, x, hn, ho, hg, h90, hp => by
    rw [fitL] at h
    obtain ⟨j, h1, h2⟩ := h
    rw [gpL] at hg hp ⊢
    rw [lnL] at hp ⊢
    have etk : (st.rest.take (gp1 s + gpL ss)).sum = (st.rest.take (gp1 s)).sum + ((st.rest.drop (gp1 s)).take (gpL ss)).sum := by
      rw [List.take_add, List.sum_append]
    rw [etk] at hp ⊢
    obtain ⟨st1, a1, b1, c1, d1, f1, g1, k1⟩ := run_1 hb k s i j h1 st (tkL ss ++ r) x hn ho (by omega) h90 (by omega)
    obtain ⟨st2, a2, b2, c2, d2, f2, g2, k2⟩ := run_L hb ks ss j i' h2 st1 r b1 g1 k1 (by rw [d1, List.length_drop]; omega) (fun g hg => h90 g (by rw [d1] at hg; exact List.mem_of_mem_drop hg)) (by rw [d1, f1]; omega)
    refine ⟨st2, ?_, b2, c2.trans c1, ?_, ?_, g2, k2⟩
    · rw [tkL, List.append_assoc, a1, a2]
    · rw [d2, d1, List.drop_drop]
    · rw [f2, f1, d1]
      omega
  | [], _ :: _, _, _, h, _, _, _, _, _, _, _, _ => by rw [fitL] at h; exact h.elim
  | _ :: _, [], _, _, h, _, _, _, _, _, _, _, _ => by rw [fitL] at h; exact h.elim
end
theorem fin_some (tg : Nat × Nat → Option Nat) : ∀ (en : List (Nat × (Nat × Nat))) (m : Nat → Option Nat) (n : Nat), (∀ e ∈ en, ∃ v, tg e.2 = some v) → ((∃ v, m n = some v) ∨ n ∈ en.map (·.1)) → ∃ v, finM tg en m n = some v
  | [], m, n, _, h => by
    rw [finM]
    rcases h with h | h
    · exact h
    · exact absurd h List.not_mem_nil
  | e :: r, m, n, ht, h => by
    rw [finM]
    obtain ⟨v, hv⟩ := ht e List.mem_cons_self
    refine fin_some tg r _ n (fun e' h' => ht e' (List.mem_cons_of_mem _ h')) ?_
    rw [hv]
    rcases h with h | h
    · exact .inl (putM_some h)
    · rcases List.mem_cons.mp h with h | h
      · exact .inl ⟨v, by rw [h]; exact putM_at _ _ _⟩
      · exact .inr h
theorem fin_low (tg : Nat × Nat → Option Nat) (ht : ∀ t v, tg t = some v → v ≤ 99) : ∀ (en : List (Nat × (Nat × Nat))) (m : Nat → Option Nat), (∀ n v, m n = some v → v ≤ 99) → ∀ n v, finM tg en m n = some v → v ≤ 99
  | [], m, h, n, v, z => by
    rw [finM] at z
    exact h n v z
  | e :: r, m, h, n, v, z => by
    rw [finM] at z
    refine fin_low tg ht r _ ?_ n v z
    cases q : tg e.2 with
    | none => exact h
    | some u => exact putM_low (ht _ _ q) h
/-- a whole file: all its cells are there, each at most 99 -/
theorem kn_all {ks : List Kd} {ss : List Sh} {gs : List Nat} (hf : fitL szs ks ss 0 szs.length) (hb : ∀ n, bef.getD n 0 ≤ 99) (hg : gs.length = gpL ss) (h30 : lnL ss + gs.sum ≤ 30) :
    (knR bef ss gs).pl = lnL ss + gs.sum ∧ ∀ n, n < (knR bef ss gs).pl → ∃ v, knM bef ss gs n = some v ∧ v ≤ 99 := by
  have hle : ∀ g ∈ gs, g ≤ gs.sum := fun g h => by
    obtain ⟨a, b, e⟩ := List.append_of_mem h
    rw [e, List.sum_append, List.sum_cons]
    omega
  have et : gs.take (gpL ss) = gs := by rw [← hg]; exact List.take_length
  obtain ⟨st', a, b, c, d, f, g, k⟩ := run_L (szs := szs) (bef := bef) hb ks ss 0 szs.length hf (kn0 gs) [] (.nil gs) rfl rfl (by show gpL ss ≤ gs.length; omega) (fun g h => by have := hle g h; omega) (by show 0 + lnL ss + (gs.take (gpL ss)).sum ≤ 60; rw [et]; omega)
  have e1 : knR bef ss gs = st' := by
    unfold knR
    rw [List.append_nil] at a
    rw [a, runK]
  have hpl : st'.pl = lnL ss + gs.sum := by
    rw [f]
    show 0 + lnL ss + (gs.take (gpL ss)).sum = _
    rw [et]
    omega
  have ht : ∀ e ∈ st'.en, ∃ v, st'.tg e.2 = some v := fun e he => by
    obtain ⟨m, h1, h2⟩ := b.en e he
    refine b.tg e.2.1 e.2.2 (.inl ⟨?_, ?_⟩)
    · rw [g]
      exact (List.getElem?_eq_some_iff.mp h1).1
    · rw [List.getD_eq_getElem?_getD, h1]
      exact h2
  refine ⟨by rw [e1, hpl], fun n hn => ?_⟩
  unfold knM
  rw [e1] at hn ⊢
  have hfull : (∃ v, st'.m n = some v) ∨ n ∈ st'.en.map (·.1) := by
    rcases b.full n hn with h | h | h
    · exact .inl h
    · rw [c] at h
      exact absurd h List.not_mem_nil
    · exact .inr h
  obtain ⟨v, hv⟩ := fin_some st'.tg st'.en st'.m n ht hfull
  exact ⟨v, hv, fin_low st'.tg b.tlow st'.en st'.m b.low n v hv⟩
end
/-- the cells of a file -/
def fil (bef : List Nat) (ss : List Sh) (gs : List Nat) : List Nat := (List.range (knR bef ss gs).pl).map fun n => (knM bef ss gs n).getD 0
section
variable {P : Program} {w : World} {K : PySem.W.Frag} {mg : Str → Option Value} {base : Heap}
def spFile (K : PySem.W.Frag) : Sp := fun vs H Q _ => ∃ (B Gp : Addr) (v : V) (bef gs : List Nat) (ss : List Sh), vs = [.ref B, v, .ref Gp] ∧ SqT K H B (bef.map vn) ∧ Tp K H v (.tuple (shL ss)) ∧ dpsL ss < 10 ∧ lnL ss ≤ 100 ∧ SqT K H Gp (gs.map vn) ∧ gs.length ≤ 500 ∧ (∀ g ∈ gs, g ≤ 90) ∧
  (knR bef ss gs).pl ≤ 1000 ∧ (∀ n, n < (knR bef ss gs).pl → ∃ v, knM bef ss gs n = some v) ∧ ∀ (a : Addr) (H' : Hp), Same H H' → H' a = some (.tup ((fil bef ss gs).map vn)) → Q (.ref a) H'
end
end Bx

namespace Bx
theorem hd_lt {cs : List Nat} {a e dp p : Nat} (h : a < e) (q : hd cs a e dp = some p) : p < e := by
  unfold hd at q
  split at q
  · cases q
    exact h
  · split at q
    · cases q
      exact h
    · split at q
      · cases q
        omega
      · cases q
theorem prs_lt : ∀ (f : Nat) (cs : List Nat) (a e dp p : Nat), prs f cs a e dp = .error p → p < e
  | 0, _, _, _, _, _, h => by
    unfold prs at h
    cases h
  | f + 1, cs, a, e, dp, p, h => by
    by_cases hl : a < e
    · cases q : hd cs a e dp with
      | some p' =>
        rw [prs_bad hl q] at h
        cases h
        exact hd_lt hl q
      | none =>
        have hh := hd_none q
        cases i : (if cel cs a = 1 then prs f cs (a + 2) (a + cel cs (a + 1)) (dp + 1) else .ok []) with
        | error p' =>
          by_cases g : cel cs a = 1
          · rw [if_pos g] at i
            rw [prs_in hl q g i] at h
            cases h
            have := prs_lt f cs _ _ _ _ i
            omega
          · rw [if_neg g] at i
            cases i
        | ok ks =>
          rw [prs_go hl q i] at h
          cases j : prs f cs (a + cel cs (a + 1)) e dp with
          | error p' =>
            rw [j] at h
            cases h
            exact prs_lt f cs _ _ _ _ j
          | ok r =>
            rw [j] at h
            cases h
    · rw [prs_stop hl] at h
      cases h
theorem ens_mem {cs hs : List Nat} {n : Nat} : n ∈ ens cs hs ↔ ∃ p ∈ hs, cel cs p = 4 ∧ n ∈ plc (row cs p) := by
  unfold ens
  rw [List.mem_flatten]
  constructor
  · rintro ⟨l, hl, hn⟩
    obtain ⟨p, hp, rfl⟩ := List.mem_map.mp hl
    obtain ⟨h1, h2⟩ := List.mem_filter.mp hp
    exact ⟨p, h1, of_decide_eq_true h2, hn⟩
  · rintro ⟨p, hp, hk, hn⟩
    exact ⟨_, List.mem_map.mpr ⟨p, List.mem_filter.mpr ⟨hp, decide_eq_true hk⟩, rfl⟩, hn⟩
theorem fwr_lt {cs : List Nat} {p : Nat} (hl : cs.length ≤ 30) (h : fwr cs = some p) : p < cs.length := by
  unfold fwr at h
  cases e : prs 31 cs 0 cs.length 0 with
  | error p' =>
    rw [e] at h
    cases h
    exact prs_lt _ _ _ _ _ _ e
  | ok bs =>
    rw [e] at h
    have P := prs_pth 31 cs 0 cs.length 0 bs e (by omega) (Nat.zero_le _) (Nat.le_refl _)
    obtain ⟨q, hq, hk, hn⟩ := ens_mem.mp (List.mem_of_find?_eq_some h)
    exact ens_lt P hq (by omega) hn
/-- a file -/
theorem fwr_ok {cs : List Nat} (h : fwr cs = none) : ∃ bs, prs 31 cs 0 cs.length 0 = .ok bs ∧ Good cs (rws cs (hsL bs)) (hsL bs) := by
  unfold fwr at h
  cases e : prs 31 cs 0 cs.length 0 with
  | error p' =>
    rw [e] at h
    cases h
  | ok bs =>
    rw [e] at h
    refine ⟨bs, rfl, fun p hp hk c hc => ?_⟩
    unfold ctn at hc
    obtain ⟨n, hn, rfl⟩ := List.mem_map.mp hc
    have z := List.find?_eq_none.mp h n (ens_mem.mpr ⟨p, hp, hk, hn⟩)
    unfold bad at z
    cases o : own (rws cs (hsL bs)) (cel cs n) with
    | true => rfl
    | false =>
      rw [o] at z
      exact absurd rfl z

def txtF : Str := "no file, the first wrong place is "
structure BfT (P : Program) (w : World) (K : PySem.W.Frag) (mg : Str → Option Value) (base : Heap) (C : Addr) : Prop where
  T : OexC K C
  gC : mg "BadFile" = some (.ref C)
  init : ∃ fI fd, PySem.W.findIn K (.ref C) "__init__" = some (some (.ref fI)) ∧ PySem.W.typeIn K (.ref fI) = some (.type "function") ∧ Binds K fd ["self", "place"] [] ∧ FnOk P w K mg base C8.CX0 2 fI fd ["self", "place"] (spSup C "place" txtF)
  ga : PySem.W.findIn K (.ref C) "__getattribute__" = some (some (.builtin "BaseException.__getattribute__"))
  gg : PySem.W.findIn K (.ref C) "__getattr__" = some none
  noN : PySem.W.findIn K (.ref C) "place" = some none
  hdC : PySem.W.hasDictIn K C = true
  te : PySem.W.exmOne K (.ref C) (.ref C) = some true
/-- the error of a place -/
def XErr (C : Addr) (H : Hp) (y : V) (E : XK) : Prop := ∀ (d : Addr) (H' : Hp), Same H H' → H' d = some (.xd [("place", y)]) → E (.ref C) (some d) H'
/-- BadFile(e) -/
def tBf (C : Addr) (ta : TA) : L2.St → Hp → XK → Prop := fun σ H Q => ta σ H fun vs H1 => ∃ y, vs = [y] ∧ (y = .non ∨ ∃ i : Nat, y = .int (i : Int) ∧ i ≤ 30) ∧ XErr C H1 y Q
theorem txt_fits : ∀ i : Nat, i ≤ 30 → (txtF ++ toString (i : Int) : Str).length ≤ sizeLine := fun i hi => by
  have h : ∀ j : Fin 31, (txtF ++ toString ((j.val : Nat) : Int) : Str).length ≤ 1000 := by decide +kernel
  exact small (h ⟨i, by omega⟩)
theorem log_fits : ∀ i : Nat, i ≤ 30 → (i : Int).natAbs.log2 < 1920 := fun i hi => by
  have h : ∀ j : Fin 31, ((j.val : Nat) : Int).natAbs.log2 < 1920 := by decide +kernel
  exact h ⟨i, by omega⟩
theorem PA.wk {X : Cx} {es : List Expr} {ta : TA} (h : PA X es ta) : PA X es (fun σ H Q => ∃ Q1 : List V → Hp → Prop, ta σ H Q1 ∧ ∀ vs H1, Q1 vs H1 → Q vs H1) := ⟨fun pos pins s σ H Q I ⟨Q1, h1, h2⟩ =>
  thn (h.run pos pins s σ H Q1 I h1) fun us s1 ⟨vs, H1, I1, r, q⟩ => ⟨vs, H1, I1, r, h2 vs H1 q⟩⟩
theorem pmk_bf {X : Cx} {C : Addr} {e : Expr} {ta : TA} {p pos : Pos} {j : Nat} (T : BfT X.prog X.w X.K X.mg X.base C) (hr : Room j X.A) (hj : 3 ≤ j) (hg : Gl X "BadFile") (ha : PA X [e] ta)
    (he : starEach (e :: []) X.env = (false, eval e X.env) :: starEach [] X.env := by rfl) (hpl : (backTo pos (starEach [] X.env)).any (·.1) = false := by rfl) : PMk X (.Call (.Name "BadFile" p) [e] [] pos) (tBf C ta) := by
  obtain ⟨fI, fd, iC, tI, b, F⟩ := T.init
  intro pins s σ H Q I h
  refine pmk_oex T.T iC tI F (hr.mono hj) b .nil C8.pass0 hg T.gC (PA.wk ha) (by decide) he hpl pins s σ H Q I ⟨_, h, ?_⟩
  rintro vs H1 ⟨y, rfl, hy, q⟩
  refine ⟨(by show 1 ≤ 1000; decide), fun a na => ⟨a, y, rfl, ?_, upd_same, fun dx hn hne => ?_⟩⟩
  · rcases hy with rfl | ⟨i, rfl, hi⟩
    · exact .inl rfl
    · exact .inr ⟨_, rfl, log_fits i hi, txt_fits i hi⟩
  · have hd1 : H1 dx = none := by
      rw [upd_ne hne] at hn
      exact hn
    refine ⟨rfl, dx, _, upd_same, by rw [upd_ne hne, upd_same], hd1, ?_⟩
    refine q dx _ ?_ upd_same
    intro b o hb
    have hba : b ≠ a := ne_of_none hb na
    have hbd : b ≠ dx := ne_of_none hb hd1
    rw [upd_ne hbd, del_ne hba, upd_ne hba, upd_ne hbd, upd_ne hba]
    exact hb

structure CalX (P : Program) (w : World) (K : PySem.W.Frag) (mg : Str → Option Value) (base : Heap) (k : Nat) (x : Str) (sp : Sp) : Prop where
  ex : ∃ (f : Addr) (fd : FuncData) (ps : List Str), FnOk P w K mg base (L2.CX P w) k f fd ps sp ∧ mg x = some (.ref f) ∧ PySem.W.keepIn K (.ref f) = true ∧ Binds K fd ps []
section
variable {P : Program} {w : World} {K : PySem.W.Frag} {mg : Str → Option Value} {base : Heap}
theorem calX {x : Str} {st : Stmt} {f : Addr} {fd : FuncData} {N ps : List Str} {k : Nat} {sp : Sp} (F : Def K mg x st f fd) (b : Binds K fd ps []) (S : FnScope N ps (fnScope st)) (len : ∀ vs H Q E, sp vs H Q E → vs.length = ps.length)
    (hbody : ∀ (cdv : Value) (A : Around) (outer : List Env) (s : Shared) (H : Hp) (vs : List V) (Q : VK) (E : XK), Room k (A.deeper (envOfC x (fnScope st) s.heap.objs.size f cdv)) → sp vs H Q E →
      ∃ t, PSs (cxOf (L2.CX P w) P w K mg base N x (fnScope st) f cdv A outer s H E) (fnBody st) t ∧ t { nx := fun _ H' => Q .non H', rt := Q } (start N vs) H) : CalX P w K mg base (k + 1) x sp := by
  refine ⟨f, fd, ps, ?_, F.mgf, F.kp, b⟩
  obtain ⟨oc, od, dV, kV, doc, pm, an, cdv, ct, osl, rfl, lk, hcd⟩ := F.fn.ex
  exact fn_of lk hcd S len fun A outer s H vs Q E hr hsp => hbody cdv A outer s H vs Q E hr hsp
end
section
variable {X : Cx} {k j : Nat} {x : Str} {sp : Sp} {p pos : Pos} {e : Expr} {es : List Expr} {t : TA} {W : WX}
theorem pe_cX (c : CalX X.prog X.w X.K X.mg X.base k x sp) (hr : Room j X.A) (hk : k ≤ j) (hg : Gl X x) (tk : Takes X W) (ha : PA X (e :: es) t)
    (hdb : (x == ("__debug__" : Str)) = false := by decide) (he : starEach (e :: es) X.env = (false, eval e X.env) :: starEach es X.env := by rfl) (hpl : (backTo pos (starEach es X.env)).any (·.1) = false := by rfl) :
    PE X (.Call (.Name x p) (e :: es) [] pos) (tCallS sp (WE W) t) := by
  obtain ⟨f, fd, ps, F, hm, kp, b⟩ := c.ex
  exact pe_callS F (hr.mono hk) hg hm kp b (fun σ => passAt tk σ) ha hdb he hpl
/-- where it does not raise -/
theorem pe_cN (c : CalX X.prog X.w X.K X.mg X.base k x sp) (hr : Room j X.A) (hk : k ≤ j) (hg : Gl X x) (ha : PA X (e :: es) t)
    (hdb : (x == ("__debug__" : Str)) = false := by decide) (he : starEach (e :: es) X.env = (false, eval e X.env) :: starEach es X.env := by rfl) (hpl : (backTo pos (starEach es X.env)).any (·.1) = false := by rfl) :
    PE X (.Call (.Name x p) (e :: es) [] pos) (tCall sp [] L2.E0 t) := by
  obtain ⟨f, fd, ps, F, hm, kp, b⟩ := c.ex
  exact pe_call F (hr.mono hk) hg hm kp b .nil passL ha hdb he hpl
theorem g_callS {E : L2.St → XK} {σ : L2.St} {H : Hp} {Q : VK} (h : t σ H fun vs H1 => sp vs H1 Q (E σ)) : tCallS sp E t σ H Q := h
end
end Bx

namespace Bx
section
variable {P : Program} {w : World} {K : PySem.W.Frag} {mg : Str → Option Value} {base : Heap} {C : Addr}
theorem XErr.of {H H1 : Hp} {y : V} {E : XK} (h : XErr C H y E) (s : Same H H1) : XErr C H1 y E := fun d H' s2 e => h d H' (s.trans s2) e
def spCheckFile (K : PySem.W.Frag) (C : Addr) : Sp := fun vs H Q E => ∃ (a : Addr) (cs : List Nat), vs = [.ref a] ∧ Cells K H a cs ∧ (fwr cs = none → ∀ H', Same H H' → Q .non H') ∧ (∀ p, fwr cs = some p → XErr C H (vn p) E)
theorem ok_checkFile {f : Addr} {fd : FuncData} (F : Def K mg "check_file" sCheckFile f fd) (b : Binds K fd ["cells"] []) (T : Txt mg) (B : BfT P w K mg base C) (C_firstWrong : Cal P w K mg base 33 "first_wrong" (spFirstWrong K) []) :
    CalX P w K mg base 34 "check_file" (spCheckFile K C) := by
  refine calX F b scCheckFile (fun vs H Q E h => ?_) (fun cdv A outer s H vs Q E hr h => ?_)
  · obtain ⟨a, cs, rfl, _⟩ := h
    rfl
  obtain ⟨a, cs, rfl, hC, q, qe⟩ := h
  refine ⟨_, (pss_cons (ps_set (i := 1) scCheckFile.nd rfl (Or.inl rfl) (pe_c C_firstWrong hr (by decide) rfl (pa_cons (pv 0) pa_nil)))
    (pss_one (ps_if (pt_cmpR op_notN (pv 1) pe_non (nomark _)) 
      (pss_one (ps_raise rfl (takes_of rfl rfl rfl rfl) (pmk_bf (C := C) B hr (by decide) rfl (pa_cons (pv 1) pa_nil)))) pss_nil))), ?_⟩
  walk_at "rd"
  refine ⟨a, cs, rfl, hC, fun H1 s1 => ?_⟩
  walk_at "rd"
  cases e : fwr cs with
  | none =>
    walk_at "rd"
    exact q e H1 s1
  | some p =>
    have hp := fwr_lt hC.len e
    have := hC.len
    walk_at "rd"
    refine g_ndT int_non ?_
    exact ⟨_, rfl, _, rfl, .inr ⟨p, rfl, by omega⟩, (qe p e).of s1⟩
def spRead (K : PySem.W.Frag) (C : Addr) (fr : Bool) : Sp := fun vs H Q E => ∃ (a : Addr) (cs : List Nat), vs = [.ref a] ∧ Cells K H a cs ∧
  (∀ bs, fwr cs = none → prs 31 cs 0 cs.length 0 = .ok bs → ∀ v H', Same H H' → Tp K H' v (.tuple (daL fr cs (rws cs (hsL bs)) bs)) → Q v H') ∧ (∀ p, fwr cs = some p → XErr C H (vn p) E)
def spFreeCells (K : PySem.W.Frag) (C : Addr) : Sp := fun vs H Q E => ∃ (a : Addr) (cs : List Nat), vs = [.ref a] ∧ Cells K H a cs ∧
  (∀ bs, fwr cs = none → prs 31 cs 0 cs.length 0 = .ok bs → ∀ H', Same H H' → Q (vn (fre cs (hsL bs))) H') ∧ (∀ p, fwr cs = some p → XErr C H (vn p) E)
end
end Bx

namespace Bx
theorem b_all : bootBuiltins "all" = some (.builtin "all") := by decide +kernel
section
variable {K : PySem.W.Frag} {σ : L2.St} {H : Hp} {Q : VK} {D : Ends} {ta tb tv : TE} {tr t : TA} {C a dx : Addr} {fs : List (Str × V)} {f m : Str} {v : V} {sp : Sp} {dvs : List V} {E : XK}
theorem g_andV (h : ta σ H fun x H1 => ∃ c, x = .bl c ∧ if c = true then tb σ H1 Q else Q (.bl false) H1) : tAndV ta tb σ H Q := h
theorem g_fld (h : ta σ H fun x H1 => ∃ a C dx fs v, x = .ref a ∧ H1 a = some (.ins C dx fs) ∧ Cls K C ∧ NoAttr K C f ∧ fs.lookup f = some v ∧ Q v H1) : tFld K ta f σ H Q := h
theorem g_sfld (h : tv σ H fun y H1 => ta σ H1 fun x H2 => ∃ a C dx fs, x = .ref a ∧ H2 a = some (.ins C dx fs) ∧ Cls K C ∧ NoAttr K C f ∧ fs.length < 1000 ∧ D.nx σ (upd H2 a (.ins C dx (putF f y fs)))) : sFld K ta tv f D σ H := h
theorem g_fldaug {rd : V → V → Hp → VK → Prop} (h : ta σ H fun x H1 => ∃ a C dx fs v, x = .ref a ∧ H1 a = some (.ins C dx fs) ∧ Cls K C ∧ NoAttr K C f ∧ fs.lookup f = some v ∧
  tv σ H1 fun y H2 => rd v y H2 fun z H3 => ∃ dx' fs', H3 a = some (.ins C dx' fs') ∧ fs'.length < 1000 ∧ D.nx σ (upd H3 a (.ins C dx' (putF f z fs')))) : sFldAug K ta tv rd f D σ H := h
theorem g_meth (h : ta σ H fun x H1 => ∃ a dx fs, x = .ref a ∧ H1 a = some (.ins C dx fs) ∧ fs.lookup m = none ∧ tr σ H1 fun vs H2 => sp (x :: (vs ++ dvs)) H2 Q E) : tMeth C m sp dvs E ta tr σ H Q := h
theorem g_make (h : tr σ H fun vs H1 => ∀ x dx, H1 x = none → H1 dx = none → dx ≠ x → sp (.ref x :: (vs ++ dvs)) (upd (upd H1 dx (.own x)) x (.ins C dx [])) (fun v H2 => v = .non ∧ Q (.ref x) H2) E) : tMake C sp dvs E tr σ H Q := h
theorem g_star {QA : List V → Hp → Prop} (h : ta σ H fun x H1 => ∃ p xs, x = V.ref p ∧ (SqT K H1 p xs ∨ SqL K H1 p xs) ∧ tr σ H1 fun ys H2 => QA (xs ++ ys) H2) : StX.tStar K ta tr σ H QA := h
theorem g_truth (h : ta σ H Q) : ta σ H Q := h
end
/-- sum of a list or a tuple of ints -/
def rSumA (K : PySem.W.Frag) : List V → Hp → VK → Prop := fun vs H Q => ∃ (a : Addr) (ns : List Int), vs = [V.ref a] ∧ (SqL K H a (ns.map V.int) ∨ SqT K H a (ns.map V.int)) ∧ Q (.int ns.sum) H
theorem cr_sumA {X : Cx} (hc : X.calm = true) : CallR X (.builtin "sum") (rSumA X.K) := by
  intro pins s σ H vs us Q I r h
  obtain ⟨a, ns, rfl, hs, q⟩ := h
  rcases hs with hs | hs
  · exact cr_sum hc pins s σ H [V.ref a] us Q I r ⟨a, ns, rfl, hs, q⟩
  · obtain ⟨its, rv, hl, _⟩ := I.tuple hs
    rw [Vals.ref1 r]
    obtain ⟨xs, hx⟩ := (rv.ints).allInts.items
    have hn : numsOf its.toArray.toList = ns := by rw [show its.toArray.toList = its from rfl, (rv.ints).numsOf]
    rw [hx] at hl hn
    rw [nums_intItems] at hn
    refine PySem.W.ktm_sumG (I.ok.hd hc) hl fun h' tk t' hk => ?_
    rw [preSum_eq, List.take_of_length_le (by simp), hn]
    exact ⟨.int _, H, I.kept hk, ⟨_, rfl⟩, q⟩

mutual
def all1 : Sh → List Sh
  | .dat c => [.dat c]
  | .tab t => [.tab t]
  | .grp ks => .grp ks :: allL ks
def allL : List Sh → List Sh
  | [] => []
  | s :: r => all1 s ++ allL r
end
theorem allL_flat : ∀ l : List Sh, allL l = (l.map all1).flatten
  | [] => rfl
  | s :: r => by rw [allL, List.map_cons, List.flatten_cons, allL_flat r]
theorem allL_append (a b : List Sh) : allL (a ++ b) = allL a ++ allL b := by
  rw [allL_flat, allL_flat, allL_flat, List.map_append, List.flatten_append]
theorem allL_one (s : Sh) : allL [s] = all1 s := by rw [allL, allL, List.append_nil]
theorem allL_mem : ∀ (l : List Sh) (s : Sh), s ∈ l → (all1 s).length ≤ (allL l).length ∧ ∀ x ∈ all1 s, x ∈ allL l
  | c :: r, s, h => by
    rw [allL, List.length_append]
    rcases List.mem_cons.mp h with h | h
    · subst h
      exact ⟨by omega, fun x hx => List.mem_append_left _ hx⟩
    · have := allL_mem r s h
      exact ⟨by omega, fun x hx => List.mem_append_right _ (this.2 x hx)⟩
theorem all1_pos (s : Sh) : 0 < (all1 s).length := by
  cases s <;> rw [all1] <;> simp
theorem all1_self (s : Sh) : s ∈ all1 s := by
  cases s <;> rw [all1] <;> simp
theorem allL_len : ∀ l : List Sh, l.length ≤ (allL l).length
  | [] => Nat.zero_le _
  | s :: r => by
    have := allL_len r
    have := all1_pos s
    rw [allL, List.length_append, List.length_cons]
    omega
theorem allL_sub {l : List Sh} {i : Nat} : (allL (l.take i)).length ≤ (allL l).length := by
  have e := allL_append (l.take i) (l.drop i)
  rw [List.take_append_drop] at e
  rw [e, List.length_append]
  omega
/-- the cells of a box, those of boxes in it left out -/
def wt : Sh → Nat
  | .dat c => 2 + c.length
  | .tab t => 2 + t.length
  | .grp _ => 2
def isG : Sh → Bool
  | .grp _ => true
  | .dat _ => false
  | .tab _ => false
mutual
theorem wt_1 : ∀ s : Sh, ((all1 s).map wt).sum = ln1 s
  | .dat c => by rw [all1, ln1]; simp [wt]
  | .tab c => by rw [all1, ln1]; simp [wt]
  | .grp ks => by
    rw [all1, ln1, List.map_cons, List.sum_cons, wt_L ks]
    rfl
theorem wt_L : ∀ l : List Sh, ((allL l).map wt).sum = lnL l
  | [] => rfl
  | s :: r => by rw [allL, lnL, List.map_append, List.sum_append, wt_1 s, wt_L r]
end
mutual
theorem gp_1 : ∀ s : Sh, gp1 s = (all1 s).length + ((all1 s).filter isG).length
  | .dat c => by rw [all1, gp1]; rfl
  | .tab c => by rw [all1, gp1]; rfl
  | .grp ks => by
    rw [all1, gp1, gp_L ks, List.length_cons, List.filter_cons, if_pos (show isG (Sh.grp ks) = true from rfl), List.length_cons]
    omega
theorem gp_L : ∀ l : List Sh, gpL l = (allL l).length + ((allL l).filter isG).length + 1
  | [] => rfl
  | s :: r => by
    rw [allL, gpL, gp_1 s, gp_L r, List.length_append, List.filter_append, List.length_append]
    omega
end
/-- the lengths of the data boxes, in order -/
def lnD : Sh → List Nat
  | .dat c => [c.length]
  | .tab _ => []
  | .grp _ => []
def lens (l : List Sh) : List Nat := (l.map lnD).flatten
theorem lens_append (a b : List Sh) : lens (a ++ b) = lens a ++ lens b := by
  unfold lens
  rw [List.map_append, List.flatten_append]
theorem lens_len (l : List Sh) : (lens l).length ≤ l.length := by
  induction l with
  | nil => exact Nat.le_refl _
  | cons s r ih =>
    have e : lens (s :: r) = lnD s ++ lens r := by
      unfold lens
      rw [List.map_cons, List.flatten_cons]
    rw [e, List.length_append, List.length_cons]
    have : (lnD s).length ≤ 1 := by cases s <;> simp [lnD]
    omega
def tgs1 : Sh → List (Nat × Nat)
  | .tab t => t
  | .dat _ => []
  | .grp _ => []
def tgsL (l : List Sh) : List (Nat × Nat) := (l.map tgs1).flatten
def itOk : Sh → Prop
  | .dat c => c.length ≤ 6 ∧ ∀ x ∈ c, x ≤ 99
  | .tab t => t.length ≤ 6
  | .grp _ => True
/-- a shape as it must be -/
structure OkS (ss : List Sh) : Prop where
  ne : ss ≠ []
  nb : (allL ss).length ≤ 6
  ln : lnL ss ≤ 30
  dp : dpsL ss ≤ 2
  it : ∀ s ∈ allL ss, itOk s
  tg : ∀ t ∈ tgsL (allL ss), ∃ m, (lens (allL ss))[t.1]? = some m ∧ t.2 < m
/-- a box: its word and what is in it -/
def kw : Sh → Str
  | .dat _ => "data"
  | .tab _ => "table"
  | .grp _ => "group"
def cd : Sh → List PyData
  | .dat c => c.map pn
  | .tab t => t.map pr
  | .grp ks => shL ks
def cn : Sh → Nat
  | .dat c => c.length
  | .tab t => t.length
  | .grp ks => ks.length
theorem sh1_eq (s : Sh) : sh1 s = .tuple [.str (kw s), .tuple (cd s)] := by
  cases s <;> rw [sh1] <;> rfl
theorem cd_len (s : Sh) : (cd s).length = cn s := by
  cases s with
  | dat c => exact List.length_map _
  | tab c => exact List.length_map _
  | grp ks =>
    show (shL ks).length = ks.length
    rw [shL_map, List.length_map]
theorem kw_g (s : Sh) : V.str (kw s) = V.str "group" ↔ isG s = true := by
  cases s with
  | dat c => exact ⟨fun h => absurd h (sne "data" "group"), fun h => by cases h⟩
  | tab c => exact ⟨fun h => absurd h (sne "table" "group"), fun h => by cases h⟩
  | grp c => exact ⟨fun _ => rfl, fun _ => rfl⟩
theorem mul_list {α : Type} {l : List α} {i : Nat} {x : α} (h : l[i]? = some x) : i < l.length := (List.getElem?_eq_some_iff.mp h).1
/-- the item of a walk over boxes -/
theorem Tp.box {K : PySem.W.Frag} {H : Hp} {xs : List V} {ss : List Sh} {i : Nat} {x : V} (h : TpAll K H xs (ss.map sh1)) (hx : xs[i]? = some x) : ∃ s t y ys, ss[i]? = some s ∧ x = .ref t ∧ SqT K H t [.str (kw s), .ref y] ∧ H y = some (.tup ys) ∧ TpAll K H ys (cd s) ∧ Tp K H (.ref t) (sh1 s) := by
  obtain ⟨dd, e1, e2⟩ := h.get hx
  rw [List.getElem?_map] at e1
  cases hb : ss[i]? with
  | none =>
    rw [hb] at e1
    cases e1
  | some s =>
    rw [hb] at e1
    have e3 := (Option.some.inj e1).symm
    subst e3
    have e4 := e2
    rw [sh1_eq] at e2
    obtain ⟨t, y, rfl, g1, g2⟩ := Tp.pair_inv e2
    obtain ⟨u, ys, rfl, g3, g4⟩ := Tp.tup_get g2
    exact ⟨s, t, u, ys, rfl, rfl, g1, g3, g4, e4⟩
section
variable {P : Program} {w : World} {K : PySem.W.Frag} {mg : Str → Option Value} {base : Heap}
def spAllBoxes (K : PySem.W.Frag) (n : Nat) : Sp := fun vs H Q _ => ∃ (v : V) (ss : List Sh), vs = [v] ∧ Tp K H v (.tuple (shL ss)) ∧ dpsL ss < n ∧ (allL ss).length ≤ 100 ∧ ∀ l xs H', Same H H' → H l = none → H' l = some (.lst xs) → TpAll K H' xs ((allL ss).map sh1) → Q (.ref l) H'
end
end Bx

end
section
open PySem PySem.Spec PyProof.Rows L2 C8 Bx
local macro_rules | `(tactic| walk_at "rd") => `(tactic| repeat (first
  | with_reducible refine g_seq ?_ | with_reducible refine g_asg ?_ | with_reducible refine g_name ?_
  | ((with_reducible show tVar _ _ _ _); refine ⟨_, rfl, ?_⟩) | with_reducible refine g_c ?_ | with_reducible refine g_op ?_ | with_reducible refine g_test ?_ | with_reducible refine g_B ?_
  | with_reducible refine g_ifS ?_ | with_reducible refine g_ret ?_ | with_reducible refine g_retN ?_ | with_reducible refine g_drop ?_ | with_reducible refine g_nil ?_ | with_reducible refine g_cons ?_
  | with_reducible refine g_cb ?_ | with_reducible refine g_call ?_ | with_reducible refine g_not ?_ | with_reducible refine g_and ?_ | with_reducible refine g_or ?_ | with_reducible refine g_if ?_
  | with_reducible refine g_I0 ?_ | ((with_reducible refine g_eq ?_ ?_); exact rfl) | ((with_reducible refine g_ne ?_ ?_); exact rfl) | with_reducible refine g_chain ?_ | with_reducible refine g_tup ?_ | with_reducible refine g_lst ?_ | with_reducible refine g_bm ?_
  | with_reducible refine g_bl ?_ | ((with_reducible show tAug _ _ _ _ _ _); refine ⟨_, rfl, ?_⟩) | with_reducible refine g_ipI ?_ | with_reducible refine g_next ?_ | with_reducible refine g_break ?_ | with_reducible refine g_par ?_ | with_reducible refine g_bm0 ?_ | with_reducible refine g_sub ?_ | with_reducible refine g_int ?_ | with_reducible refine g_intB ?_ | with_reducible refine g_iSeq ?_ | with_reducible refine g_sl ?_ | with_reducible refine g_part ?_ | with_reducible refine g_nopart ?_ | with_reducible refine g_in ?_ | with_reducible refine g_yes ?_ | with_reducible refine g_for ?_ | with_reducible refine g_iList ?_ | with_reducible refine g_iTup ?_ | with_reducible refine g_iEnum ?_ | with_reducible refine g_iR1 ?_ | with_reducible refine g_lc ?_ | with_reducible refine g_lstRg ?_ | with_reducible refine g_rg2 ?_ | with_reducible refine g_rg1 ?_ | with_reducible refine g_dput ?_ | with_reducible refine g_dnotin ?_ | with_reducible refine g_din ?_ | with_reducible refine g_dget ?_ | with_reducible refine g_gcons ?_ | with_reducible refine g_gnil ?_ | with_reducible refine g_nn ?_ | with_reducible refine g_andV ?_ | with_reducible refine g_make ?_ | with_reducible refine g_star ?_
  | with_reducible refine iteT ?_ | with_reducible refine iteF ?_ | with_reducible refine g_nT ?_ | with_reducible refine g_nF ?_ | with_reducible refine isi_ii ?_ | with_reducible refine isi_ib ?_ | with_reducible refine isi_it ?_ | with_reducible refine isi_st ?_))
local macro_rules | `(tactic| walk_at "rd1") => `(tactic| repeat (first
  | with_reducible refine g_seq ?_ | with_reducible refine g_asg ?_ | with_reducible refine g_name ?_
  | ((with_reducible show tVar _ _ _ _); refine ⟨_, rfl, ?_⟩) | with_reducible refine g_c ?_ | with_reducible refine g_op ?_ | with_reducible refine g_test ?_ | with_reducible refine g_B ?_
  | with_reducible refine g_ifS ?_ | with_reducible refine g_ret ?_ | with_reducible refine g_retN ?_ | with_reducible refine g_drop ?_ | with_reducible refine g_nil ?_ | with_reducible refine g_cons ?_
  | with_reducible refine g_cb ?_ | with_reducible refine g_call ?_ | with_reducible refine g_not ?_ | with_reducible refine g_and ?_ | with_reducible refine g_or ?_ | with_reducible refine g_if ?_
  | with_reducible refine g_I0 ?_ | ((with_reducible refine g_eq ?_ ?_); exact rfl) | ((with_reducible refine g_ne ?_ ?_); exact rfl) | with_reducible refine g_chain ?_ | with_reducible refine g_tup ?_ | with_reducible refine g_bm ?_
  | with_reducible refine g_bl ?_ | ((with_reducible show tAug _ _ _ _ _ _); refine ⟨_, rfl, ?_⟩) | with_reducible refine g_ipI ?_ | with_reducible refine g_next ?_ | with_reducible refine g_break ?_ | with_reducible refine g_par ?_ | with_reducible refine g_bm0 ?_ | with_reducible refine g_sub ?_ | with_reducible refine g_int ?_ | with_reducible refine g_intB ?_ | with_reducible refine g_iSeq ?_ | with_reducible refine g_sl ?_ | with_reducible refine g_part ?_ | with_reducible refine g_nopart ?_ | with_reducible refine g_in ?_ | with_reducible refine g_yes ?_ | with_reducible refine g_for ?_ | with_reducible refine g_iList ?_ | with_reducible refine g_iTup ?_ | with_reducible refine g_iEnum ?_ | with_reducible refine g_iR1 ?_ | with_reducible refine g_lc ?_ | with_reducible refine g_lstRg ?_ | with_reducible refine g_rg2 ?_ | with_reducible refine g_rg1 ?_ | with_reducible refine g_dput ?_ | with_reducible refine g_dnotin ?_ | with_reducible refine g_din ?_ | with_reducible refine g_dget ?_ | with_reducible refine g_gcons ?_ | with_reducible refine g_gnil ?_ | with_reducible refine g_nn ?_ | with_reducible refine g_andV ?_ | with_reducible refine g_make ?_ | with_reducible refine g_star ?_
  | with_reducible refine iteT ?_ | with_reducible refine iteF ?_ | with_reducible refine g_nT ?_ | with_reducible refine g_nF ?_ | with_reducible refine isi_ii ?_ | with_reducible refine isi_ib ?_ | with_reducible refine isi_it ?_ | with_reducible refine isi_st ?_))

namespace Bx
theorem hsL_ap : ∀ (l r : List Bo), hsL (l ++ r) = hsL l ++ hsL r
  | [], r => rfl
  | b :: l, r => by rw [List.cons_append, hsL_cons, hsL_cons, hsL_ap l r, List.append_assoc]
theorem rws_ap (cs h1 h2 : List Nat) : rws cs (h1 ++ h2) = rws cs h1 ++ rws cs h2 := by
  unfold rws
  rw [List.filter_append, List.map_append]
theorem fre_ap (cs h1 h2 : List Nat) : fre cs (h1 ++ h2) = fre cs h1 + fre cs h2 := by
  unfold fre
  rw [List.filter_append, List.map_append, List.sum_append]
theorem daL_ap (fr : Bool) (cs : List Nat) (rs : List (Nat × Nat)) : ∀ l r : List Bo, daL fr cs rs (l ++ r) = daL fr cs rs l ++ daL fr cs rs r
  | [], r => by rw [List.nil_append, daL, List.nil_append]
  | b :: l, r => by
    rw [List.cons_append, daL, daL, daL_ap fr cs rs l r]
    split
    · rfl
    · rfl
theorem Good.ap {cs : List Nat} {rs : List (Nat × Nat)} {a b : List Nat} (x : Good cs rs a) (y : Good cs rs b) : Good cs rs (a ++ b) := fun p hp => (List.mem_append.mp hp).elim (x p) (y p)
def hdg (gs : List Nat) : Nat := gs.headD 0
def gpA (cs gs : List Nat) (p : Nat) : Prop := hdg gs ≠ 0 → 2 ≤ hdg gs ∧ cel cs p = 3 ∧ cel cs (p + 1) = hdg gs
def fb (g p : Nat) : List Bo := if g = 0 then [] else [.bx 3 p g []]
mutual
def atS (cs : List Nat) (st : Nat → Nat) : Sh → List Nat → Nat → Prop
  | .dat c, gs, p => gpA cs gs p ∧ cel cs (p + hdg gs) = 2 ∧ cel cs (p + hdg gs + 1) = 2 + c.length ∧ ∀ i v, c[i]? = some v → cel cs (p + hdg gs + 2 + i) = v
  | .tab t, gs, p => gpA cs gs p ∧ cel cs (p + hdg gs) = 4 ∧ cel cs (p + hdg gs + 1) = 2 + t.length ∧ ∀ i x, t[i]? = some x → cel cs (p + hdg gs + 2 + i) = st x.1 + x.2
  | .grp ks, gs, p => gpA cs gs p ∧ cel cs (p + hdg gs) = 1 ∧ cel cs (p + hdg gs + 1) = 2 + lnL ks + (gs.tail.take (gpL ks)).sum ∧ atL cs st ks gs.tail (p + hdg gs + 2)
def atL (cs : List Nat) (st : Nat → Nat) : List Sh → List Nat → Nat → Prop
  | [], gs, p => gpA cs gs p
  | s :: r, gs, p => atS cs st s gs p ∧ atL cs st r (gs.drop (gp1 s)) (p + ln1 s + (gs.take (gp1 s)).sum)
end
mutual
def bo1 : Sh → List Nat → Nat → List Bo
  | .dat c, gs, p => fb (hdg gs) p ++ [.bx 2 (p + hdg gs) (2 + c.length) []]
  | .tab t, gs, p => fb (hdg gs) p ++ [.bx 4 (p + hdg gs) (2 + t.length) []]
  | .grp ks, gs, p => fb (hdg gs) p ++ [.bx 1 (p + hdg gs) (2 + lnL ks + (gs.tail.take (gpL ks)).sum) (boL ks gs.tail (p + hdg gs + 2))]
def boL : List Sh → List Nat → Nat → List Bo
  | [], gs, p => fb (hdg gs) p
  | s :: r, gs, p => bo1 s gs p ++ boL r (gs.drop (gp1 s)) (p + ln1 s + (gs.take (gp1 s)).sum)
end
mutual
/-- the data boxes: where their cells begin, how many they are -/
def rw1 : Sh → List Nat → Nat → List (Nat × Nat)
  | .dat c, gs, p => [(p + hdg gs + 2, c.length)]
  | .tab _, _, _ => []
  | .grp ks, gs, p => rwL ks gs.tail (p + hdg gs + 2)
def rwL : List Sh → List Nat → Nat → List (Nat × Nat)
  | [], _, _ => []
  | s :: r, gs, p => rw1 s gs p ++ rwL r (gs.drop (gp1 s)) (p + ln1 s + (gs.take (gp1 s)).sum)
end
section
variable {cs : List Nat} {st : Nat → Nat} {rs : List (Nat × Nat)}
theorem hd_ok {a e dp : Nat} (h1 : 1 ≤ cel cs a) (h2 : cel cs a ≤ 4) (h3 : cel cs a = 1 → dp ≤ 1) (h4 : 2 ≤ cel cs (a + 1)) (h5 : a + cel cs (a + 1) ≤ e) : hd cs a e dp = none := by
  unfold hd
  rw [if_neg (by omega), if_neg (by omega), if_neg (by omega)]
theorem prs_box {f a e dp : Nat} {ks r : List Bo} (ha : a < e) (q : hd cs a e dp = none) (i : (if cel cs a = 1 then prs f cs (a + 2) (a + cel cs (a + 1)) (dp + 1) else .ok []) = .ok ks) (j : prs f cs (a + cel cs (a + 1)) e dp = .ok r) : prs (f + 1) cs a e dp = .ok (.bx (cel cs a) a (cel cs (a + 1)) ks :: r) := by
  rw [prs_go ha q i, j]
theorem prs_gap {gs : List Nat} {p e dp f : Nat} {tl : List Bo} (h : gpA cs gs p) (hq : p + hdg gs ≤ e) (k : ∀ f', e - (p + hdg gs) < f' → prs f' cs (p + hdg gs) e dp = .ok tl) (hf : e - p < f) : prs f cs p e dp = .ok (fb (hdg gs) p ++ tl) := by
  unfold fb
  by_cases h0 : hdg gs = 0
  · rw [if_pos h0, List.nil_append]
    rw [h0] at k
    exact k f hf
  · obtain ⟨g1, g2, g3⟩ := h h0
    rw [if_neg h0]
    obtain ⟨f, rfl⟩ : ∃ f', f = f' + 1 := ⟨f - 1, by omega⟩
    have := prs_box (cs := cs) (f := f) (a := p) (e := e) (dp := dp) (ks := []) (r := tl) (by omega) (hd_ok (by omega) (by omega) (by omega) (by omega) (by omega)) (by rw [if_neg (by omega)]) (by rw [g3]; exact k f (by omega))
    rw [g2, g3] at this
    exact this
theorem take_one_sum {gs : List Nat} (h : 1 ≤ gs.length) : (gs.take 1).sum = hdg gs := by
  cases gs with
  | nil => exact absurd h (by decide)
  | cons g r => simp [hdg]
theorem take_tail {gs : List Nat} (h : 1 ≤ gs.length) (n : Nat) : (gs.take (1 + n)).sum = hdg gs + (gs.tail.take n).sum := by
  cases gs with
  | nil => exact absurd h (by decide)
  | cons g r =>
    rw [Nat.add_comm 1 n, List.take_succ_cons, List.sum_cons]
    rfl
theorem take_sum_add (gs : List Nat) (a b : Nat) : (gs.take (a + b)).sum = (gs.take a).sum + ((gs.drop a).take b).sum := by rw [List.take_add, List.sum_append]
mutual
theorem prs_S : ∀ (s : Sh) (gs : List Nat) (p dp f e : Nat) (tl : List Bo), atS cs st s gs p → dp + dps1 s ≤ 2 → gp1 s ≤ gs.length → p + ln1 s + (gs.take (gp1 s)).sum ≤ e → (∀ f', e - (p + ln1 s + (gs.take (gp1 s)).sum) < f' → prs f' cs (p + ln1 s + (gs.take (gp1 s)).sum) e dp = .ok tl) → e - p < f → prs f cs p e dp = .ok (bo1 s gs p ++ tl)
  | .dat c, gs, p, dp, f, e, tl, h, hd', hg, hq, k, hf => by
    rw [atS] at h
    obtain ⟨h1, h2, h3, h4⟩ := h
    rw [gp1] at hg hq k
    rw [ln1, take_one_sum hg] at hq k
    rw [bo1, List.append_assoc]
    refine prs_gap h1 (by omega) (fun f' hf' => ?_) hf
    obtain ⟨f', rfl⟩ : ∃ g, f' = g + 1 := ⟨f' - 1, by omega⟩
    have := prs_box (cs := cs) (f := f') (a := p + hdg gs) (e := e) (dp := dp) (ks := []) (r := tl) (by omega) (hd_ok (by omega) (by omega) (by omega) (by omega) (by omega)) (by rw [if_neg (by omega)]) (by rw [h3, show p + hdg gs + (2 + c.length) = p + (2 + c.length) + hdg gs by omega]; exact k f' (by omega))
    rw [h2, h3] at this
    exact this
  | .tab c, gs, p, dp, f, e, tl, h, hd', hg, hq, k, hf => by
    rw [atS] at h
    obtain ⟨h1, h2, h3, h4⟩ := h
    rw [gp1] at hg hq k
    rw [ln1, take_one_sum hg] at hq k
    rw [bo1, List.append_assoc]
    refine prs_gap h1 (by omega) (fun f' hf' => ?_) hf
    obtain ⟨f', rfl⟩ : ∃ g, f' = g + 1 := ⟨f' - 1, by omega⟩
    have := prs_box (cs := cs) (f := f') (a := p + hdg gs) (e := e) (dp := dp) (ks := []) (r := tl) (by omega) (hd_ok (by omega) (by omega) (by omega) (by omega) (by omega)) (by rw [if_neg (by omega)]) (by rw [h3, show p + hdg gs + (2 + c.length) = p + (2 + c.length) + hdg gs by omega]; exact k f' (by omega))
    rw [h2, h3] at this
    exact this
  | .grp ks, gs, p, dp, f, e, tl, h, hd', hg, hq, k, hf => by
    rw [atS] at h
    obtain ⟨h1, h2, h3, h4⟩ := h
    rw [gp1] at hg hq k
    rw [dps1] at hd'
    have hg1 : 1 ≤ gs.length := by omega
    rw [ln1, take_tail hg1] at hq k
    rw [bo1, List.append_assoc]
    refine prs_gap h1 (by omega) (fun f' hf' => ?_) hf
    obtain ⟨f', rfl⟩ : ∃ g, f' = g + 1 := ⟨f' - 1, by omega⟩
    have inner := prs_SL ks gs.tail (p + hdg gs + 2) (dp + 1) f' (p + hdg gs + (2 + lnL ks + (gs.tail.take (gpL ks)).sum)) [] h4 (by omega) (by rw [List.length_tail]; omega) (by omega) (fun g hg => by
      cases g with
      | zero => omega
      | succ g => exact prs_stop (by omega)) (by omega)
    rw [List.append_nil] at inner
    have := prs_box (cs := cs) (f := f') (a := p + hdg gs) (e := e) (dp := dp) (ks := boL ks gs.tail (p + hdg gs + 2)) (r := tl) (by omega) (hd_ok (by omega) (by omega) (by omega) (by omega) (by omega)) (by rw [if_pos h2, h3]; exact inner)
      (by rw [h3, show p + hdg gs + (2 + lnL ks + (gs.tail.take (gpL ks)).sum) = p + (2 + lnL ks) + (hdg gs + (gs.tail.take (gpL ks)).sum) by omega]; exact k f' (by omega))
    rw [h2, h3] at this
    exact this
theorem prs_SL : ∀ (ss : List Sh) (gs : List Nat) (p dp f e : Nat) (tl : List Bo), atL cs st ss gs p → dp + dpsL ss ≤ 2 → gpL ss ≤ gs.length → p + lnL ss + (gs.take (gpL ss)).sum ≤ e → (∀ f', e - (p + lnL ss + (gs.take (gpL ss)).sum) < f' → prs f' cs (p + lnL ss + (gs.take (gpL ss)).sum) e dp = .ok tl) → e - p < f → prs f cs p e dp = .ok (boL ss gs p ++ tl)
  | [], gs, p, dp, f, e, tl, h, hd', hg, hq, k, hf => by
    rw [atL] at h
    rw [gpL] at hg hq k
    rw [lnL, take_one_sum hg] at hq k
    rw [boL]
    exact prs_gap h (by omega) k hf
  | s :: r, gs, p, dp, f, e, tl, h, hd', hg, hq, k, hf => by
    rw [atL] at h
    rw [gpL] at hg hq k
    rw [dpsL] at hd'
    rw [lnL, take_sum_add] at hq k
    rw [boL, List.append_assoc]
    refine prs_S s gs p dp f e _ h.1 (by omega) (by omega) (by omega) (fun f' hf' => ?_) hf
    refine prs_SL r (gs.drop (gp1 s)) _ dp f' e tl h.2 (by omega) (by rw [List.length_drop]; omega) (by omega) (fun g hg => ?_) hf'
    rw [show p + ln1 s + (gs.take (gp1 s)).sum + lnL r + ((gs.drop (gp1 s)).take (gpL r)).sum = p + (ln1 s + lnL r) + ((gs.take (gp1 s)).sum + ((gs.drop (gp1 s)).take (gpL r)).sum) by omega] at hg ⊢
    exact k g hg
end
theorem hs_fb (g p : Nat) : hsL (fb g p) = if g = 0 then [] else [p] := by
  unfold fb
  split
  · rfl
  · rw [hsL_cons, hsB]
    rfl
theorem rws_fb {gs : List Nat} {p : Nat} (h : gpA cs gs p) : rws cs (hsL (fb (hdg gs) p)) = [] := by
  rw [hs_fb]
  by_cases h0 : hdg gs = 0
  · rw [if_pos h0]
    rfl
  · obtain ⟨_, g2, _⟩ := h h0
    rw [if_neg h0]
    unfold rws
    rw [List.filter_cons, if_neg (by unfold isK; rw [g2]; decide)]
    rfl
theorem hs_one (kd p n : Nat) (ks : List Bo) : hsL [.bx kd p n ks] = p :: hsL ks := by
  rw [hsL_cons, hsB]
  show p :: hsL ks ++ [] = _
  rw [List.append_nil]
theorem rws_cons2 {p : Nat} {hs : List Nat} (h : cel cs p = 2) : rws cs (p :: hs) = row cs p :: rws cs hs := by
  unfold rws
  rw [List.filter_cons, if_pos (by unfold isK; rw [h]; decide)]
  rfl
theorem rws_consN {p : Nat} {hs : List Nat} (h : cel cs p ≠ 2) : rws cs (p :: hs) = rws cs hs := by
  unfold rws
  rw [List.filter_cons, if_neg (by unfold isK; exact fun z => h (of_decide_eq_true z))]
mutual
theorem rws_S : ∀ (s : Sh) (gs : List Nat) (p : Nat), atS cs st s gs p → rws cs (hsL (bo1 s gs p)) = rw1 s gs p
  | .dat c, gs, p, h => by
    rw [atS] at h
    obtain ⟨h1, h2, h3, h4⟩ := h
    rw [bo1, rw1, hsL_ap, rws_ap, rws_fb h1, hs_one, rws_cons2 h2, List.nil_append]
    unfold row
    rw [h3, show 2 + c.length - 2 = c.length by omega]
    rfl
  | .tab c, gs, p, h => by
    rw [atS] at h
    obtain ⟨h1, h2, h3, h4⟩ := h
    rw [bo1, rw1, hsL_ap, rws_ap, rws_fb h1, hs_one, rws_consN (by omega), List.nil_append]
    rfl
  | .grp ks, gs, p, h => by
    rw [atS] at h
    obtain ⟨h1, h2, h3, h4⟩ := h
    rw [bo1, rw1, hsL_ap, rws_ap, rws_fb h1, hs_one, rws_consN (by omega), List.nil_append]
    exact rws_SL ks gs.tail _ h4
theorem rws_SL : ∀ (ss : List Sh) (gs : List Nat) (p : Nat), atL cs st ss gs p → rws cs (hsL (boL ss gs p)) = rwL ss gs p
  | [], gs, p, h => by
    rw [atL] at h
    rw [boL, rwL, rws_fb h]
  | s :: r, gs, p, h => by
    rw [atL] at h
    rw [boL, rwL, hsL_ap, rws_ap, rws_S s gs p h.1, rws_SL r _ _ h.2]
end
theorem fre_fb {gs : List Nat} {p : Nat} (h : gpA cs gs p) : fre cs (hsL (fb (hdg gs) p)) = hdg gs := by
  rw [hs_fb]
  by_cases h0 : hdg gs = 0
  · rw [if_pos h0, h0]
    rfl
  · obtain ⟨_, g2, g3⟩ := h h0
    rw [if_neg h0]
    unfold fre
    rw [List.filter_cons, if_pos (by unfold isK; rw [g2]; decide), List.filter_nil, List.map_cons, List.map_nil, List.sum_cons, g3]
    rfl
theorem fre_consN {p : Nat} {hs : List Nat} (h : cel cs p ≠ 3) : fre cs (p :: hs) = fre cs hs := by
  unfold fre
  rw [List.filter_cons, if_neg (by unfold isK; exact fun z => h (of_decide_eq_true z))]
theorem fre_nil : fre cs [] = 0 := rfl
mutual
theorem fre_S : ∀ (s : Sh) (gs : List Nat) (p : Nat), atS cs st s gs p → gp1 s ≤ gs.length → fre cs (hsL (bo1 s gs p)) = (gs.take (gp1 s)).sum
  | .dat c, gs, p, h, hg => by
    rw [atS] at h
    obtain ⟨h1, h2, h3, h4⟩ := h
    rw [gp1] at hg ⊢
    rw [bo1, hsL_ap, fre_ap, fre_fb h1, hs_one, fre_consN (by omega), take_one_sum hg]
    rfl
  | .tab c, gs, p, h, hg => by
    rw [atS] at h
    obtain ⟨h1, h2, h3, h4⟩ := h
    rw [gp1] at hg ⊢
    rw [bo1, hsL_ap, fre_ap, fre_fb h1, hs_one, fre_consN (by omega), take_one_sum hg]
    rfl
  | .grp ks, gs, p, h, hg => by
    rw [atS] at h
    obtain ⟨h1, h2, h3, h4⟩ := h
    rw [gp1] at hg ⊢
    rw [bo1, hsL_ap, fre_ap, fre_fb h1, hs_one, fre_consN (by omega), take_tail (by omega), fre_SL ks gs.tail _ h4 (by rw [List.length_tail]; omega)]
theorem fre_SL : ∀ (ss : List Sh) (gs : List Nat) (p : Nat), atL cs st ss gs p → gpL ss ≤ gs.length → fre cs (hsL (boL ss gs p)) = (gs.take (gpL ss)).sum
  | [], gs, p, h, hg => by
    rw [atL] at h
    rw [gpL] at hg ⊢
    rw [boL, fre_fb h, take_one_sum hg]
  | s :: r, gs, p, h, hg => by
    rw [atL] at h
    rw [gpL] at hg ⊢
    rw [boL, hsL_ap, fre_ap, fre_S s gs p h.1 (by omega), fre_SL r _ _ h.2 (by rw [List.length_drop]; omega), take_sum_add]
end
theorem ctn_eq {p n : Nat} {l : List Nat} (hn : cel cs (p + 1) = 2 + n) (hl : l.length = n) (h : ∀ i v, l[i]? = some v → cel cs (p + 2 + i) = v) : ctn cs p = l := by
  refine List.ext_getElem? fun i => ?_
  unfold ctn plc row
  rw [List.map_map, List.getElem?_map, hn, show 2 + n - 2 = n by omega]
  by_cases hi : i < n
  · rw [List.getElem?_range hi, List.getElem?_eq_getElem (by omega)]
    show some (cel cs (p + 2 + i)) = _
    rw [h i l[i] (List.getElem?_eq_getElem (by omega))]
  · rw [List.getElem?_eq_none (by rw [List.length_range]; omega), List.getElem?_eq_none (by omega)]
    rfl
theorem da_fb (fr : Bool) {gs : List Nat} {p : Nat} (h : gpA cs gs p) (hz : fr = false ∨ hdg gs = 0) : daL fr cs rs (fb (hdg gs) p) = [] := by
  unfold fb
  by_cases h0 : hdg gs = 0
  · rw [if_pos h0, daL]
  · obtain ⟨_, g2, _⟩ := h h0
    have hf : fr = false := hz.resolve_right h0
    rw [if_neg h0, daL, if_pos ⟨hf, decide_eq_true g2⟩, daL]
theorem da_one (fr : Bool) {kd p n : Nat} {ks : List Bo} (h : cel cs p ≠ 3) : daL fr cs rs [.bx kd p n ks] = [da1 fr cs rs (.bx kd p n ks)] := by
  rw [daL, if_neg (fun z => h (of_decide_eq_true z.2)), daL]
theorem hdg_z {gs : List Nat} (h : ∀ g ∈ gs, g = 0) : hdg gs = 0 := by
  cases gs with
  | nil => rfl
  | cons g r => exact h g List.mem_cons_self
/-- the targets of a shape's tables -/
def okT1 (cs : List Nat) (st : Nat → Nat) (rs : List (Nat × Nat)) (l : List Sh) : Prop := ∀ s ∈ l, ∀ x ∈ tgs1 s, tgd rs (st x.1 + x.2) = pr x ∧ own rs (st x.1 + x.2) = true
mutual
theorem da_S (fr : Bool) : ∀ (s : Sh) (gs : List Nat) (p : Nat), atS cs st s gs p → (fr = false ∨ ∀ g ∈ gs, g = 0) → okT1 cs st rs (all1 s) → daL fr cs rs (bo1 s gs p) = [sh1 s] ∧ Good cs rs (hsL (bo1 s gs p))
  | .dat c, gs, p, h, hz, ht => by
    rw [atS] at h
    obtain ⟨h1, h2, h3, h4⟩ := h
    refine ⟨?_, ?_⟩
    · rw [bo1, daL_ap, da_fb fr h1 (hz.imp id hdg_z), List.nil_append, da_one fr (by omega), da1, if_neg (by omega), if_pos h2, ctn_eq h3 rfl h4, sh1]
    · rw [bo1, hsL_ap, hs_one]
      refine Good.ap (fun q hq k => ?_) (fun q hq k => ?_)
      · rw [hs_fb] at hq
        split at hq
        · cases hq
        · rename_i h0
          obtain rfl := List.mem_singleton.mp hq
          have := (h1 h0).2.1
          omega
      · rcases List.mem_cons.mp hq with rfl | hq
        · omega
        · cases hq
  | .tab c, gs, p, h, hz, ht => by
    rw [atS] at h
    obtain ⟨h1, h2, h3, h4⟩ := h
    have ec : ctn cs (p + hdg gs) = c.map fun x => st x.1 + x.2 := by
      refine ctn_eq h3 (List.length_map _) fun i v hv => ?_
      rw [List.getElem?_map] at hv
      cases hx : c[i]? with
      | none =>
        rw [hx] at hv
        cases hv
      | some x =>
        rw [hx] at hv
        rw [← Option.some.inj hv]
        exact h4 i x hx
    have ht' := ht (.tab c) (all1_self _)
    refine ⟨?_, ?_⟩
    · rw [bo1, daL_ap, da_fb fr h1 (hz.imp id hdg_z), List.nil_append, da_one fr (by omega), da1, if_neg (by omega), if_neg (by omega), if_neg (by omega), ec, sh1, List.map_map]
      rw [show c.map (tgd rs ∘ fun x => st x.1 + x.2) = c.map pr from List.map_congr_left fun x hx => (ht' x hx).1]
    · rw [bo1, hsL_ap, hs_one]
      refine Good.ap (fun q hq k => ?_) (fun q hq k => ?_)
      · rw [hs_fb] at hq
        split at hq
        · cases hq
        · rename_i h0
          obtain rfl := List.mem_singleton.mp hq
          have := (h1 h0).2.1
          omega
      · rcases List.mem_cons.mp hq with rfl | hq
        · rw [ec]
          intro v hv
          obtain ⟨x, hx, rfl⟩ := List.mem_map.mp hv
          exact (ht' x hx).2
        · cases hq
  | .grp ks, gs, p, h, hz, ht => by
    rw [atS] at h
    obtain ⟨h1, h2, h3, h4⟩ := h
    obtain ⟨i1, i2⟩ := da_SL fr ks gs.tail _ h4 (hz.imp id fun z g hg => z g (List.mem_of_mem_tail hg)) (fun s hs => ht s (by rw [all1]; exact List.mem_cons_of_mem _ hs))
    refine ⟨?_, ?_⟩
    · rw [bo1, daL_ap, da_fb fr h1 (hz.imp id hdg_z), List.nil_append, da_one fr (by omega), da1, if_pos h2, i1, sh1]
    · rw [bo1, hsL_ap, hs_one]
      refine Good.ap (fun q hq k => ?_) (fun q hq k => ?_)
      · rw [hs_fb] at hq
        split at hq
        · cases hq
        · rename_i h0
          obtain rfl := List.mem_singleton.mp hq
          have := (h1 h0).2.1
          omega
      · rcases List.mem_cons.mp hq with rfl | hq
        · omega
        · exact i2 q hq k
theorem da_SL (fr : Bool) : ∀ (ss : List Sh) (gs : List Nat) (p : Nat), atL cs st ss gs p → (fr = false ∨ ∀ g ∈ gs, g = 0) → okT1 cs st rs (allL ss) → daL fr cs rs (boL ss gs p) = shL ss ∧ Good cs rs (hsL (boL ss gs p))
  | [], gs, p, h, hz, ht => by
    rw [atL] at h
    rw [boL, shL]
    refine ⟨da_fb fr h (hz.imp id hdg_z), fun q hq k => ?_⟩
    rw [hs_fb] at hq
    split at hq
    · cases hq
    · rename_i h0
      obtain rfl := List.mem_singleton.mp hq
      have := (h h0).2.1
      omega
  | s :: r, gs, p, h, hz, ht => by
    rw [atL] at h
    obtain ⟨i1, i2⟩ := da_S fr s gs p h.1 hz (fun x hx => ht x (by rw [allL]; exact List.mem_append_left _ hx))
    obtain ⟨j1, j2⟩ := da_SL fr r _ _ h.2 (hz.imp id fun z g hg => z g (List.mem_of_mem_drop hg)) (fun x hx => ht x (by rw [allL]; exact List.mem_append_right _ hx))
    rw [boL, daL_ap, i1, j1, shL, hsL_ap]
    exact ⟨rfl, i2.ap j2⟩
end
mutual
theorem rw_lens1 : ∀ (s : Sh) (gs : List Nat) (p : Nat), (rw1 s gs p).map (·.2) = lens (all1 s)
  | .dat c, gs, p => by rw [rw1, all1]; rfl
  | .tab c, gs, p => by rw [rw1, all1]; rfl
  | .grp ks, gs, p => by
    rw [rw1, all1, rw_lensL ks]
    rfl
theorem rw_lensL : ∀ (ss : List Sh) (gs : List Nat) (p : Nat), (rwL ss gs p).map (·.2) = lens (allL ss)
  | [], _, _ => by rw [rwL, allL]; rfl
  | s :: r, gs, p => by rw [rwL, allL, lens_append, List.map_append, rw_lens1 s, rw_lensL r]
end
/-- all that the reading of a written file gives -/
theorem read_of {ss : List Sh} {gs : List Nat} (hO : OkS ss) (hg : gs.length = gpL ss) (hcs : cs.length = lnL ss + gs.sum) (h30 : lnL ss + gs.sum ≤ 30) (hA : atL cs st ss gs 0) (hst : ∀ i r, (rwL ss gs 0)[i]? = some r → st i = r.1) :
    fwr cs = none ∧ ∃ bs, prs 31 cs 0 cs.length 0 = .ok bs ∧ daL false cs (rws cs (hsL bs)) bs = shL ss ∧ fre cs (hsL bs) = gs.sum ∧ ((∀ g ∈ gs, g = 0) → daL true cs (rws cs (hsL bs)) bs = shL ss) := by
  have et : gs.take (gpL ss) = gs := by rw [← hg, List.take_length]
  have hp : prs 31 cs 0 cs.length 0 = .ok (boL ss gs 0) := by
    have := prs_SL ss gs 0 0 31 cs.length [] hA (by have := hO.dp; omega) (by omega) (by rw [et]; omega) (fun f' hf' => by
      cases f' with
      | zero => omega
      | succ f' => exact prs_stop (by rw [et]; omega)) (by omega)
    rw [List.append_nil] at this
    exact this
  have hP := prs_pth 31 cs 0 cs.length 0 _ hp (by omega) (Nat.zero_le _) (Nat.le_refl _)
  have hr := rws_SL ss gs 0 hA
  have hap := hP.apart
  rw [hr] at hap
  have hT : okT1 cs st (rwL ss gs 0) (allL ss) := fun s hs x hx => by
    have hmem : x ∈ tgsL (allL ss) := by
      unfold tgsL
      exact List.mem_flatten.mpr ⟨_, List.mem_map.mpr ⟨s, hs, rfl⟩, hx⟩
    obtain ⟨m, hm, hlt⟩ := hO.tg x hmem
    rw [← rw_lensL ss gs 0, List.getElem?_map] at hm
    cases hrr : (rwL ss gs 0)[x.1]? with
    | none =>
      rw [hrr] at hm
      cases hm
    | some r =>
      rw [hrr] at hm
      have e2 : r.2 = m := Option.some.inj hm
      have hO' : Own (rwL ss gs 0) (st x.1 + x.2) x.1 x.2 := ⟨r, hrr, by rw [hst _ _ hrr]; omega, by rw [hst _ _ hrr]; omega, by rw [hst _ _ hrr]; omega⟩
      refine ⟨?_, own_iff.mpr ⟨_, _, hO'⟩⟩
      unfold tgd
      rw [tgt_own hap hO']
      rfl
  have hg1 := (da_SL (rs := rwL ss gs 0) false ss gs 0 hA (.inl rfl) hT)
  refine ⟨?_, boL ss gs 0, hp, ?_, ?_, fun hz => ?_⟩
  · unfold fwr
    rw [hp]
    show wre cs (hsL (boL ss gs 0)) = none
    unfold wre
    refine List.find?_eq_none.mpr fun n hn => ?_
    obtain ⟨q, hq, hk, hnq⟩ := ens_mem.mp hn
    have := hg1.2 q hq hk (cel cs n) (List.mem_map.mpr ⟨n, hnq, rfl⟩)
    unfold bad
    rw [hr, this]
    exact Bool.false_ne_true
  · rw [hr]
    exact hg1.1
  · rw [fre_SL ss gs 0 hA (by omega), et]
  · rw [hr]
    exact (da_SL (rs := rwL ss gs 0) true ss gs 0 hA (.inr hz) hT).1
end
end Bx

namespace Bx
theorem take_all {α : Type} {l : List α} {n : Nat} (h : n = l.length) : l.take n = l := by rw [h, List.take_length]
section
variable {P : Program} {w : World} {K : PySem.W.Frag} {mg : Str → Option Value} {base : Heap}
def spCellsOf (K : PySem.W.Frag) (n : Nat) : Sp := fun vs H Q _ => ∃ (v : V) (ss : List Sh), vs = [v] ∧ Tp K H v (.tuple (shL ss)) ∧ dpsL ss < n ∧ (allL ss).length ≤ 100 ∧ ∀ H', Same H H' → Q (vn (lnL ss)) H'
def spIsPair (K : PySem.W.Frag) : Sp := fun vs H Q _ => ∃ (a : Addr) (x y : V), vs = [.ref a] ∧ SqT K H a [x, y] ∧ Q (.bl true) H
def spIsTarget (K : PySem.W.Frag) : Sp := fun vs H Q _ => ∃ (a l : Addr) (t : Nat × Nat) (ls : List Nat), vs = [.ref a, .ref l] ∧ SqT K H a [vn t.1, vn t.2] ∧ SqL K H l (ls.map vn) ∧ (∃ m, ls[t.1]? = some m ∧ t.2 < m) ∧ Q (.bl true) H
/-- boxes whose items are as they must be -/
def spAreBoxes (K : PySem.W.Frag) (n : Nat) : Sp := fun vs H Q _ => ∃ (v : V) (a : Nat) (ss : List Sh), vs = [v, .int (a : Int)] ∧ Tp K H v (.tuple (shL ss)) ∧ dpsL ss < n ∧ dpsL ss + a ≤ 2 ∧ (allL ss).length ≤ 6 ∧ (∀ s ∈ allL ss, itOk s) ∧ ∀ H', Same H H' → Q (.bl true) H'
def spIsBox (K : PySem.W.Frag) (n : Nat) : Sp := fun vs H Q _ => ∃ (v : V) (a : Nat) (s : Sh), vs = [v, .int (a : Int)] ∧ Tp K H v (sh1 s) ∧ dps1 s ≤ n ∧ dps1 s + a ≤ 2 ∧ (all1 s).length ≤ 6 ∧ (∀ x ∈ all1 s, itOk x) ∧ ∀ H', Same H H' → Q (.bl true) H'
theorem all_true : ∀ n : Nat, ((List.replicate n true).all id) = true
  | 0 => rfl
  | n + 1 => by rw [List.replicate_succ, List.all_cons, all_true n]; rfl
theorem rep_snoc (n : Nat) : List.replicate (n + 1) (V.bl true) = List.replicate n (V.bl true) ++ [V.bl true] := List.replicate_succ'
theorem g_all {H : Hp} {Q : VK} {l : Addr} {n : Nat} (h : SqL K H l (List.replicate n (V.bl true))) (q : Q (.bl true) H) : rAll K [.ref l] H Q := by
  refine ⟨l, List.replicate n true, rfl, by rw [List.map_replicate]; exact h, ?_⟩
  rw [all_true]
  exact q
theorem b_str : bootBuiltins "str" = some (.type "str") := by decide +kernel
theorem k_str_str {K : PySem.W.Frag} : PySem.W.kitOne K (.type "str") (.type "str") = some true := kit_ty (by decide +kernel)
theorem isi_ss {H : Hp} {Q : VK} {x : Str} (h : Q (.bl true) H) : rIsi K [.str x, .ty "str"] H Q := ⟨_, _, _, _, _, rfl, .ty _, .base (.str x), k_str_str, h⟩
end
end Bx

namespace Bx
section
variable {J Jb : It} {n n1 : Nat} {G G1 : Hp → Prop} {Y Y1 : Nat → Hp → V → Hp → Prop}
theorem lc2_it (w : Walk J n G Y) {g : TG} {tt : TT} {wib : TI} {gb : TG} {ttb : TT} {te : TE} {vs vsb : List Nat} {σ : L2.St} {H1 : Hp} {D : Addr} {Qz : Hp → Prop} (Pz : Nat → Hp → Prop) (h0 : Pz 0 (upd H1 D (.lst []))) (hG : ∀ i H, i ≤ n → Pz i H → G H)
    (hs : ∀ i x H H', i < n → Pz i H → Y i H x H' → g x (wipe σ vs) H' fun σ2 H2 => wipe σ2 vs = wipe σ vs ∧ tt σ2 H2 fun b H3 =>
      if b = true then wib σ2 H3 fun Jb H4 => ∃ Wb : Nat → Nat → Hp → Prop, (∃ m, Wb 0 m H4) ∧ ∀ j k H, Wb j k H →
      (Jb.stop j H ∧ Pz (i + 1) H) ∨ (Jb.go j H ∧ ∃ Nb : Hp → Prop, (∀ H', Nb H' → ∃ k', k' < k ∧ Wb (j + 1) k' H') ∧ ∀ x H', Jb.yld j H x H' → gb x (wipe σ2 vsb) H' fun σ3 H5 => wipe σ3 vsb = wipe σ2 vsb ∧ ttb σ3 H5 fun b H6 =>
        if b = true then te σ3 H6 fun y H7 => ∃ ac, H7 D = some (.lst ac) ∧ ac.length < sizeLine ∧ Nb (upd H7 D (.lst (ac ++ [y]))) else Nb H6) else Pz (i + 1) H3) (hd : ∀ H, Pz n H → Qz H) :
    ∃ W : Nat → Nat → Hp → Prop, (∃ m, W 0 m (upd H1 D (.lst []))) ∧ ∀ i m H, W i m H →
      (J.stop i H ∧ Qz H) ∨ (J.go i H ∧ ∃ Na : Hp → Prop, (∀ H', Na H' → ∃ m', m' < m ∧ W (i + 1) m' H') ∧ ∀ x H', J.yld i H x H' → g x (wipe σ vs) H' fun σ2 H2 => wipe σ2 vs = wipe σ vs ∧ tt σ2 H2 fun b H3 =>
    if b = true then wib σ2 H3 fun Jb H4 => ∃ Wb : Nat → Nat → Hp → Prop, (∃ m, Wb 0 m H4) ∧ ∀ j k H, Wb j k H →
      (Jb.stop j H ∧ Na H) ∨ (Jb.go j H ∧ ∃ Nb : Hp → Prop, (∀ H', Nb H' → ∃ k', k' < k ∧ Wb (j + 1) k' H') ∧ ∀ x H', Jb.yld j H x H' → gb x (wipe σ2 vsb) H' fun σ3 H5 => wipe σ3 vsb = wipe σ2 vsb ∧ ttb σ3 H5 fun b H6 =>
        if b = true then te σ3 H6 fun y H7 => ∃ ac, H7 D = some (.lst ac) ∧ ac.length < sizeLine ∧ Nb (upd H7 D (.lst (ac ++ [y]))) else Nb H6)
    else Na H3) := by
  refine ⟨fun i m H => m = n - i ∧ i ≤ n ∧ Pz i H, ⟨n, by simp, Nat.zero_le _, h0⟩, ?_⟩
  rintro i m H ⟨rfl, hi, p⟩
  have q := hG i H hi p
  by_cases hlt : i < n
  · exact .inr ⟨w.goes i H hlt q, Pz (i + 1), fun H' p' => ⟨n - (i + 1), by omega, rfl, hlt, p'⟩, fun x H' y => hs i x H H' hlt p (w.yields i H x H' hlt q y)⟩
  · have e : i = n := by omega
    subst e
    exact .inl ⟨w.stops H q, hd H p⟩
theorem lcin_it (w : Walk J n G Y) {g : TG} {tt : TT} {te : TE} {vs : List Nat} {σ : L2.St} {H1 : Hp} {D : Addr} {Qz : Hp → Prop} (Pz : Nat → Hp → Prop) (h0 : Pz 0 H1) (hG : ∀ i H, i ≤ n → Pz i H → G H)
    (hs : ∀ i x H H', i < n → Pz i H → Y i H x H' → g x (wipe σ vs) H' fun σ2 H2 => wipe σ2 vs = wipe σ vs ∧ tt σ2 H2 fun b H3 =>
      if b = true then te σ2 H3 fun y H4 => ∃ ac, H4 D = some (.lst ac) ∧ ac.length < sizeLine ∧ Pz (i + 1) (upd H4 D (.lst (ac ++ [y]))) else Pz (i + 1) H3) (hd : ∀ H, Pz n H → Qz H) :
    ∃ W : Nat → Nat → Hp → Prop, (∃ m, W 0 m H1) ∧ ∀ i m H, W i m H →
      (J.stop i H ∧ Qz H) ∨ (J.go i H ∧ ∃ Na : Hp → Prop, (∀ H', Na H' → ∃ m', m' < m ∧ W (i + 1) m' H') ∧ ∀ x H', J.yld i H x H' → g x (wipe σ vs) H' fun σ2 H2 => wipe σ2 vs = wipe σ vs ∧ tt σ2 H2 fun b H3 =>
        if b = true then te σ2 H3 fun y H4 => ∃ ac, H4 D = some (.lst ac) ∧ ac.length < sizeLine ∧ Na (upd H4 D (.lst (ac ++ [y]))) else Na H3) := by
  refine ⟨fun i m H => m = n - i ∧ i ≤ n ∧ Pz i H, ⟨n, by simp, Nat.zero_le _, h0⟩, ?_⟩
  rintro i m H ⟨rfl, hi, p⟩
  have q := hG i H hi p
  by_cases hlt : i < n
  · exact .inr ⟨w.goes i H hlt q, Pz (i + 1), fun H' p' => ⟨n - (i + 1), by omega, rfl, hlt, p'⟩, fun x H' y => hs i x H H' hlt p (w.yields i H x H' hlt q y)⟩
  · have e : i = n := by omega
    subst e
    exact .inl ⟨w.stops H q, hd H p⟩
end
theorem pi_tupK {X : Cx} {K : PySem.W.Frag} {tg l : Expr} {tl : TE} (e : X.K = K) (hl : PE X l tl) : PI X tg l (iTup K tl) := by
  subst e
  exact pi_tup hl
theorem g_lc2 {K : PySem.W.Frag} {σ : L2.St} {H : Hp} {Q : VK} {wi : TI} {g : TG} {tt : TT} {wib : TI} {gb : TG} {ttb : TT} {te : TE} {vs vsb : List Nat} (h : wi σ H fun J H1 => ∀ D, H1 D = none → ∃ W : Nat → Nat → Hp → Prop, (∃ m, W 0 m (upd H1 D (.lst []))) ∧ ∀ i m H, W i m H →
  (J.stop i H ∧ Q (.ref D) H) ∨ (J.go i H ∧ ∃ Na : Hp → Prop, (∀ H', Na H' → ∃ m', m' < m ∧ W (i + 1) m' H') ∧ ∀ x H', J.yld i H x H' → g x (wipe σ vs) H' fun σ2 H2 => wipe σ2 vs = wipe σ vs ∧ tt σ2 H2 fun b H3 =>
    if b = true then wib σ2 H3 fun Jb H4 => ∃ Wb : Nat → Nat → Hp → Prop, (∃ m, Wb 0 m H4) ∧ ∀ j k H, Wb j k H →
      (Jb.stop j H ∧ Na H) ∨ (Jb.go j H ∧ ∃ Nb : Hp → Prop, (∀ H', Nb H' → ∃ k', k' < k ∧ Wb (j + 1) k' H') ∧ ∀ x H', Jb.yld j H x H' → gb x (wipe σ2 vsb) H' fun σ3 H5 => wipe σ3 vsb = wipe σ2 vsb ∧ ttb σ3 H5 fun b H6 =>
        if b = true then te σ3 H6 fun y H7 => ∃ ac, H7 D = some (.lst ac) ∧ ac.length < sizeLine ∧ Nb (upd H7 D (.lst (ac ++ [y]))) else Nb H6)
    else Na H3)) : tLc2 wi g tt wib gb ttb te vs vsb σ H Q := h
theorem lens_snoc {l : List Sh} {i : Nat} {s : Sh} (h : l[i]? = some s) : lens (l.take (i + 1)) = lens (l.take i) ++ lnD s := by
  rw [take_snoc h, lens_append]
  unfold lens
  simp
theorem tgsL_snoc {l : List Sh} {i : Nat} {s : Sh} (h : l[i]? = some s) : tgsL (l.take (i + 1)) = tgsL (l.take i) ++ tgs1 s := by
  rw [take_snoc h]
  unfold tgsL
  rw [List.map_append, List.flatten_append]
  simp
theorem lens_take (l : List Sh) (i : Nat) : (lens (l.take i)).length ≤ l.length := by
  have := lens_len (l.take i)
  rw [List.length_take] at this
  omega
theorem tgs_len : ∀ (l : List Sh), (∀ s ∈ l, itOk s) → (tgsL l).length ≤ 6 * l.length
  | [], _ => Nat.zero_le _
  | s :: r, h => by
    have h1 := tgs_len r fun x hx => h x (List.mem_cons_of_mem _ hx)
    have h2 : (tgs1 s).length ≤ 6 := by
      have := h s List.mem_cons_self
      cases s with
      | dat c => exact Nat.zero_le _
      | tab t => exact this
      | grp ks => exact Nat.zero_le _
    have e : tgsL (s :: r) = tgs1 s ++ tgsL r := by
      unfold tgsL
      rw [List.map_cons, List.flatten_cons]
    rw [e, List.length_append, List.length_cons]
    omega
section
variable {P : Program} {w : World} {K : PySem.W.Frag} {mg : Str → Option Value} {base : Heap}
def spHaveTargets (K : PySem.W.Frag) : Sp := fun vs H Q _ => ∃ (l : Addr) (xs : List V) (al : List Sh), vs = [.ref l] ∧ H l = some (.lst xs) ∧ TpAll K H xs (al.map sh1) ∧ al.length ≤ 6 ∧ (∀ s ∈ al, itOk s) ∧ (∀ t ∈ tgsL al, ∃ m, (lens al)[t.1]? = some m ∧ t.2 < m) ∧ ∀ H', Same H H' → Q (.bl true) H'
end
end Bx

namespace Bx
theorem OkS.tgl {ss : List Sh} (h : OkS ss) : ∀ t ∈ tgsL (allL ss), ∃ m, (lens (allL ss))[t.1]? = some m ∧ t.2 < m := h.tg
/-- a size of a gap -/
def isSz (g : Nat) : Bool := decide (g = 0) || (decide (2 ≤ g) && decide (g ≤ 30))
def areSz (gs : List Nat) (ss : List Sh) (room : Int) : Bool := decide (gs.length ≤ gpL ss) && (gs.all isSz && decide (((lnL ss + gs.sum : Nat) : Int) ≤ room))
inductive Pt where
  | gap | opn | cls | dat (c : List Nat) | tab (t : List (Nat × Nat))
def ptk : Pt → Str
  | .gap => "gap"
  | .opn => "group"
  | .cls => "end"
  | .dat _ => "data"
  | .tab _ => "table"
def ptc : Pt → List PyData
  | .gap => []
  | .opn => []
  | .cls => []
  | .dat c => c.map pn
  | .tab t => t.map pr
def ptd (p : Pt) : PyData := .tuple [.str (ptk p), .tuple (ptc p)]
mutual
def pt1 : Sh → List Pt
  | .dat c => [.gap, .dat c]
  | .tab t => [.gap, .tab t]
  | .grp ks => .gap :: .opn :: (ptL ks ++ [.cls])
def ptL : List Sh → List Pt
  | [] => [.gap]
  | s :: r => pt1 s ++ ptL r
end
theorem ptL_flat : ∀ l : List Sh, ptL l = (l.map pt1).flatten ++ [.gap]
  | [] => rfl
  | s :: r => by rw [ptL, ptL_flat r, List.map_cons, List.flatten_cons, List.append_assoc]
mutual
theorem pt1_len : ∀ s : Sh, (pt1 s).length ≤ 4 * (all1 s).length
  | .dat c => by rw [pt1, all1]; show 2 ≤ 4 * 1; decide
  | .tab c => by rw [pt1, all1]; show 2 ≤ 4 * 1; decide
  | .grp ks => by
    have := ptL_len ks
    rw [pt1, all1]
    simp only [List.length_cons, List.length_append, List.length_nil]
    omega
theorem ptL_len : ∀ l : List Sh, (ptL l).length ≤ 4 * (allL l).length + 1
  | [] => by decide
  | s :: r => by
    have := pt1_len s
    have := ptL_len r
    rw [ptL, allL, List.length_append, List.length_append]
    omega
end
theorem flatP_len (l : List Sh) : ((l.map pt1).flatten).length ≤ 4 * (allL l).length := by
  have := ptL_len l
  rw [ptL_flat, List.length_append, List.length_singleton] at this
  omega
def PL (K : PySem.W.Frag) (H0 H : Hp) (l : Addr) (ds : List PyData) : Prop := Same H0 H ∧ H0 l = none ∧ ∃ acc, H l = some (.lst acc) ∧ TpAll K H acc ds
theorem PL.app {K : PySem.W.Frag} {H0 H H' : Hp} {l : Addr} {ds : List PyData} {v : V} {d : PyData} {Q : VK} (x : PL K H0 H l ds) (s : Same H H') (t : Tp K H' v d) (hz : ds.length ≤ 1000) (k : ∀ H'', PL K H0 H'' l (ds ++ [d]) → Q .non H'') : rAppend (.ref l) [v] H' Q := by
  obtain ⟨x1, x2, acc, x3, x4⟩ := x
  have kk := tk_lst (K := K) (u := HO.lst (acc ++ [v])) (s _ _ x3)
  exact g_app (s _ _ x3) (by rw [x4.length]; exact hz) (k _ ⟨Same.putNew (x1.trans s) x2, x2, _, upd_same, (TpAll.mono kk _ _ (x4.same s)).snoc (Tp.mono kk _ _ t)⟩)
theorem PL.ext {K : PySem.W.Frag} {H0 H H' : Hp} {l b : Addr} {ds es : List PyData} {ys : List V} {Q : VK} (x : PL K H0 H l ds) (s : Same H H') (hb : H' b = some (.lst ys)) (t : TpAll K H' ys es) (hz : ds.length + es.length ≤ 1000) (k : ∀ H'', PL K H0 H'' l (ds ++ es) → Q .non H'') : rExtend (.ref l) [.ref b] H' Q := by
  obtain ⟨x1, x2, acc, x3, x4⟩ := x
  have kk := tk_lst (K := K) (u := HO.lst (acc ++ ys)) (s _ _ x3)
  exact ⟨l, b, acc, ys, rfl, rfl, s _ _ x3, hb, small (by rw [x4.length, t.length]; exact hz), k _ ⟨Same.putNew (x1.trans s) x2, x2, _, upd_same, (TpAll.mono kk _ _ (x4.same s)).append (TpAll.mono kk _ _ t)⟩⟩
theorem PL.ty {K : PySem.W.Frag} {H0 H : Hp} {l : Addr} {ds : List PyData} (x : PL K H0 H l ds) : tyV K "list" (.ref l) H := by
  obtain ⟨_, _, acc, x3, _⟩ := x
  exact ty_l (SqL.of x3)
theorem PL.st {K : PySem.W.Frag} {H0 H : Hp} {l : Addr} {ds : List PyData} (x : PL K H0 H l ds) : Same H0 H := x.1
section
variable {P : Program} {w : World} {K : PySem.W.Frag} {mg : Str → Option Value} {base : Heap}
def spIsShape (K : PySem.W.Frag) : Sp := fun vs H Q _ => ∃ (v : V) (ss : List Sh), vs = [v] ∧ Tp K H v (.tuple (shL ss)) ∧ OkS ss ∧ ∀ H', Same H H' → Q (.bl true) H'
def spShapeOk (K : PySem.W.Frag) (g : List Sh → V) : Sp := fun vs H Q _ => ∃ (v : V) (ss : List Sh), vs = [v] ∧ Tp K H v (.tuple (shL ss)) ∧ OkS ss ∧ ∀ H', Same H H' → Q (g ss) H'
theorem g_orV {σ : L2.St} {H : Hp} {Q : VK} {ta tb : TE} (h : ta σ H fun x H1 => ∃ c, x = .bl c ∧ if c = true then Q (.bl true) H1 else tb σ H1 Q) : tOrV ta tb σ H Q := h
def spIsSize : Sp := fun vs H Q _ => ∃ g : Nat, vs = [vn g] ∧ Q (.bl (isSz g)) H
theorem ok_isSize {f : Addr} {fd : FuncData} (F : Def K mg "is_size" sIsSize f fd) (b : Binds K fd ["value"] []) (T : Txt mg) (C_isBetween : Cal P w K mg base 1 "is_between" spBetween []) : Cal P w K mg base 2 "is_size" spIsSize [] := by
  refine cal0 F b .nil scIsSize (fun vs H Q E h => ?_) (fun cdv A outer s H vs Q E hr h => ?_)
  · obtain ⟨g, rfl, _⟩ := h
    rfl
  obtain ⟨g, rfl, q⟩ := h
  refine ⟨_, (pss_one (ps_ret (pe_or (pe_c C_isBetween hr (by decide) rfl (pa_cons (pv 0) (pa_cons pe_int (pa_cons pe_int pa_nil)))) (pe_one (pe_c C_isBetween hr (by decide) rfl (pa_cons (pv 0) (pa_cons (pe_gc rfl T.cHEAD) (pa_cons (pe_gc rfl T.cMOST_CELLS) pa_nil)))))))), ?_⟩
  walk_at "rd"
  refine g_orV ?_
  walk_at "rd"
  refine ⟨_, _, _, rfl, _, rfl, ?_⟩
  by_cases h0 : g = 0
  · rw [decide_eq_true (show (0 : Int) ≤ (g : Int) ∧ (g : Int) ≤ 0 by omega)]
    refine iteT ?_
    unfold isSz at q
    rw [decide_eq_true h0] at q
    exact q
  · rw [decide_eq_false (show ¬ ((0 : Int) ≤ (g : Int) ∧ (g : Int) ≤ 0) by omega)]
    refine iteF ?_
    walk_at "rd"
    refine ⟨_, _, _, rfl, ?_⟩
    unfold isSz at q
    rw [decide_eq_false h0, Bool.false_or] at q
    have e : decide ((2 : Int) ≤ (g : Int) ∧ (g : Int) ≤ 30) = (decide (2 ≤ g) && decide (g ≤ 30)) := by
      by_cases a : 2 ≤ g
      · by_cases c : g ≤ 30
        · rw [decide_eq_true a, decide_eq_true c, decide_eq_true (show (2 : Int) ≤ (g : Int) ∧ (g : Int) ≤ 30 by omega)]
          rfl
        · rw [decide_eq_true a, decide_eq_false c, decide_eq_false (show ¬ ((2 : Int) ≤ (g : Int) ∧ (g : Int) ≤ 30) by omega)]
          rfl
      · rw [decide_eq_false a, decide_eq_false (show ¬ ((2 : Int) ≤ (g : Int) ∧ (g : Int) ≤ 30) by omega)]
        rfl
    rw [e]
    exact q
theorem isi_lt {H : Hp} {Q : VK} {a p : Addr} {xs : List V} (hs : SqL K H a xs ∨ SqT K H a xs) (hp : H p = some (.tup [V.ty "list", V.ty "tuple"])) (q : Q (.bl true) H) : rIsiT K [.ref a, .ref p] H Q := by
  rcases hs with z | z
  · exact ⟨_, _, _, _, _, _, rfl, hp, cls_lt, tyL z, k_list_lt, q⟩
  · exact ⟨_, _, _, _, _, _, rfl, hp, cls_lt, tyT z, k_tuple_lt, q⟩
def spAreSizes (K : PySem.W.Frag) : Sp := fun vs H Q _ => ∃ (a : Addr) (v : V) (room : Int) (gs : List Nat) (ss : List Sh), vs = [.ref a, v, .int room] ∧ (SqL K H a (gs.map vn) ∨ SqT K H a (gs.map vn)) ∧ gs.length ≤ 500 ∧ Tp K H v (.tuple (shL ss)) ∧ OkS ss ∧ ∀ H', Same H H' → Q (.bl (areSz gs ss room)) H'
theorem sq_same {H H' : Hp} {a : Addr} {xs : List V} (h : SqL K H a xs ∨ SqT K H a xs) (s : Same H H') : SqL K H' a xs ∨ SqT K H' a xs := h.elim (fun z => .inl (s.seq z)) (fun z => .inr (Same.sqt s z))
theorem g_allB {H : Hp} {Q : VK} {l : Addr} {bs : List Bool} (h : SqL K H l (bs.map V.bl)) (q : Q (.bl (bs.all id)) H) : rAll K [.ref l] H Q := ⟨l, bs, rfl, h, q⟩
theorem sum_vn (l : List Nat) : (l.map fun n : Nat => (n : Int)).sum = ((l.sum : Nat) : Int) := by
  induction l with
  | nil => rfl
  | cons x r ih =>
    rw [List.map_cons, List.sum_cons, List.sum_cons, ih, Int.natCast_add]
theorem map_vn (l : List Nat) : l.map vn = (l.map fun n : Nat => (n : Int)).map V.int := by rw [List.map_map] <;> rfl
def spPartsOf (K : PySem.W.Frag) (n : Nat) : Sp := fun vs H Q _ => ∃ (v : V) (ss : List Sh), vs = [v] ∧ Tp K H v (.tuple (shL ss)) ∧ dpsL ss < n ∧ (allL ss).length ≤ 100 ∧ ∀ l xs H', Same H H' → H l = none → H' l = some (.lst xs) → TpAll K H' xs ((ptL ss).map ptd) → Q (.ref l) H'
end
end Bx

namespace Bx
structure Lay where
  done : Nat
  gaps : List Nat
  row : List (Option Nat)
  begins : List Nat
  starts : List Nat
  opened : List Nat
  waiting : List (Nat × (Nat × Nat))
  cost : Nat
def dif (bef : List Nat) (p c : Nat) : Nat := if bef.length ≤ p ∨ bef.getD p 0 ≠ c then 1 else 0
def setC (bef : List Nat) (L : Lay) (p c : Nat) : Lay := { L with row := L.row.set p (some c), cost := L.cost + dif bef p c }
def putO (bef : List Nat) (L : Lay) : Option Nat → Lay
  | none => { L with row := L.row ++ [none] }
  | some c => setC bef { L with row := L.row ++ [none] } L.row.length c
def putC (bef : List Nat) (L : Lay) (cs : List (Option Nat)) : Lay := cs.foldl (putO bef) L
def kept (bef : List Nat) (b n : Nat) : List Nat := (List.range n).map fun i => bef.getD (b + i) 0
def putFr (bef : List Nat) (L : Lay) (g : Nat) : Lay := putC bef (putC bef L [some 3, some g]) ((kept bef (L.row.length + 2) (g - 2)).map some)
def ents : Nat → List (Nat × Nat) → List (Nat × (Nat × Nat))
  | _, [] => []
  | p, t :: r => (p, t) :: ents (p + 1) r
def closeG (bef : List Nat) (L : Lay) : Lay := setC bef { L with opened := L.opened.dropLast } (L.opened.getLastD 0 + 1) (L.row.length - L.opened.getLastD 0)
def boxP (bef : List Nat) (L : Lay) : Pt → Lay
  | .opn => putC bef { L with begins := L.begins ++ [L.row.length], opened := L.opened ++ [L.row.length] } [some 1, none]
  | .dat c => putC bef { L with begins := L.begins ++ [L.row.length], starts := L.starts ++ [L.row.length + 2] } (some 2 :: some (2 + c.length) :: c.map some)
  | .tab t => { putC bef { L with begins := L.begins ++ [L.row.length] } (some 4 :: some (2 + t.length) :: List.replicate t.length none) with waiting := L.waiting ++ ents (L.row.length + 2) t }
  | .cls => closeG bef L
  | .gap => L
def stepP (bef : List Nat) (L : Lay) (p : Pt) : Lay := { boxP bef L p with done := L.done + 1 }
def isGap : Pt → Bool
  | .gap => true
  | .opn => false
  | .cls => false
  | .dat _ => false
  | .tab _ => false
def adv (bef : List Nat) : List Pt → Lay → Lay
  | [], L => L
  | p :: r, L => if isGap p = true then L else adv bef r (stepP bef L p)
def stl (bef sts : List Nat) : List (Nat × (Nat × Nat)) → Lay → Lay
  | [], L => L
  | e :: r, L => stl bef sts r (if e.2.1 < sts.length then setC bef L e.1 (sts.getD e.2.1 0 + e.2.2) else L)
def wts (n : Nat) (l : List (Nat × (Nat × Nat))) : List (Nat × (Nat × Nat)) := l.filter fun e => !decide (e.2.1 < n)
def settle (bef : List Nat) (L : Lay) : Lay := { stl bef L.starts L.waiting L with waiting := wts L.starts.length L.waiting }
def goOn (bef : List Nat) (ps : List Pt) (L : Lay) : Lay := settle bef (adv bef (ps.drop L.done) L)
def gapL (bef : List Nat) (L : Lay) (g : Nat) : Lay :=
  if 0 < g then putFr bef { L with gaps := L.gaps ++ [g], done := L.done + 1 } g else { L with gaps := L.gaps ++ [g], done := L.done + 1 }
def withGap (bef : List Nat) (ps : List Pt) (L : Lay) (g : Nat) : Lay := goOn bef ps (gapL bef L g)
def lay0 : Lay := ⟨0, [], [], [], [], [], [], 0⟩
def layF (bef : List Nat) (ps : List Pt) (gs : List Nat) : Lay := gs.foldl (withGap bef ps) lay0
section
variable {bef : List Nat}
theorem putO_row (L : Lay) (c : Option Nat) : (putO bef L c).row = L.row ++ [c] := by
  cases c with
  | none => rfl
  | some v =>
    show (L.row ++ [none]).set L.row.length (some v) = _
    rw [List.set_append_right _ _ (Nat.le_refl _), Nat.sub_self]
    rfl
theorem putO_oth (L : Lay) (c : Option Nat) : (putO bef L c).done = L.done ∧ (putO bef L c).gaps = L.gaps ∧ (putO bef L c).begins = L.begins ∧ (putO bef L c).starts = L.starts ∧ (putO bef L c).opened = L.opened ∧ (putO bef L c).waiting = L.waiting := by
  cases c <;> exact ⟨rfl, rfl, rfl, rfl, rfl, rfl⟩
theorem putC_row : ∀ (cs : List (Option Nat)) (L : Lay), (putC bef L cs).row = L.row ++ cs
  | [], L => (List.append_nil _).symm
  | c :: r, L => by
    show (putC bef (putO bef L c) r).row = _
    rw [putC_row r, putO_row, List.append_assoc]
    rfl
theorem putC_oth : ∀ (cs : List (Option Nat)) (L : Lay), (putC bef L cs).done = L.done ∧ (putC bef L cs).gaps = L.gaps ∧ (putC bef L cs).begins = L.begins ∧ (putC bef L cs).starts = L.starts ∧ (putC bef L cs).opened = L.opened ∧ (putC bef L cs).waiting = L.waiting
  | [], L => ⟨rfl, rfl, rfl, rfl, rfl, rfl⟩
  | c :: r, L => by
    obtain ⟨a1, a2, a3, a4, a5, a6⟩ := putC_oth r (putO bef L c)
    obtain ⟨b1, b2, b3, b4, b5, b6⟩ := putO_oth (bef := bef) L c
    exact ⟨a1.trans b1, a2.trans b2, a3.trans b3, a4.trans b4, a5.trans b5, a6.trans b6⟩
theorem kept_len (b n : Nat) : (kept bef b n).length = n := by
  unfold kept
  rw [List.length_map, List.length_range]
theorem ents_len : ∀ (t : List (Nat × Nat)) (p : Nat), (ents p t).length = t.length
  | [], _ => rfl
  | _ :: r, p => by rw [ents, List.length_cons, ents_len r, List.length_cons]
theorem ents_get : ∀ (t : List (Nat × Nat)) (p i : Nat), (ents p t)[i]? = (t[i]?).map fun x => (p + i, x)
  | [], _, _ => by rw [ents] <;> rfl
  | x :: r, p, 0 => by rw [ents] <;> rfl
  | x :: r, p, i + 1 => by
    rw [ents, List.getElem?_cons_succ, ents_get r (p + 1) i, List.getElem?_cons_succ, show p + 1 + i = p + (i + 1) by omega]
theorem ents_mem : ∀ (t : List (Nat × Nat)) (p : Nat), ∀ e ∈ ents p t, p ≤ e.1 ∧ e.1 < p + t.length ∧ e.2 ∈ t
  | [], _, _, h => by rw [ents] at h; cases h
  | x :: r, p, e, h => by
    rw [ents] at h
    rw [List.length_cons]
    rcases List.mem_cons.mp h with h | h
    · subst h
      exact ⟨Nat.le_refl _, by omega, List.mem_cons_self⟩
    · obtain ⟨a, b, c⟩ := ents_mem r (p + 1) e h
      exact ⟨by omega, by omega, List.mem_cons_of_mem _ c⟩
theorem stl_row_len (sts : List Nat) : ∀ (es : List (Nat × (Nat × Nat))) (L : Lay), (stl bef sts es L).row.length = L.row.length
  | [], L => rfl
  | e :: r, L => by
    rw [stl, stl_row_len sts r]
    split
    · exact List.length_set
    · rfl
theorem stl_oth (sts : List Nat) : ∀ (es : List (Nat × (Nat × Nat))) (L : Lay), (stl bef sts es L).done = L.done ∧ (stl bef sts es L).gaps = L.gaps ∧ (stl bef sts es L).begins = L.begins ∧ (stl bef sts es L).starts = L.starts ∧ (stl bef sts es L).opened = L.opened ∧ (stl bef sts es L).waiting = L.waiting
  | [], L => ⟨rfl, rfl, rfl, rfl, rfl, rfl⟩
  | e :: r, L => by
    rw [stl]
    obtain ⟨a1, a2, a3, a4, a5, a6⟩ := stl_oth sts r (if e.2.1 < sts.length then setC bef L e.1 (sts.getD e.2.1 0 + e.2.2) else L)
    refine ⟨a1.trans ?_, a2.trans ?_, a3.trans ?_, a4.trans ?_, a5.trans ?_, a6.trans ?_⟩ <;> (split <;> rfl)
end
structure LA where
  a : Addr
  dx : Addr
  ab : Addr
  ap : Addr
  ag : Addr
  ar : Addr
  bg : Addr
  st : Addr
  op : Addr
  wt : Addr
def lfs (A : LA) (dn c : Int) : List (Str × V) := [("before", .ref A.ab), ("parts", .ref A.ap), ("done", .int dn), ("gaps", .ref A.ag), ("row", .ref A.ar), ("begins", .ref A.bg), ("starts", .ref A.st), ("opened", .ref A.op), ("waiting", .ref A.wt), ("cost", .int c)]
structure LNe (A : LA) : Prop where
  pr : A.ap ≠ A.ar
  pb : A.ap ≠ A.bg
  ps : A.ap ≠ A.st
  po : A.ap ≠ A.op
  pw : A.ap ≠ A.wt
  rb : A.ar ≠ A.bg
  rs : A.ar ≠ A.st
  ro : A.ar ≠ A.op
  rw : A.ar ≠ A.wt
  bs : A.bg ≠ A.st
  bo : A.bg ≠ A.op
  bw : A.bg ≠ A.wt
  so : A.st ≠ A.op
  sw : A.st ≠ A.wt
  ow : A.op ≠ A.wt
structure LyAt (K : PySem.W.Frag) (C : Addr) (H : Hp) (A : LA) (bef : List Nat) (ps : List Pt) (L : Lay) : Prop where
  ins : H A.a = some (.ins C A.dx (lfs A (L.done : Int) (L.cost : Int)))
  bf : SqT K H A.ab (bef.map vn)
  pt : ∃ xs, H A.ap = some (.lst xs) ∧ TpAll K H xs (ps.map ptd)
  gp : H A.ag = some (.tup (L.gaps.map vn))
  rw : H A.ar = some (.lst (L.row.map oV))
  bg : H A.bg = some (.lst (L.begins.map vn))
  st : H A.st = some (.lst (L.starts.map vn))
  op : H A.op = some (.lst (L.opened.map vn))
  wt : ∃ ws, H A.wt = some (.lst ws) ∧ TpAll K H ws (L.waiting.map entd)
  ne : LNe A
/-- the class -/
structure LyT (K : PySem.W.Frag) (C : Addr) : Prop where
  cl : Cls K C
  nBefore : NoAttr K C "before"
  nParts : NoAttr K C "parts"
  nDone : NoAttr K C "done"
  nGaps : NoAttr K C "gaps"
  nRow : NoAttr K C "row"
  nBegins : NoAttr K C "begins"
  nStarts : NoAttr K C "starts"
  nOpened : NoAttr K C "opened"
  nWaiting : NoAttr K C "waiting"
  nCost : NoAttr K C "cost"
section
variable {K : PySem.W.Frag} {C : Addr} {H H' : Hp} {A : LA} {bef : List Nat} {ps : List Pt} {L : Lay} {Q : VK}
theorem sqt_upd {l a : Addr} {u : HO} {xs : List V} (hl : H l = none ∨ (∃ ys, H l = some (.lst ys)) ∨ (∃ C dx fs, H l = some (.ins C dx fs))) (h : SqT K H a xs) : SqT K (upd H l u) a xs := by
  have go : ∀ o, H a = some o → (∀ ys, o ≠ .lst ys) → (∀ C dx fs, o ≠ .ins C dx fs) → a ≠ l := fun o ho h1 h2 e => by
    subst e
    rcases hl with z | ⟨ys, z⟩ | ⟨C, dx, fs, z⟩
    · rw [z] at ho
      cases ho
    · rw [z] at ho
      exact h1 ys (Option.some.inj ho).symm
    · rw [z] at ho
      exact h2 C dx fs (Option.some.inj ho).symm
  rcases h with (h | ⟨o, h⟩) | h
  · refine .inl (.inl ?_)
    rw [upd_ne (go _ h (fun _ z => nomatch z) (fun _ _ _ z => nomatch z))]
    exact h
  · refine .inl (.inr ⟨o, ?_⟩)
    rw [upd_ne (go _ h (fun _ z => nomatch z) (fun _ _ _ z => nomatch z))]
    exact h
  · exact .inr h
theorem tk_ins {l : Addr} {C dx : Addr} {fs : List (Str × V)} {u : HO} (h : H l = some (.ins C dx fs)) : TK K H (upd H l u) := tk_of h (fun _ z => nomatch z)
theorem LyAt.nal (x : LyAt K C H A bef ps L) {l : Addr} {ys : List V} (h : H l = some (.lst ys)) : A.a ≠ l := ne_of x.ins h (fun z => nomatch z)
theorem LyAt.ngl (x : LyAt K C H A bef ps L) {l : Addr} {ys : List V} (h : H l = some (.lst ys)) : A.ag ≠ l := ne_of x.gp h (fun z => nomatch z)
theorem LyAt.row' (x : LyAt K C H A bef ps L) (r : List (Option Nat)) : LyAt K C (upd H A.ar (.lst (r.map oV))) A bef ps { L with row := r } where
  ins := by rw [upd_ne (x.nal x.rw)]; exact x.ins
  bf := sqt_upd (.inr (.inl ⟨_, x.rw⟩)) x.bf
  pt := by
    obtain ⟨xs, h1, h2⟩ := x.pt
    exact ⟨xs, by rw [upd_ne x.ne.pr]; exact h1, TpAll.mono (tk_lst x.rw) _ _ h2⟩
  gp := by rw [upd_ne (x.ngl x.rw)]; exact x.gp
  rw := upd_same
  bg := by rw [upd_ne x.ne.rb.symm]; exact x.bg
  st := by rw [upd_ne x.ne.rs.symm]; exact x.st
  op := by rw [upd_ne x.ne.ro.symm]; exact x.op
  wt := by
    obtain ⟨xs, h1, h2⟩ := x.wt
    exact ⟨xs, by rw [upd_ne x.ne.rw.symm]; exact h1, TpAll.mono (tk_lst x.rw) _ _ h2⟩
  ne := x.ne
theorem LyAt.bg' (x : LyAt K C H A bef ps L) (r : List Nat) : LyAt K C (upd H A.bg (.lst (r.map vn))) A bef ps { L with begins := r } where
  ins := by rw [upd_ne (x.nal x.bg)]; exact x.ins
  bf := sqt_upd (.inr (.inl ⟨_, x.bg⟩)) x.bf
  pt := by
    obtain ⟨xs, h1, h2⟩ := x.pt
    exact ⟨xs, by rw [upd_ne x.ne.pb]; exact h1, TpAll.mono (tk_lst x.bg) _ _ h2⟩
  gp := by rw [upd_ne (x.ngl x.bg)]; exact x.gp
  bg := upd_same
  rw := by rw [upd_ne x.ne.rb]; exact x.rw
  st := by rw [upd_ne x.ne.bs.symm]; exact x.st
  op := by rw [upd_ne x.ne.bo.symm]; exact x.op
  wt := by
    obtain ⟨xs, h1, h2⟩ := x.wt
    exact ⟨xs, by rw [upd_ne x.ne.bw.symm]; exact h1, TpAll.mono (tk_lst x.bg) _ _ h2⟩
  ne := x.ne
theorem LyAt.st' (x : LyAt K C H A bef ps L) (r : List Nat) : LyAt K C (upd H A.st (.lst (r.map vn))) A bef ps { L with starts := r } where
  ins := by rw [upd_ne (x.nal x.st)]; exact x.ins
  bf := sqt_upd (.inr (.inl ⟨_, x.st⟩)) x.bf
  pt := by
    obtain ⟨xs, h1, h2⟩ := x.pt
    exact ⟨xs, by rw [upd_ne x.ne.ps]; exact h1, TpAll.mono (tk_lst x.st) _ _ h2⟩
  gp := by rw [upd_ne (x.ngl x.st)]; exact x.gp
  st := upd_same
  rw := by rw [upd_ne x.ne.rs]; exact x.rw
  bg := by rw [upd_ne x.ne.bs]; exact x.bg
  op := by rw [upd_ne x.ne.so.symm]; exact x.op
  wt := by
    obtain ⟨xs, h1, h2⟩ := x.wt
    exact ⟨xs, by rw [upd_ne x.ne.sw.symm]; exact h1, TpAll.mono (tk_lst x.st) _ _ h2⟩
  ne := x.ne
theorem LyAt.op' (x : LyAt K C H A bef ps L) (r : List Nat) : LyAt K C (upd H A.op (.lst (r.map vn))) A bef ps { L with opened := r } where
  ins := by rw [upd_ne (x.nal x.op)]; exact x.ins
  bf := sqt_upd (.inr (.inl ⟨_, x.op⟩)) x.bf
  pt := by
    obtain ⟨xs, h1, h2⟩ := x.pt
    exact ⟨xs, by rw [upd_ne x.ne.po]; exact h1, TpAll.mono (tk_lst x.op) _ _ h2⟩
  gp := by rw [upd_ne (x.ngl x.op)]; exact x.gp
  op := upd_same
  rw := by rw [upd_ne x.ne.ro]; exact x.rw
  bg := by rw [upd_ne x.ne.bo]; exact x.bg
  st := by rw [upd_ne x.ne.so]; exact x.st
  wt := by
    obtain ⟨xs, h1, h2⟩ := x.wt
    exact ⟨xs, by rw [upd_ne x.ne.ow.symm]; exact h1, TpAll.mono (tk_lst x.op) _ _ h2⟩
  ne := x.ne
theorem LyAt.wt' (x : LyAt K C H A bef ps L) {ws : List V} {r : List (Nat × (Nat × Nat))} (t : TpAll K H ws (r.map entd)) : LyAt K C (upd H A.wt (.lst ws)) A bef ps { L with waiting := r } where
  ins := by
    obtain ⟨xs, h1, _⟩ := x.wt
    rw [upd_ne (x.nal h1)]; exact x.ins
  bf := by
    obtain ⟨xs, h1, _⟩ := x.wt
    exact sqt_upd (.inr (.inl ⟨_, h1⟩)) x.bf
  pt := by
    obtain ⟨ys, k1, _⟩ := x.wt
    obtain ⟨xs, h1, h2⟩ := x.pt
    exact ⟨xs, by rw [upd_ne x.ne.pw]; exact h1, TpAll.mono (tk_lst k1) _ _ h2⟩
  gp := by
    obtain ⟨ys, k1, _⟩ := x.wt
    rw [upd_ne (x.ngl k1)]; exact x.gp
  op := by rw [upd_ne x.ne.ow]; exact x.op
  rw := by rw [upd_ne x.ne.rw]; exact x.rw
  bg := by rw [upd_ne x.ne.bw]; exact x.bg
  st := by rw [upd_ne x.ne.sw]; exact x.st
  wt := by
    obtain ⟨ys, k1, _⟩ := x.wt
    exact ⟨ws, upd_same, TpAll.mono (tk_lst k1) _ _ t⟩
  ne := x.ne
/-- the instance itself is written: the same lists, other numbers -/
theorem LyAt.num' (x : LyAt K C H A bef ps L) (dn c : Nat) : LyAt K C (upd H A.a (.ins C A.dx (lfs A (dn : Int) (c : Int)))) A bef ps { L with done := dn, cost := c } where
  ins := upd_same
  bf := sqt_upd (.inr (.inr ⟨_, _, _, x.ins⟩)) x.bf
  pt := by
    obtain ⟨xs, h1, h2⟩ := x.pt
    exact ⟨xs, by rw [upd_ne (x.nal h1).symm]; exact h1, TpAll.mono (tk_ins x.ins) _ _ h2⟩
  gp := by rw [upd_ne (ne_of x.gp x.ins (fun z => nomatch z))]; exact x.gp
  op := by rw [upd_ne (x.nal x.op).symm]; exact x.op
  rw := by rw [upd_ne (x.nal x.rw).symm]; exact x.rw
  bg := by rw [upd_ne (x.nal x.bg).symm]; exact x.bg
  st := by rw [upd_ne (x.nal x.st).symm]; exact x.st
  wt := by
    obtain ⟨ws, h1, h2⟩ := x.wt
    exact ⟨ws, by rw [upd_ne (x.nal h1).symm]; exact h1, TpAll.mono (tk_ins x.ins) _ _ h2⟩
  ne := x.ne
theorem LyAt.same (x : LyAt K C H A bef ps L) (e : Same H H') : LyAt K C H' A bef ps L where
  ins := e _ _ x.ins
  bf := Same.sqt e x.bf
  pt := by
    obtain ⟨xs, h1, h2⟩ := x.pt
    exact ⟨xs, e _ _ h1, h2.same e⟩
  gp := e _ _ x.gp
  rw := e _ _ x.rw
  bg := e _ _ x.bg
  st := e _ _ x.st
  op := e _ _ x.op
  wt := by
    obtain ⟨xs, h1, h2⟩ := x.wt
    exact ⟨xs, e _ _ h1, h2.same e⟩
  ne := x.ne
/-- another list is written -/
theorem LyAt.other (x : LyAt K C H A bef ps L) {l : Addr} {ys : List V} {o : HO} (hl : H l = some (.lst ys)) (n : A.ap ≠ l ∧ A.ar ≠ l ∧ A.bg ≠ l ∧ A.st ≠ l ∧ A.op ≠ l ∧ A.wt ≠ l) : LyAt K C (upd H l o) A bef ps L where
  ins := by rw [upd_ne (x.nal hl)]; exact x.ins
  bf := sqt_upd (.inr (.inl ⟨_, hl⟩)) x.bf
  pt := by
    obtain ⟨xs, h1, h2⟩ := x.pt
    exact ⟨xs, by rw [upd_ne n.1]; exact h1, TpAll.mono (tk_lst hl) _ _ h2⟩
  gp := by rw [upd_ne (x.ngl hl)]; exact x.gp
  rw := by rw [upd_ne n.2.1]; exact x.rw
  bg := by rw [upd_ne n.2.2.1]; exact x.bg
  st := by rw [upd_ne n.2.2.2.1]; exact x.st
  op := by rw [upd_ne n.2.2.2.2.1]; exact x.op
  wt := by
    obtain ⟨xs, h1, h2⟩ := x.wt
    exact ⟨xs, by rw [upd_ne n.2.2.2.2.2]; exact h1, TpAll.mono (tk_lst hl) _ _ h2⟩
  ne := x.ne
variable (Y : LyT K C)
include Y
/-- self.waiting = e -/
theorem LyAt.setWait (x : LyAt K C H A bef ps L) {D : Ends} {i j : Nat} {σ : L2.St} {l : Addr} {acc : List V} {r : List (Nat × (Nat × Nat))} (e : σ[i]? = some (some (.ref A.a))) (e2 : σ[j]? = some (some (.ref l))) (hl : H l = some (.lst acc)) (t : TpAll K H acc (r.map entd)) (n : A.ap ≠ l ∧ A.ar ≠ l ∧ A.bg ≠ l ∧ A.st ≠ l ∧ A.op ≠ l)
    (q : LyAt K C (upd H A.a (.ins C A.dx (lfs { A with wt := l } (L.done : Int) (L.cost : Int)))) { A with wt := l } bef ps { L with waiting := r } → D.nx σ (upd H A.a (.ins C A.dx (lfs { A with wt := l } (L.done : Int) (L.cost : Int))))) : sFld K (tVar i) (tVar j) "waiting" D σ H := by
  refine ⟨_, e2, _, e, A.a, C, A.dx, _, rfl, x.ins, Y.cl, Y.nWaiting, (by show 10 < 1000; decide), q ?_⟩
  refine ⟨upd_same, sqt_upd (.inr (.inr ⟨_, _, _, x.ins⟩)) x.bf, ?_, (upd_ne (ne_of x.gp x.ins (fun z => nomatch z))).trans x.gp, (upd_ne (x.nal x.rw).symm).trans x.rw, (upd_ne (x.nal x.bg).symm).trans x.bg, (upd_ne (x.nal x.st).symm).trans x.st, (upd_ne (x.nal x.op).symm).trans x.op, ⟨acc, (upd_ne (x.nal hl).symm).trans hl, TpAll.mono (tk_ins x.ins) _ _ t⟩, ⟨x.ne.pr, x.ne.pb, x.ne.ps, x.ne.po, n.1, x.ne.rb, x.ne.rs, x.ne.ro, n.2.1, x.ne.bs, x.ne.bo, n.2.2.1, x.ne.so, n.2.2.2.1, n.2.2.2.2⟩⟩
  obtain ⟨xs, h1, h2⟩ := x.pt
  exact ⟨xs, (upd_ne (x.nal h1).symm).trans h1, TpAll.mono (tk_ins x.ins) _ _ h2⟩
theorem LyAt.fBefore (x : LyAt K C H A bef ps L) {i : Nat} {σ : L2.St} (e : σ[i]? = some (some (.ref A.a))) (q : Q (.ref A.ab) H) : tFld K (tVar i) "before" σ H Q := ⟨_, e, _, _, _, _, _, rfl, x.ins, Y.cl, Y.nBefore, rfl, q⟩
theorem LyAt.fParts (x : LyAt K C H A bef ps L) {i : Nat} {σ : L2.St} (e : σ[i]? = some (some (.ref A.a))) (q : Q (.ref A.ap) H) : tFld K (tVar i) "parts" σ H Q := ⟨_, e, _, _, _, _, _, rfl, x.ins, Y.cl, Y.nParts, rfl, q⟩
theorem LyAt.fDone (x : LyAt K C H A bef ps L) {i : Nat} {σ : L2.St} (e : σ[i]? = some (some (.ref A.a))) (q : Q (vn L.done) H) : tFld K (tVar i) "done" σ H Q := ⟨_, e, _, _, _, _, _, rfl, x.ins, Y.cl, Y.nDone, rfl, q⟩
theorem LyAt.fGaps (x : LyAt K C H A bef ps L) {i : Nat} {σ : L2.St} (e : σ[i]? = some (some (.ref A.a))) (q : Q (.ref A.ag) H) : tFld K (tVar i) "gaps" σ H Q := ⟨_, e, _, _, _, _, _, rfl, x.ins, Y.cl, Y.nGaps, rfl, q⟩
theorem LyAt.fRow (x : LyAt K C H A bef ps L) {i : Nat} {σ : L2.St} (e : σ[i]? = some (some (.ref A.a))) (q : Q (.ref A.ar) H) : tFld K (tVar i) "row" σ H Q := ⟨_, e, _, _, _, _, _, rfl, x.ins, Y.cl, Y.nRow, rfl, q⟩
theorem LyAt.fBegins (x : LyAt K C H A bef ps L) {i : Nat} {σ : L2.St} (e : σ[i]? = some (some (.ref A.a))) (q : Q (.ref A.bg) H) : tFld K (tVar i) "begins" σ H Q := ⟨_, e, _, _, _, _, _, rfl, x.ins, Y.cl, Y.nBegins, rfl, q⟩
theorem LyAt.fStarts (x : LyAt K C H A bef ps L) {i : Nat} {σ : L2.St} (e : σ[i]? = some (some (.ref A.a))) (q : Q (.ref A.st) H) : tFld K (tVar i) "starts" σ H Q := ⟨_, e, _, _, _, _, _, rfl, x.ins, Y.cl, Y.nStarts, rfl, q⟩
theorem LyAt.fOpened (x : LyAt K C H A bef ps L) {i : Nat} {σ : L2.St} (e : σ[i]? = some (some (.ref A.a))) (q : Q (.ref A.op) H) : tFld K (tVar i) "opened" σ H Q := ⟨_, e, _, _, _, _, _, rfl, x.ins, Y.cl, Y.nOpened, rfl, q⟩
theorem LyAt.fWaiting (x : LyAt K C H A bef ps L) {i : Nat} {σ : L2.St} (e : σ[i]? = some (some (.ref A.a))) (q : Q (.ref A.wt) H) : tFld K (tVar i) "waiting" σ H Q := ⟨_, e, _, _, _, _, _, rfl, x.ins, Y.cl, Y.nWaiting, rfl, q⟩
theorem LyAt.fCost (x : LyAt K C H A bef ps L) {i : Nat} {σ : L2.St} (e : σ[i]? = some (some (.ref A.a))) (q : Q (vn L.cost) H) : tFld K (tVar i) "cost" σ H Q := ⟨_, e, _, _, _, _, _, rfl, x.ins, Y.cl, Y.nCost, rfl, q⟩
theorem LyAt.augCost (x : LyAt K C H A bef ps L) {D : Ends} {i : Nat} {σ : L2.St} (e : σ[i]? = some (some (.ref A.a))) (q : D.nx σ (upd H A.a (.ins C A.dx (lfs A (L.done : Int) ((L.cost + 1 : Nat) : Int))))) : sFldAug K (tVar i) (tC (.int 1)) rAdd "cost" D σ H :=
  ⟨_, e, _, _, _, _, _, rfl, x.ins, Y.cl, Y.nCost, rfl, _, _, rfl, rfl, _, _, x.ins, (by show 10 < 1000; decide), q⟩
theorem LyAt.augDone (x : LyAt K C H A bef ps L) {D : Ends} {i : Nat} {σ : L2.St} (e : σ[i]? = some (some (.ref A.a))) (q : D.nx σ (upd H A.a (.ins C A.dx (lfs A ((L.done + 1 : Nat) : Int) (L.cost : Int))))) : sFldAug K (tVar i) (tC (.int 1)) rAdd "done" D σ H :=
  ⟨_, e, _, _, _, _, _, rfl, x.ins, Y.cl, Y.nDone, rfl, _, _, rfl, rfl, _, _, x.ins, (by show 10 < 1000; decide), q⟩
/-- a method of it, called -/
theorem LyAt.call (x : LyAt K C H A bef ps L) {i : Nat} {σ : L2.St} {m : Str} {sp : Sp} {dvs : List V} {E : XK} {t : TA} (e : σ[i]? = some (some (.ref A.a))) (hm : (lfs A (L.done : Int) (L.cost : Int)).lookup m = none) (q : t σ H fun vs H2 => sp (.ref A.a :: (vs ++ dvs)) H2 Q E) : tMeth C m sp dvs E (tVar i) t σ H Q :=
  ⟨_, e, _, _, _, rfl, x.ins, hm, q⟩
end
theorem put_cost (A : LA) (dn c c' : Int) : putF "cost" (.int c') (lfs A dn c) = lfs A dn c' := rfl
theorem put_done (A : LA) (dn c d' : Int) : putF "done" (.int d') (lfs A dn c) = lfs A d' c := rfl
theorem put_gaps (A : LA) (dn c : Int) (g : Addr) : putF "gaps" (.ref g) (lfs A dn c) = lfs { A with ag := g } dn c := rfl
theorem put_wait (A : LA) (dn c : Int) (g : Addr) : putF "waiting" (.ref g) (lfs A dn c) = lfs { A with wt := g } dn c := rfl
end Bx

namespace Bx
/-- what stands in a state: gaps, heads, data, lengths; entries are told by their list -/
def gpM (m : Nat → Option Nat) (gs : List Nat) (p : Nat) : Prop := hdg gs ≠ 0 → 2 ≤ hdg gs ∧ m p = some 3 ∧ m (p + 1) = some (hdg gs)
mutual
def mtS (m : Nat → Option Nat) (en : List (Nat × (Nat × Nat))) : Sh → List Nat → Nat → Prop
  | .dat c, gs, p => gpM m gs p ∧ m (p + hdg gs) = some 2 ∧ m (p + hdg gs + 1) = some (2 + c.length) ∧ ∀ i v, c[i]? = some v → m (p + hdg gs + 2 + i) = some v
  | .tab t, gs, p => gpM m gs p ∧ m (p + hdg gs) = some 4 ∧ m (p + hdg gs + 1) = some (2 + t.length) ∧ ∀ i x, t[i]? = some x → (p + hdg gs + 2 + i, x) ∈ en
  | .grp ks, gs, p => gpM m gs p ∧ m (p + hdg gs) = some 1 ∧ m (p + hdg gs + 1) = some (2 + lnL ks + (gs.tail.take (gpL ks)).sum) ∧ mtL m en ks gs.tail (p + hdg gs + 2)
def mtL (m : Nat → Option Nat) (en : List (Nat × (Nat × Nat))) : List Sh → List Nat → Nat → Prop
  | [], gs, p => gpM m gs p
  | s :: r, gs, p => mtS m en s gs p ∧ mtL m en r (gs.drop (gp1 s)) (p + ln1 s + (gs.take (gp1 s)).sum)
end
/-- more stands -/
def Mo (m m' : Nat → Option Nat) : Prop := ∀ n v, m n = some v → m' n = some v
section
variable {m m' : Nat → Option Nat} {en en' : List (Nat × (Nat × Nat))}
theorem gpM.mo {gs : List Nat} {p : Nat} (h : gpM m gs p) (e : Mo m m') : gpM m' gs p := fun z => by
  obtain ⟨a, b, c⟩ := h z
  exact ⟨a, e _ _ b, e _ _ c⟩
mutual
theorem mtS.mo (e : Mo m m') (f : ∀ x ∈ en, x ∈ en') : ∀ (s : Sh) (gs : List Nat) (p : Nat), mtS m en s gs p → mtS m' en' s gs p
  | .dat c, gs, p, h => by
    rw [mtS] at h ⊢
    exact ⟨h.1.mo e, e _ _ h.2.1, e _ _ h.2.2.1, fun i v hv => e _ _ (h.2.2.2 i v hv)⟩
  | .tab c, gs, p, h => by
    rw [mtS] at h ⊢
    exact ⟨h.1.mo e, e _ _ h.2.1, e _ _ h.2.2.1, fun i v hv => f _ (h.2.2.2 i v hv)⟩
  | .grp ks, gs, p, h => by
    rw [mtS] at h ⊢
    exact ⟨h.1.mo e, e _ _ h.2.1, e _ _ h.2.2.1, mtL.mo e f ks _ _ h.2.2.2⟩
theorem mtL.mo (e : Mo m m') (f : ∀ x ∈ en, x ∈ en') : ∀ (ss : List Sh) (gs : List Nat) (p : Nat), mtL m en ss gs p → mtL m' en' ss gs p
  | [], gs, p, h => by
    rw [mtL] at h ⊢
    exact h.mo e
  | s :: r, gs, p, h => by
    rw [mtL] at h ⊢
    exact ⟨mtS.mo e f s _ _ h.1, mtL.mo e f r _ _ h.2⟩
end
end
/-- a state between two boxes -/
structure Kg (st : Kst) : Prop where
  off : st.off = 0
  new : ∀ n, st.pl ≤ n → st.m n = none
  enp : ∀ e ∈ st.en, e.1 < st.pl
  enm : ∀ e ∈ st.en, st.m e.1 = none
  enw : st.en.Pairwise fun a b => a.1 < b.1
  opm : ∀ o ∈ st.op, o < st.pl ∧ st.m o = none
  ope : ∀ o ∈ st.op, ∀ e ∈ st.en, e.1 ≠ o
/-- from a state to a later one: what stood stands, and the rest is new -/
structure Kt (st st' : Kst) : Prop where
  le : st.pl ≤ st'.pl
  m : ∀ n, n < st.pl → st'.m n = st.m n
  tg : ∀ t : Nat × Nat, t.1 < st.num → st'.tg t = st.tg t
  num : st.num ≤ st'.num
  en : ∃ E, st'.en = st.en ++ E ∧ ∀ e ∈ E, st.pl ≤ e.1
theorem Kt.refl (st : Kst) : Kt st st := ⟨Nat.le_refl _, fun _ _ => rfl, fun _ _ => rfl, Nat.le_refl _, [], (List.append_nil _).symm, fun _ h => absurd h List.not_mem_nil⟩
theorem Kt.trans {a b c : Kst} (x : Kt a b) (y : Kt b c) : Kt a c := by
  obtain ⟨E, e1, e2⟩ := x.en
  obtain ⟨F, f1, f2⟩ := y.en
  refine ⟨Nat.le_trans x.le y.le, fun n h => (y.m n (Nat.lt_of_lt_of_le h x.le)).trans (x.m n h), fun t h => (y.tg t (Nat.lt_of_lt_of_le h x.num)).trans (x.tg t h), Nat.le_trans x.num y.num, E ++ F, by rw [f1, e1, List.append_assoc], fun e he => ?_⟩
  rcases List.mem_append.mp he with h | h
  · exact e2 e h
  · exact Nat.le_trans x.le (f2 e h)
theorem Kt.mo {a b : Kst} (x : Kt a b) (g : Kg a) : Mo a.m b.m := fun n v h => by
  by_cases hn : n < a.pl
  · rw [x.m n hn]
    exact h
  · rw [g.new n (by omega)] at h
    cases h
theorem Kt.ens {a b : Kst} (x : Kt a b) : ∀ e ∈ a.en, e ∈ b.en := fun e he => by
  obtain ⟨E, e1, _⟩ := x.en
  rw [e1]
  exact List.mem_append_left _ he
section
variable {bef : List Nat} {st : Kst}
theorem Kg.put (g : Kg st) (v : Nat) : Kg { st with m := putM st.m st.pl v, pl := st.pl + 1 } where
  off := g.off
  new := fun n hn => by
    have hn' : st.pl + 1 ≤ n := hn
    show putM st.m st.pl v n = none
    rw [putM_ne (by omega)]
    exact g.new n (by omega)
  enp := fun e he => Nat.lt_succ_of_lt (g.enp e he)
  enm := fun e he => by
    show putM st.m st.pl v e.1 = none
    rw [putM_ne (Nat.ne_of_lt (g.enp e he))]
    exact g.enm e he
  enw := g.enw
  opm := fun o ho => by
    obtain ⟨a, b⟩ := g.opm o ho
    refine ⟨Nat.lt_succ_of_lt a, ?_⟩
    show putM st.m st.pl v o = none
    rw [putM_ne (Nat.ne_of_lt a)]
    exact b
  ope := g.ope
theorem Kt.put (st : Kst) (v : Nat) : Kt st { st with m := putM st.m st.pl v, pl := st.pl + 1 } :=
  ⟨Nat.le_succ _, fun n hn => putM_ne (Nat.ne_of_lt hn), fun _ _ => rfl, Nat.le_refl _, [], (List.append_nil _).symm, fun _ h => absurd h List.not_mem_nil⟩
theorem fill_lt {m : Nat → Option Nat} {p s j n : Nat} (h : n < p) : fillG bef m p s j n = m n := if_neg (by omega)
theorem Kg.gap (g : Kg st) (s : Nat) (q : List Nat) : Kg { st with m := fillG bef st.m st.pl s s, pl := st.pl + s, rest := q } where
  off := g.off
  new := fun n hn => by
    have hn' : st.pl + s ≤ n := hn
    show fillG bef st.m st.pl s s n = none
    unfold fillG
    rw [if_neg (by omega)]
    exact g.new n (by omega)
  enp := fun e he => Nat.lt_of_lt_of_le (g.enp e he) (Nat.le_add_right _ _)
  enm := fun e he => by
    show fillG bef st.m st.pl s s e.1 = none
    rw [fill_lt (g.enp e he)]
    exact g.enm e he
  enw := g.enw
  opm := fun o ho => by
    obtain ⟨a, b⟩ := g.opm o ho
    refine ⟨Nat.lt_of_lt_of_le a (Nat.le_add_right _ _), ?_⟩
    show fillG bef st.m st.pl s s o = none
    rw [fill_lt a]
    exact b
  ope := g.ope
theorem Kt.gap (st : Kst) (s : Nat) (q : List Nat) : Kt st { st with m := fillG bef st.m st.pl s s, pl := st.pl + s, rest := q } :=
  ⟨Nat.le_add_right _ _, fun n hn => fill_lt hn, fun _ _ => rfl, Nat.le_refl _, [], (List.append_nil _).symm, fun _ h => absurd h List.not_mem_nil⟩
theorem gap_at {m : Nat → Option Nat} {p s : Nat} {gs : List Nat} (e : hdg gs = s) (hs : s = 0 ∨ 2 ≤ s) : gpM (fillG bef m p s s) gs p := fun h => by
  rw [e] at h
  have h2 : 2 ≤ s := hs.resolve_left h
  refine ⟨by rw [e]; exact h2, ?_, ?_⟩
  · unfold fillG
    rw [if_pos (by omega), if_pos rfl]
  · unfold fillG
    rw [if_pos (by omega), if_neg (by omega), if_pos rfl, e]
/-- one part run: gap and data, .. -/
theorem kr_dats : ∀ (c : List Nat) (r : List Tok) (st : Kst), (∀ n, st.pl ≤ n → st.m n = none) → ∃ st', runK bef (c.map Tok.dat ++ r) st = runK bef r st' ∧ st'.op = st.op ∧ st'.rest = st.rest ∧ st'.pl = st.pl + c.length ∧ st'.num = st.num ∧ st'.off = st.off + c.length ∧ st'.en = st.en ∧ (∀ n, st'.pl ≤ n → st'.m n = none) ∧ (∀ n, n < st.pl → st'.m n = st.m n) ∧
    (∀ i v, c[i]? = some v → st'.m (st.pl + i) = some v) ∧ (∀ t : Nat × Nat, (t.1 ≠ st.num ∨ t.2 < st.off) → st'.tg t = st.tg t) ∧ (∀ j, j < c.length → st'.tg (st.num, st.off + j) = some (st.pl + j))
  | [], r, st, hN => ⟨st, rfl, rfl, rfl, rfl, rfl, rfl, rfl, hN, fun _ _ => rfl, fun i v h => by simp at h, fun _ _ => rfl, fun j h => absurd h (Nat.not_lt_zero _)⟩
  | y :: c, r, st, hN => by
    obtain ⟨st', a, b1, b2, b3, b4, b5, b6, b7, b8, b9, b10, b11⟩ := kr_dats c r { st with tg := fun t => if t = (st.num, st.off) then some st.pl else st.tg t, off := st.off + 1, m := putM st.m st.pl y, pl := st.pl + 1 } (fun n hn => by
      have hn' : st.pl + 1 ≤ n := hn
      show putM st.m st.pl y n = none
      rw [putM_ne (by omega)]
      exact hN n (by omega))
    refine ⟨st', ?_, b1, b2, ?_, b4, ?_, b6, b7, fun n hn => ?_, fun i v hv => ?_, fun t ht => ?_, fun j hj => ?_⟩
    · rw [List.map_cons, List.cons_append, runK]
      exact a
    · rw [b3, List.length_cons]
      show st.pl + 1 + c.length = _
      omega
    · rw [b5, List.length_cons]
      show st.off + 1 + c.length = _
      omega
    · rw [b8 n (Nat.lt_succ_of_lt hn)]
      exact putM_ne (Nat.ne_of_lt hn)
    · cases i with
      | zero =>
        rw [b8 (st.pl + 0) (Nat.lt_succ_self _)]
        cases hv
        exact putM_at _ _ _
      | succ i =>
        have := b9 i v hv
        rw [show st.pl + (i + 1) = st.pl + 1 + i by omega]
        exact this
    · rw [b10 t (by
        show t.1 ≠ st.num ∨ t.2 < st.off + 1
        omega)]
      show (if t = (st.num, st.off) then some st.pl else st.tg t) = st.tg t
      rw [if_neg (fun z => by rw [z] at ht; simp at ht)]
    · cases j with
      | zero =>
        rw [b10 (st.num, st.off + 0) (by
          show st.num ≠ st.num ∨ st.off + 0 < st.off + 1
          omega)]
        exact if_pos rfl
      | succ j =>
        have := b11 j (by rw [List.length_cons] at hj; omega)
        rw [show st.off + (j + 1) = st.off + 1 + j by omega, show st.pl + (j + 1) = st.pl + 1 + j by omega]
        exact this
theorem kr_ents : ∀ (c : List (Nat × Nat)) (r : List Tok) (st : Kst), runK bef (c.map Tok.ent ++ r) st = runK bef r { st with en := st.en ++ ents st.pl c, pl := st.pl + c.length }
  | [], r, st => by
    rw [ents, List.append_nil]
    rfl
  | y :: c, r, st => by
    rw [List.map_cons, List.cons_append, runK]
    show runK bef (c.map Tok.ent ++ r) { st with en := st.en ++ [(st.pl, y)], pl := st.pl + 1 } = _
    rw [kr_ents c r]
    show runK bef r { st with en := st.en ++ [(st.pl, y)] ++ ents (st.pl + 1) c, pl := st.pl + 1 + c.length } = _
    rw [ents, List.append_assoc, List.length_cons, show st.pl + 1 + c.length = st.pl + (c.length + 1) by omega]
    rfl
theorem ents_pw : ∀ (t : List (Nat × Nat)) (p : Nat), (ents p t).Pairwise fun a b => a.1 < b.1
  | [], _ => by rw [ents]; exact .nil
  | x :: r, p => by
    rw [ents]
    exact .cons (fun e he => (ents_mem r (p + 1) e he).1) (ents_pw r (p + 1))
theorem Kg.ents (g : Kg st) (c : List (Nat × Nat)) : Kg { st with en := st.en ++ Bx.ents st.pl c, pl := st.pl + c.length } where
  off := g.off
  new := fun n hn => g.new n (Nat.le_trans (Nat.le_add_right _ _) hn)
  enp := fun e he => by
    rcases List.mem_append.mp he with h | h
    · exact Nat.lt_of_lt_of_le (g.enp e h) (Nat.le_add_right _ _)
    · exact (ents_mem _ _ e h).2.1
  enm := fun e he => by
    rcases List.mem_append.mp he with h | h
    · exact g.enm e h
    · exact g.new _ (ents_mem _ _ e h).1
  enw := by
    show (st.en ++ Bx.ents st.pl c).Pairwise _
    rw [List.pairwise_append]
    exact ⟨g.enw, ents_pw _ _, fun a ha b hb => Nat.lt_of_lt_of_le (g.enp a ha) (ents_mem _ _ b hb).1⟩
  opm := fun o ho => ⟨Nat.lt_of_lt_of_le (g.opm o ho).1 (Nat.le_add_right _ _), (g.opm o ho).2⟩
  ope := fun o ho e he => by
    rcases List.mem_append.mp he with h | h
    · exact g.ope o ho e h
    · have := (ents_mem _ _ e h).1
      have := (g.opm o ho).1
      omega
theorem Kt.ents (st : Kst) (c : List (Nat × Nat)) : Kt st { st with en := st.en ++ Bx.ents st.pl c, pl := st.pl + c.length } :=
  ⟨Nat.le_add_right _ _, fun _ _ => rfl, fun _ _ => rfl, Nat.le_refl _, _, rfl, fun e he => (ents_mem _ _ e he).1⟩
theorem Kg.opn (g : Kg st) : Kg { st with op := st.op ++ [st.pl], pl := st.pl + 1 } where
  off := g.off
  new := fun n hn => g.new n (Nat.le_of_succ_le hn)
  enp := fun e he => Nat.lt_succ_of_lt (g.enp e he)
  enm := g.enm
  enw := g.enw
  opm := fun o ho => by
    rcases List.mem_append.mp ho with h | h
    · exact ⟨Nat.lt_succ_of_lt (g.opm o h).1, (g.opm o h).2⟩
    · obtain rfl := List.mem_singleton.mp h
      exact ⟨Nat.lt_succ_self _, g.new _ (Nat.le_refl _)⟩
  ope := fun o ho e he => by
    rcases List.mem_append.mp ho with h | h
    · exact g.ope o h e he
    · obtain rfl := List.mem_singleton.mp h
      have := g.enp e he
      omega
theorem Kt.opn (st : Kst) : Kt st { st with op := st.op ++ [st.pl], pl := st.pl + 1 } :=
  ⟨Nat.le_succ _, fun _ _ => rfl, fun _ _ => rfl, Nat.le_refl _, [], (List.append_nil _).symm, fun _ h => absurd h List.not_mem_nil⟩
/-- what a run over boxes leaves -/
structure Ran (bef : List Nat) (tk : List Tok) (gn ln : Nat) (rws : List (Nat × Nat)) (at_ : (Nat → Option Nat) → List (Nat × (Nat × Nat)) → Prop) (st st' : Kst) (r : List Tok) : Prop where
  run : runK bef (tk ++ r) st = runK bef r st'
  g : Kg st'
  t : Kt st st'
  op : st'.op = st.op
  rest : st'.rest = st.rest.drop gn
  pl : st'.pl = st.pl + ln + (st.rest.take gn).sum
  num : st'.num = st.num + rws.length
  at_ : at_ st'.m st'.en
  tgs : ∀ a q, rws[a]? = some q → ∀ j, j < q.2 → st'.tg (st.num + a, j) = some (q.1 + j)
theorem hdg_cons {l : List Nat} {s : Nat} {q : List Nat} (h : l = s :: q) : hdg l = s ∧ l.tail = q ∧ (l.take 1).sum = s := by
  subst h
  exact ⟨rfl, rfl, by simp⟩
mutual
theorem kr_S : ∀ (s : Sh) (st : Kst) (r : List Tok), Kg st → gp1 s ≤ st.rest.length → (∀ g ∈ st.rest, g = 0 ∨ 2 ≤ g) → ∃ st', Ran bef (tk1 s) (gp1 s) (ln1 s) (rw1 s st.rest st.pl) (fun m en => mtS m en s st.rest st.pl) st st' r
  | .dat c, st, r, g, hg, h2 => by
    rw [gp1] at hg ⊢
    cases hr : st.rest with
    | nil =>
      rw [hr] at hg
      exact absurd hg (by decide)
    | cons s q =>
      obtain ⟨d1, d2, d3⟩ := hdg_cons hr
      have hs := h2 s (by rw [hr]; exact List.mem_cons_self)
      rw [← hr]
      have g1 := ((g.gap (bef := bef) s q).put 2).put (2 + c.length)
      have t1 := ((Kt.gap (bef := bef) st s q).trans (.put _ 2)).trans (.put _ (2 + c.length))
      obtain ⟨st', a, b1, b2, b3, b4, b5, b6, b7, b8, b9, b10, b11⟩ := kr_dats (bef := bef) c (Tok.fin true :: r) _ g1.new
      have e3 : st'.pl = st.pl + s + 1 + 1 + c.length := b3
      have e4 : st'.num = st.num := b4
      have e6 : st'.en = st.en := b6
      have t2 : Kt st { st' with num := st'.num + 1, off := 0 } := by
        refine t1.trans ⟨by show st.pl + s + 1 + 1 ≤ st'.pl; omega, b8, fun t ht => b10 t (.inl (Nat.ne_of_lt ht)), by show st.num ≤ st'.num + 1; omega, [], by rw [List.append_nil]; exact b6, fun _ h => absurd h List.not_mem_nil⟩
      refine ⟨{ st' with num := st'.num + 1, off := 0 }, ?_, ⟨rfl, b7, fun e he => ?_, fun e he => ?_, ?_, fun o ho => ?_, fun o ho e he => ?_⟩, t2, b1, ?_, ?_, ?_, ?_, fun i x hx j hj => ?_⟩
      · rw [tk1, List.append_assoc, List.append_assoc]
        show runK bef (Tok.gap :: Tok.cell 2 :: Tok.cell (2 + c.length) :: (c.map Tok.dat ++ (Tok.fin true :: r))) st = _
        rw [run_gap s q hr]
        exact a
      · have h9 := g.enp e (by rw [← e6]; exact he)
        show e.1 < st'.pl
        omega
      · have he' : e ∈ st.en := by rw [← e6]; exact he
        show st'.m e.1 = none
        rw [t2.m e.1 (g.enp e he')]
        exact g.enm e he'
      · show st'.en.Pairwise _
        rw [e6]
        exact g.enw
      · have ho' : o ∈ st.op := by rw [← show st'.op = st.op from b1]; exact ho
        obtain ⟨z1, z2⟩ := g.opm o ho'
        refine ⟨by show o < st'.pl; omega, ?_⟩
        rw [t2.m o z1]
        exact z2
      · exact g.ope o (by rw [← show st'.op = st.op from b1]; exact ho) e (by rw [← e6]; exact he)
      · show st'.rest = st.rest.drop 1
        rw [b2, hr]
        rfl
      · show st'.pl = st.pl + ln1 (.dat c) + (st.rest.take 1).sum
        rw [ln1, d3]
        omega
      · show st'.num + 1 = st.num + (rw1 (.dat c) st.rest st.pl).length
        rw [rw1, e4]
        rfl
      · show mtS st'.m st'.en (.dat c) st.rest st.pl
        rw [mtS, d1]
        refine ⟨(gap_at (bef := bef) (m := st.m) (p := st.pl) d1 hs).mo fun n v hv => ?_, ?_, ?_, fun i v hv => ?_⟩
        · by_cases hn : n < st.pl + s
          · rw [b8 n (by show n < st.pl + s + 1 + 1; omega)]
            show putM (putM _ _ _) _ _ n = _
            rw [putM_ne (by show n ≠ st.pl + s + 1; omega), putM_ne (by show n ≠ st.pl + s; omega)]
            exact hv
          · exfalso
            have z : fillG bef st.m st.pl s s n = none := (g.gap (bef := bef) s q).new n (by show st.pl + s ≤ n; omega)
            rw [z] at hv
            cases hv
        · rw [b8 (st.pl + s) (by show st.pl + s < st.pl + s + 1 + 1; omega)]
          show putM (putM _ _ _) _ _ (st.pl + s) = _
          rw [putM_ne (by show st.pl + s ≠ st.pl + s + 1; omega)]
          exact putM_at _ _ _
        · rw [b8 (st.pl + s + 1) (by show st.pl + s + 1 < st.pl + s + 1 + 1; omega)]
          exact putM_at _ _ _
        · exact b9 i v hv
      · rw [rw1, d1] at hx
        cases i with
        | zero =>
          cases hx
          show st'.tg (st.num + 0, j) = some (st.pl + s + 2 + j)
          have := b11 j hj
          have e0 : st.off = 0 := g.off
          rw [show (st.num, st.off + j) = (st.num + 0, j) by rw [e0, Nat.zero_add, Nat.add_zero]] at this
          exact this
        | succ i => cases hx
  | .tab c, st, r, g, hg, h2 => by
    rw [gp1] at hg ⊢
    cases hr : st.rest with
    | nil =>
      rw [hr] at hg
      exact absurd hg (by decide)
    | cons s q =>
      obtain ⟨d1, d2, d3⟩ := hdg_cons hr
      have hs := h2 s (by rw [hr]; exact List.mem_cons_self)
      rw [← hr]
      have g1 := ((g.gap (bef := bef) s q).put 4).put (2 + c.length)
      have t1 := ((Kt.gap (bef := bef) st s q).trans (.put _ 4)).trans (.put _ (2 + c.length))
      have g2 := g1.ents c
      have t2 := t1.trans (.ents _ c)
      refine ⟨{ st with m := putM (putM (fillG bef st.m st.pl s s) (st.pl + s) 4) (st.pl + s + 1) (2 + c.length), rest := q, en := st.en ++ ents (st.pl + s + 1 + 1) c, pl := st.pl + s + 1 + 1 + c.length, num := st.num + 0, off := 0 }, ?_, ⟨rfl, g2.new, g2.enp, g2.enm, g2.enw, g2.opm, g2.ope⟩, ⟨t2.le, t2.m, t2.tg, t2.num, t2.en⟩, rfl, ?_, ?_, ?_, ?_, fun i x hx j hj => ?_⟩
      · rw [tk1, List.append_assoc, List.append_assoc]
        show runK bef (Tok.gap :: Tok.cell 4 :: Tok.cell (2 + c.length) :: (c.map Tok.ent ++ (Tok.fin false :: r))) st = _
        rw [run_gap s q hr, runK]
        show runK bef (Tok.cell (2 + c.length) :: (c.map Tok.ent ++ (Tok.fin false :: r))) { st with m := putM (fillG bef st.m st.pl s s) (st.pl + s) 4, pl := st.pl + s + 1, rest := q } = _
        rw [runK]
        show runK bef (c.map Tok.ent ++ (Tok.fin false :: r)) { st with m := putM (putM (fillG bef st.m st.pl s s) (st.pl + s) 4) (st.pl + s + 1) (2 + c.length), pl := st.pl + s + 1 + 1, rest := q } = _
        rw [kr_ents, runK]
        rfl
      · show q = st.rest.drop 1
        rw [hr]
        rfl
      · show st.pl + s + 1 + 1 + c.length = st.pl + ln1 (.tab c) + (st.rest.take 1).sum
        rw [ln1, d3]
        omega
      · show st.num + 0 = st.num + (rw1 (.tab c) st.rest st.pl).length
        rw [rw1]
        rfl
      · rw [mtS, d1]
        refine ⟨(gap_at (bef := bef) (m := st.m) (p := st.pl) d1 hs).mo fun n v hv => ?_, ?_, putM_at _ _ _, fun i x hx => ?_⟩
        · by_cases hn : n < st.pl + s
          · show putM (putM _ _ _) _ _ n = _
            rw [putM_ne (by omega), putM_ne (by omega)]
            exact hv
          · exfalso
            have z : fillG bef st.m st.pl s s n = none := (g.gap (bef := bef) s q).new n (by show st.pl + s ≤ n; omega)
            rw [z] at hv
            cases hv
        · show putM (putM _ _ _) _ _ (st.pl + s) = _
          rw [putM_ne (by omega)]
          exact putM_at _ _ _
        · refine List.mem_append_right _ (List.mem_of_getElem? (i := i) ?_)
          rw [ents_get, hx]
          rfl
      · rw [rw1] at hx
        cases hx
  | .grp ks, st, r, g, hg, h2 => by
    rw [gp1] at hg ⊢
    cases hr : st.rest with
    | nil =>
      rw [hr] at hg
      exact absurd hg (by simp)
    | cons s q =>
      obtain ⟨d1, d2, d3⟩ := hdg_cons hr
      have hs := h2 s (by rw [hr]; exact List.mem_cons_self)
      have hq : gpL ks ≤ q.length := by
        rw [hr, List.length_cons] at hg
        omega
      rw [← hr]
      have g1 := ((g.gap (bef := bef) s q).put 1).opn
      have t1 := ((Kt.gap (bef := bef) st s q).trans (.put _ 1)).trans (.opn _)
      obtain ⟨st', R⟩ := kr_SL ks _ (Tok.close :: r) g1 hq (fun x hx => h2 x (by rw [hr]; exact List.mem_cons_of_mem _ hx))
      have eop : st'.op = st.op ++ [st.pl + s + 1] := R.op
      have epl : st'.pl = st.pl + s + 1 + 1 + lnL ks + (q.take (gpL ks)).sum := R.pl
      have erest : st'.rest = q.drop (gpL ks) := R.rest
      have enum : st'.num = st.num + (rwL ks q (st.pl + s + 1 + 1)).length := R.num
      have el : st'.op.getLastD 0 = st.pl + s + 1 := by rw [eop]; simp
      have ed : st'.op.dropLast = st.op := by rw [eop]; simp
      have tl := t1.trans R.t
      have hne : ∀ e ∈ st'.en, e.1 ≠ st.pl + s + 1 := fun e he => R.g.ope (st.pl + s + 1) (by rw [eop]; exact List.mem_append_right _ (List.mem_singleton.mpr rfl)) e he
      have mo1 : ∀ n, n ≠ st.pl + s + 1 → putM st'.m (st.pl + s + 1) (st'.pl - (st.pl + s + 1) + 1) n = st'.m n := fun n h => putM_ne h
      have hm0 : st'.m (st.pl + s + 1) = none := (R.g.opm (st.pl + s + 1) (by rw [eop]; exact List.mem_append_right _ (List.mem_singleton.mpr rfl))).2
      have Mo1 : Mo st'.m (putM st'.m (st.pl + s + 1) (st'.pl - (st.pl + s + 1) + 1)) := fun n v hv => by
        by_cases h : n = st.pl + s + 1
        · rw [h, hm0] at hv
          cases hv
        · rw [mo1 n h]
          exact hv
      refine ⟨{ st' with m := putM st'.m (st.pl + s + 1) (st'.pl - (st.pl + s + 1) + 1), op := st.op }, ?_, ⟨R.g.off, fun n hn => ?_, R.g.enp, fun e he => ?_, R.g.enw, fun o ho => ?_, fun o ho e he => ?_⟩, ⟨tl.le, fun n hn => ?_, tl.tg, tl.num, tl.en⟩, rfl, ?_, ?_, ?_, ?_, ?_⟩
      · rw [tk1, List.append_assoc, List.append_assoc]
        show runK bef (Tok.gap :: Tok.cell 1 :: Tok.length :: (tkL ks ++ (Tok.close :: r))) st = _
        rw [run_gap s q hr, runK]
        show runK bef (Tok.length :: (tkL ks ++ (Tok.close :: r))) _ = _
        rw [runK]
        refine R.run.trans ?_
        rw [runK]
        show runK bef r { st' with m := putM st'.m (st'.op.getLastD 0) (st'.pl - st'.op.getLastD 0 + 1), op := st'.op.dropLast } = _
        rw [el, ed]
      · show putM _ _ _ n = none
        have hn' : st'.pl ≤ n := hn
        rw [mo1 n (by omega)]
        exact R.g.new n hn
      · show putM _ _ _ e.1 = none
        rw [mo1 _ (hne e he)]
        exact R.g.enm e he
      · have ho' : o ∈ st'.op := by rw [eop]; exact List.mem_append_left _ ho
        obtain ⟨z1, z2⟩ := R.g.opm o ho'
        refine ⟨z1, ?_⟩
        show putM _ _ _ o = none
        rw [mo1 o (by have := (g.opm o ho).1; omega)]
        exact z2
      · exact R.g.ope o (by rw [eop]; exact List.mem_append_left _ ho) e he
      · show putM _ _ _ n = st.m n
        have hn' : n < st.pl := hn
        rw [mo1 n (by omega)]
        exact tl.m n hn
      · show st'.rest = st.rest.drop (1 + gpL ks)
        rw [erest, hr, Nat.add_comm 1]
        rfl
      · show st'.pl = st.pl + ln1 (.grp ks) + (st.rest.take (1 + gpL ks)).sum
        rw [ln1, take_tail (by rw [hr]; simp), d1, d2, epl]
        omega
      · show st'.num = st.num + (rw1 (.grp ks) st.rest st.pl).length
        rw [rw1, d1, d2]
        exact enum
      · rw [mtS, d1, d2]
        refine ⟨(gap_at (bef := bef) (m := st.m) (p := st.pl) d1 hs).mo fun n v hv => ?_, ?_, ?_, ?_⟩
        · have hn : n < st.pl + s := by
            by_cases hn : n < st.pl + s
            · exact hn
            · exfalso
              have z : fillG bef st.m st.pl s s n = none := (g.gap (bef := bef) s q).new n (by show st.pl + s ≤ n; omega)
              rw [z] at hv
              cases hv
          show putM st'.m (st.pl + s + 1) (st'.pl - (st.pl + s + 1) + 1) n = some v
          rw [mo1 n (by omega), R.t.m n (by show n < st.pl + s + 1 + 1; omega)]
          show putM (fillG bef st.m st.pl s s) (st.pl + s) 1 n = some v
          rw [putM_ne (by omega)]
          exact hv
        · show putM st'.m (st.pl + s + 1) (st'.pl - (st.pl + s + 1) + 1) (st.pl + s) = some 1
          rw [mo1 (st.pl + s) (by omega), R.t.m (st.pl + s) (by show st.pl + s < st.pl + s + 1 + 1; omega)]
          exact putM_at _ _ _
        · show putM _ _ _ (st.pl + s + 1) = _
          rw [putM_at, epl]
          congr 1
          omega
        · exact mtL.mo Mo1 (fun x hx => hx) ks _ _ R.at_
      · rw [rw1, d1, d2]
        exact R.tgs
theorem kr_SL : ∀ (ss : List Sh) (st : Kst) (r : List Tok), Kg st → gpL ss ≤ st.rest.length → (∀ g ∈ st.rest, g = 0 ∨ 2 ≤ g) → ∃ st', Ran bef (tkL ss) (gpL ss) (lnL ss) (rwL ss st.rest st.pl) (fun m en => mtL m en ss st.rest st.pl) st st' r
  | [], st, r, g, hg, h2 => by
    rw [gpL] at hg ⊢
    cases hr : st.rest with
    | nil =>
      rw [hr] at hg
      exact absurd hg (by decide)
    | cons s q =>
      obtain ⟨d1, d2, d3⟩ := hdg_cons hr
      have hs := h2 s (by rw [hr]; exact List.mem_cons_self)
      rw [← hr]
      refine ⟨_, ?_, g.gap (bef := bef) s q, .gap st s q, rfl, ?_, ?_, rfl, ?_, fun i x hx => ?_⟩
      · rw [tkL]
        exact run_gap s q hr r
      · show q = st.rest.drop 1
        rw [hr]
        rfl
      · show st.pl + s = st.pl + lnL [] + (st.rest.take 1).sum
        rw [lnL, d3]
        rfl
      · rw [mtL]
        exact gap_at d1 hs
      · rw [rwL] at hx
        cases hx
  | s :: ss, st, r, g, hg, h2 => by
    rw [gpL] at hg ⊢
    obtain ⟨st1, R1⟩ := kr_S s st (tkL ss ++ r) g (by omega) h2
    obtain ⟨st2, R2⟩ := kr_SL ss st1 r R1.g (by rw [R1.rest, List.length_drop]; omega) (fun x hx => h2 x (by rw [R1.rest] at hx; exact List.mem_of_mem_drop hx))
    refine ⟨st2, ?_, R2.g, R1.t.trans R2.t, R2.op.trans R1.op, ?_, ?_, ?_, ?_, fun a q hq j hj => ?_⟩
    · rw [tkL, List.append_assoc, R1.run, R2.run]
    · rw [R2.rest, R1.rest, List.drop_drop]
    · rw [R2.pl, R1.pl, R1.rest, lnL, take_sum_add]
      omega
    · rw [R2.num, R1.num, rwL, List.length_append, R1.pl, R1.rest]
      omega
    · rw [mtL]
      refine ⟨mtS.mo (R2.t.mo R1.g) R2.t.ens s _ _ R1.at_, ?_⟩
      have := R2.at_
      rw [R1.pl, R1.rest] at this
      exact this
    · rw [rwL] at hq
      by_cases ha : a < (rw1 s st.rest st.pl).length
      · rw [List.getElem?_append_left ha] at hq
        rw [R2.t.tg _ (by show st.num + a < st1.num; rw [R1.num]; omega)]
        exact R1.tgs a q hq j hj
      · rw [List.getElem?_append_right (by omega)] at hq
        have := R2.tgs (a - (rw1 s st.rest st.pl).length) q (by rw [R1.pl, R1.rest]; exact hq) j hj
        rw [R1.num, show st.num + (rw1 s st.rest st.pl).length + (a - (rw1 s st.rest st.pl).length) = st.num + a by omega] at this
        exact this
end
end
end Bx

namespace Bx
theorem fin_off (tg : Nat × Nat → Option Nat) : ∀ (en : List (Nat × (Nat × Nat))) (m : Nat → Option Nat) (n : Nat), (∀ e ∈ en, e.1 ≠ n) → finM tg en m n = m n
  | [], _, _, _ => rfl
  | e :: r, m, n, h => by
    rw [finM, fin_off tg r _ n fun x hx => h x (List.mem_cons_of_mem _ hx)]
    have := h e List.mem_cons_self
    cases tg e.2 with
    | none => rfl
    | some v => exact putM_ne (Ne.symm this)
theorem fin_on (tg : Nat × Nat → Option Nat) : ∀ (en : List (Nat × (Nat × Nat))) (m : Nat → Option Nat), (en.Pairwise fun a b => a.1 < b.1) → (∀ e ∈ en, m e.1 = none) → ∀ e ∈ en, finM tg en m e.1 = tg e.2
  | [], _, _, _, e, h => absurd h List.not_mem_nil
  | x :: r, m, hp, hm, e, h => by
    rw [finM]
    cases hp with
    | cons h1 h2 =>
      rcases List.mem_cons.mp h with rfl | h
      · rw [fin_off tg r _ e.1 fun y hy => Nat.ne_of_gt (h1 y hy)]
        cases q : tg e.2 with
        | none => exact hm e List.mem_cons_self
        | some v => exact putM_at _ _ _
      · refine fin_on tg r _ h2 (fun y hy => ?_) e h
        have := hm y (List.mem_cons_of_mem _ hy)
        cases tg x.2 with
        | none => exact this
        | some v =>
          show putM m x.1 v y.1 = none
          rw [putM_ne (Nat.ne_of_gt (h1 y hy))]
          exact this
theorem Kg.nil (gs : List Nat) : Kg (kn0 gs) := ⟨rfl, fun _ _ => rfl, fun _ h => absurd h List.not_mem_nil, fun _ h => absurd h List.not_mem_nil, .nil, fun _ h => absurd h List.not_mem_nil, fun _ h => absurd h List.not_mem_nil⟩
section
variable {bef : List Nat}
/-- what the law's writer leaves of a whole file -/
theorem kn_whole {ss : List Sh} {gs : List Nat} (hg : gs.length = gpL ss) (h2 : ∀ g ∈ gs, g = 0 ∨ 2 ≤ g) : ∃ st, knR bef ss gs = st ∧ Kg st ∧ st.pl = lnL ss + gs.sum ∧ mtL st.m st.en ss gs 0 ∧ ∀ a q, (rwL ss gs 0)[a]? = some q → ∀ j, j < q.2 → st.tg (a, j) = some (q.1 + j) := by
  obtain ⟨st, R⟩ := kr_SL (bef := bef) ss (kn0 gs) [] (.nil gs) (by show gpL ss ≤ gs.length; omega) h2
  have e1 : knR bef ss gs = st := by
    unfold knR
    have := R.run
    rw [List.append_nil] at this
    rw [this, runK]
  refine ⟨st, e1, R.g, ?_, R.at_, fun a q hq j hj => ?_⟩
  · have := R.pl
    rw [this]
    show 0 + lnL ss + (gs.take (gpL ss)).sum = _
    rw [← hg, List.take_length]
    omega
  · have := R.tgs a q hq j hj
    rw [show (kn0 gs).num + a = a from Nat.zero_add a] at this
    exact this
mutual
theorem at_of_S {cs : List Nat} {m : Nat → Option Nat} {en : List (Nat × (Nat × Nat))} {st : Nat → Nat} (e1 : ∀ n v, m n = some v → cel cs n = v) : ∀ (s : Sh) (gs : List Nat) (p : Nat), (∀ t ∈ tgsL (all1 s), ∀ n, (n, t) ∈ en → cel cs n = st t.1 + t.2) → mtS m en s gs p → atS cs st s gs p
  | .dat c, gs, p, _, h => by
    rw [mtS] at h
    rw [atS]
    obtain ⟨h1, h2, h3, h4⟩ := h
    exact ⟨fun z => ⟨(h1 z).1, e1 _ _ (h1 z).2.1, e1 _ _ (h1 z).2.2⟩, e1 _ _ h2, e1 _ _ h3, fun i v hv => e1 _ _ (h4 i v hv)⟩
  | .tab c, gs, p, ht, h => by
    rw [mtS] at h
    rw [atS]
    obtain ⟨h1, h2, h3, h4⟩ := h
    refine ⟨fun z => ⟨(h1 z).1, e1 _ _ (h1 z).2.1, e1 _ _ (h1 z).2.2⟩, e1 _ _ h2, e1 _ _ h3, fun i x hx => ht x ?_ _ (h4 i x hx)⟩
    rw [all1]
    exact List.mem_flatten.mpr ⟨c, List.mem_singleton.mpr rfl, List.mem_of_getElem? hx⟩
  | .grp ks, gs, p, ht, h => by
    rw [mtS] at h
    rw [atS]
    obtain ⟨h1, h2, h3, h4⟩ := h
    exact ⟨fun z => ⟨(h1 z).1, e1 _ _ (h1 z).2.1, e1 _ _ (h1 z).2.2⟩, e1 _ _ h2, e1 _ _ h3, at_of_L e1 ks _ _ (fun t hm => ht t (by rw [all1]; exact hm)) h4⟩
theorem at_of_L {cs : List Nat} {m : Nat → Option Nat} {en : List (Nat × (Nat × Nat))} {st : Nat → Nat} (e1 : ∀ n v, m n = some v → cel cs n = v) : ∀ (ss : List Sh) (gs : List Nat) (p : Nat), (∀ t ∈ tgsL (allL ss), ∀ n, (n, t) ∈ en → cel cs n = st t.1 + t.2) → mtL m en ss gs p → atL cs st ss gs p
  | [], gs, p, _, h => by
    rw [mtL] at h
    rw [atL]
    exact fun z => ⟨(h z).1, e1 _ _ (h z).2.1, e1 _ _ (h z).2.2⟩
  | s :: r, gs, p, ht, h => by
    rw [mtL] at h
    rw [atL]
    have ap : tgsL (allL (s :: r)) = tgsL (all1 s) ++ tgsL (allL r) := by
      rw [allL]
      unfold tgsL
      rw [List.map_append, List.flatten_append]
    exact ⟨at_of_S e1 s _ _ (fun t hm => ht t (by rw [ap]; exact List.mem_append_left _ hm)) h.1, at_of_L e1 r _ _ (fun t hm => ht t (by rw [ap]; exact List.mem_append_right _ hm)) h.2⟩
end
theorem cel_fil {ss : List Sh} {gs : List Nat} {n : Nat} (h : n < (knR bef ss gs).pl) : cel (fil bef ss gs) n = (knM bef ss gs n).getD 0 := by
  unfold cel fil
  rw [List.getD_eq_getElem?_getD, List.getElem?_map, List.getElem?_range h]
  rfl
/-- a written file is read as its shape -/
theorem fil_read {ss : List Sh} {gs : List Nat} (hO : OkS ss) (hg : gs.length = gpL ss) (h2 : ∀ g ∈ gs, g = 0 ∨ 2 ≤ g) (h30 : lnL ss + gs.sum ≤ 30) :
    (fil bef ss gs).length = lnL ss + gs.sum ∧ fwr (fil bef ss gs) = none ∧ ∃ bs, prs 31 (fil bef ss gs) 0 (fil bef ss gs).length 0 = .ok bs ∧ daL false (fil bef ss gs) (rws (fil bef ss gs) (hsL bs)) bs = shL ss ∧ fre (fil bef ss gs) (hsL bs) = gs.sum ∧ ((∀ g ∈ gs, g = 0) → daL true (fil bef ss gs) (rws (fil bef ss gs) (hsL bs)) bs = shL ss) := by
  obtain ⟨st, e1, g, epl, hA, hT⟩ := kn_whole (bef := bef) hg h2
  have hlen : (fil bef ss gs).length = lnL ss + gs.sum := by
    unfold fil
    rw [List.length_map, List.length_range, e1, epl]
  have off : ∀ n v, st.m n = some v → n < st.pl ∧ knM bef ss gs n = some v := fun n v hv => by
    have hn : n < st.pl := by
      by_cases h : n < st.pl
      · exact h
      · rw [g.new n (by omega)] at hv
        cases hv
    refine ⟨hn, ?_⟩
    unfold knM
    rw [e1, fin_off _ _ _ _ fun e he z => ?_]
    · exact hv
    · rw [← z, g.enm e he] at hv
      cases hv
  have c1 : ∀ n v, st.m n = some v → cel (fil bef ss gs) n = v := fun n v hv => by
    obtain ⟨a, b⟩ := off n v hv
    rw [cel_fil (by rw [e1]; exact a), b]
    rfl
  have c2 : ∀ t ∈ tgsL (allL ss), ∀ n, (n, t) ∈ st.en → cel (fil bef ss gs) n = ((rwL ss gs 0).getD t.1 (0, 0)).1 + t.2 := fun t ht n hn => by
    obtain ⟨m, hm, hlt⟩ := hO.tg t ht
    rw [← rw_lensL ss gs 0, List.getElem?_map] at hm
    cases hr : (rwL ss gs 0)[t.1]? with
    | none =>
      rw [hr] at hm
      cases hm
    | some q =>
      rw [hr] at hm
      have e2 : q.2 = m := Option.some.inj hm
      have htg := hT t.1 q hr t.2 (by omega)
      have hpn := g.enp _ hn
      rw [cel_fil (by rw [e1]; exact hpn)]
      have := fin_on st.tg st.en st.m g.enw g.enm (n, t) hn
      unfold knM
      rw [e1, this, htg, List.getD_eq_getElem?_getD, hr]
      rfl
  have := read_of (cs := fil bef ss gs) (st := fun i => ((rwL ss gs 0).getD i (0, 0)).1) hO hg hlen h30 (at_of_L c1 ss gs 0 c2 hA) (fun i r hr => by show ((rwL ss gs 0).getD i (0, 0)).1 = r.1; rw [List.getD_eq_getElem?_getD, hr]; rfl)
  exact ⟨hlen, this⟩
end
end Bx

namespace Bx
theorem cel_bef {bef : List Nat} {p : Nat} (h : p < bef.length) : (bef.map vn)[p]? = some (vn (bef.getD p 0)) := cel_some h
section
variable {P : Program} {w : World} {K : PySem.W.Frag} {mg : Str → Option Value} {base : Heap} {C : Addr}
def spIsWhole (K : PySem.W.Frag) (C : Addr) : Sp := fun vs H Q _ => ∃ (A : LA) (bef : List Nat) (ps : List Pt) (L : Lay), vs = [.ref A.a] ∧ LyAt K C H A bef ps L ∧ Q (.bl (decide (L.done = ps.length))) H
def spSetCell (K : PySem.W.Frag) (C : Addr) : Sp := fun vs H Q _ => ∃ (A : LA) (bef : List Nat) (ps : List Pt) (L : Lay) (p c : Nat), vs = [.ref A.a, vn p, vn c] ∧ LyAt K C H A bef ps L ∧ p < L.row.length ∧
  ∀ H', SameX [A.a, A.ar] H H' → LyAt K C H' A bef ps (setC bef L p c) → Q .non H'
end
end Bx

namespace Bx
theorem oV_some (l : List Nat) : (l.map some).map oV = l.map vn := by
  rw [List.map_map]
  rfl
theorem putC_snoc (bef : List Nat) (L : Lay) (cs : List (Option Nat)) (c : Option Nat) : putC bef L (cs ++ [c]) = putO bef (putC bef L cs) c := by
  unfold putC
  rw [List.foldl_append]
  rfl
theorem getLastD_snoc {α : Type} (o : List α) (b d : α) : (o ++ [b]).getLastD d = b := by simp
theorem last_get {l : List Nat} (h : l ≠ []) : (l.map vn)[(l.map vn).length - 1]? = some (vn (l.getLastD 0)) := by
  obtain ⟨o, b, rfl⟩ : ∃ o b, l = o ++ [b] := ⟨l.dropLast, l.getLast h, (List.dropLast_concat_getLast h).symm⟩
  rw [getLastD_snoc, List.length_map, List.length_append, List.length_singleton, Nat.add_sub_cancel, List.map_append, List.getElem?_append_right (by rw [List.length_map]; exact Nat.le_refl _), List.length_map, Nat.sub_self]
  rfl
theorem last_mem {l : List Nat} (h : l ≠ []) : l.getLastD 0 ∈ l := by
  obtain ⟨o, b, rfl⟩ : ∃ o b, l = o ++ [b] := ⟨l.dropLast, l.getLast h, (List.dropLast_concat_getLast h).symm⟩
  rw [getLastD_snoc]
  exact List.mem_append_right _ (List.mem_singleton.mpr rfl)
theorem kept_eq (bef : List Nat) (b n : Nat) : kept bef b n = (bef.drop b).take n ++ List.replicate (n - ((bef.drop b).take n).length) 0 := by
  refine List.ext_getElem? fun i => ?_
  unfold kept
  rw [List.getElem?_map]
  have hl : ((bef.drop b).take n).length = min n (bef.length - b) := by rw [List.length_take, List.length_drop]
  by_cases hi : i < n
  · rw [List.getElem?_range hi, Option.map_some]
    by_cases hj : b + i < bef.length
    · rw [List.getElem?_append_left (by omega), List.getElem?_take_of_lt hi, List.getElem?_drop, List.getD_eq_getElem?_getD, List.getElem?_eq_getElem hj]
      rfl
    · rw [List.getElem?_append_right (by omega), List.getElem?_replicate, if_pos (by omega), List.getD_eq_getElem?_getD, List.getElem?_eq_none (by omega)]
      rfl
  · rw [List.getElem?_eq_none (by rw [List.length_range]; omega), List.getElem?_eq_none (by rw [List.length_append, List.length_replicate]; omega)]
    rfl
theorem cut_kept (bef : List Nat) (b n : Nat) : cutV (bef.map vn) (some (b : Int)) (some ((b + n : Nat) : Int)) = ((bef.drop b).take n).map vn := by
  unfold cutV
  rw [HT.sIx_nat, HT.sIx_nat, List.length_map, List.map_take, List.map_drop]
  by_cases h : b ≤ bef.length
  · rw [Nat.min_eq_left h]
    by_cases h2 : b + n ≤ bef.length
    · rw [Nat.min_eq_left h2, Nat.add_sub_cancel_left]
    · rw [Nat.min_eq_right (by omega), List.take_of_length_le (by rw [List.length_drop, List.length_map]; exact Nat.le_refl _), List.take_of_length_le (by rw [List.length_drop, List.length_map]; omega)]
  · rw [Nat.min_eq_right (by omega), Nat.min_eq_right (by omega), Nat.sub_self, show (bef.map vn).drop b = [] from List.drop_eq_nil_of_le (by rw [List.length_map]; omega)]
    simp
theorem stl_snoc (bef sts : List Nat) : ∀ (es : List (Nat × (Nat × Nat))) (e : Nat × (Nat × Nat)) (L : Lay), stl bef sts (es ++ [e]) L = if e.2.1 < sts.length then setC bef (stl bef sts es L) e.1 (sts.getD e.2.1 0 + e.2.2) else stl bef sts es L
  | [], e, L => rfl
  | x :: r, e, L => by
    rw [List.cons_append, stl, stl, stl_snoc bef sts r e]
theorem wts_snoc (n : Nat) (l : List (Nat × (Nat × Nat))) (e : Nat × (Nat × Nat)) : wts n (l ++ [e]) = wts n l ++ (if e.2.1 < n then [] else [e]) := by
  unfold wts
  rw [List.filter_append]
  by_cases h : e.2.1 < n
  · rw [if_pos h]
    simp [h]
  · rw [if_neg h]
    simp [h]
theorem wts_len (n : Nat) (l : List (Nat × (Nat × Nat))) : (wts n l).length ≤ l.length := List.length_filter_le _ _
section
variable {P : Program} {w : World} {K : PySem.W.Frag} {mg : Str → Option Value} {base : Heap} {C : Addr}
def spPutCells (K : PySem.W.Frag) (C : Addr) : Sp := fun vs H Q _ => ∃ (A : LA) (bef : List Nat) (ps : List Pt) (L : Lay) (q : Addr) (cs : List (Option Nat)), vs = [.ref A.a, .ref q] ∧ LyAt K C H A bef ps L ∧ H q = some (.lst (cs.map oV)) ∧ q ≠ A.ar ∧ L.row.length + cs.length ≤ 900 ∧
  ∀ H', SameX [A.a, A.ar] H H' → LyAt K C H' A bef ps (putC bef L cs) → Q .non H'
def spPutFree (K : PySem.W.Frag) (C : Addr) : Sp := fun vs H Q _ => ∃ (A : LA) (bef : List Nat) (ps : List Pt) (L : Lay) (g : Nat), vs = [.ref A.a, vn g] ∧ LyAt K C H A bef ps L ∧ 2 ≤ g ∧ bef.length ≤ 900 ∧ L.row.length + g ≤ 900 ∧
  ∀ H', SameX [A.a, A.ar] H H' → LyAt K C H' A bef ps (putFr bef L g) → Q .non H'
def spCloseGroup (K : PySem.W.Frag) (C : Addr) : Sp := fun vs H Q _ => ∃ (A : LA) (bef : List Nat) (ps : List Pt) (L : Lay), vs = [.ref A.a] ∧ LyAt K C H A bef ps L ∧ L.opened ≠ [] ∧ L.opened.getLastD 0 + 1 < L.row.length ∧
  ∀ H', SameX [A.a, A.ar, A.op] H H' → LyAt K C H' A bef ps (closeG bef L) → Q .non H'
def spSettle (K : PySem.W.Frag) (C : Addr) : Sp := fun vs H Q _ => ∃ (A : LA) (bef : List Nat) (ps : List Pt) (L : Lay), vs = [.ref A.a] ∧ LyAt K C H A bef ps L ∧ L.waiting.length ≤ 900 ∧ (∀ e ∈ L.waiting, e.1 < L.row.length) ∧
  ∀ w' H', H w' = none → SameX [A.a, A.ar] H H' → LyAt K C H' { A with wt := w' } bef ps (settle bef L) → Q .non H'
end
end Bx

namespace Bx
theorem TpAll.vns {K : PySem.W.Frag} {H : Hp} : ∀ {ys : List V} {c : List Nat}, TpAll K H ys (c.map pn) → ys = c.map vn
  | [], [], _ => rfl
  | [], _ :: _, h => nomatch h
  | _ :: _, [], h => nomatch h
  | y :: r, c :: q, h => by
    cases h with
    | cons a b =>
      cases a
      rw [TpAll.vns b]
      rfl
def pcs : Pt → Nat
  | .gap => 0
  | .opn => 2
  | .cls => 0
  | .dat c => 2 + c.length
  | .tab t => 2 + t.length
def pcl : List Pt → Nat
  | [] => 0
  | p :: r => pcs p + pcl r
def isBx : Pt → Bool
  | .gap => false
  | .cls => false
  | .opn => true
  | .dat _ => true
  | .tab _ => true
def muts (A : LA) : List Addr := [A.a, A.ar, A.bg, A.st, A.op, A.wt]
section
variable {K : PySem.W.Frag} {C : Addr} {H H' : Hp} {A : LA} {bef : List Nat} {ps : List Pt} {L : Lay}
theorem LyAt.tk (x : LyAt K C H A bef ps L) (e : SameX (muts A) H H') : TK K H H' := e.tk fun z hz xs hxs => by
  obtain ⟨ws, w1, _⟩ := x.wt
  simp only [muts, List.mem_cons, List.not_mem_nil, or_false] at hz
  rcases hz with rfl | rfl | rfl | rfl | rfl | rfl
  · rw [x.ins] at hxs; cases hxs
  · rw [x.rw] at hxs; cases hxs
  · rw [x.bg] at hxs; cases hxs
  · rw [x.st] at hxs; cases hxs
  · rw [x.op] at hxs; cases hxs
  · rw [w1] at hxs; cases hxs
theorem map_snoc_vn (l : List Nat) (n : Nat) : l.map vn ++ [V.int (n : Int)] = (l ++ [n]).map vn := by
  rw [List.map_append]
  rfl
theorem len_oV (l : List (Option Nat)) : ((l.map oV).length : Int) = (l.length : Int) := by rw [List.length_map]
end
section
variable {P : Program} {w : World} {K : PySem.W.Frag} {mg : Str → Option Value} {base : Heap} {C : Addr}
def spPutBox (K : PySem.W.Frag) (C : Addr) : Sp := fun vs H Q _ => ∃ (A : LA) (bef : List Nat) (ps : List Pt) (L : Lay) (p : Pt) (y : Addr) (ys : List V), vs = [.ref A.a, .str (ptk p), .ref y] ∧ LyAt K C H A bef ps L ∧ H y = some (.tup ys) ∧ TpAll K H ys (ptc p) ∧ isBx p = true ∧ L.row.length + pcs p ≤ 900 ∧
  L.begins.length ≤ 900 ∧ L.starts.length ≤ 900 ∧ L.opened.length ≤ 900 ∧ L.waiting.length ≤ L.row.length ∧ ∀ H', SameX (muts A) H H' → LyAt K C H' A bef ps (boxP bef L p) → Q .non H'
end
end Bx

namespace Bx
def okP : List Pt → Nat → Prop
  | [], _ => True
  | .gap :: r, d => okP r d
  | .opn :: r, d => okP r (d + 1)
  | .cls :: r, d => 0 < d ∧ okP r (d - 1)
  | .dat _ :: r, d => okP r d
  | .tab _ :: r, d => okP r d
structure LOk (ps : List Pt) (L : Lay) : Prop where
  dn : L.done ≤ ps.length
  op : okP (ps.drop L.done) L.opened.length
  ob : ∀ o ∈ L.opened, o + 1 < L.row.length
  wb : ∀ e ∈ L.waiting, e.1 < L.row.length
  sz : L.row.length + pcl (ps.drop L.done) ≤ 900
  bl : L.begins.length ≤ L.done
  sl : L.starts.length ≤ L.done
  ol : L.opened.length ≤ L.done
  wl : L.waiting.length ≤ L.row.length
  gl : L.gaps.length ≤ L.done
  pl : ps.length ≤ 900
theorem drop_at {α : Type} {l : List α} {i : Nat} {x : α} (h : l[i]? = some x) : l.drop i = x :: l.drop (i + 1) := by
  have hi := mul_list h
  rw [List.drop_eq_getElem_cons hi]
  rw [List.getElem?_eq_getElem hi] at h
  rw [Option.some.inj h]
section
variable {bef : List Nat} {ps : List Pt} {L : Lay} {p : Pt}
theorem LOk.last (h : LOk ps L) (hp : ps[L.done]? = some .cls) : L.opened ≠ [] ∧ L.opened.getLastD 0 + 1 < L.row.length := by
  have h1 := h.op
  rw [drop_at hp, okP] at h1
  have hne : L.opened ≠ [] := fun z => by rw [z] at h1; exact absurd h1.1 (Nat.lt_irrefl _)
  exact ⟨hne, h.ob _ (last_mem hne)⟩
theorem LOk.pc (h : LOk ps L) (hp : ps[L.done]? = some p) : L.row.length + pcs p + pcl (ps.drop (L.done + 1)) ≤ 900 := by
  have := h.sz
  rw [drop_at hp, pcl] at this
  omega
theorem LOk.step (h : LOk ps L) (hp : ps[L.done]? = some p) (hg : isGap p = false) : LOk ps (stepP bef L p) := by
  have hi := mul_list hp
  have h1 := h.op
  have h2 := h.pc hp
  rw [drop_at hp] at h1
  cases p with
  | gap => cases hg
  | opn =>
    have er : (boxP bef L .opn).row.length = L.row.length + 2 := by
      show (putC bef _ [some 1, none]).row.length = _
      rw [putC_row, List.length_append]
      rfl
    obtain ⟨o1, o2, o3, o4, o5, o6⟩ := putC_oth (bef := bef) [some 1, none] { L with begins := L.begins ++ [L.row.length], opened := L.opened ++ [L.row.length] }
    rw [okP] at h1
    refine ⟨hi, ?_, fun o ho => ?_, fun e he => ?_, ?_, ?_, ?_, ?_, ?_, ?_, h.pl⟩
    · show okP _ (boxP bef L .opn).opened.length
      rw [show (boxP bef L .opn).opened = L.opened ++ [L.row.length] from o5, List.length_append]
      exact h1
    · show o + 1 < (boxP bef L .opn).row.length
      rw [er]
      have ho' : o ∈ L.opened ++ [L.row.length] := by rw [← show (boxP bef L .opn).opened = L.opened ++ [L.row.length] from o5]; exact ho
      rcases List.mem_append.mp ho' with z | z
      · have := h.ob o z
        omega
      · obtain rfl := List.mem_singleton.mp z
        omega
    · show e.1 < (boxP bef L .opn).row.length
      rw [er]
      have := h.wb e (by rw [← show (boxP bef L .opn).waiting = L.waiting from o6]; exact he)
      omega
    · show (boxP bef L .opn).row.length + pcl (ps.drop (L.done + 1)) ≤ 900
      rw [er]
      exact h2
    · show (boxP bef L .opn).begins.length ≤ L.done + 1
      rw [show (boxP bef L .opn).begins = L.begins ++ [L.row.length] from o3, List.length_append]
      exact Nat.succ_le_succ h.bl
    · show (boxP bef L .opn).starts.length ≤ L.done + 1
      rw [show (boxP bef L .opn).starts = L.starts from o4]
      exact Nat.le_succ_of_le h.sl
    · show (boxP bef L .opn).opened.length ≤ L.done + 1
      rw [show (boxP bef L .opn).opened = L.opened ++ [L.row.length] from o5, List.length_append]
      exact Nat.succ_le_succ h.ol
    · show (boxP bef L .opn).waiting.length ≤ (boxP bef L .opn).row.length
      rw [er, show (boxP bef L .opn).waiting = L.waiting from o6]
      have := h.wl
      omega
    · show (boxP bef L .opn).gaps.length ≤ L.done + 1
      rw [show (boxP bef L .opn).gaps = L.gaps from o2]
      exact Nat.le_succ_of_le h.gl
  | dat c =>
    have er : (boxP bef L (.dat c)).row.length = L.row.length + (2 + c.length) := by
      show (putC bef _ (some 2 :: some (2 + c.length) :: c.map some)).row.length = _
      rw [putC_row, List.length_append, List.length_cons, List.length_cons, List.length_map]
      show L.row.length + _ = _
      omega
    obtain ⟨o1, o2, o3, o4, o5, o6⟩ := putC_oth (bef := bef) (some 2 :: some (2 + c.length) :: c.map some) { L with begins := L.begins ++ [L.row.length], starts := L.starts ++ [L.row.length + 2] }
    rw [okP] at h1
    refine ⟨hi, ?_, fun o ho => ?_, fun e he => ?_, ?_, ?_, ?_, ?_, ?_, ?_, h.pl⟩
    · show okP _ (boxP bef L (.dat c)).opened.length
      rw [show (boxP bef L (.dat c)).opened = L.opened from o5]
      exact h1
    · show o + 1 < (boxP bef L (.dat c)).row.length
      rw [er]
      have := h.ob o (by rw [← show (boxP bef L (.dat c)).opened = L.opened from o5]; exact ho)
      omega
    · show e.1 < (boxP bef L (.dat c)).row.length
      rw [er]
      have := h.wb e (by rw [← show (boxP bef L (.dat c)).waiting = L.waiting from o6]; exact he)
      omega
    · show (boxP bef L (.dat c)).row.length + pcl (ps.drop (L.done + 1)) ≤ 900
      rw [er]
      exact h2
    · show (boxP bef L (.dat c)).begins.length ≤ L.done + 1
      rw [show (boxP bef L (.dat c)).begins = L.begins ++ [L.row.length] from o3, List.length_append]
      exact Nat.succ_le_succ h.bl
    · show (boxP bef L (.dat c)).starts.length ≤ L.done + 1
      rw [show (boxP bef L (.dat c)).starts = L.starts ++ [L.row.length + 2] from o4, List.length_append]
      exact Nat.succ_le_succ h.sl
    · show (boxP bef L (.dat c)).opened.length ≤ L.done + 1
      rw [show (boxP bef L (.dat c)).opened = L.opened from o5]
      exact Nat.le_succ_of_le h.ol
    · show (boxP bef L (.dat c)).waiting.length ≤ (boxP bef L (.dat c)).row.length
      rw [er, show (boxP bef L (.dat c)).waiting = L.waiting from o6]
      have := h.wl
      omega
    · show (boxP bef L (.dat c)).gaps.length ≤ L.done + 1
      rw [show (boxP bef L (.dat c)).gaps = L.gaps from o2]
      exact Nat.le_succ_of_le h.gl
  | tab t =>
    have er : (boxP bef L (.tab t)).row.length = L.row.length + (2 + t.length) := by
      show (putC bef _ (some 4 :: some (2 + t.length) :: List.replicate t.length none)).row.length = _
      rw [putC_row, List.length_append, List.length_cons, List.length_cons, List.length_replicate]
      show L.row.length + _ = _
      omega
    obtain ⟨o1, o2, o3, o4, o5, o6⟩ := putC_oth (bef := bef) (some 4 :: some (2 + t.length) :: List.replicate t.length none) { L with begins := L.begins ++ [L.row.length] }
    rw [okP] at h1
    refine ⟨hi, ?_, fun o ho => ?_, fun e he => ?_, ?_, ?_, ?_, ?_, ?_, ?_, h.pl⟩
    · show okP _ (boxP bef L (.tab t)).opened.length
      rw [show (boxP bef L (.tab t)).opened = L.opened from o5]
      exact h1
    · show o + 1 < (boxP bef L (.tab t)).row.length
      rw [er]
      have := h.ob o (by rw [← show (boxP bef L (.tab t)).opened = L.opened from o5]; exact ho)
      omega
    · show e.1 < (boxP bef L (.tab t)).row.length
      rw [er]
      rcases List.mem_append.mp (show e ∈ L.waiting ++ ents (L.row.length + 2) t from he) with z | z
      · have := h.wb e z
        omega
      · have := ents_mem _ _ e z
        omega
    · show (boxP bef L (.tab t)).row.length + pcl (ps.drop (L.done + 1)) ≤ 900
      rw [er]
      exact h2
    · show (boxP bef L (.tab t)).begins.length ≤ L.done + 1
      rw [show (boxP bef L (.tab t)).begins = L.begins ++ [L.row.length] from o3, List.length_append]
      exact Nat.succ_le_succ h.bl
    · show (boxP bef L (.tab t)).starts.length ≤ L.done + 1
      rw [show (boxP bef L (.tab t)).starts = L.starts from o4]
      exact Nat.le_succ_of_le h.sl
    · show (boxP bef L (.tab t)).opened.length ≤ L.done + 1
      rw [show (boxP bef L (.tab t)).opened = L.opened from o5]
      exact Nat.le_succ_of_le h.ol
    · show (L.waiting ++ ents (L.row.length + 2) t).length ≤ (boxP bef L (.tab t)).row.length
      rw [er, List.length_append, ents_len]
      have := h.wl
      omega
    · show (boxP bef L (.tab t)).gaps.length ≤ L.done + 1
      rw [show (boxP bef L (.tab t)).gaps = L.gaps from o2]
      exact Nat.le_succ_of_le h.gl
  | cls =>
    obtain ⟨l1, l2⟩ := h.last hp
    have er : (boxP bef L .cls).row.length = L.row.length := List.length_set
    rw [okP] at h1
    refine ⟨hi, ?_, fun o ho => ?_, fun e he => ?_, ?_, ?_, ?_, ?_, ?_, ?_, h.pl⟩
    · show okP _ L.opened.dropLast.length
      rw [List.length_dropLast]
      exact h1.2
    · show o + 1 < (boxP bef L .cls).row.length
      rw [er]
      exact h.ob o (List.dropLast_subset _ ho)
    · show e.1 < (boxP bef L .cls).row.length
      rw [er]
      exact h.wb e he
    · show (boxP bef L .cls).row.length + pcl (ps.drop (L.done + 1)) ≤ 900
      rw [er]
      exact h2
    · exact Nat.le_succ_of_le h.bl
    · exact Nat.le_succ_of_le h.sl
    · show L.opened.dropLast.length ≤ L.done + 1
      rw [List.length_dropLast]
      have := h.ol
      omega
    · show L.waiting.length ≤ (boxP bef L .cls).row.length
      rw [er]
      exact h.wl
    · exact Nat.le_succ_of_le h.gl
theorem LOk.settle (h : LOk ps L) : LOk ps (settle bef L) := by
  obtain ⟨o1, o2, o3, o4, o5, o6⟩ := stl_oth (bef := bef) L.starts L.waiting L
  have er : (Bx.settle bef L).row.length = L.row.length := stl_row_len _ _ _
  have ew : (Bx.settle bef L).waiting = wts L.starts.length L.waiting := rfl
  refine ⟨?_, ?_, ?_, ?_, ?_, ?_, ?_, ?_, ?_, ?_, h.pl⟩
  · rw [show (Bx.settle bef L).done = L.done from o1]; exact h.dn
  · rw [show (Bx.settle bef L).done = L.done from o1, show (Bx.settle bef L).opened = L.opened from o5]; exact h.op
  · rw [show (Bx.settle bef L).opened = L.opened from o5, er]; exact h.ob
  · rw [ew, er]
    exact fun e he => h.wb e (List.mem_filter.mp he).1
  · rw [show (Bx.settle bef L).done = L.done from o1, er]; exact h.sz
  · rw [show (Bx.settle bef L).done = L.done from o1, show (Bx.settle bef L).begins = L.begins from o3]; exact h.bl
  · rw [show (Bx.settle bef L).done = L.done from o1, show (Bx.settle bef L).starts = L.starts from o4]; exact h.sl
  · rw [show (Bx.settle bef L).done = L.done from o1, show (Bx.settle bef L).opened = L.opened from o5]; exact h.ol
  · rw [ew, er]
    exact Nat.le_trans (wts_len _ _) h.wl
  · rw [show (Bx.settle bef L).done = L.done from o1, show (Bx.settle bef L).gaps = L.gaps from o2]; exact h.gl
theorem adv_step (hp : ps[L.done]? = some p) (hg : isGap p = false) : adv bef (ps.drop L.done) L = adv bef (ps.drop (stepP bef L p).done) (stepP bef L p) := by
  rw [drop_at hp, adv, if_neg (by rw [hg]; exact Bool.false_ne_true)]
  rfl
theorem adv_gap (hp : ps[L.done]? = some p) (hg : isGap p = true) : adv bef (ps.drop L.done) L = L := by
  rw [drop_at hp, adv, if_pos hg]
theorem adv_end (h : L.done = ps.length) : adv bef (ps.drop L.done) L = L := by
  rw [h, List.drop_length]
  rfl
theorem LOk.adv : ∀ (n : Nat) (L : Lay), ps.length - L.done = n → LOk ps L → LOk ps (adv bef (ps.drop L.done) L) ∧ ((Bx.adv bef (ps.drop L.done) L).done = ps.length ∨ ps[(Bx.adv bef (ps.drop L.done) L).done]? = some .gap)
  | n, L, hn, h => by
    by_cases hd : L.done < ps.length
    · cases hp : ps[L.done]? with
      | none => exact absurd hp (by rw [List.getElem?_eq_getElem hd]; exact fun z => nomatch z)
      | some p =>
        cases hg : isGap p with
        | true =>
          rw [adv_gap hp hg]
          refine ⟨h, .inr ?_⟩
          rw [hp]
          cases p <;> first | rfl | cases hg
        | false =>
          rw [adv_step hp hg]
          cases n with
          | zero => omega
          | succ n => exact LOk.adv n (stepP bef L p) (by show ps.length - (L.done + 1) = n; omega) (h.step hp hg)
    · have := h.dn
      have e : L.done = ps.length := by omega
      rw [adv_end e]
      exact ⟨h, .inl e⟩
theorem isGap_str (p : Pt) : (V.str (ptk p) = V.str "gap") ↔ isGap p = true := by
  cases p with
  | gap => exact ⟨fun _ => rfl, fun _ => rfl⟩
  | opn => exact ⟨fun h => absurd h (sne "group" "gap"), fun h => by cases h⟩
  | cls => exact ⟨fun h => absurd h (sne "end" "gap"), fun h => by cases h⟩
  | dat c => exact ⟨fun h => absurd h (sne "data" "gap"), fun h => by cases h⟩
  | tab c => exact ⟨fun h => absurd h (sne "table" "gap"), fun h => by cases h⟩
end
theorem SameX.free {S : List Addr} {H H' : Hp} {a : Addr} (e : SameX S H H') (h : H' a = none) (n : ∀ z ∈ S, H' z ≠ none) : H a = none := by
  cases z : H a with
  | none => rfl
  | some o =>
    by_cases hm : a ∈ S
    · exact absurd h (n a hm)
    · rw [e a o hm z] at h
      cases h
section
variable {K : PySem.W.Frag} {C : Addr} {H H' : Hp} {A : LA} {bef : List Nat} {ps : List Pt} {L : Lay}
theorem LyAt.there (x : LyAt K C H A bef ps L) : ∀ z ∈ muts A, H z ≠ none := fun z hz => by
  obtain ⟨ws, w1, _⟩ := x.wt
  simp only [muts, List.mem_cons, List.not_mem_nil, or_false] at hz
  rcases hz with rfl | rfl | rfl | rfl | rfl | rfl
  · rw [x.ins]; exact fun z => nomatch z
  · rw [x.rw]; exact fun z => nomatch z
  · rw [x.bg]; exact fun z => nomatch z
  · rw [x.st]; exact fun z => nomatch z
  · rw [x.op]; exact fun z => nomatch z
  · rw [w1]; exact fun z => nomatch z
/-- the part at a place -/
theorem LyAt.part (x : LyAt K C H A bef ps L) : ∃ xs : List V, H A.ap = some (.lst xs) ∧ xs.length = ps.length ∧ ∀ (i : Nat) (p : Pt), ps[i]? = some p → ∃ (t y : Addr) (ys : List V), xs[i]? = some (V.ref t) ∧ SqT K H t [V.str (ptk p), V.ref y] ∧ H y = some (.tup ys) ∧ TpAll K H ys (ptc p) := by
  obtain ⟨xs, h1, h2⟩ := x.pt
  have hl : xs.length = ps.length := by rw [h2.length, List.length_map]
  refine ⟨xs, h1, hl, fun i p hp => ?_⟩
  have hi := mul_list hp
  have hx : xs[i]? = some xs[i] := List.getElem?_eq_getElem (by omega)
  obtain ⟨dd, e1, e2⟩ := h2.get hx
  rw [List.getElem?_map, hp] at e1
  have e3 := (Option.some.inj e1).symm
  subst e3
  obtain ⟨t, y, e4, g1, g2⟩ := Tp.pair_inv (show Tp K H xs[i] (.tuple [.str (ptk p), .tuple (ptc p)]) from e2)
  obtain ⟨u, ys, rfl, g3, g4⟩ := Tp.tup_get g2
  exact ⟨t, u, ys, by rw [hx, e4], g1, g3, g4⟩
end
section
variable {P : Program} {w : World} {K : PySem.W.Frag} {mg : Str → Option Value} {base : Heap} {C : Addr}
def spGoOn (K : PySem.W.Frag) (C : Addr) : Sp := fun vs H Q _ => ∃ (A : LA) (bef : List Nat) (ps : List Pt) (L : Lay), vs = [.ref A.a] ∧ LyAt K C H A bef ps L ∧ LOk ps L ∧
  ∀ w' H', H w' = none → SameX (muts A) H H' → LyAt K C H' { A with wt := w' } bef ps (goOn bef ps L) → Q .non H'
end
end Bx

namespace Bx
theorem st_new {H : Hp} {a p q : Addr} {o u v : HO} (hq : H q = some o) (nq : q ≠ a) (hp : H p = none) : (upd (upd H p u) a v) q = some o := by
  rw [upd_ne nq, upd_ne (ne_of_none hq hp)]
  exact hq
theorem st_old {H : Hp} {a q : Addr} {o v : HO} (hq : H q = some o) (nq : q ≠ a) : (upd H a v) q = some o := by
  rw [upd_ne nq]
  exact hq
theorem st_pn {H : Hp} {a p : Addr} {u v : HO} (np : p ≠ a) : (upd (upd H p u) a v) p = some u := by
  rw [upd_ne np]
  exact upd_same
/-- what was new here was new before -/
theorem none_x {S : List Addr} {H H' : Hp} {p : Addr} (e : SameX S H H') (h : H' p = none) (n : p ∉ S) : H p = none := by
  cases z : H p with
  | none => rfl
  | some o =>
    rw [e p o n z] at h
    cases h
def newA (H : Hp) (A : LA) : Prop := ∀ z ∈ muts A, H z = none
theorem newA.mk {H : Hp} {A : LA} (h1 : H A.a = none) (h2 : H A.ar = none) (h3 : H A.bg = none) (h4 : H A.st = none) (h5 : H A.op = none) (h6 : H A.wt = none) : newA H A := fun z hz => by
  simp only [muts, List.mem_cons, List.not_mem_nil, or_false] at hz
  rcases hz with rfl | rfl | rfl | rfl | rfl | rfl
  · exact h1
  · exact h2
  · exact h3
  · exact h4
  · exact h5
  · exact h6
/-- a walk that changes only what is new -/
theorem SameX.new {S : List Addr} {H H1 H2 : Hp} (s : Same H H1) (e : SameX S H1 H2) (n : ∀ z ∈ S, H z = none) : Same H H2 := fun b o h => e b o (fun z => by rw [n b z] at h; cases h) (s b o h)
theorem ini_put {K : PySem.W.Frag} {C a dx : Addr} {fs fs' : List (Str × V)} {H : Hp} {D : Ends} {σ : L2.St} {f : Str} {y : V} (Y : LyT K C) (h : H a = some (.ins C dx fs)) (n : NoAttr K C f) (hz : fs.length < 1000) (hp : putF f y fs = fs') (q : D.nx σ (upd H a (.ins C dx fs'))) :
    ∃ a' C dx fs, V.ref a = .ref a' ∧ H a' = some (.ins C dx fs) ∧ Cls K C ∧ NoAttr K C f ∧ fs.length < 1000 ∧ D.nx σ (upd H a' (.ins C dx (putF f y fs))) :=
  ⟨_, _, _, _, rfl, h, Y.cl, n, hz, by rw [hp]; exact q⟩
section
variable {P : Program} {w : World} {K : PySem.W.Frag} {mg : Str → Option Value} {base : Heap} {C : Addr}
def spLyInit (K : PySem.W.Frag) (C : Addr) : Sp := fun vs H Q _ => ∃ (a dx ab ap : Addr) (bef : List Nat) (ps : List Pt), vs = [.ref a, .ref ab, .ref ap] ∧ H a = some (.ins C dx []) ∧ SqT K H ab (bef.map vn) ∧ (∃ xs, H ap = some (.lst xs) ∧ TpAll K H xs (ps.map ptd)) ∧
  ∀ (A : LA) (H' : Hp), A.a = a → A.dx = dx → A.ab = ab → A.ap = ap → SameX [a] H H' → H A.ar = none → H A.bg = none → H A.st = none → H A.op = none → H A.wt = none → LyAt K C H' A bef ps lay0 → Q .non H'
end
end Bx

namespace Bx
section
variable {K : PySem.W.Frag} {C : Addr} {H H' : Hp} {A : LA} {bef : List Nat} {ps : List Pt} {L : Lay}
theorem LOk.gapL (h : LOk ps L) {g : Nat} (hp : ps[L.done]? = some .gap) (hg : g = 0 ∨ 2 ≤ g) (hz : L.row.length + g + pcl (ps.drop L.done) ≤ 900) : LOk ps (gapL bef L g) := by
  have hi := mul_list hp
  have h1 := h.op
  rw [drop_at hp, okP] at h1
  rw [drop_at hp, pcl] at hz
  have hz' : L.row.length + g + pcl (ps.drop (L.done + 1)) ≤ 900 := by
    have : pcs Pt.gap = 0 := rfl
    omega
  unfold Bx.gapL
  by_cases h0 : 0 < g
  · rw [if_pos h0]
    obtain ⟨o1, o2, o3, o4, o5, o6⟩ := putC_oth (bef := bef) ((kept bef (L.row.length + 2) (g - 2)).map some) (putC bef { L with gaps := L.gaps ++ [g], done := L.done + 1 } [some 3, some g])
    obtain ⟨q1, q2, q3, q4, q5, q6⟩ := putC_oth (bef := bef) [some 3, some g] { L with gaps := L.gaps ++ [g], done := L.done + 1 }
    obtain ⟨M, hM⟩ : ∃ M, M = putFr bef { L with gaps := L.gaps ++ [g], done := L.done + 1 } g := ⟨_, rfl⟩
    have m1 : M.done = L.done + 1 := by rw [hM]; exact o1.trans q1
    have m2 : M.gaps = L.gaps ++ [g] := by rw [hM]; exact o2.trans q2
    have m3 : M.begins = L.begins := by rw [hM]; exact o3.trans q3
    have m4 : M.starts = L.starts := by rw [hM]; exact o4.trans q4
    have m5 : M.opened = L.opened := by rw [hM]; exact o5.trans q5
    have m6 : M.waiting = L.waiting := by rw [hM]; exact o6.trans q6
    have m7 : M.row.length = L.row.length + g := by
      rw [hM]
      show (putC bef (putC bef { L with gaps := L.gaps ++ [g], done := L.done + 1 } [some 3, some g]) ((kept bef (L.row.length + 2) (g - 2)).map some)).row.length = _
      rw [putC_row, putC_row, List.length_append, List.length_append, List.length_map, kept_len]
      show L.row.length + 2 + (g - 2) = _
      omega
    rw [← hM]
    refine ⟨by rw [m1]; exact hi, by rw [m1, m5]; exact h1, ?_, ?_, by rw [m1, m7]; exact hz', ?_, ?_, ?_, ?_, ?_, h.pl⟩
    · rw [m5, m7]
      intro o ho
      have := h.ob o ho
      omega
    · rw [m6, m7]
      intro e he
      have := h.wb e he
      omega
    · rw [m3, m1]; exact Nat.le_succ_of_le h.bl
    · rw [m4, m1]; exact Nat.le_succ_of_le h.sl
    · rw [m5, m1]; exact Nat.le_succ_of_le h.ol
    · rw [m6, m7]
      have := h.wl
      omega
    · rw [m2, m1, List.length_append]; exact Nat.succ_le_succ h.gl
  · rw [if_neg h0]
    refine ⟨hi, h1, h.ob, h.wb, ?_, Nat.le_succ_of_le h.bl, Nat.le_succ_of_le h.sl, Nat.le_succ_of_le h.ol, h.wl, ?_, h.pl⟩
    · show L.row.length + pcl (ps.drop (L.done + 1)) ≤ 900
      omega
    · show (L.gaps ++ [g]).length ≤ L.done + 1
      rw [List.length_append]
      exact Nat.succ_le_succ h.gl
theorem LOk.goOn (h : LOk ps L) : LOk ps (goOn bef ps L) := ((LOk.adv _ L rfl h).1).settle
theorem LOk.with (h : LOk ps L) {g : Nat} (hp : ps[L.done]? = some .gap) (hg : g = 0 ∨ 2 ≤ g) (hz : L.row.length + g + pcl (ps.drop L.done) ≤ 900) : LOk ps (withGap bef ps L g) := (h.gapL hp hg hz).goOn
/-- self.gaps = e -/
theorem LyAt.setGaps (x : LyAt K C H A bef ps L) (Y : LyT K C) {p : Addr} {gs : List Nat} (hp : H p = some (.tup (gs.map vn))) : LyAt K C (upd H A.a (.ins C A.dx (lfs { A with ag := p } (L.done : Int) (L.cost : Int)))) { A with ag := p } bef ps { L with gaps := gs } := by
  refine ⟨upd_same, sqt_upd (.inr (.inr ⟨_, _, _, x.ins⟩)) x.bf, ?_, (upd_ne (ne_of hp x.ins (fun z => nomatch z))).trans hp, (upd_ne (x.nal x.rw).symm).trans x.rw, (upd_ne (x.nal x.bg).symm).trans x.bg, (upd_ne (x.nal x.st).symm).trans x.st, (upd_ne (x.nal x.op).symm).trans x.op, ?_, ⟨x.ne.pr, x.ne.pb, x.ne.ps, x.ne.po, x.ne.pw, x.ne.rb, x.ne.rs, x.ne.ro, x.ne.rw, x.ne.bs, x.ne.bo, x.ne.bw, x.ne.so, x.ne.sw, x.ne.ow⟩⟩
  · obtain ⟨xs, h1, h2⟩ := x.pt
    exact ⟨xs, (upd_ne (x.nal h1).symm).trans h1, TpAll.mono (tk_ins x.ins) _ _ h2⟩
  · obtain ⟨xs, h1, h2⟩ := x.wt
    exact ⟨xs, (upd_ne (x.nal h1).symm).trans h1, TpAll.mono (tk_ins x.ins) _ _ h2⟩
/-- a raw store -/
theorem ls_put {dn c : Int} {D : Ends} {σ : L2.St} {i : Nat} {f : Str} {y : V} {A' : LA} {dn' c' : Int} (Y : LyT K C) (e : σ[i]? = some (some (.ref A.a))) (h : H A.a = some (.ins C A.dx (lfs A dn c))) (n : NoAttr K C f) (hp : putF f y (lfs A dn c) = lfs A' dn' c') (q : D.nx σ (upd H A.a (.ins C A.dx (lfs A' dn' c')))) :
    tVar i σ H fun x H2 => ∃ a C dx fs, x = .ref a ∧ H2 a = some (.ins C dx fs) ∧ Cls K C ∧ NoAttr K C f ∧ fs.length < 1000 ∧ D.nx σ (upd H2 a (.ins C dx (putF f y fs))) :=
  ⟨_, e, _, _, _, _, rfl, h, Y.cl, n, (by show 10 < 1000; decide), by rw [hp]; exact q⟩
theorem put_row (A : LA) (dn c : Int) (g : Addr) : putF "row" (.ref g) (lfs A dn c) = lfs { A with ar := g } dn c := rfl
theorem put_begins (A : LA) (dn c : Int) (g : Addr) : putF "begins" (.ref g) (lfs A dn c) = lfs { A with bg := g } dn c := rfl
theorem put_starts (A : LA) (dn c : Int) (g : Addr) : putF "starts" (.ref g) (lfs A dn c) = lfs { A with st := g } dn c := rfl
theorem put_opened (A : LA) (dn c : Int) (g : Addr) : putF "opened" (.ref g) (lfs A dn c) = lfs { A with op := g } dn c := rfl
end
section
variable {P : Program} {w : World} {K : PySem.W.Frag} {mg : Str → Option Value} {base : Heap} {C : Addr}
def spCopied (K : PySem.W.Frag) (C : Addr) : Sp := fun vs H Q _ => ∃ (A : LA) (bef : List Nat) (ps : List Pt) (L : Lay), vs = [.ref A.a] ∧ LyAt K C H A bef ps L ∧
  ∀ (A' : LA) (H' : Hp), Same H H' → newA H A' → LyAt K C H' A' bef ps L → Q (.ref A'.a) H'
end
end Bx

namespace Bx
def nG : List Pt → Nat
  | [] => 0
  | p :: r => (if isGap p = true then 1 else 0) + nG r
theorem nG_append : ∀ a b : List Pt, nG (a ++ b) = nG a + nG b
  | [], b => by rw [List.nil_append, nG, Nat.zero_add]
  | p :: r, b => by rw [List.cons_append, nG, nG, nG_append r b]; omega
theorem pcl_append : ∀ a b : List Pt, pcl (a ++ b) = pcl a + pcl b
  | [], b => by rw [List.nil_append, pcl, Nat.zero_add]
  | p :: r, b => by rw [List.cons_append, pcl, pcl, pcl_append r b]; omega
mutual
theorem nG_1 : ∀ s : Sh, nG (pt1 s) = gp1 s
  | .dat c => by rw [pt1, gp1]; rfl
  | .tab c => by rw [pt1, gp1]; rfl
  | .grp ks => by
    rw [pt1, gp1, nG, nG, nG_append, nG_L ks]
    show 1 + (0 + (gpL ks + 0)) = 1 + gpL ks
    omega
theorem nG_L : ∀ l : List Sh, nG (ptL l) = gpL l
  | [] => rfl
  | s :: r => by rw [ptL, gpL, nG_append, nG_1 s, nG_L r]
end
mutual
theorem pcl_1 : ∀ s : Sh, pcl (pt1 s) = ln1 s
  | .dat c => by
    rw [pt1, ln1]
    show 0 + ((2 + c.length) + 0) = _
    omega
  | .tab c => by
    rw [pt1, ln1]
    show 0 + ((2 + c.length) + 0) = _
    omega
  | .grp ks => by
    rw [pt1, ln1, pcl, pcl, pcl_append, pcl_L ks]
    show 0 + (2 + (lnL ks + 0)) = _
    omega
theorem pcl_L : ∀ l : List Sh, pcl (ptL l) = lnL l
  | [] => rfl
  | s :: r => by rw [ptL, lnL, pcl_append, pcl_1 s, pcl_L r]
end
mutual
theorem okP_1 : ∀ (s : Sh) (r : List Pt) (d : Nat), okP r d → okP (pt1 s ++ r) d
  | .dat c, r, d, h => by
    rw [pt1]
    show okP (.gap :: .dat c :: r) d
    rw [okP, okP]
    exact h
  | .tab c, r, d, h => by
    rw [pt1]
    show okP (.gap :: .tab c :: r) d
    rw [okP, okP]
    exact h
  | .grp ks, r, d, h => by
    rw [pt1]
    show okP (.gap :: .opn :: (ptL ks ++ [.cls] ++ r)) d
    rw [okP, okP, List.append_assoc]
    exact okP_L ks _ _ (by show okP (.cls :: r) (d + 1); rw [okP]; exact ⟨Nat.succ_pos _, h⟩)
theorem okP_L : ∀ (l : List Sh) (r : List Pt) (d : Nat), okP r d → okP (ptL l ++ r) d
  | [], r, d, h => by
    rw [ptL]
    show okP (.gap :: r) d
    rw [okP]
    exact h
  | s :: q, r, d, h => by
    rw [ptL, List.append_assoc]
    exact okP_1 s _ d (okP_L q r d h)
end
theorem okP_all (l : List Sh) : okP (ptL l) 0 := by
  have := okP_L l [] 0 (by rw [okP] <;> trivial)
  rw [List.append_nil] at this
  exact this
section
variable {bef : List Nat} {ps : List Pt} {L : Lay} {p : Pt}
theorem boxP_row : ∀ (p : Pt), (boxP bef L p).row.length = L.row.length + pcs p
  | .gap => rfl
  | .cls => List.length_set
  | .opn => by
    show (putC bef _ [some 1, none]).row.length = _
    rw [putC_row, List.length_append]
    rfl
  | .dat c => by
    show (putC bef _ (some 2 :: some (2 + c.length) :: c.map some)).row.length = L.row.length + (2 + c.length)
    rw [putC_row, List.length_append, List.length_cons, List.length_cons, List.length_map]
    show L.row.length + _ = _
    omega
  | .tab t => by
    show (putC bef _ (some 4 :: some (2 + t.length) :: List.replicate t.length none)).row.length = L.row.length + (2 + t.length)
    rw [putC_row, List.length_append, List.length_cons, List.length_cons, List.length_replicate]
    show L.row.length + _ = _
    omega
theorem boxP_gaps : ∀ (p : Pt), (boxP bef L p).gaps = L.gaps
  | .gap => rfl
  | .cls => rfl
  | .opn => (putC_oth _ _).2.1
  | .dat _ => (putC_oth _ _).2.1
  | .tab t => (putC_oth (bef := bef) (some 4 :: some (2 + t.length) :: List.replicate t.length none) { L with begins := L.begins ++ [L.row.length] }).2.1
theorem adv_inv : ∀ (n : Nat) (L : Lay), ps.length - L.done = n → L.done ≤ ps.length → (adv bef (ps.drop L.done) L).row.length + pcl (ps.drop (adv bef (ps.drop L.done) L).done) = L.row.length + pcl (ps.drop L.done) ∧ nG (ps.drop (adv bef (ps.drop L.done) L).done) = nG (ps.drop L.done) ∧ (adv bef (ps.drop L.done) L).gaps = L.gaps
  | n, L, hn, h => by
    by_cases hd : L.done < ps.length
    · cases hp : ps[L.done]? with
      | none => exact absurd hp (by rw [List.getElem?_eq_getElem hd]; exact fun z => nomatch z)
      | some p =>
        cases hg : isGap p with
        | true => rw [adv_gap hp hg]; exact ⟨rfl, rfl, rfl⟩
        | false =>
          rw [adv_step hp hg]
          cases n with
          | zero => omega
          | succ n =>
            obtain ⟨a, b, c⟩ := adv_inv n (stepP bef L p) (by show ps.length - (L.done + 1) = n; omega) hd
            have e1 : (stepP bef L p).row.length = L.row.length + pcs p := boxP_row p
            have e2 : pcl (ps.drop L.done) = pcs p + pcl (ps.drop (L.done + 1)) := by rw [drop_at hp, pcl]
            have e3 : nG (ps.drop L.done) = nG (ps.drop (L.done + 1)) := by rw [drop_at hp, nG, hg]; simp
            have e4 : (stepP bef L p).done = L.done + 1 := rfl
            rw [e4] at a b c
            refine ⟨?_, by rw [e4, b, e3], by rw [e4, c]; exact boxP_gaps p⟩
            rw [e4, a, e1, e2]
            omega
    · have e : L.done = ps.length := by omega
      rw [adv_end e]
      exact ⟨rfl, rfl, rfl⟩
structure LIn (ps : List Pt) (gs : List Nat) (L : Lay) : Prop where
  ok : LOk ps L
  gp : L.gaps = gs
  sz : L.row.length + pcl (ps.drop L.done) = pcl ps + gs.sum
  ng : nG (ps.drop L.done) + gs.length = nG ps
  at_ : L.done = ps.length ∨ ps[L.done]? = some .gap
theorem LIn.gap {gs : List Nat} (h : LIn ps gs L) (hg : gs.length < nG ps) : ps[L.done]? = some .gap := by
  rcases h.at_ with z | z
  · exfalso
    have := h.ng
    rw [z, List.drop_length, nG] at this
    omega
  · exact z
theorem LIn.whole {gs : List Nat} (h : LIn ps gs L) : L.done = ps.length ↔ gs.length = nG ps := by
  constructor
  · intro z
    have := h.ng
    rw [z, List.drop_length, nG] at this
    omega
  · intro z
    rcases h.at_ with y | y
    · exact y
    · exfalso
      have := h.ng
      rw [drop_at y, nG] at this
      simp [isGap] at this
      omega
theorem putFr_len (L : Lay) (g : Nat) (hg : 2 ≤ g) : (putFr bef L g).row.length = L.row.length + g := by
  unfold putFr
  rw [putC_row, putC_row, List.length_append, List.length_append, List.length_map, kept_len]
  show L.row.length + 2 + (g - 2) = _
  omega
theorem putFr_oth (L : Lay) (g : Nat) : (putFr bef L g).done = L.done ∧ (putFr bef L g).gaps = L.gaps := by
  obtain ⟨a1, a2, _⟩ := putC_oth (bef := bef) ((kept bef (L.row.length + 2) (g - 2)).map some) (putC bef L [some 3, some g])
  obtain ⟨b1, b2, _⟩ := putC_oth (bef := bef) [some 3, some g] L
  exact ⟨a1.trans b1, a2.trans b2⟩
theorem gapL_inv (L : Lay) {g : Nat} (hg : g = 0 ∨ 2 ≤ g) : (gapL bef L g).row.length = L.row.length + g ∧ (gapL bef L g).done = L.done + 1 ∧ (gapL bef L g).gaps = L.gaps ++ [g] := by
  unfold gapL
  by_cases h0 : 0 < g
  · rw [if_pos h0, putFr_len _ _ (by omega)]
    obtain ⟨a, b⟩ := putFr_oth (bef := bef) { L with gaps := L.gaps ++ [g], done := L.done + 1 } g
    exact ⟨rfl, a, b⟩
  · rw [if_neg h0]
    have : g = 0 := by omega
    subst this
    exact ⟨rfl, rfl, rfl⟩
theorem LIn.with {gs : List Nat} (h : LIn ps gs L) {g : Nat} (hn : gs.length < nG ps) (hg : g = 0 ∨ 2 ≤ g) (hz : pcl ps + gs.sum + g ≤ 900) : LIn ps (gs ++ [g]) (withGap bef ps L g) := by
  have hp := h.gap hn
  have hsz := h.sz
  have ok1 := h.ok.gapL (bef := bef) hp hg (by omega)
  obtain ⟨i1, i2, i3⟩ := gapL_inv (bef := bef) L hg
  obtain ⟨a1, a2, a3⟩ := adv_inv (bef := bef) (ps := ps) _ (gapL bef L g) rfl ok1.dn
  obtain ⟨b1, b2⟩ := LOk.adv (bef := bef) _ (gapL bef L g) rfl ok1
  have e1 : ∀ M : Lay, (settle bef M).done = M.done := fun M => (stl_oth _ _ _).1
  have e2 : ∀ M : Lay, (settle bef M).gaps = M.gaps := fun M => (stl_oth _ _ _).2.1
  have e3 : ∀ M : Lay, (settle bef M).row.length = M.row.length := fun M => stl_row_len _ _ _
  have d1 : pcl (ps.drop L.done) = pcl (ps.drop (L.done + 1)) := by
    rw [drop_at hp, pcl]
    exact Nat.zero_add _
  have d2 : nG (ps.drop L.done) = 1 + nG (ps.drop (L.done + 1)) := by
    rw [drop_at hp, nG]
    rfl
  have hng := h.ng
  unfold withGap goOn
  refine ⟨b1.settle, ?_, ?_, ?_, ?_⟩
  · rw [e2, a3, i3, h.gp]
  · rw [e3, e1, a1, i1, i2, List.sum_append]
    simp
    omega
  · rw [e1, a2, i2, List.length_append, List.length_singleton]
    omega
  · rw [e1]
    exact b2
theorem LIn.nil {ss : List Sh} (hb : (allL ss).length ≤ 100) (hl : lnL ss ≤ 800) : LIn (ptL ss) [] lay0 := by
  have hlen := ptL_len ss
  have h0 : (ptL ss)[0]? = some .gap := by
    cases ss with
    | nil => rw [ptL]; rfl
    | cons s r =>
      rw [ptL]
      cases s <;> (rw [pt1]; rfl)
  refine ⟨⟨Nat.zero_le _, okP_all ss, fun o ho => absurd ho List.not_mem_nil, fun o ho => absurd ho List.not_mem_nil, ?_, Nat.le_refl _, Nat.le_refl _, Nat.le_refl _, Nat.le_refl _, Nat.le_refl _, by omega⟩, rfl, ?_, ?_, .inr h0⟩
  · show 0 + pcl (ptL ss) ≤ 900
    rw [pcl_L]
    omega
  · show 0 + pcl (ptL ss) = pcl (ptL ss) + 0
    omega
  · show nG (ptL ss) + 0 = nG (ptL ss)
    omega
theorem layF_snoc (gs : List Nat) (g : Nat) : layF bef ps (gs ++ [g]) = withGap bef ps (layF bef ps gs) g := by
  unfold layF
  rw [List.foldl_append]
  rfl
theorem sum_take (gs : List Nat) (i : Nat) : (gs.take i).sum ≤ gs.sum := by
  have := List.take_append_drop i gs
  have e : gs.sum = (gs.take i).sum + (gs.drop i).sum := by rw [← List.sum_append, this]
  omega
theorem layF_in {ss : List Sh} (hb : (allL ss).length ≤ 100) (gs : List Nat) (hg : ∀ g ∈ gs, g = 0 ∨ 2 ≤ g) (hl : lnL ss + gs.sum ≤ 800) : ∀ (i : Nat), i ≤ gs.length → gs.length ≤ gpL ss → LIn (ptL ss) (gs.take i) (layF bef (ptL ss) (gs.take i))
  | 0, _, _ => by
    rw [List.take_zero]
    exact .nil hb (by omega)
  | i + 1, hi, hn => by
    have ih := layF_in hb gs hg hl i (by omega) hn
    have hx : gs[i]? = some gs[i] := List.getElem?_eq_getElem (by omega)
    rw [take_snoc hx, layF_snoc]
    have s1 := sum_take gs (i + 1)
    rw [take_snoc hx, List.sum_append] at s1
    simp at s1
    refine ih.with ?_ (hg _ (List.getElem_mem _)) ?_
    · rw [nG_L, List.length_take]
      omega
    · rw [pcl_L]
      omega
end
section
variable {P : Program} {w : World} {K : PySem.W.Frag} {mg : Str → Option Value} {base : Heap} {C : Addr}
def spWithGap (K : PySem.W.Frag) (C : Addr) : Sp := fun vs H Q _ => ∃ (A : LA) (bef : List Nat) (ps : List Pt) (L : Lay) (g : Nat), vs = [.ref A.a, vn g] ∧ LyAt K C H A bef ps L ∧ LOk ps L ∧ ps[L.done]? = some .gap ∧ (g = 0 ∨ 2 ≤ g) ∧ bef.length ≤ 900 ∧ L.row.length + g + pcl (ps.drop L.done) ≤ 900 ∧
  ∀ (A' : LA) (H' : Hp), Same H H' → newA H A' → LyAt K C H' A' bef ps (withGap bef ps L g) → Q (.ref A'.a) H'
end
end Bx

namespace Bx
def rc (bef : List Nat) : Nat → List (Option Nat) → Nat
  | _, [] => 0
  | p, none :: r => rc bef (p + 1) r
  | p, some c :: r => dif bef p c + rc bef (p + 1) r
section
variable {bef : List Nat}
theorem rc_append : ∀ (a b : List (Option Nat)) (p : Nat), rc bef p (a ++ b) = rc bef p a + rc bef (p + a.length) b
  | [], b, p => by
    rw [List.nil_append, rc, Nat.zero_add]
    rfl
  | none :: r, b, p => by
    rw [List.cons_append, rc, rc, rc_append r b, List.length_cons, show p + (r.length + 1) = p + 1 + r.length by omega]
  | some c :: r, b, p => by
    rw [List.cons_append, rc, rc, rc_append r b, List.length_cons, show p + (r.length + 1) = p + 1 + r.length by omega]
    omega
theorem rc_set (c : Nat) : ∀ (l : List (Option Nat)) (i p : Nat), l[i]? = some none → rc bef p (l.set i (some c)) = rc bef p l + dif bef (p + i) c
  | [], i, p, h => by simp at h
  | x :: r, 0, p, h => by
    have hx : x = none := Option.some.inj h
    subst hx
    show dif bef p c + rc bef (p + 1) r = rc bef (p + 1) r + dif bef p c
    omega
  | none :: r, i + 1, p, h => by
    show rc bef p (none :: r.set i (some c)) = _
    rw [rc, rc, rc_set c r i (p + 1) h, show p + 1 + i = p + (i + 1) by omega]
  | some d :: r, i + 1, p, h => by
    show rc bef p (some d :: r.set i (some c)) = _
    rw [rc, rc, rc_set c r i (p + 1) h, show p + 1 + i = p + (i + 1) by omega]
    omega
theorem putC_cost : ∀ (cs : List (Option Nat)) (L : Lay), (putC bef L cs).cost = L.cost + rc bef L.row.length cs
  | [], L => rfl
  | none :: r, L => by
    show (putC bef (putO bef L none) r).cost = _
    rw [putC_cost r, putO_row, List.length_append, rc]
    rfl
  | some c :: r, L => by
    show (putC bef (putO bef L (some c)) r).cost = _
    rw [putC_cost r, putO_row, List.length_append, rc]
    show L.cost + dif bef L.row.length c + _ = _
    rw [List.length_singleton]
    omega
def tkP : Pt → List Tok
  | .gap => [.gap]
  | .opn => [.cell 1, .length]
  | .cls => [.close]
  | .dat c => .cell 2 :: .cell (2 + c.length) :: (c.map .dat ++ [.fin true])
  | .tab t => .cell 4 :: .cell (2 + t.length) :: (t.map .ent ++ [.fin false])
def tkPs : List Pt → List Tok
  | [] => []
  | p :: r => tkP p ++ tkPs r
theorem tkPs_append : ∀ a b : List Pt, tkPs (a ++ b) = tkPs a ++ tkPs b
  | [], _ => rfl
  | p :: r, b => by rw [List.cons_append, tkPs, tkPs, tkPs_append r b, List.append_assoc]
mutual
theorem tkP_1 : ∀ s : Sh, tk1 s = tkPs (pt1 s)
  | .dat c => by
    rw [tk1, pt1, tkPs, tkPs, tkPs, List.append_nil]
    simp [tkP]
  | .tab c => by
    rw [tk1, pt1, tkPs, tkPs, tkPs, List.append_nil]
    simp [tkP]
  | .grp ks => by
    rw [tk1, pt1, tkPs, tkPs, tkPs_append, tkP_L ks]
    simp [tkP, tkPs]
theorem tkP_L : ∀ l : List Sh, tkL l = tkPs (ptL l)
  | [] => by
    rw [tkL, ptL, tkPs, tkPs]
    rfl
  | s :: r => by rw [tkL, ptL, tkPs_append, tkP_1 s, tkP_L r]
end
def lnP : Pt → List Nat
  | .dat c => [c.length]
  | .gap => []
  | .opn => []
  | .cls => []
  | .tab _ => []
def lnPs (l : List Pt) : List Nat := (l.map lnP).flatten
def tgP : Pt → List (Nat × Nat)
  | .tab t => t
  | .gap => []
  | .opn => []
  | .cls => []
  | .dat _ => []
def tgPs (l : List Pt) : List (Nat × Nat) := (l.map tgP).flatten
theorem lnPs_append (a b : List Pt) : lnPs (a ++ b) = lnPs a ++ lnPs b := by
  unfold lnPs
  rw [List.map_append, List.flatten_append]
theorem tgPs_append (a b : List Pt) : tgPs (a ++ b) = tgPs a ++ tgPs b := by
  unfold tgPs
  rw [List.map_append, List.flatten_append]
mutual
theorem lnP_1 : ∀ s : Sh, lnPs (pt1 s) = lens (all1 s)
  | .dat c => by rw [pt1, all1]; rfl
  | .tab c => by rw [pt1, all1]; rfl
  | .grp ks => by
    rw [pt1, all1]
    have e : lnPs (.gap :: .opn :: (ptL ks ++ [.cls])) = lnPs (ptL ks ++ [.cls]) := rfl
    have e2 : lens (.grp ks :: allL ks) = lens (allL ks) := rfl
    rw [e, e2, lnPs_append, lnP_L ks]
    show lens (allL ks) ++ [] = _
    rw [List.append_nil]
theorem lnP_L : ∀ l : List Sh, lnPs (ptL l) = lens (allL l)
  | [] => by rw [ptL, allL]; rfl
  | s :: r => by rw [ptL, allL, lnPs_append, lens_append, lnP_1 s, lnP_L r]
end
mutual
theorem tgP_1 : ∀ s : Sh, tgPs (pt1 s) = tgsL (all1 s)
  | .dat c => by rw [pt1, all1]; rfl
  | .tab c => by rw [pt1, all1]; rfl
  | .grp ks => by
    rw [pt1, all1]
    have e : tgPs (.gap :: .opn :: (ptL ks ++ [.cls])) = tgPs (ptL ks ++ [.cls]) := rfl
    have e2 : tgsL (.grp ks :: allL ks) = tgsL (allL ks) := rfl
    rw [e, e2, tgPs_append, tgP_L ks]
    show tgsL (allL ks) ++ [] = _
    rw [List.append_nil]
theorem tgP_L : ∀ l : List Sh, tgPs (ptL l) = tgsL (allL l)
  | [] => by rw [ptL, allL]; rfl
  | s :: r => by
    rw [ptL, allL, tgPs_append, tgP_1 s, tgP_L r]
    unfold tgsL
    rw [List.map_append, List.flatten_append]
end
structure Rel (bef : List Nat) (ps : List Pt) (L : Lay) (k : Kst) : Prop where
  g : Kg k
  pl : k.pl = L.row.length
  op : k.op = L.opened.map fun o => o + 1
  num : k.num = L.starts.length
  dl : (lnPs (ps.take L.done)).length = L.starts.length
  tg : ∀ a q n, L.starts[a]? = some q → (lnPs (ps.take L.done))[a]? = some n → ∀ j, j < n → k.tg (a, j) = some (q + j)
  tn : ∀ a j, L.starts.length ≤ a → k.tg (a, j) = none
  row : ∀ n, n < k.pl → (∀ e ∈ k.en, e.1 ≠ n) → L.row[n]? = some (k.m n)
  ent : ∀ e ∈ k.en, (e ∈ L.waiting ∧ L.row[e.1]? = some none) ∨ (e.2.1 < L.starts.length ∧ L.row[e.1]? = some (some (L.starts.getD e.2.1 0 + e.2.2)))
  wt : ∀ e ∈ L.waiting, e ∈ k.en ∧ L.row[e.1]? = some none
  wp : L.waiting.Pairwise fun a b => a.1 < b.1
  cost : L.cost = rc bef 0 L.row
  et : ∀ e ∈ k.en, e.2 ∈ tgPs ps
  ow : L.opened.Pairwise (· < ·)
theorem get_app {α : Type} {a b : List α} {n : Nat} (h : n < a.length) : (a ++ b)[n]? = a[n]? := List.getElem?_append_left h
theorem getD_app {a b : List Nat} {n d : Nat} (h : n < a.length) : (a ++ b).getD n d = a.getD n d := by
  rw [List.getD_eq_getElem?_getD, List.getD_eq_getElem?_getD, get_app h]
theorem getM_lt {α : Type} {l : List α} {i : Nat} {x : α} (h : l[i]? = some x) : i < l.length := (List.getElem?_eq_some_iff.mp h).1
variable {ps : List Pt} {L : Lay} {k : Kst}
theorem Rel.el (R : Rel bef ps L k) : ∀ e ∈ k.en, e.1 < L.row.length := fun e he => by
  rw [← R.pl]
  exact R.g.enp e he
theorem Rel.wl (R : Rel bef ps L k) : ∀ e ∈ L.waiting, e.1 < L.row.length := fun e he => R.el e (R.wt e he).1
/-- rows that grow -/
theorem Rel.row_app (R : Rel bef ps L k) (cs : List (Option Nat)) {m' : Nat → Option Nat} (h1 : ∀ n, n < k.pl → m' n = k.m n) (h2 : ∀ i, i < cs.length → some (m' (k.pl + i)) = cs[i]?) : ∀ n, n < k.pl + cs.length → (∀ e ∈ k.en, e.1 ≠ n) → (L.row ++ cs)[n]? = some (m' n) := fun n hn he => by
  have hp := R.pl
  by_cases h : n < k.pl
  · rw [get_app (by omega), R.row n h he, h1 n h]
  · rw [List.getElem?_append_right (by omega), ← h2 (n - L.row.length) (by omega), show k.pl + (n - L.row.length) = n by omega]
theorem Rel.ent_app (R : Rel bef ps L k) (cs : List (Option Nat)) (ss : List Nat) : ∀ e ∈ k.en, (e ∈ L.waiting ∧ (L.row ++ cs)[e.1]? = some none) ∨ (e.2.1 < (L.starts ++ ss).length ∧ (L.row ++ cs)[e.1]? = some (some ((L.starts ++ ss).getD e.2.1 0 + e.2.2))) := fun e he => by
  rw [get_app (R.el e he)]
  rcases R.ent e he with h | h
  · exact .inl h
  · refine .inr ⟨by rw [List.length_append]; omega, ?_⟩
    rw [getD_app h.1]
    exact h.2
theorem Rel.gap (R : Rel bef ps L k) (hp : ps[L.done]? = some .gap) {g : Nat} {q : List Nat} (hr : k.rest = g :: q) (hg : g = 0 ∨ 2 ≤ g) : Rel bef ps (gapL bef L g) { k with m := fillG bef k.m k.pl g g, pl := k.pl + g, rest := q } := by
  have hdl : lnPs (ps.take (L.done + 1)) = lnPs (ps.take L.done) := by
    rw [take_snoc hp, lnPs_append]
    exact List.append_nil _
  have hpl := R.pl
  unfold gapL
  by_cases h0 : 0 < g
  · rw [if_pos h0]
    obtain ⟨o1, o2, o3, o4, o5, o6⟩ := putC_oth (bef := bef) ((kept bef (L.row.length + 2) (g - 2)).map some) (putC bef { L with gaps := L.gaps ++ [g], done := L.done + 1 } [some 3, some g])
    obtain ⟨q1, q2, q3, q4, q5, q6⟩ := putC_oth (bef := bef) [some 3, some g] { L with gaps := L.gaps ++ [g], done := L.done + 1 }
    obtain ⟨M, hM⟩ : ∃ M, M = putFr bef { L with gaps := L.gaps ++ [g], done := L.done + 1 } g := ⟨_, rfl⟩
    have m1 : M.done = L.done + 1 := by rw [hM]; exact o1.trans q1
    have m4 : M.starts = L.starts := by rw [hM]; exact o4.trans q4
    have m5 : M.opened = L.opened := by rw [hM]; exact o5.trans q5
    have m6 : M.waiting = L.waiting := by rw [hM]; exact o6.trans q6
    have m7 : M.row = L.row ++ (some 3 :: some g :: (kept bef (L.row.length + 2) (g - 2)).map some) := by
      rw [hM]
      show (putC bef (putC bef { L with gaps := L.gaps ++ [g], done := L.done + 1 } [some 3, some g]) ((kept bef (L.row.length + 2) (g - 2)).map some)).row = _
      rw [putC_row, putC_row, List.append_assoc]
      rfl
    have m8 : M.cost = L.cost + rc bef L.row.length (some 3 :: some g :: (kept bef (L.row.length + 2) (g - 2)).map some) := by
      rw [hM]
      show (putC bef (putC bef { L with gaps := L.gaps ++ [g], done := L.done + 1 } [some 3, some g]) ((kept bef (L.row.length + 2) (g - 2)).map some)).cost = _
      rw [putC_cost, putC_cost, putC_row, List.length_append]
      have e : (some 3 :: some g :: (kept bef (L.row.length + 2) (g - 2)).map some) = [some 3, some g] ++ (kept bef (L.row.length + 2) (g - 2)).map some := rfl
      rw [e, rc_append]
      show L.cost + rc bef L.row.length [some 3, some g] + rc bef (L.row.length + 2) _ = L.cost + (rc bef L.row.length [some 3, some g] + rc bef (L.row.length + 2) _)
      omega
    have hlen : (some 3 :: some g :: (kept bef (L.row.length + 2) (g - 2)).map some : List (Option Nat)).length = g := by
      rw [List.length_cons, List.length_cons, List.length_map, kept_len]
      omega
    rw [← hM]
    refine ⟨R.g.gap g q, ?_, by rw [m5]; exact R.op, by rw [m4]; exact R.num, by rw [m1, m4, hdl]; exact R.dl, by rw [m1, m4, hdl]; exact R.tg, by rw [m4]; exact R.tn, ?_, ?_, ?_, by rw [m6]; exact R.wp, ?_, R.et, by rw [m5]; exact R.ow⟩
    · show k.pl + g = M.row.length
      rw [m7, List.length_append, hlen, hpl]
    · rw [m7]
      have := R.row_app (some 3 :: some g :: (kept bef (L.row.length + 2) (g - 2)).map some) (m' := fillG bef k.m k.pl g g) (fun n hn => fill_lt hn) (fun i hi => by
        rw [hlen] at hi
        unfold fillG
        rw [if_pos (by omega)]
        match i with
        | 0 => rw [if_pos (Nat.add_zero _)]; rfl
        | 1 => rw [if_neg (by omega), if_pos rfl]; rfl
        | i + 2 =>
          rw [if_neg (by omega), if_neg (by omega), List.getElem?_cons_succ, List.getElem?_cons_succ, List.getElem?_map]
          unfold kept
          rw [List.getElem?_map, List.getElem?_range (by omega), hpl]
          show some (some (bef.getD (L.row.length + (i + 2)) 0)) = some (some (bef.getD (L.row.length + 2 + i) 0))
          rw [show L.row.length + (i + 2) = L.row.length + 2 + i by omega])
      rw [hlen] at this
      exact this
    · rw [m6, m7, m4]
      have := R.ent_app (some 3 :: some g :: (kept bef (L.row.length + 2) (g - 2)).map some) []
      rw [List.append_nil] at this
      exact this
    · rw [m6, m7]
      intro e he
      rw [get_app (R.wl e he)]
      exact R.wt e he
    · rw [m8, m7, rc_append, R.cost, Nat.zero_add]
  · rw [if_neg h0]
    have e0 : g = 0 := by omega
    subst e0
    have ef : fillG bef k.m k.pl 0 0 = k.m := funext fun n => if_neg (by omega)
    refine ⟨R.g.gap 0 q, hpl, R.op, R.num, by rw [hdl]; exact R.dl, by rw [hdl]; exact R.tg, R.tn, ?_, R.ent, R.wt, R.wp, R.cost, R.et, R.ow⟩
    show ∀ n, n < k.pl + 0 → _ → L.row[n]? = some (fillG bef k.m k.pl 0 0 n)
    rw [ef]
    exact R.row
theorem Rel.step (R : Rel bef ps L k) (hL : LOk ps L) {p : Pt} (hp : ps[L.done]? = some p) (hg : isGap p = false) (r : List Tok) : ∃ k', runK bef (tkP p ++ r) k = runK bef r k' ∧ k'.rest = k.rest ∧ Rel bef ps (stepP bef L p) k' := by
  have hpl := R.pl
  cases p with
  | gap => cases hg
  | opn =>
    have hdl : lnPs (ps.take (L.done + 1)) = lnPs (ps.take L.done) := by
      rw [take_snoc hp, lnPs_append]
      exact List.append_nil _
    obtain ⟨o1, o2, o3, o4, o5, o6⟩ := putC_oth (bef := bef) [some 1, none] { L with begins := L.begins ++ [L.row.length], opened := L.opened ++ [L.row.length] }
    have m7 : (boxP bef L .opn).row = L.row ++ [some 1, none] := putC_row _ _
    have m8 : (boxP bef L .opn).cost = L.cost + rc bef L.row.length [some 1, none] := putC_cost _ _
    have m4 : (boxP bef L .opn).starts = L.starts := o4
    have m5 : (boxP bef L .opn).opened = L.opened ++ [L.row.length] := o5
    have m6 : (boxP bef L .opn).waiting = L.waiting := o6
    refine ⟨{ k with m := putM k.m k.pl 1, op := k.op ++ [k.pl + 1], pl := k.pl + 1 + 1 }, by rfl, rfl, (R.g.put 1).opn, ?_, ?_, ?_, ?_, ?_, ?_, ?_, ?_, ?_, ?_, ?_, R.et, ?_⟩
    · show k.pl + 1 + 1 = (boxP bef L .opn).row.length
      rw [m7, List.length_append, hpl]
      rfl
    · show k.op ++ [k.pl + 1] = (boxP bef L .opn).opened.map _
      rw [m5, List.map_append, R.op, hpl]
      rfl
    · show k.num = (boxP bef L .opn).starts.length
      rw [m4]; exact R.num
    · show (lnPs (ps.take (L.done + 1))).length = (boxP bef L .opn).starts.length
      rw [m4, hdl]; exact R.dl
    · show ∀ a q n, (boxP bef L .opn).starts[a]? = some q → (lnPs (ps.take (L.done + 1)))[a]? = some n → _
      rw [m4, hdl]; exact R.tg
    · show ∀ a j, (boxP bef L .opn).starts.length ≤ a → _
      rw [m4]; exact R.tn
    · show ∀ n, n < k.pl + 1 + 1 → _ → (boxP bef L .opn).row[n]? = _
      rw [m7]
      exact R.row_app [some 1, none] (fun n hn => putM_ne (Nat.ne_of_lt hn)) (fun i hi => by
        match i, hi with
        | 0, _ => exact congrArg some (putM_at _ _ _)
        | 1, _ =>
          show some (putM k.m k.pl 1 (k.pl + 1)) = some none
          rw [putM_ne (by omega), R.g.new _ (by omega)])
    · show ∀ e ∈ k.en, (e ∈ (boxP bef L .opn).waiting ∧ (boxP bef L .opn).row[e.1]? = some none) ∨ (e.2.1 < (boxP bef L .opn).starts.length ∧ (boxP bef L .opn).row[e.1]? = some (some ((boxP bef L .opn).starts.getD e.2.1 0 + e.2.2)))
      rw [m6, m7, m4]
      have := R.ent_app [some 1, none] []
      rw [List.append_nil] at this
      exact this
    · show ∀ e ∈ (boxP bef L .opn).waiting, e ∈ k.en ∧ (boxP bef L .opn).row[e.1]? = some none
      rw [m6, m7]
      intro e he
      rw [get_app (R.wl e he)]
      exact R.wt e he
    · show (boxP bef L .opn).waiting.Pairwise _
      rw [m6]; exact R.wp
    · show (boxP bef L .opn).cost = rc bef 0 (boxP bef L .opn).row
      rw [m8, m7, rc_append, R.cost, Nat.zero_add]
    · show (boxP bef L .opn).opened.Pairwise _
      rw [m5, List.pairwise_append]
      exact ⟨R.ow, List.pairwise_singleton _ _, fun a ha b hb => by
        have := hL.ob a ha
        have := List.mem_singleton.mp hb
        omega⟩
  | dat c =>
    have hdl : lnPs (ps.take (L.done + 1)) = lnPs (ps.take L.done) ++ [c.length] := by
      rw [take_snoc hp, lnPs_append]
      rfl
    obtain ⟨o1, o2, o3, o4, o5, o6⟩ := putC_oth (bef := bef) (some 2 :: some (2 + c.length) :: c.map some) { L with begins := L.begins ++ [L.row.length], starts := L.starts ++ [L.row.length + 2] }
    have m7 : (boxP bef L (.dat c)).row = L.row ++ (some 2 :: some (2 + c.length) :: c.map some) := putC_row _ _
    have m8 : (boxP bef L (.dat c)).cost = L.cost + rc bef L.row.length (some 2 :: some (2 + c.length) :: c.map some) := putC_cost _ _
    have m4 : (boxP bef L (.dat c)).starts = L.starts ++ [L.row.length + 2] := o4
    have m5 : (boxP bef L (.dat c)).opened = L.opened := o5
    have m6 : (boxP bef L (.dat c)).waiting = L.waiting := o6
    have g1 := (R.g.put 2).put (2 + c.length)
    obtain ⟨st', a, b1, b2, b3, b4, b5, b6, b7, b8, b9, b10, b11⟩ := kr_dats (bef := bef) c (Tok.fin true :: r) _ g1.new
    have e3 : st'.pl = k.pl + 1 + 1 + c.length := b3
    have e4 : st'.num = k.num := b4
    have e6 : st'.en = k.en := b6
    have e1 : st'.op = k.op := b1
    have mlt : ∀ n, n < k.pl → st'.m n = k.m n := fun n hn => by
      rw [b8 n (by show n < k.pl + 1 + 1; omega)]
      show putM (putM _ _ _) _ _ n = _
      rw [putM_ne (by show n ≠ k.pl + 1; omega), putM_ne (by omega)]
    have hlen : (some 2 :: some (2 + c.length) :: c.map some : List (Option Nat)).length = 2 + c.length := by
      rw [List.length_cons, List.length_cons, List.length_map]
      omega
    refine ⟨{ st' with num := st'.num + 1, off := 0 }, ?_, b2, ⟨rfl, b7, fun e he => ?_, fun e he => ?_, ?_, fun o ho => ?_, fun o ho e he => ?_⟩, ?_, ?_, ?_, ?_, ?_, ?_, ?_, ?_, ?_, ?_, ?_, ?_, ?_⟩
    · show runK bef (Tok.cell 2 :: Tok.cell (2 + c.length) :: ((c.map Tok.dat ++ [Tok.fin true]) ++ r)) k = _
      rw [List.append_assoc]
      exact a
    · have := R.g.enp e (by rw [← e6]; exact he)
      show e.1 < st'.pl
      omega
    · have he' : e ∈ k.en := by rw [← e6]; exact he
      show st'.m e.1 = none
      rw [mlt e.1 (R.g.enp e he')]
      exact R.g.enm e he'
    · show st'.en.Pairwise _
      rw [e6]
      exact R.g.enw
    · obtain ⟨z1, z2⟩ := R.g.opm o (by rw [← e1]; exact ho)
      refine ⟨by show o < st'.pl; omega, ?_⟩
      show st'.m o = none
      rw [mlt o z1]
      exact z2
    · exact R.g.ope o (by rw [← e1]; exact ho) e (by rw [← e6]; exact he)
    · show st'.pl = (boxP bef L (.dat c)).row.length
      rw [m7, List.length_append, hlen, e3, hpl]
      omega
    · show st'.op = (boxP bef L (.dat c)).opened.map _
      rw [m5, e1]
      exact R.op
    · show st'.num + 1 = (boxP bef L (.dat c)).starts.length
      rw [m4, e4, List.length_append, R.num]
      rfl
    · show (lnPs (ps.take (L.done + 1))).length = (boxP bef L (.dat c)).starts.length
      rw [m4, hdl, List.length_append, List.length_append, R.dl]
      rfl
    · show ∀ a q n, (boxP bef L (.dat c)).starts[a]? = some q → (lnPs (ps.take (L.done + 1)))[a]? = some n → ∀ j, j < n → st'.tg (a, j) = some (q + j)
      rw [m4, hdl]
      intro a q n ha hn j hj
      by_cases hlt : a < L.starts.length
      · rw [get_app hlt] at ha
        rw [get_app (by rw [R.dl]; exact hlt)] at hn
        rw [b10 (a, j) (.inl (by show a ≠ k.num; rw [R.num]; omega))]
        exact R.tg a q n ha hn j hj
      · have := getM_lt ha
        rw [List.length_append, List.length_singleton] at this
        have ea : a = L.starts.length := by omega
        subst ea
        rw [List.getElem?_append_right (Nat.le_refl _), Nat.sub_self] at ha
        rw [← R.dl, List.getElem?_append_right (Nat.le_refl _), Nat.sub_self] at hn
        cases ha
        cases hn
        have z := b11 j hj
        have e0 : k.off = 0 := R.g.off
        have en : k.num = L.starts.length := R.num
        rw [show (L.starts.length, j) = (k.num, k.off + j) by rw [e0, en, Nat.zero_add]]
        refine z.trans ?_
        show some (k.pl + 1 + 1 + j) = _
        rw [hpl]
    · show ∀ a j, (boxP bef L (.dat c)).starts.length ≤ a → st'.tg (a, j) = none
      rw [m4, List.length_append, List.length_singleton]
      intro a j ha
      rw [b10 (a, j) (.inl (by show a ≠ k.num; rw [R.num]; omega))]
      exact R.tn a j (by omega)
    · show ∀ n, n < st'.pl → (∀ e ∈ st'.en, e.1 ≠ n) → (boxP bef L (.dat c)).row[n]? = some (st'.m n)
      rw [m7, e6]
      have := R.row_app (some 2 :: some (2 + c.length) :: c.map some) (m' := st'.m) mlt (fun i hi => by
        rw [hlen] at hi
        match i with
        | 0 =>
          rw [b8 (k.pl + 0) (by show k.pl + 0 < k.pl + 1 + 1; omega)]
          show some (putM (putM _ _ _) _ _ (k.pl + 0)) = _
          rw [putM_ne (by show k.pl + 0 ≠ k.pl + 1; omega)]
          exact congrArg some (putM_at _ _ _)
        | 1 =>
          rw [b8 (k.pl + 1) (by show k.pl + 1 < k.pl + 1 + 1; omega)]
          exact congrArg some (putM_at _ _ _)
        | i + 2 =>
          have hi' : i < c.length := by omega
          have := b9 i c[i] (List.getElem?_eq_getElem hi')
          rw [List.getElem?_cons_succ, List.getElem?_cons_succ, List.getElem?_map, List.getElem?_eq_getElem hi', show k.pl + (i + 2) = k.pl + 1 + 1 + i by omega]
          exact congrArg some this)
      rw [hlen] at this
      intro n hn
      exact this n (by omega)
    · show ∀ e ∈ st'.en, (e ∈ (boxP bef L (.dat c)).waiting ∧ (boxP bef L (.dat c)).row[e.1]? = some none) ∨ (e.2.1 < (boxP bef L (.dat c)).starts.length ∧ (boxP bef L (.dat c)).row[e.1]? = some (some ((boxP bef L (.dat c)).starts.getD e.2.1 0 + e.2.2)))
      rw [m6, m7, m4, e6]
      exact R.ent_app _ _
    · show ∀ e ∈ (boxP bef L (.dat c)).waiting, e ∈ st'.en ∧ (boxP bef L (.dat c)).row[e.1]? = some none
      rw [m6, m7, e6]
      intro e he
      rw [get_app (R.wl e he)]
      exact R.wt e he
    · show (boxP bef L (.dat c)).waiting.Pairwise _
      rw [m6]; exact R.wp
    · show (boxP bef L (.dat c)).cost = rc bef 0 (boxP bef L (.dat c)).row
      rw [m8, m7, rc_append, R.cost, Nat.zero_add]
    · show ∀ e ∈ st'.en, e.2 ∈ tgPs ps
      rw [e6]
      exact R.et
    · show (boxP bef L (.dat c)).opened.Pairwise _
      rw [m5]
      exact R.ow
  | tab t =>
    have hdl : lnPs (ps.take (L.done + 1)) = lnPs (ps.take L.done) := by
      rw [take_snoc hp, lnPs_append]
      exact List.append_nil _
    obtain ⟨o1, o2, o3, o4, o5, o6⟩ := putC_oth (bef := bef) (some 4 :: some (2 + t.length) :: List.replicate t.length none) { L with begins := L.begins ++ [L.row.length] }
    have m7 : (boxP bef L (.tab t)).row = L.row ++ (some 4 :: some (2 + t.length) :: List.replicate t.length none) := putC_row (bef := bef) (some 4 :: some (2 + t.length) :: List.replicate t.length none) { L with begins := L.begins ++ [L.row.length] }
    have m8 : (boxP bef L (.tab t)).cost = L.cost + rc bef L.row.length (some 4 :: some (2 + t.length) :: List.replicate t.length none) := putC_cost (bef := bef) (some 4 :: some (2 + t.length) :: List.replicate t.length none) { L with begins := L.begins ++ [L.row.length] }
    have m4 : (boxP bef L (.tab t)).starts = L.starts := o4
    have m5 : (boxP bef L (.tab t)).opened = L.opened := o5
    have m6 : (boxP bef L (.tab t)).waiting = L.waiting ++ ents (L.row.length + 2) t := rfl
    have g2 := ((R.g.put 4).put (2 + t.length)).ents t
    have hlen : (some 4 :: some (2 + t.length) :: List.replicate t.length none : List (Option Nat)).length = 2 + t.length := by
      rw [List.length_cons, List.length_cons, List.length_replicate]
      omega
    have enew : ∀ e ∈ ents (k.pl + 1 + 1) t, (L.row ++ (some 4 :: some (2 + t.length) :: List.replicate t.length none))[e.1]? = some none := fun e he => by
      obtain ⟨z1, z2, _⟩ := ents_mem _ _ e he
      rw [List.getElem?_append_right (by omega)]
      obtain ⟨i, hi⟩ : ∃ i, e.1 - L.row.length = i + 2 := ⟨e.1 - L.row.length - 2, by omega⟩
      rw [hi, List.getElem?_cons_succ, List.getElem?_cons_succ, List.getElem?_replicate, if_pos (by omega)]
    have ents_eq : ents (L.row.length + 2) t = ents (k.pl + 1 + 1) t := by rw [hpl]
    refine ⟨{ k with m := putM (putM k.m k.pl 4) (k.pl + 1) (2 + t.length), en := k.en ++ ents (k.pl + 1 + 1) t, pl := k.pl + 1 + 1 + t.length, num := k.num + 0, off := 0 }, ?_, rfl, ⟨rfl, g2.new, g2.enp, g2.enm, g2.enw, g2.opm, g2.ope⟩, ?_, ?_, ?_, ?_, ?_, ?_, ?_, ?_, ?_, ?_, ?_, ?_, ?_⟩
    · show runK bef (Tok.cell 4 :: Tok.cell (2 + t.length) :: ((t.map Tok.ent ++ [Tok.fin false]) ++ r)) k = _
      rw [List.append_assoc, runK]
      show runK bef (Tok.cell (2 + t.length) :: (t.map Tok.ent ++ ([Tok.fin false] ++ r))) { k with m := putM k.m k.pl 4, pl := k.pl + 1 } = _
      rw [runK]
      show runK bef (t.map Tok.ent ++ ([Tok.fin false] ++ r)) { k with m := putM (putM k.m k.pl 4) (k.pl + 1) (2 + t.length), pl := k.pl + 1 + 1 } = _
      rw [kr_ents]
      rfl
    · show k.pl + 1 + 1 + t.length = (boxP bef L (.tab t)).row.length
      rw [m7, List.length_append, hlen, hpl]
      omega
    · show k.op = (boxP bef L (.tab t)).opened.map _
      rw [m5]
      exact R.op
    · show k.num + 0 = (boxP bef L (.tab t)).starts.length
      rw [m4]
      exact R.num
    · show (lnPs (ps.take (L.done + 1))).length = (boxP bef L (.tab t)).starts.length
      rw [m4, hdl]; exact R.dl
    · show ∀ a q n, (boxP bef L (.tab t)).starts[a]? = some q → (lnPs (ps.take (L.done + 1)))[a]? = some n → _
      rw [m4, hdl]; exact R.tg
    · show ∀ a j, (boxP bef L (.tab t)).starts.length ≤ a → _
      rw [m4]; exact R.tn
    · show ∀ n, n < k.pl + 1 + 1 + t.length → (∀ e ∈ k.en ++ ents (k.pl + 1 + 1) t, e.1 ≠ n) → (boxP bef L (.tab t)).row[n]? = some (putM (putM k.m k.pl 4) (k.pl + 1) (2 + t.length) n)
      rw [m7]
      have := R.row_app (some 4 :: some (2 + t.length) :: List.replicate t.length none) (m' := putM (putM k.m k.pl 4) (k.pl + 1) (2 + t.length)) (fun n hn => by rw [putM_ne (by omega), putM_ne (by omega)]) (fun i hi => by
        rw [hlen] at hi
        match i with
        | 0 =>
          rw [putM_ne (by omega)]
          exact congrArg some (putM_at _ _ _)
        | 1 => exact congrArg some (putM_at _ _ _)
        | i + 2 =>
          rw [putM_ne (by omega), putM_ne (by omega), R.g.new _ (by omega), List.getElem?_cons_succ, List.getElem?_cons_succ, List.getElem?_replicate, if_pos (by omega)])
      rw [hlen] at this
      exact fun n hn he => this n (by omega) fun e h => he e (List.mem_append_left _ h)
    · show ∀ e ∈ k.en ++ ents (k.pl + 1 + 1) t, (e ∈ (boxP bef L (.tab t)).waiting ∧ (boxP bef L (.tab t)).row[e.1]? = some none) ∨ (e.2.1 < (boxP bef L (.tab t)).starts.length ∧ (boxP bef L (.tab t)).row[e.1]? = some (some ((boxP bef L (.tab t)).starts.getD e.2.1 0 + e.2.2)))
      rw [m6, m7, m4, ents_eq]
      intro e he
      rcases List.mem_append.mp he with h | h
      · have := R.ent_app (some 4 :: some (2 + t.length) :: List.replicate t.length none) [] e h
        rw [List.append_nil] at this
        exact this.imp (fun z => ⟨List.mem_append_left _ z.1, z.2⟩) id
      · exact .inl ⟨List.mem_append_right _ h, enew e h⟩
    · show ∀ e ∈ (boxP bef L (.tab t)).waiting, e ∈ k.en ++ ents (k.pl + 1 + 1) t ∧ (boxP bef L (.tab t)).row[e.1]? = some none
      rw [m6, m7, ents_eq]
      intro e he
      rcases List.mem_append.mp he with h | h
      · rw [get_app (R.wl e h)]
        exact ⟨List.mem_append_left _ (R.wt e h).1, (R.wt e h).2⟩
      · exact ⟨List.mem_append_right _ h, enew e h⟩
    · show (L.waiting ++ ents (L.row.length + 2) t).Pairwise _
      rw [List.pairwise_append]
      exact ⟨R.wp, ents_pw _ _, fun a ha b hb => by
        have := R.wl a ha
        have := (ents_mem _ _ b hb).1
        omega⟩
    · show (boxP bef L (.tab t)).cost = rc bef 0 (boxP bef L (.tab t)).row
      rw [m8, m7, rc_append, R.cost, Nat.zero_add]
    · show ∀ e ∈ k.en ++ ents (k.pl + 1 + 1) t, e.2 ∈ tgPs ps
      intro e he
      rcases List.mem_append.mp he with h | h
      · exact R.et e h
      · unfold tgPs
        exact List.mem_flatten.mpr ⟨t, List.mem_map.mpr ⟨.tab t, List.mem_of_getElem? hp, rfl⟩, (ents_mem _ _ e h).2.2⟩
    · show (boxP bef L (.tab t)).opened.Pairwise _
      rw [m5]
      exact R.ow
  | cls =>
    have hdl : lnPs (ps.take (L.done + 1)) = lnPs (ps.take L.done) := by
      rw [take_snoc hp, lnPs_append]
      exact List.append_nil _
    obtain ⟨l1, l2⟩ := hL.last hp
    obtain ⟨o, b, hob⟩ : ∃ o b, L.opened = o ++ [b] := ⟨L.opened.dropLast, L.opened.getLast l1, (List.dropLast_concat_getLast l1).symm⟩
    have e1 : L.opened.getLastD 0 = b := by rw [hob]; exact getLastD_snoc _ _ _
    have e2 : k.op = (o.map fun o => o + 1) ++ [b + 1] := by rw [R.op, hob, List.map_append]; rfl
    have e3 : k.op.getLastD 0 = b + 1 := by rw [e2]; exact getLastD_snoc _ _ _
    rw [e1] at l2
    have hbm : b + 1 ∈ k.op := by rw [e2]; exact List.mem_append_right _ (List.mem_singleton.mpr rfl)
    obtain ⟨z1, z2⟩ := R.g.opm (b + 1) hbm
    have hne : ∀ e ∈ k.en, e.1 ≠ b + 1 := R.g.ope (b + 1) hbm
    have hrow : L.row[b + 1]? = some none := by rw [R.row (b + 1) z1 hne, z2]
    have m7 : (boxP bef L .cls).row = L.row.set (b + 1) (some (L.row.length - b)) := by
      show L.row.set (L.opened.getLastD 0 + 1) (some (L.row.length - L.opened.getLastD 0)) = _
      rw [e1]
    have m8 : (boxP bef L .cls).cost = L.cost + dif bef (b + 1) (L.row.length - b) := by
      show L.cost + dif bef (L.opened.getLastD 0 + 1) (L.row.length - L.opened.getLastD 0) = _
      rw [e1]
    have rset : ∀ n, n ≠ b + 1 → (L.row.set (b + 1) (some (L.row.length - b)))[n]? = L.row[n]? := fun n h => List.getElem?_set_ne (Ne.symm h)
    refine ⟨{ k with m := putM k.m (k.op.getLastD 0) (k.pl - k.op.getLastD 0 + 1), op := k.op.dropLast }, rfl, rfl, ⟨R.g.off, fun n hn => ?_, R.g.enp, fun e he => ?_, R.g.enw, fun x hx => ?_, fun x hx => R.g.ope x (List.dropLast_subset _ hx)⟩, ?_, ?_, R.num, ?_, ?_, R.tn, ?_, ?_, ?_, R.wp, ?_, R.et, ?_⟩
    · show putM _ _ _ n = none
      have hn' : k.pl ≤ n := hn
      rw [e3, putM_ne (by omega)]
      exact R.g.new n hn
    · show putM _ _ _ e.1 = none
      rw [e3, putM_ne (hne e he)]
      exact R.g.enm e he
    · have hx' : x ∈ (o.map fun o => o + 1) := by
        have : x ∈ k.op.dropLast := hx
        rw [e2, List.dropLast_concat] at this
        exact this
      obtain ⟨y1, y2⟩ := R.g.opm x (by rw [e2]; exact List.mem_append_left _ hx')
      refine ⟨y1, ?_⟩
      show putM _ _ _ x = none
      by_cases hxb : x = b + 1
      · exfalso
        obtain ⟨y, hy, rfl⟩ := List.mem_map.mp hx'
        have := (List.pairwise_append.mp (hob ▸ R.ow)).2.2 y hy b (List.mem_singleton.mpr rfl)
        omega
      · rw [e3, putM_ne hxb]
        exact y2
    · show k.pl = (boxP bef L .cls).row.length
      rw [m7, List.length_set]
      exact hpl
    · show k.op.dropLast = L.opened.dropLast.map _
      rw [R.op, List.map_dropLast]
    · show (lnPs (ps.take (L.done + 1))).length = L.starts.length
      rw [hdl]; exact R.dl
    · show ∀ a q n, L.starts[a]? = some q → (lnPs (ps.take (L.done + 1)))[a]? = some n → _
      rw [hdl]; exact R.tg
    · show ∀ n, n < k.pl → _ → (boxP bef L .cls).row[n]? = some (putM _ _ _ n)
      rw [m7, e3]
      intro n hn he
      by_cases h : n = b + 1
      · subst h
        rw [putM_at, List.getElem?_set_self (by omega), show k.pl - (b + 1) + 1 = L.row.length - b by omega]
      · rw [rset n h, putM_ne h]
        exact R.row n hn he
    · show ∀ e ∈ k.en, (e ∈ L.waiting ∧ (boxP bef L .cls).row[e.1]? = some none) ∨ (e.2.1 < L.starts.length ∧ (boxP bef L .cls).row[e.1]? = some (some (L.starts.getD e.2.1 0 + e.2.2)))
      rw [m7]
      intro e he
      rw [rset _ (hne e he)]
      exact R.ent e he
    · show ∀ e ∈ L.waiting, e ∈ k.en ∧ (boxP bef L .cls).row[e.1]? = some none
      rw [m7]
      intro e he
      rw [rset _ (hne e (R.wt e he).1)]
      exact R.wt e he
    · show (boxP bef L .cls).cost = rc bef 0 (boxP bef L .cls).row
      rw [m8, m7, rc_set _ _ _ _ hrow, R.cost, Nat.zero_add]
    · show L.opened.dropLast.Pairwise _
      rw [hob, List.dropLast_concat]
      exact (List.pairwise_append.mp (hob ▸ R.ow)).1
end
end Bx

namespace Bx
section
variable {bef : List Nat} {ps : List Pt} {L : Lay} {k : Kst}
theorem wts_mem {n : Nat} {l : List (Nat × (Nat × Nat))} {e : Nat × (Nat × Nat)} : e ∈ wts n l ↔ e ∈ l ∧ ¬ e.2.1 < n := by
  unfold wts
  rw [List.mem_filter]
  simp
theorem stl_off (sts : List Nat) : ∀ (es : List (Nat × (Nat × Nat))) (L : Lay) (n : Nat), (∀ e ∈ es, e.1 ≠ n) → (stl bef sts es L).row[n]? = L.row[n]?
  | [], _, _, _ => rfl
  | e :: r, L, n, h => by
    rw [stl, stl_off sts r _ n fun x hx => h x (List.mem_cons_of_mem _ hx)]
    by_cases hc : e.2.1 < sts.length
    · rw [if_pos hc]
      exact List.getElem?_set_ne (h e List.mem_cons_self)
    · rw [if_neg hc]
theorem stl_on (sts : List Nat) : ∀ (es : List (Nat × (Nat × Nat))) (L : Lay), (es.Pairwise fun a b => a.1 < b.1) → (∀ e ∈ es, e.1 < L.row.length) → ∀ e ∈ es, (stl bef sts es L).row[e.1]? = if e.2.1 < sts.length then some (some (sts.getD e.2.1 0 + e.2.2)) else L.row[e.1]?
  | [], _, _, _, _, h => absurd h List.not_mem_nil
  | x :: r, L, hp, hl, e, h => by
    rw [stl]
    cases hp with
    | cons h1 h2 =>
      rcases List.mem_cons.mp h with rfl | h
      · rw [stl_off sts r _ e.1 fun y hy => Nat.ne_of_gt (h1 y hy)]
        by_cases hc : e.2.1 < sts.length
        · rw [if_pos hc, if_pos hc]
          exact List.getElem?_set_self (hl e List.mem_cons_self)
        · rw [if_neg hc, if_neg hc]
      · rw [stl_on sts r _ h2 (fun y hy => ?_) e h]
        · have hne : x.1 ≠ e.1 := Nat.ne_of_lt (h1 e h)
          by_cases hc : x.2.1 < sts.length
          · rw [if_pos hc]
            show (if _ then _ else (L.row.set x.1 _)[e.1]?) = _
            rw [List.getElem?_set_ne hne]
          · rw [if_neg hc]
        · have := hl y (List.mem_cons_of_mem _ hy)
          by_cases hc : x.2.1 < sts.length
          · rw [if_pos hc]
            show y.1 < (L.row.set x.1 _).length
            rw [List.length_set]
            exact this
          · rw [if_neg hc]
            exact this
theorem stl_cost (sts : List Nat) : ∀ (es : List (Nat × (Nat × Nat))) (L : Lay), (es.Pairwise fun a b => a.1 < b.1) → (∀ e ∈ es, L.row[e.1]? = some none) → L.cost = rc bef 0 L.row → (stl bef sts es L).cost = rc bef 0 (stl bef sts es L).row
  | [], _, _, _, h => h
  | x :: r, L, hp, hn, h => by
    rw [stl]
    cases hp with
    | cons h1 h2 =>
      refine stl_cost sts r _ h2 (fun y hy => ?_) ?_
      · have := hn y (List.mem_cons_of_mem _ hy)
        by_cases hc : x.2.1 < sts.length
        · rw [if_pos hc]
          show (L.row.set x.1 _)[y.1]? = _
          rw [List.getElem?_set_ne (Nat.ne_of_lt (h1 y hy))]
          exact this
        · rw [if_neg hc]
          exact this
      · by_cases hc : x.2.1 < sts.length
        · rw [if_pos hc]
          show L.cost + dif bef x.1 _ = rc bef 0 (L.row.set x.1 _)
          rw [rc_set _ _ _ _ (hn x List.mem_cons_self), h, Nat.zero_add]
        · rw [if_neg hc]
          exact h
/-- every target that has a place is written -/
def Std (L : Lay) : Prop := ∀ e ∈ L.waiting, ¬ e.2.1 < L.starts.length
theorem Rel.settle (R : Rel bef ps L k) : Rel bef ps (Bx.settle bef L) k ∧ Std (Bx.settle bef L) := by
  obtain ⟨o1, o2, o3, o4, o5, o6⟩ := stl_oth (bef := bef) L.starts L.waiting L
  have m1 : (Bx.settle bef L).done = L.done := o1
  have m4 : (Bx.settle bef L).starts = L.starts := o4
  have m5 : (Bx.settle bef L).opened = L.opened := o5
  have m6 : (Bx.settle bef L).waiting = wts L.starts.length L.waiting := rfl
  have m7 : (Bx.settle bef L).row = (stl bef L.starts L.waiting L).row := rfl
  have hlen : (Bx.settle bef L).row.length = L.row.length := stl_row_len _ _ _
  have hon := stl_on (bef := bef) L.starts L.waiting L R.wp R.wl
  have hS : Std (Bx.settle bef L) := fun e he => by
    rw [m4]
    rw [m6] at he
    exact (wts_mem.mp he).2
  refine ⟨⟨R.g, by rw [hlen]; exact R.pl, by rw [m5]; exact R.op, by rw [m4]; exact R.num, by rw [m1, m4]; exact R.dl, by rw [m1, m4]; exact R.tg, by rw [m4]; exact R.tn, ?_, ?_, ?_, ?_, ?_, R.et, by rw [m5]; exact R.ow⟩, hS⟩
  · intro n hn he
    rw [m7, stl_off _ _ _ n fun e h => he e (R.wt e h).1]
    exact R.row n hn he
  · intro e he
    rw [m4, m6, m7]
    by_cases hw : e ∈ L.waiting
    · rw [hon e hw]
      by_cases hc : e.2.1 < L.starts.length
      · rw [if_pos hc]
        exact .inr ⟨hc, rfl⟩
      · rw [if_neg hc]
        exact .inl ⟨wts_mem.mpr ⟨hw, hc⟩, (R.wt e hw).2⟩
    · rcases R.ent e he with h | h
      · exact absurd h.1 hw
      · refine .inr ⟨h.1, ?_⟩
        rw [stl_off _ _ _ e.1 fun x hx z => ?_]
        · exact h.2
        · have := (R.wt x hx).2
          rw [z, h.2] at this
          cases this
  · intro e he
    rw [m6] at he
    obtain ⟨h1, h2⟩ := wts_mem.mp he
    refine ⟨(R.wt e h1).1, ?_⟩
    rw [m7, hon e h1, if_neg h2]
    exact (R.wt e h1).2
  · rw [m6]
    exact R.wp.sublist List.filter_sublist
  · exact stl_cost L.starts L.waiting L R.wp (fun e he => (R.wt e he).2) R.cost
theorem Rel.adv : ∀ (n : Nat) (L : Lay) (k : Kst), ps.length - L.done = n → LOk ps L → Rel bef ps L k → ∃ k', runK bef (tkPs (ps.drop L.done)) k = runK bef (tkPs (ps.drop (Bx.adv bef (ps.drop L.done) L).done)) k' ∧ k'.rest = k.rest ∧ Rel bef ps (Bx.adv bef (ps.drop L.done) L) k'
  | n, L, k, hn, h, R => by
    by_cases hd : L.done < ps.length
    · cases hp : ps[L.done]? with
      | none => exact absurd hp (by rw [List.getElem?_eq_getElem hd]; exact fun z => nomatch z)
      | some p =>
        cases hg : isGap p with
        | true =>
          rw [adv_gap hp hg]
          exact ⟨k, rfl, rfl, R⟩
        | false =>
          rw [adv_step hp hg]
          cases n with
          | zero => omega
          | succ n =>
            obtain ⟨k1, a1, a2, a3⟩ := R.step h hp hg (tkPs (ps.drop (L.done + 1)))
            obtain ⟨k2, b1, b2, b3⟩ := Rel.adv n (stepP bef L p) k1 (by show ps.length - (L.done + 1) = n; omega) (h.step hp hg) a3
            refine ⟨k2, ?_, b2.trans a2, b3⟩
            rw [drop_at hp, tkPs, a1]
            exact b1
    · have := h.dn
      have e : L.done = ps.length := by omega
      rw [adv_end e]
      exact ⟨k, rfl, rfl, R⟩
theorem Rel.with {gs : List Nat} (h : LIn ps gs L) {g : Nat} (hn : gs.length < nG ps) (hg : g = 0 ∨ 2 ≤ g) (hz : pcl ps + gs.sum + g ≤ 900) {q : List Nat} (R : Rel bef ps L k) (hr : k.rest = g :: q) :
    ∃ k', runK bef (tkPs (ps.drop L.done)) k = runK bef (tkPs (ps.drop (withGap bef ps L g).done)) k' ∧ k'.rest = q ∧ Rel bef ps (withGap bef ps L g) k' ∧ Std (withGap bef ps L g) := by
  have hp := h.gap hn
  have hsz := h.sz
  have ok1 := h.ok.gapL (bef := bef) hp hg (by omega)
  obtain ⟨_, i2, _⟩ := gapL_inv (bef := bef) L hg
  have R1 := R.gap hp hr hg
  obtain ⟨k2, b1, b2, b3⟩ := Rel.adv _ (gapL bef L g) _ rfl ok1 R1
  obtain ⟨c1, c2⟩ := b3.settle
  refine ⟨k2, ?_, b2, c1, c2⟩
  have e1 : (withGap bef ps L g).done = (Bx.adv bef (ps.drop (gapL bef L g).done) (gapL bef L g)).done := (stl_oth _ _ _).1
  rw [e1, ← b1, i2, drop_at hp, tkPs]
  show runK bef (Tok.gap :: tkPs (ps.drop (L.done + 1))) k = _
  have es : stp1 bef k .gap = some { k with m := fillG bef k.m k.pl g g, pl := k.pl + g, rest := q } := by
    unfold stp1
    dsimp only
    rw [hr]
  rw [runK, es]
theorem Rel.nil (gs : List Nat) : Rel bef ps lay0 (kn0 gs) ∧ Std lay0 := ⟨⟨.nil gs, rfl, rfl, rfl, rfl, fun _ _ _ h => (nomatch h), fun _ _ _ => rfl, fun _ h => absurd h (Nat.not_lt_zero _), fun _ h => absurd h List.not_mem_nil, fun _ h => absurd h List.not_mem_nil, .nil, rfl, fun _ h => absurd h List.not_mem_nil, .nil⟩, fun _ h => absurd h List.not_mem_nil⟩
theorem layF_rel {ss : List Sh} (hb : (allL ss).length ≤ 100) (gs : List Nat) (hg : ∀ g ∈ gs, g = 0 ∨ 2 ≤ g) (hl : lnL ss + gs.sum ≤ 800) (hn : gs.length ≤ gpL ss) : ∀ (i : Nat), i ≤ gs.length → ∃ k, knR bef ss gs = runK bef (tkPs ((ptL ss).drop (layF bef (ptL ss) (gs.take i)).done)) k ∧ k.rest = gs.drop i ∧ Rel bef (ptL ss) (layF bef (ptL ss) (gs.take i)) k ∧ Std (layF bef (ptL ss) (gs.take i))
  | 0, _ => by
    rw [List.take_zero]
    refine ⟨kn0 gs, ?_, rfl, (Rel.nil gs).1, (Rel.nil (ps := ptL ss) (bef := bef) gs).2⟩
    unfold knR
    rw [tkP_L]
    rfl
  | i + 1, hi => by
    obtain ⟨k, a1, a2, a3, a4⟩ := layF_rel hb gs hg hl hn i (by omega)
    have I := layF_in (bef := bef) (ss := ss) hb gs hg hl i (by omega) hn
    have hx : gs[i]? = some gs[i] := List.getElem?_eq_getElem (by omega)
    rw [take_snoc hx, layF_snoc]
    have s1 := sum_take gs (i + 1)
    rw [take_snoc hx, List.sum_append] at s1
    simp at s1
    obtain ⟨k', b1, b2, b3, b4⟩ := a3.with I (g := gs[i]) (q := gs.drop (i + 1)) (by rw [nG_L, List.length_take]; omega) (hg _ (List.getElem_mem _)) (by rw [pcl_L]; omega) (by rw [a2, drop_at hx])
    exact ⟨k', a1.trans b1, b2, b3, b4⟩
/-- what the program has laid is what the law's writer knows -/
theorem lay_kn {ss : List Sh} (hO : OkS ss) {gs : List Nat} (hg : ∀ g ∈ gs, g = 0 ∨ 2 ≤ g) (hl : lnL ss + gs.sum ≤ 800) (hn : gs.length ≤ gpL ss) :
    (layF bef (ptL ss) gs).row.length = (knR bef ss gs).pl ∧ (∀ n, n < (knR bef ss gs).pl → (layF bef (ptL ss) gs).row[n]? = some (knM bef ss gs n)) ∧ (∀ n, (knR bef ss gs).pl ≤ n → knM bef ss gs n = none) ∧ (layF bef (ptL ss) gs).cost = rc bef 0 (layF bef (ptL ss) gs).row := by
  have hb := hO.nb
  obtain ⟨k, a1, a2, R, S⟩ := layF_rel (bef := bef) (ss := ss) (by omega) gs hg hl hn gs.length (Nat.le_refl _)
  have I := layF_in (bef := bef) (ss := ss) (by omega) gs hg hl gs.length (Nat.le_refl _) hn
  rw [List.take_length] at a1 R S I
  rw [List.drop_length] at a2
  have ek : knR bef ss gs = k := by
    rw [a1]
    rcases I.at_ with z | z
    · rw [z, List.drop_length, tkPs, runK]
    · rw [drop_at z, tkPs]
      show runK bef (Tok.gap :: _) k = k
      have es : stp1 bef k .gap = none := by
        unfold stp1
        dsimp only
        rw [a2]
      rw [runK, es]
  have hM : ∀ n, (∀ e ∈ k.en, e.1 ≠ n) → knM bef ss gs n = k.m n := fun n he => by
    unfold knM
    rw [ek]
    exact fin_off _ _ _ _ he
  have hE : ∀ e ∈ k.en, knM bef ss gs e.1 = k.tg e.2 := fun e he => by
    unfold knM
    rw [ek]
    exact fin_on _ _ _ R.g.enw R.g.enm e he
  rw [ek]
  refine ⟨R.pl.symm, fun n hn => ?_, fun n hn => ?_, R.cost⟩
  · by_cases he : ∃ e ∈ k.en, e.1 = n
    · obtain ⟨e, he, rfl⟩ := he
      rw [hE e he]
      rcases R.ent e he with ⟨h1, h2⟩ | ⟨h1, h2⟩
      · rw [h2, R.tn e.2.1 e.2.2 (Nat.le_of_not_lt (S e h1))]
      · rw [h2]
        have ht := R.et e he
        rw [tgP_L] at ht
        obtain ⟨m, hm, hlt⟩ := hO.tg _ ht
        rw [← lnP_L, ← List.take_append_drop (layF bef (ptL ss) gs).done (ptL ss), lnPs_append, get_app (by rw [R.dl]; exact h1)] at hm
        have hs : (layF bef (ptL ss) gs).starts[e.2.1]? = some ((layF bef (ptL ss) gs).starts.getD e.2.1 0) := by
          rw [List.getD_eq_getElem?_getD, List.getElem?_eq_getElem h1]
          rfl
        have := R.tg e.2.1 _ m hs hm e.2.2 hlt
        exact (congrArg some this).symm
    · have he' : ∀ e ∈ k.en, e.1 ≠ n := fun e h z => he ⟨e, h, z⟩
      rw [hM n he']
      exact R.row n hn he'
  · rw [hM n fun e he z => ?_]
    · exact R.g.new n hn
    · have := R.g.enp e he
      omega
end
end Bx

namespace Bx
mutual
def bg1 : Sh → List Nat → Nat → List Nat
  | .dat _, gs, p => [p + hdg gs]
  | .tab _, gs, p => [p + hdg gs]
  | .grp ks, gs, p => (p + hdg gs) :: bgL ks gs.tail (p + hdg gs + 2)
def bgL : List Sh → List Nat → Nat → List Nat
  | [], _, _ => []
  | s :: r, gs, p => bg1 s gs p ++ bgL r (gs.drop (gp1 s)) (p + ln1 s + (gs.take (gp1 s)).sum)
end
def bgP : List Pt → List Nat → Nat → List Nat
  | [], _, _ => []
  | .gap :: r, gs, p => bgP r gs.tail (p + hdg gs)
  | .cls :: r, gs, p => bgP r gs p
  | .opn :: r, gs, p => p :: bgP r gs (p + 2)
  | .dat c :: r, gs, p => p :: bgP r gs (p + (2 + c.length))
  | .tab t :: r, gs, p => p :: bgP r gs (p + (2 + t.length))
theorem drop_tail {gs : List Nat} (n : Nat) : gs.tail.drop n = gs.drop (1 + n) := by
  cases gs with
  | nil => rw [List.tail_nil, List.drop_nil, List.drop_nil]
  | cons a r => rw [List.tail_cons, Nat.add_comm, List.drop_succ_cons]
mutual
theorem bgP_1 : ∀ (s : Sh) (r : List Pt) (gs : List Nat) (p : Nat), gp1 s ≤ gs.length → bgP (pt1 s ++ r) gs p = bg1 s gs p ++ bgP r (gs.drop (gp1 s)) (p + ln1 s + (gs.take (gp1 s)).sum)
  | .dat c, r, gs, p, h => by
    rw [gp1] at h
    rw [pt1, bg1, gp1, ln1, take_one_sum h]
    show bgP (.gap :: .dat c :: r) gs p = _
    rw [bgP, bgP, List.drop_one, show p + hdg gs + (2 + c.length) = p + (2 + c.length) + hdg gs by omega]
    rfl
  | .tab c, r, gs, p, h => by
    rw [gp1] at h
    rw [pt1, bg1, gp1, ln1, take_one_sum h]
    show bgP (.gap :: .tab c :: r) gs p = _
    rw [bgP, bgP, List.drop_one, show p + hdg gs + (2 + c.length) = p + (2 + c.length) + hdg gs by omega]
    rfl
  | .grp ks, r, gs, p, h => by
    rw [gp1] at h
    have h1 : 1 ≤ gs.length := by omega
    have ht : gpL ks ≤ gs.tail.length := by rw [List.length_tail]; omega
    rw [pt1, bg1, gp1, ln1, take_tail h1]
    show bgP (.gap :: .opn :: (ptL ks ++ [.cls] ++ r)) gs p = _
    rw [bgP, bgP, List.append_assoc, bgP_L ks _ _ _ ht]
    show _ :: (bgL ks gs.tail (p + hdg gs + 2) ++ bgP (.cls :: r) _ _) = _
    rw [bgP, drop_tail, List.cons_append, show p + hdg gs + 2 + lnL ks + (gs.tail.take (gpL ks)).sum = p + (2 + lnL ks) + (hdg gs + (gs.tail.take (gpL ks)).sum) by omega]
theorem bgP_L : ∀ (l : List Sh) (r : List Pt) (gs : List Nat) (p : Nat), gpL l ≤ gs.length → bgP (ptL l ++ r) gs p = bgL l gs p ++ bgP r (gs.drop (gpL l)) (p + lnL l + (gs.take (gpL l)).sum)
  | [], r, gs, p, h => by
    rw [gpL] at h
    rw [ptL, bgL, gpL, lnL, take_one_sum h]
    show bgP (.gap :: r) gs p = _
    rw [bgP, List.drop_one]
    rfl
  | s :: q, r, gs, p, h => by
    rw [gpL] at h
    have h2 : gpL q ≤ (gs.drop (gp1 s)).length := by rw [List.length_drop]; omega
    rw [ptL, bgL, gpL, lnL, List.append_assoc, bgP_1 s _ _ _ (by omega), bgP_L q _ _ _ h2, List.append_assoc, List.drop_drop, take_sum_add, show p + ln1 s + (gs.take (gp1 s)).sum + lnL q + ((gs.drop (gp1 s)).take (gpL q)).sum = p + (ln1 s + lnL q) + ((gs.take (gp1 s)).sum + ((gs.drop (gp1 s)).take (gpL q)).sum) by omega]
end
section
variable {bef : List Nat} {ps : List Pt} {L : Lay} {k : Kst}
theorem bg_step {p : Pt} (hp : ps[L.done]? = some p) (hg : isGap p = false) (q : List Nat) : (stepP bef L p).begins ++ bgP (ps.drop (stepP bef L p).done) q (stepP bef L p).row.length = L.begins ++ bgP (ps.drop L.done) q L.row.length := by
  rw [show (stepP bef L p).done = L.done + 1 from rfl, drop_at hp]
  cases p with
  | gap => cases hg
  | opn =>
    obtain ⟨o1, o2, o3, o4, o5, o6⟩ := putC_oth (bef := bef) [some 1, none] { L with begins := L.begins ++ [L.row.length], opened := L.opened ++ [L.row.length] }
    have m7 : (boxP bef L .opn).row = L.row ++ [some 1, none] := putC_row _ _
    show (boxP bef L .opn).begins ++ bgP _ q (boxP bef L .opn).row.length = _
    rw [show (boxP bef L .opn).begins = L.begins ++ [L.row.length] from o3, m7, bgP, List.append_assoc, List.length_append]
    rfl
  | dat c =>
    obtain ⟨o1, o2, o3, o4, o5, o6⟩ := putC_oth (bef := bef) (some 2 :: some (2 + c.length) :: c.map some) { L with begins := L.begins ++ [L.row.length], starts := L.starts ++ [L.row.length + 2] }
    have m7 : (boxP bef L (.dat c)).row = L.row ++ (some 2 :: some (2 + c.length) :: c.map some) := putC_row _ _
    show (boxP bef L (.dat c)).begins ++ bgP _ q (boxP bef L (.dat c)).row.length = _
    rw [show (boxP bef L (.dat c)).begins = L.begins ++ [L.row.length] from o3, m7, bgP, List.append_assoc, List.length_append, List.length_cons, List.length_cons, List.length_map, show c.length + 1 + 1 = 2 + c.length by omega]
    rfl
  | tab t =>
    obtain ⟨o1, o2, o3, o4, o5, o6⟩ := putC_oth (bef := bef) (some 4 :: some (2 + t.length) :: List.replicate t.length none) { L with begins := L.begins ++ [L.row.length] }
    have m7 : (boxP bef L (.tab t)).row = L.row ++ (some 4 :: some (2 + t.length) :: List.replicate t.length none) := putC_row (bef := bef) (some 4 :: some (2 + t.length) :: List.replicate t.length none) { L with begins := L.begins ++ [L.row.length] }
    show (boxP bef L (.tab t)).begins ++ bgP _ q (boxP bef L (.tab t)).row.length = _
    rw [show (boxP bef L (.tab t)).begins = L.begins ++ [L.row.length] from o3, m7, bgP, List.append_assoc, List.length_append, List.length_cons, List.length_cons, List.length_replicate, show t.length + 1 + 1 = 2 + t.length by omega]
    rfl
  | cls =>
    have e : (boxP bef L .cls).row.length = L.row.length := List.length_set
    show L.begins ++ bgP _ q (boxP bef L .cls).row.length = _
    rw [e, bgP]
theorem bg_adv (q : List Nat) : ∀ (n : Nat) (L : Lay), ps.length - L.done = n → L.done ≤ ps.length → (adv bef (ps.drop L.done) L).begins ++ bgP (ps.drop (adv bef (ps.drop L.done) L).done) q (adv bef (ps.drop L.done) L).row.length = L.begins ++ bgP (ps.drop L.done) q L.row.length
  | n, L, hn, h => by
    by_cases hd : L.done < ps.length
    · cases hp : ps[L.done]? with
      | none => exact absurd hp (by rw [List.getElem?_eq_getElem hd]; exact fun z => nomatch z)
      | some p =>
        cases hg : isGap p with
        | true => rw [adv_gap hp hg]
        | false =>
          rw [adv_step hp hg]
          cases n with
          | zero => omega
          | succ n => rw [bg_adv q n (stepP bef L p) (by show ps.length - (L.done + 1) = n; omega) hd, bg_step hp hg]
    · rw [adv_end (show L.done = ps.length by omega)]
theorem bg_with {gs : List Nat} (h : LIn ps gs L) {g : Nat} (hn : gs.length < nG ps) (hg : g = 0 ∨ 2 ≤ g) (q : List Nat) : (withGap bef ps L g).begins ++ bgP (ps.drop (withGap bef ps L g).done) q (withGap bef ps L g).row.length = L.begins ++ bgP (ps.drop L.done) (g :: q) L.row.length := by
  have hp := h.gap hn
  have hi := mul_list hp
  obtain ⟨i1, i2, _⟩ := gapL_inv (bef := bef) L hg
  have ib : (gapL bef L g).begins = L.begins := by
    unfold gapL
    by_cases h0 : 0 < g
    · rw [if_pos h0]
      obtain ⟨_, _, a, _⟩ := putC_oth (bef := bef) ((kept bef (L.row.length + 2) (g - 2)).map some) (putC bef { L with gaps := L.gaps ++ [g], done := L.done + 1 } [some 3, some g])
      obtain ⟨_, _, b, _⟩ := putC_oth (bef := bef) [some 3, some g] { L with gaps := L.gaps ++ [g], done := L.done + 1 }
      exact a.trans b
    · rw [if_neg h0]
  have e1 : ∀ M : Lay, (settle bef M).done = M.done := fun M => (stl_oth _ _ _).1
  have e2 : ∀ M : Lay, (settle bef M).begins = M.begins := fun M => (stl_oth _ _ _).2.2.1
  have e3 : ∀ M : Lay, (settle bef M).row.length = M.row.length := fun M => stl_row_len _ _ _
  unfold withGap goOn
  rw [e1, e2, e3, bg_adv q _ (gapL bef L g) rfl (by rw [i2]; omega), ib, i1, i2, drop_at hp, bgP]
  rfl
theorem layF_bg {ss : List Sh} (hb : (allL ss).length ≤ 100) (gs : List Nat) (hg : ∀ g ∈ gs, g = 0 ∨ 2 ≤ g) (hl : lnL ss + gs.sum ≤ 800) (hn : gs.length ≤ gpL ss) : ∀ (i : Nat), i ≤ gs.length → (layF bef (ptL ss) (gs.take i)).begins ++ bgP ((ptL ss).drop (layF bef (ptL ss) (gs.take i)).done) (gs.drop i) (layF bef (ptL ss) (gs.take i)).row.length = bgP (ptL ss) gs 0
  | 0, _ => by
    rw [List.take_zero]
    rfl
  | i + 1, hi => by
    have ih := layF_bg hb gs hg hl hn i (by omega)
    have I := layF_in (bef := bef) (ss := ss) hb gs hg hl i (by omega) hn
    have hx : gs[i]? = some gs[i] := List.getElem?_eq_getElem (by omega)
    rw [take_snoc hx, layF_snoc, bg_with I (by rw [nG_L, List.length_take]; omega) (hg _ (List.getElem_mem _)), ← drop_at hx, ih]
theorem lay_bg {ss : List Sh} (hb : (allL ss).length ≤ 100) {gs : List Nat} (hg : ∀ g ∈ gs, g = 0 ∨ 2 ≤ g) (hl : lnL ss + gs.sum ≤ 800) (hn : gs.length = gpL ss) : (layF bef (ptL ss) gs).begins = bgL ss gs 0 := by
  have a := layF_bg (bef := bef) hb gs hg hl (Nat.le_of_eq hn) gs.length (Nat.le_refl _)
  have I := layF_in (bef := bef) (ss := ss) hb gs hg hl gs.length (Nat.le_refl _) (Nat.le_of_eq hn)
  rw [List.take_length] at a I
  have hd := I.whole.mpr (by rw [nG_L]; exact hn)
  rw [hd, List.drop_length, bgP, List.append_nil] at a
  have b := bgP_L ss [] gs 0 (Nat.le_of_eq hn.symm)
  rw [List.append_nil, bgP, List.append_nil] at b
  exact a.trans b
end
end Bx

namespace Bx
/-- what is known stays -/
def LeR (a b : List (Option Nat)) : Prop := ∀ n v : Nat, a[n]? = some (some v) → b[n]? = some (some v)
theorem LeR.refl (a : List (Option Nat)) : LeR a a := fun _ _ h => h
theorem LeR.trans {a b c : List (Option Nat)} (x : LeR a b) (y : LeR b c) : LeR a c := fun n v h => y n v (x n v h)
theorem LeR.app (a b : List (Option Nat)) : LeR a (a ++ b) := fun n v h => by rw [get_app (getM_lt h)]; exact h
theorem LeR.set {a : List (Option Nat)} {i : Nat} {c : Nat} (h : a[i]? = some none) : LeR a (a.set i (some c)) := fun n v hn => by
  have : i ≠ n := fun z => by rw [z, hn] at h; cases h
  rw [List.getElem?_set_ne this]
  exact hn
section
variable {bef : List Nat} {ps : List Pt} {L : Lay} {k : Kst}
theorem LeR.step (R : Rel bef ps L k) (hL : LOk ps L) {p : Pt} (hp : ps[L.done]? = some p) (hg : isGap p = false) : LeR L.row (stepP bef L p).row := by
  cases p with
  | gap => cases hg
  | opn =>
    have m7 : (boxP bef L .opn).row = L.row ++ [some 1, none] := putC_row _ _
    show LeR _ (boxP bef L .opn).row
    rw [m7]
    exact .app _ _
  | dat c =>
    have m7 : (boxP bef L (.dat c)).row = L.row ++ (some 2 :: some (2 + c.length) :: c.map some) := putC_row _ _
    show LeR _ (boxP bef L (.dat c)).row
    rw [m7]
    exact .app _ _
  | tab t =>
    have m7 : (boxP bef L (.tab t)).row = L.row ++ (some 4 :: some (2 + t.length) :: List.replicate t.length none) := putC_row (bef := bef) (some 4 :: some (2 + t.length) :: List.replicate t.length none) { L with begins := L.begins ++ [L.row.length] }
    show LeR _ (boxP bef L (.tab t)).row
    rw [m7]
    exact .app _ _
  | cls =>
    obtain ⟨l1, l2⟩ := hL.last hp
    obtain ⟨o, b, hob⟩ : ∃ o b, L.opened = o ++ [b] := ⟨L.opened.dropLast, L.opened.getLast l1, (List.dropLast_concat_getLast l1).symm⟩
    have e1 : L.opened.getLastD 0 = b := by rw [hob]; exact getLastD_snoc _ _ _
    have hbm : b + 1 ∈ k.op := by rw [R.op, hob, List.map_append]; exact List.mem_append_right _ (List.mem_singleton.mpr rfl)
    obtain ⟨z1, z2⟩ := R.g.opm (b + 1) hbm
    have hrow : L.row[b + 1]? = some none := by rw [R.row (b + 1) z1 (R.g.ope (b + 1) hbm), z2]
    show LeR L.row (L.row.set (L.opened.getLastD 0 + 1) (some (L.row.length - L.opened.getLastD 0)))
    rw [e1]
    exact .set hrow
theorem LeR.settle (R : Rel bef ps L k) : LeR L.row (Bx.settle bef L).row := fun n v h => by
  show (stl bef L.starts L.waiting L).row[n]? = _
  rw [stl_off _ _ _ n fun e he z => ?_]
  · exact h
  · have := (R.wt e he).2
    rw [z, h] at this
    cases this
theorem LeR.adv : ∀ (n : Nat) (L : Lay) (k : Kst), ps.length - L.done = n → LOk ps L → Rel bef ps L k → LeR L.row (Bx.adv bef (ps.drop L.done) L).row
  | n, L, k, hn, h, R => by
    by_cases hd : L.done < ps.length
    · cases hp : ps[L.done]? with
      | none => exact absurd hp (by rw [List.getElem?_eq_getElem hd]; exact fun z => nomatch z)
      | some p =>
        cases hg : isGap p with
        | true =>
          rw [adv_gap hp hg]
          exact .refl _
        | false =>
          rw [adv_step hp hg]
          cases n with
          | zero => omega
          | succ n =>
            obtain ⟨k1, a1, a2, a3⟩ := R.step h hp hg []
            exact (LeR.step R h hp hg).trans (LeR.adv n (stepP bef L p) k1 (by show ps.length - (L.done + 1) = n; omega) (h.step hp hg) a3)
    · have := h.dn
      rw [adv_end (show L.done = ps.length by omega)]
      exact .refl _
theorem gapL_row (L : Lay) {g : Nat} (h : 0 < g) : (gapL bef L g).row = L.row ++ (some 3 :: some g :: (kept bef (L.row.length + 2) (g - 2)).map some) := by
  unfold gapL
  rw [if_pos h]
  show (putC bef (putC bef { L with gaps := L.gaps ++ [g], done := L.done + 1 } [some 3, some g]) ((kept bef (L.row.length + 2) (g - 2)).map some)).row = _
  rw [putC_row, putC_row, List.append_assoc]
  rfl
theorem LeR.gap (L : Lay) (g : Nat) : LeR L.row (gapL bef L g).row := by
  by_cases h : 0 < g
  · rw [gapL_row _ h]
    exact .app _ _
  · unfold gapL
    rw [if_neg h]
    exact .refl _
theorem LeR.with {gs : List Nat} (h : LIn ps gs L) {g : Nat} (hn : gs.length < nG ps) (hg : g = 0 ∨ 2 ≤ g) (hz : pcl ps + gs.sum + g ≤ 900) {q : List Nat} (R : Rel bef ps L k) (hr : k.rest = g :: q) : LeR (gapL bef L g).row (withGap bef ps L g).row := by
  have hp := h.gap hn
  have hsz := h.sz
  have ok1 := h.ok.gapL (bef := bef) hp hg (by omega)
  have R1 := R.gap hp hr hg
  obtain ⟨k2, b1, b2, b3⟩ := Rel.adv _ (gapL bef L g) _ rfl ok1 R1
  exact (LeR.adv _ (gapL bef L g) _ rfl ok1 R1).trans (LeR.settle b3)
theorem layF_le {ss : List Sh} (hb : (allL ss).length ≤ 100) (gs : List Nat) (hg : ∀ g ∈ gs, g = 0 ∨ 2 ≤ g) (hl : lnL ss + gs.sum ≤ 800) (hn : gs.length ≤ gpL ss) {i : Nat} {g : Nat} (hx : gs[i]? = some g) : LeR (gapL bef (layF bef (ptL ss) (gs.take i)) g).row (layF bef (ptL ss) (gs.take (i + 1))).row := by
  have hi := mul_list hx
  obtain ⟨k, a1, a2, a3, a4⟩ := layF_rel (bef := bef) hb gs hg hl hn i (by omega)
  have I := layF_in (bef := bef) (ss := ss) hb gs hg hl i (by omega) hn
  have s1 := sum_take gs (i + 1)
  rw [take_snoc hx, List.sum_append] at s1
  simp at s1
  rw [take_snoc hx, layF_snoc]
  exact LeR.with I (q := gs.drop (i + 1)) (by rw [nG_L, List.length_take]; omega) (hg _ (List.mem_of_getElem? hx)) (by rw [pcl_L]; omega) a3 (by rw [a2, drop_at hx])
theorem layF_leN {ss : List Sh} (hb : (allL ss).length ≤ 100) (gs : List Nat) (hg : ∀ g ∈ gs, g = 0 ∨ 2 ≤ g) (hl : lnL ss + gs.sum ≤ 800) (hn : gs.length ≤ gpL ss) : ∀ (n i : Nat), i + n = gs.length → LeR (layF bef (ptL ss) (gs.take i)).row (layF bef (ptL ss) gs).row
  | 0, i, h => by
    rw [show i = gs.length by omega, List.take_length]
    exact .refl _
  | n + 1, i, h => by
    have hx : gs[i]? = some gs[i] := List.getElem?_eq_getElem (by omega)
    exact (LeR.gap _ _).trans ((layF_le hb gs hg hl hn hx).trans (layF_leN hb gs hg hl hn n (i + 1) (by omega)))
def nc (L : Lay) : Lay := { L with cost := 0 }
theorem nc_putO (b : List Nat) (L : Lay) (c : Option Nat) : nc (putO b L c) = nc (putO [] (nc L) c) := by cases c <;> rfl
theorem nc_putC (b : List Nat) : ∀ (cs : List (Option Nat)) (L : Lay), nc (putC b L cs) = nc (putC [] (nc L) cs)
  | [], _ => rfl
  | c :: r, L => by
    show nc (putC b (putO b L c) r) = nc (putC [] (putO [] (nc L) c) r)
    rw [nc_putC b r (putO b L c), nc_putC [] r (putO [] (nc L) c), nc_putO b L c]
theorem nc_boxP (b : List Nat) (L : Lay) (p : Pt) : nc (boxP b L p) = nc (boxP [] (nc L) p) := by
  cases p with
  | gap => rfl
  | cls => rfl
  | opn => exact nc_putC b _ _
  | dat c => exact nc_putC b _ _
  | tab t =>
    have := nc_putC b (some 4 :: some (2 + t.length) :: List.replicate t.length none) { L with begins := L.begins ++ [L.row.length] }
    exact congrArg (fun M : Lay => { M with waiting := L.waiting ++ ents (L.row.length + 2) t }) this
theorem nc_stepP (b : List Nat) (L : Lay) (p : Pt) : nc (stepP b L p) = nc (stepP [] (nc L) p) := congrArg (fun M : Lay => { M with done := L.done + 1 }) (nc_boxP b L p)
theorem nc_adv (b : List Nat) : ∀ (ps : List Pt) (L : Lay), nc (adv b ps L) = nc (adv [] ps (nc L))
  | [], _ => rfl
  | p :: r, L => by
    rw [adv, adv]
    by_cases h : isGap p = true
    · rw [if_pos h, if_pos h]
      rfl
    · rw [if_neg h, if_neg h, nc_adv b r, nc_adv [] r (stepP [] (nc L) p), nc_stepP b L p]
theorem nc_stl (b sts : List Nat) : ∀ (es : List (Nat × (Nat × Nat))) (L : Lay), nc (stl b sts es L) = nc (stl [] sts es (nc L))
  | [], _ => rfl
  | e :: r, L => by
    rw [stl, stl]
    by_cases h : e.2.1 < sts.length
    · rw [if_pos h, if_pos h, nc_stl b sts r, nc_stl [] sts r (setC [] (nc L) _ _)]
      rfl
    · rw [if_neg h, if_neg h]
      exact nc_stl b sts r L
theorem nc_settle (b : List Nat) (L : Lay) : nc (settle b L) = nc (settle [] (nc L)) := congrArg (fun M : Lay => { M with waiting := wts L.starts.length L.waiting }) (nc_stl b L.starts L.waiting L)
theorem nc_goOn (b : List Nat) (ps : List Pt) (L : Lay) : nc (goOn b ps L) = nc (goOn [] ps (nc L)) := by
  unfold goOn
  rw [nc_settle b, nc_settle [] (adv [] _ _), nc_adv b]
  rfl
theorem nc_gapL {b b' : List Nat} {L : Lay} {g : Nat} (h : kept b (L.row.length + 2) (g - 2) = kept b' (L.row.length + 2) (g - 2)) : nc (gapL b L g) = nc (gapL b' (nc L) g) := by
  unfold gapL
  by_cases h0 : 0 < g
  · rw [if_pos h0, if_pos h0]
    unfold putFr
    show nc (putC b (putC b { L with gaps := L.gaps ++ [g], done := L.done + 1 } [some 3, some g]) ((kept b (L.row.length + 2) (g - 2)).map some)) = nc (putC b' (putC b' (nc { L with gaps := L.gaps ++ [g], done := L.done + 1 }) [some 3, some g]) ((kept b' (L.row.length + 2) (g - 2)).map some))
    rw [nc_putC b, nc_putC b _ { L with gaps := L.gaps ++ [g], done := L.done + 1 }, nc_putC b' ((kept b' (L.row.length + 2) (g - 2)).map some), nc_putC b' _ (nc { L with gaps := L.gaps ++ [g], done := L.done + 1 }), h]
    rfl
  · rw [if_neg h0, if_neg h0]
    rfl
/-- a whole layout upon its own file -/
theorem lay_fix {ss : List Sh} (hb : (allL ss).length ≤ 100) {gs : List Nat} (hg : ∀ g ∈ gs, g = 0 ∨ 2 ≤ g) (hl : lnL ss + gs.sum ≤ 800) (hn : gs.length ≤ gpL ss) {cs : List Nat} (hc : (layF bef (ptL ss) gs).row = cs.map some) : ∀ i, i ≤ gs.length → nc (layF cs (ptL ss) (gs.take i)) = nc (layF bef (ptL ss) (gs.take i))
  | 0, _ => by
    rw [List.take_zero]
    rfl
  | i + 1, hi => by
    have ih := lay_fix hb hg hl hn hc i (by omega)
    have hx : gs[i]? = some gs[i] := List.getElem?_eq_getElem (by omega)
    have h1 := layF_le (bef := bef) hb gs hg hl hn hx
    have h2 := layF_leN (bef := bef) hb gs hg hl hn (gs.length - (i + 1)) (i + 1) (by omega)
    have hr : (layF cs (ptL ss) (gs.take i)).row = (layF bef (ptL ss) (gs.take i)).row := by
      show (nc (layF cs (ptL ss) (gs.take i))).row = (nc (layF bef (ptL ss) (gs.take i))).row
      rw [ih]
    have hk : kept cs ((layF bef (ptL ss) (gs.take i)).row.length + 2) (gs[i] - 2) = kept bef ((layF bef (ptL ss) (gs.take i)).row.length + 2) (gs[i] - 2) := by
      by_cases h0 : 0 < gs[i]
      · unfold kept
        refine List.map_congr_left fun j hj => ?_
        have hj := List.mem_range.mp hj
        have e := h2 ((layF bef (ptL ss) (gs.take i)).row.length + 2 + j) (bef.getD ((layF bef (ptL ss) (gs.take i)).row.length + 2 + j) 0) (h1 _ _ (by
          rw [gapL_row _ h0, List.getElem?_append_right (by omega), show (layF bef (ptL ss) (gs.take i)).row.length + 2 + j - (layF bef (ptL ss) (gs.take i)).row.length = j + 2 by omega, List.getElem?_cons_succ, List.getElem?_cons_succ, List.getElem?_map]
          unfold kept
          rw [List.getElem?_map, List.getElem?_range hj]
          rfl))
        rw [hc, List.getElem?_map] at e
        rw [List.getD_eq_getElem?_getD]
        cases hq : cs[(layF bef (ptL ss) (gs.take i)).row.length + 2 + j]? with
        | none =>
          rw [hq] at e
          cases e
        | some v =>
          rw [hq] at e
          exact Option.some.inj (Option.some.inj e)
      · rw [show gs[i] - 2 = 0 by omega]
        rfl
    rw [take_snoc hx, layF_snoc, layF_snoc]
    unfold withGap
    rw [nc_goOn cs, nc_goOn bef]
    have e : nc (gapL cs (layF cs (ptL ss) (gs.take i)) gs[i]) = nc (gapL bef (layF bef (ptL ss) (gs.take i)) gs[i]) := by
      rw [nc_gapL (b' := bef) (by rw [hr]; exact hk), ih]
      exact (nc_gapL (b := bef) (b' := bef) rfl).symm
    rw [e]
theorem rc_self : ∀ (cs : List Nat) (p : Nat) (bef : List Nat), (∀ i, i < cs.length → bef[p + i]? = cs[i]?) → rc bef p (cs.map some) = 0
  | [], _, _, _ => rfl
  | c :: r, p, bef, h => by
    rw [List.map_cons, rc, rc_self r (p + 1) bef fun i hi => by rw [show p + 1 + i = p + (i + 1) by omega]; exact h (i + 1) (Nat.succ_lt_succ hi)]
    have := h 0 (Nat.succ_pos _)
    rw [List.getElem?_cons_zero, Nat.add_zero] at this
    have hl := getM_lt this
    unfold dif
    rw [if_neg]
    rintro (z | z)
    · omega
    · rw [List.getD_eq_getElem?_getD, this] at z
      exact z rfl
/-- the cost of what the law's writer knows -/
def rcm (bef : List Nat) (m : Nat → Option Nat) : Nat → Nat → Nat
  | _, 0 => 0
  | p, n + 1 => (match m p with
    | some v => dif bef p v
    | none => 0) + rcm bef m (p + 1) n
theorem rc_rcm {m : Nat → Option Nat} : ∀ (r : List (Option Nat)) (p : Nat), (∀ i, i < r.length → r[i]? = some (m (p + i))) → rc bef p r = rcm bef m p r.length
  | [], _, _ => rfl
  | x :: r, p, h => by
    have ih := rc_rcm r (p + 1) fun i hi => by rw [show p + 1 + i = p + (i + 1) by omega]; exact h (i + 1) (Nat.succ_lt_succ hi)
    have h0 := Option.some.inj (h 0 (Nat.succ_pos _))
    rw [Nat.add_zero] at h0
    rw [List.length_cons, rcm, ← h0, ← ih]
    cases x with
    | none =>
      rw [rc]
      exact (Nat.zero_add _).symm
    | some v => rw [rc]
/-- the sum over the places that are known, in any order -/
theorem rcm_sum {m : Nat → Option Nat} : ∀ (n : Nat) (p : Nat) (ns : List Nat), ns.Nodup → (∀ x ∈ ns, p ≤ x ∧ x < p + n ∧ m x ≠ none) → (∀ x, p ≤ x → x < p + n → m x ≠ none → x ∈ ns) → (ns.map fun x => dif bef x ((m x).getD 0)).sum = rcm bef m p n
  | 0, p, ns, _, h1, _ => by
    cases ns with
    | nil => rfl
    | cons x r =>
      have := h1 x List.mem_cons_self
      omega
  | n + 1, p, ns, h0, h1, h2 => by
    rw [rcm]
    cases hm : m p with
    | none =>
      rw [Nat.zero_add]
      refine rcm_sum n (p + 1) ns h0 (fun x hx => ?_) fun x a b c => h2 x (by omega) (by omega) c
      obtain ⟨a, b, c⟩ := h1 x hx
      refine ⟨?_, by omega, c⟩
      by_cases e : x = p
      · subst e
        exact absurd hm c
      · omega
    | some v =>
      have hp : p ∈ ns := h2 p (Nat.le_refl _) (by omega) (by rw [hm]; exact fun z => nomatch z)
      have q1 : ∀ x ∈ ns.erase p, p + 1 ≤ x ∧ x < p + 1 + n ∧ m x ≠ none := fun x hx => by
        have hne := (h0.mem_erase_iff.mp hx).1
        obtain ⟨a, b, c⟩ := h1 x (List.mem_of_mem_erase hx)
        exact ⟨by omega, by omega, c⟩
      have q2 : ∀ x, p + 1 ≤ x → x < p + 1 + n → m x ≠ none → x ∈ ns.erase p := fun x a b c => h0.mem_erase_iff.mpr ⟨by omega, h2 x (by omega) (by omega) c⟩
      have hs := rcm_sum n (p + 1) (ns.erase p) (h0.erase p) q1 q2
      · have e := List.Perm.sum_nat (List.Perm.map (fun x => dif bef x ((m x).getD 0)) (List.perm_cons_erase hp))
        rw [e, List.map_cons, List.sum_cons, hs, hm]
        rfl
end
end Bx

namespace Bx
section
variable {szs : List Nat}
mutual
theorem fit1_ok (h3 : ∀ x ∈ szs, x ≤ 3) : ∀ (k : Kd) (s : Sh) (i i' : Nat), fit1 szs k s i i' → szs.drop i = lens (all1 s) ++ szs.drop i' ∧ (∀ x ∈ all1 s, itOk x) ∧ (∀ t ∈ tgsL (all1 s), ∃ m, szs[t.1]? = some m ∧ t.2 < m) ∧ (all1 s).length = szk1 k
  | .D, .dat c, i, i', h => by
    rw [fit1] at h
    obtain ⟨h1, h2, h4⟩ := h
    subst h1
    have hc := h3 _ (List.mem_of_getElem? h2)
    rw [all1]
    refine ⟨drop_at h2, fun x hx => ?_, fun t ht => (nomatch ht), rfl⟩
    obtain rfl := List.mem_singleton.mp hx
    exact ⟨by omega, fun y hy => by have := h4 y hy; omega⟩
  | .T, .tab ts, i, i', h => by
    rw [fit1] at h
    obtain ⟨h1, h2, h4⟩ := h
    subst h1
    rw [all1]
    refine ⟨rfl, fun x hx => ?_, fun t ht => h4 t ?_, rfl⟩
    · obtain rfl := List.mem_singleton.mp hx
      show ts.length ≤ 6
      omega
    · have e : tgsL [Sh.tab ts] = ts ++ [] := rfl
      rw [e, List.append_nil] at ht
      exact ht
  | .G ks, .grp ss, i, i', h => by
    rw [fit1] at h
    obtain ⟨a, b, c, d⟩ := fitL_ok h3 ks ss i i' h
    rw [all1]
    refine ⟨a, fun x hx => ?_, c, by rw [List.length_cons, d, szk1]⟩
    rcases List.mem_cons.mp hx with rfl | hx
    · exact True.intro
    · exact b x hx
  | .D, .tab _, _, _, h => by rw [fit1] at h; exact h.elim
  | .D, .grp _, _, _, h => by rw [fit1] at h; exact h.elim
  | .T, .dat _, _, _, h => by rw [fit1] at h; exact h.elim
  | .T, .grp _, _, _, h => by rw [fit1] at h; exact h.elim
  | .G _, .dat _, _, _, h => by rw [fit1] at h; exact h.elim
  | .G _, .tab _, _, _, h => by rw [fit1] at h; exact h.elim
theorem fitL_ok (h3 : ∀ x ∈ szs, x ≤ 3) : ∀ (ks : List Kd) (ss : List Sh) (i i' : Nat), fitL szs ks ss i i' → szs.drop i = lens (allL ss) ++ szs.drop i' ∧ (∀ x ∈ allL ss, itOk x) ∧ (∀ t ∈ tgsL (allL ss), ∃ m, szs[t.1]? = some m ∧ t.2 < m) ∧ (allL ss).length = szkL ks
  | [], [], i, i', h => by
    rw [fitL] at h
    subst h
    rw [allL, szkL]
    exact ⟨rfl, fun x hx => absurd hx List.not_mem_nil, fun x hx => absurd hx List.not_mem_nil, rfl⟩
  | k :: r, s :: q, i, i', h => by
    rw [fitL] at h
    obtain ⟨j, ha, hb⟩ := h
    obtain ⟨a1, a2, a3, a4⟩ := fit1_ok h3 k s i j ha
    obtain ⟨b1, b2, b3, b4⟩ := fitL_ok h3 r q j i' hb
    rw [allL, szkL]
    refine ⟨by rw [a1, b1, lens_append, List.append_assoc], fun x hx => (List.mem_append.mp hx).elim (a2 x) (b2 x), fun t ht => ?_, by rw [List.length_append, a4, b4]⟩
    unfold tgsL at ht
    rw [List.map_append, List.flatten_append] at ht
    exact (List.mem_append.mp ht).elim (a3 t) (b3 t)
  | [], _ :: _, _, _, h => by rw [fitL] at h; exact h.elim
  | _ :: _, [], _, _, h => by rw [fitL] at h; exact h.elim
end
theorem fit_okS (h3 : ∀ x ∈ szs, x ≤ 3) {ks : List Kd} {ss : List Sh} (h : fitL szs ks ss 0 szs.length) (hd : dpkL ks ≤ 2) (hz : szkL ks ≤ 5) (hn : ks ≠ []) : OkS ss := by
  obtain ⟨a, b, c, d⟩ := fitL_ok h3 ks ss 0 _ h
  obtain ⟨e1, e2, _⟩ := fitL_ln szs h3 ks ss 0 _ h
  rw [List.drop_zero, List.drop_length, List.append_nil] at a
  refine ⟨?_, by omega, by omega, by omega, b, fun t ht => by rw [← a]; exact c t ht⟩
  cases ks with
  | nil => exact absurd rfl hn
  | cons k r =>
    cases ss with
    | nil => rw [fitL] at h; exact h.elim
    | cons s q => exact fun z => nomatch z
end
section
variable {bef : List Nat} {ss : List Sh} {gs : List Nat}
theorem lay_cost (hO : OkS ss) (hg : ∀ g ∈ gs, g = 0 ∨ 2 ≤ g) (hl : lnL ss + gs.sum ≤ 800) (hn : gs.length ≤ gpL ss) : (layF bef (ptL ss) gs).cost = rcm bef (knM bef ss gs) 0 (knR bef ss gs).pl := by
  obtain ⟨a, b, c, d⟩ := lay_kn (bef := bef) hO hg hl hn
  rw [d, rc_rcm (m := knM bef ss gs) _ 0 (fun i hi => by rw [Nat.zero_add]; exact b i (by omega)), a]
theorem lay_row (hO : OkS ss) (hg : ∀ g ∈ gs, g = 0 ∨ 2 ≤ g) (hl : lnL ss + gs.sum ≤ 800) (hn : gs.length ≤ gpL ss) (hk : ∀ n, n < (knR bef ss gs).pl → ∃ v, knM bef ss gs n = some v) : (layF bef (ptL ss) gs).row = (fil bef ss gs).map some := by
  obtain ⟨a, b, c, d⟩ := lay_kn (bef := bef) hO hg hl hn
  refine List.ext_getElem? fun n => ?_
  by_cases h : n < (knR bef ss gs).pl
  · obtain ⟨v, hv⟩ := hk n h
    rw [b n h, List.getElem?_map]
    unfold fil
    rw [List.getElem?_map, List.getElem?_range h, hv]
    rw [Option.map_some, Option.map_some, hv]
    rfl
  · rw [List.getElem?_eq_none (by omega), List.getElem?_eq_none]
    rw [List.length_map]
    unfold fil
    rw [List.length_map, List.length_range]
    omega
theorem row_oV {l : List Nat} : (l.map some).map oV = l.map vn := by rw [List.map_map]; rfl
/-- a file patched anew with the same sizes stays, for nothing -/
theorem lay_self (hO : OkS ss) (hg : ∀ g ∈ gs, g = 0 ∨ 2 ≤ g) (hl : lnL ss + gs.sum ≤ 800) (hn : gs.length ≤ gpL ss) (hk : ∀ n, n < (knR bef ss gs).pl → ∃ v, knM bef ss gs n = some v) : (layF (fil bef ss gs) (ptL ss) gs).row = (fil bef ss gs).map some ∧ (layF (fil bef ss gs) (ptL ss) gs).cost = 0 := by
  have hb := hO.nb
  have hr := lay_row hO hg hl hn hk
  have hf := lay_fix (bef := bef) (ss := ss) (by omega) hg hl hn hr gs.length (Nat.le_refl _)
  rw [List.take_length] at hf
  have e : (layF (fil bef ss gs) (ptL ss) gs).row = (fil bef ss gs).map some := by
    rw [← hr]
    show (nc (layF (fil bef ss gs) (ptL ss) gs)).row = (nc (layF bef (ptL ss) gs)).row
    rw [hf]
  obtain ⟨a, b, c, d⟩ := lay_kn (bef := fil bef ss gs) hO hg hl hn
  refine ⟨e, ?_⟩
  rw [d, e]
  exact rc_self _ 0 _ fun i _ => by rw [Nat.zero_add]
end
end Bx

namespace Bx
section
variable {P : Program} {w : World} {K : PySem.W.Frag} {mg : Str → Option Value} {base : Heap}
theorem valV_key {kvs : List (Key × V)} {k : Key} : valV kvs k ≠ none ↔ k ∈ kvs.map Prod.fst := by
  have h := valV_any k kvs
  constructor
  · intro z
    have : (valV kvs k).isSome = true := Option.isSome_iff_ne_none.mpr z
    rw [← h] at this
    obtain ⟨p, hp, he⟩ := List.any_eq_true.mp this
    exact List.mem_map.mpr ⟨p, hp, of_decide_eq_true he⟩
  · intro z
    obtain ⟨p, hp, he⟩ := List.mem_map.mp z
    rw [← Option.isSome_iff_ne_none, ← h]
    exact List.any_eq_true.mpr ⟨p, hp, decide_eq_true he⟩
/-- the places of a dict of numbers -/
theorem DN.keys {H : Hp} {d : Addr} {m : Nat → Option Nat} {b : Nat} (x : DN H d m b) : ∃ (kvs : List (Key × V)) (ns : List Nat), H d = some (.dK kvs) ∧ kvs.length ≤ b ∧ kvs.map Prod.fst = ns.map (fun n : Nat => (Sum.inl (n : Int) : Key)) ∧ ns.Nodup ∧ (∀ n, n ∈ ns ↔ m n ≠ none) ∧ (∀ n : Nat, valV kvs (Sum.inl (n : Int)) = (m n).map vn) := by
  obtain ⟨kvs, h1, h2, h3, ns, h4, h5⟩ := x.ex
  refine ⟨kvs, ns, h1, h2, h4, h5, fun n => ?_, h3⟩
  have e : m n ≠ none ↔ valV kvs (Sum.inl (n : Int)) ≠ none := by
    rw [h3 n]
    cases m n with
    | none => exact ⟨fun z => absurd rfl z, fun z => absurd rfl z⟩
    | some v => exact ⟨fun _ z => (nomatch z), fun _ z => (nomatch z)⟩
  rw [e, valV_key, h4]
  constructor
  · exact fun z => List.mem_map.mpr ⟨n, z, rfl⟩
  · intro z
    obtain ⟨k, hk, he⟩ := List.mem_map.mp z
    have := Sum.inl.inj he
    rw [show n = k by omega]
    exact hk
def spCost (K : PySem.W.Frag) : Sp := fun vs H Q _ => ∃ (B Cd : Addr) (bef : List Nat) (m : Nat → Option Nat) (N : Nat), vs = [.ref B, .ref Cd] ∧ H B = some (.tup (bef.map vn)) ∧ DN H Cd m 100000 ∧ (∀ n, N ≤ n → m n = none) ∧ ∀ H', Same H H' → Q (vn (rcm bef m 0 N)) H'
theorem dif_le (bef : List Nat) (p c : Nat) : dif bef p c ≤ 1 := by
  unfold dif
  split <;> omega
theorem dif_sum (bef : List Nat) (f : Nat → Nat) : ∀ l : List Nat, (l.map fun x => dif bef x (f x)).sum ≤ l.length
  | [] => Nat.le_refl _
  | x :: r => by
    have := dif_sum bef f r
    have := dif_le bef x (f x)
    rw [List.map_cons, List.sum_cons, List.length_cons]
    omega
end
end Bx

namespace Bx
def gq : List Sh → Nat
  | [] => 0
  | s :: r => gp1 s + gq r
theorem gp_gq : ∀ l : List Sh, gpL l = gq l + 1
  | [] => rfl
  | s :: r => by rw [gpL, gq, gp_gq r]; omega
theorem gq_snoc : ∀ (a : List Sh) (s : Sh), gq (a ++ [s]) = gq a + gp1 s
  | [], s => by rw [List.nil_append, gq, gq, gq]; omega
  | x :: r, s => by rw [List.cons_append, gq, gq, gq_snoc r s]; omega
theorem lnL_snoc (a : List Sh) (s : Sh) : lnL (a ++ [s]) = lnL a + ln1 s := by
  rw [lnL_append, show lnL [s] = ln1 s + 0 from rfl, Nat.add_zero]
theorem gq_take : ∀ (l : List Sh) (i : Nat) (s : Sh), l[i]? = some s → gq (l.take i) + gp1 s ≤ gq l
  | x :: r, 0, s, h => by
    have : x = s := Option.some.inj h
    subst this
    rw [List.take_zero, gq, gq]
    omega
  | x :: r, i + 1, s, h => by
    have := gq_take r i s h
    rw [List.take_succ_cons, gq, gq]
    omega
  | [], _, _, h => by simp at h
theorem bg_snoc : ∀ (a : List Sh) (s : Sh) (gs : List Nat) (p : Nat), gq a ≤ gs.length → bgL (a ++ [s]) gs p = bgL a gs p ++ bg1 s (gs.drop (gq a)) (p + lnL a + (gs.take (gq a)).sum)
  | [], s, gs, p, _ => by
    rw [List.nil_append, bgL, bgL, bgL, gq, lnL, List.append_nil]
    rfl
  | x :: r, s, gs, p, h => by
    rw [gq] at h
    rw [List.cons_append, bgL, bgL, bg_snoc r s _ _ (by rw [List.length_drop]; omega), gq, lnL, List.append_assoc, List.drop_drop, take_sum_add]
    rw [show p + ln1 x + (gs.take (gp1 x)).sum + lnL r + ((gs.drop (gp1 x)).take (gq r)).sum = p + (ln1 x + lnL r) + ((gs.take (gp1 x)).sum + ((gs.drop (gp1 x)).take (gq r)).sum) by omega]
mutual
theorem bg_len1 : ∀ (s : Sh) (gs : List Nat) (p : Nat), (bg1 s gs p).length ≤ ln1 s
  | .dat c, gs, p => by rw [bg1, ln1]; show 1 ≤ _; omega
  | .tab c, gs, p => by rw [bg1, ln1]; show 1 ≤ _; omega
  | .grp ks, gs, p => by
    have := bg_lenL ks gs.tail (p + hdg gs + 2)
    rw [bg1, ln1, List.length_cons]
    omega
theorem bg_lenL : ∀ (l : List Sh) (gs : List Nat) (p : Nat), (bgL l gs p).length ≤ lnL l
  | [], gs, p => by rw [bgL, lnL]; exact Nat.le_refl _
  | s :: r, gs, p => by
    have := bg_len1 s gs p
    have := bg_lenL r (gs.drop (gp1 s)) (p + ln1 s + (gs.take (gp1 s)).sum)
    rw [bgL, lnL, List.length_append]
    omega
end
theorem g_pop0 {H : Hp} {Q : VK} {l : Addr} {x : V} {r : List V} (h : H l = some (.lst (x :: r))) (k : Q x (upd H l (.lst r))) : rPopAt (.ref l) [.int 0] H Q :=
  ⟨l, x :: r, 0, 0, x, rfl, rfl, h, by decide, by decide, by unfold seqIndex?; simp, rfl, k⟩
section
variable {P : Program} {w : World} {K : PySem.W.Frag} {mg : Str → Option Value} {base : Heap}
def spPlaces (K : PySem.W.Frag) (n : Nat) : Sp := fun vs H Q _ => ∃ (v : V) (p : Nat) (R : Addr) (ss : List Sh) (gs : List Nat), vs = [v, vn p, .ref R] ∧ Tp K H v (.tuple (shL ss)) ∧ dpsL ss < n ∧ lnL ss ≤ 100 ∧ H R = some (.lst (gs.map vn)) ∧ gpL ss ≤ gs.length ∧
  ∀ (t l : Addr) (H' : Hp), SameX [R] H H' → H' R = some (.lst ((gs.drop (gpL ss)).map vn)) → H' t = some (.tup [.ref l, vn (p + lnL ss + (gs.take (gpL ss)).sum)]) → H' l = some (.lst ((bgL ss gs p).map vn)) → Q (.ref t) H'
end
end Bx

namespace Bx
theorem lay_pn : ∀ l : List Nat, PyData.canLayAll0 (l.map pn) = true
  | [] => rfl
  | _ :: r => by
    show (true && PyData.canLayAll0 (r.map pn)) = true
    rw [lay_pn r]
    rfl
theorem dep_pn : ∀ l : List Nat, PyData.depthAll (l.map pn) = 0
  | [] => rfl
  | _ :: r => by
    show max 0 (PyData.depthAll (r.map pn)) = 0
    rw [dep_pn r]
    rfl
theorem prs_dep2 : ∀ (f : Nat) (cs : List Nat) (a e dp : Nat) (bs : List Bo), prs f cs a e dp = .ok bs → dp ≤ 2 → depL bs + dp ≤ 3
  | 0, _, _, _, _, _, h, hd => by
    rw [prs] at h
    cases h
    show 0 + _ ≤ 3
    omega
  | f + 1, cs, a, e, dp, bs, h, hd2 => by
    rcases prs_ok h with ⟨_, rfl⟩ | ⟨_, q, ks, r, i, j, rfl⟩
    · show 0 + _ ≤ 3
      omega
    · have hr := prs_dep2 f _ _ _ _ _ j hd2
      obtain ⟨z1, z2, z3, z4, z5, z6⟩ := hd_none q
      rw [depL, depB]
      by_cases g : cel cs a = 1
      · rw [if_pos g] at i
        have hk := prs_dep2 f _ _ _ _ _ i (by omega)
        omega
      · rw [if_neg g] at i
        cases i
        have : depL ([] : List Bo) = 0 := rfl
        omega
theorem strOk_gr : PyData.strOk "group" = true := by decide +kernel
theorem strOk_da : PyData.strOk "data" = true := by decide +kernel
theorem strOk_fr : PyData.strOk "free" = true := by decide +kernel
theorem strOk_ta : PyData.strOk "table" = true := by decide +kernel
theorem lay_tgd (rs : List (Nat × Nat)) (c : Nat) : PyData.canLay0 (tgd rs c) = true := by
  unfold tgd
  cases tgt rs c with
  | none => rfl
  | some p => rfl
theorem dep_tgd (rs : List (Nat × Nat)) (c : Nat) : PyData.depth (tgd rs c) ≤ 1 := by
  unfold tgd
  cases tgt rs c with
  | none => exact Nat.zero_le _
  | some p => exact Nat.le_refl _
theorem lay_tgs (rs : List (Nat × Nat)) : ∀ l : List Nat, PyData.canLayAll0 (l.map (tgd rs)) = true
  | [] => rfl
  | c :: r => by
    show (PyData.canLay0 (tgd rs c) && PyData.canLayAll0 (r.map (tgd rs))) = true
    rw [lay_tgd, lay_tgs rs r]
    rfl
theorem dep_tgs (rs : List (Nat × Nat)) : ∀ l : List Nat, PyData.depthAll (l.map (tgd rs)) ≤ 1
  | [] => Nat.zero_le _
  | c :: r => by
    show max (PyData.depth (tgd rs c)) (PyData.depthAll (r.map (tgd rs))) ≤ 1
    have h1 := dep_tgd rs c
    have h2 := dep_tgs rs r
    omega
theorem lay_pair {x : Str} {d : PyData} (hx : PyData.strOk x = true) (hd : PyData.canLay0 d = true) : PyData.canLay0 (.tuple [.str x, d]) = true := by
  show (PyData.strOk x && (PyData.canLay0 d && true)) = true
  rw [hx, hd]
  rfl
theorem dep_pair (x : Str) (d : PyData) : PyData.depth (.tuple [.str x, d]) = PyData.depth d + 1 := by
  show max 0 (max (PyData.depth d) 0) + 1 = _
  omega
mutual
theorem lay_da1 (fr : Bool) (cs : List Nat) (rs : List (Nat × Nat)) : ∀ b, PyData.canLay0 (da1 fr cs rs b) = true
  | .bx k p n ks => by
    rw [da1]
    split
    · exact lay_pair strOk_gr (lay_daL fr cs rs ks)
    · split
      · exact lay_pair strOk_da (lay_pn _)
      · split
        · exact lay_pair strOk_fr rfl
        · exact lay_pair strOk_ta (lay_tgs rs _)
theorem lay_daL (fr : Bool) (cs : List Nat) (rs : List (Nat × Nat)) : ∀ l, PyData.canLayAll0 (daL fr cs rs l) = true
  | [] => by
    rw [daL]
    rfl
  | b :: r => by
    rw [daL]
    split
    · exact lay_daL fr cs rs r
    · show (PyData.canLay0 (da1 fr cs rs b) && PyData.canLayAll0 (daL fr cs rs r)) = true
      rw [lay_da1 fr cs rs b, lay_daL fr cs rs r]
      rfl
end
mutual
theorem dep_da1 (fr : Bool) (cs : List Nat) (rs : List (Nat × Nat)) : ∀ b, PyData.depth (da1 fr cs rs b) ≤ 2 * depB b + 3
  | .bx k p n ks => by
    rw [da1, depB]
    split
    · rw [dep_pair]
      have := dep_daL fr cs rs ks
      show PyData.depthAll (daL fr cs rs ks) + 1 + 1 ≤ _
      omega
    · split
      · rw [dep_pair]
        show PyData.depthAll ((ctn cs p).map pn) + 1 + 1 ≤ _
        rw [dep_pn]
        omega
      · split
        · rw [dep_pair]
          show 0 + 1 ≤ _
          omega
        · rw [dep_pair]
          show PyData.depthAll ((ctn cs p).map (tgd rs)) + 1 + 1 ≤ _
          have := dep_tgs rs (ctn cs p)
          omega
theorem dep_daL (fr : Bool) (cs : List Nat) (rs : List (Nat × Nat)) : ∀ l, PyData.depthAll (daL fr cs rs l) ≤ 2 * depL l + 3
  | [] => by
    rw [daL]
    exact Nat.zero_le _
  | b :: r => by
    have h2 := dep_daL fr cs rs r
    rw [daL, depL]
    split
    · omega
    · have h1 := dep_da1 fr cs rs b
      show max (PyData.depth (da1 fr cs rs b)) (PyData.depthAll (daL fr cs rs r)) ≤ _
      omega
end
theorem shaped_daL {fr : Bool} {cs : List Nat} {rs : List (Nat × Nat)} {bs : List Bo} (h : depL bs ≤ 3) : SeqAt.shaped (.tuple (daL fr cs rs bs)) = true := by
  show (PyData.canLayAll0 _ && decide (PyData.depthAll _ + 1 ≤ 64)) = true
  have := dep_daL fr cs rs bs
  rw [lay_daL, decide_eq_true (by omega)]
  rfl
theorem eqv_daL (fr : Bool) (cs : List Nat) (rs : List (Nat × Nat)) (bs : List Bo) : PyData.eqv (.tuple (daL fr cs rs bs)) (.tuple (daL fr cs rs bs)) = true :=
  PySem.SeqAt.eqv_refl_plain _ (PyData.plain_of_canLay0 _ (show PyData.canLay0 (.tuple (daL fr cs rs bs)) = true from lay_daL fr cs rs bs))
theorem kinds_ok : ∀ ks ∈ kinds1 ++ kinds2, dpkL ks ≤ 2 ∧ szkL ks ≤ 5 ∧ cntL ks ≤ 2 ∧ ks ≠ [] := by
  intro ks h
  simp only [kinds1, kinds2, List.cons_append, List.nil_append, List.mem_cons, List.not_mem_nil, or_false] at h
  rcases h with rfl | rfl | rfl | rfl | rfl | rfl | rfl | rfl | rfl | rfl | rfl | rfl <;> exact ⟨by decide, by decide, by decide, fun z => nomatch z⟩
mutual
theorem gp_le1 : ∀ s : Sh, gp1 s ≤ ln1 s
  | .dat c => by
    rw [gp1, ln1]
    omega
  | .tab c => by
    rw [gp1, ln1]
    omega
  | .grp ks => by
    have := gp_leL ks
    rw [gp1, ln1]
    omega
theorem gp_leL : ∀ l : List Sh, gpL l ≤ lnL l + 1
  | [] => by
    rw [gpL, lnL]
    omega
  | s :: r => by
    have h1 := gp_le1 s
    have h2 := gp_leL r
    rw [gpL, lnL]
    omega
end
theorem ln_pos : ∀ l : List Sh, l ≠ [] → 2 ≤ lnL l
  | [], h => absurd rfl h
  | s :: r, _ => by
    have : 2 ≤ ln1 s := by
      cases s <;> rw [ln1] <;> omega
    rw [lnL]
    omega
theorem fit_ne {szs : List Nat} : ∀ {ks : List Kd} {ss : List Sh} {i i' : Nat}, fitL szs ks ss i i' → ks ≠ [] → ss ≠ []
  | [], _, _, _, _, h => absurd rfl h
  | _ :: _, [], _, _, h, _ => by
    rw [fitL] at h
    exact h.elim
  | _ :: _, _ :: _, _, _, _, _ => fun z => nomatch z
theorem cut_lo {cs : List Nat} {p : Nat} (h : p ≤ cs.length) : cutV (cs.map vn) none (some (p : Int)) = (cs.take p).map vn := by
  unfold cutV
  rw [HT.sIx_none, HT.sIx_nat, List.drop_zero, List.length_map, Nat.min_eq_left h, Nat.sub_zero, List.map_take]
def Fit (ss : List Sh) : Prop := ∃ ks szs, fitL szs ks ss 0 szs.length ∧ (∀ x ∈ szs, x ≤ 3) ∧ dpkL ks ≤ 2 ∧ szkL ks ≤ 5 ∧ ks ≠ []
section
variable {ss : List Sh} {gs bef : List Nat}
theorem Fit.okS (h : Fit ss) : OkS ss := by
  obtain ⟨ks, szs, a, b, c, d, e⟩ := h
  exact fit_okS b a c d e
theorem Fit.ln (h : Fit ss) : lnL ss ≤ 25 ∧ 2 ≤ gpL ss ∧ gpL ss ≤ 26 := by
  obtain ⟨ks, szs, a, b, c, d, e⟩ := h
  obtain ⟨e1, e2, _⟩ := fitL_ln szs b ks ss 0 _ a
  have := gp_leL ss
  have hn := fit_ne a e
  have h2 : 2 ≤ gpL ss := by
    cases ss with
    | nil => exact absurd rfl hn
    | cons s r =>
      rw [gpL, gp_gq r]
      have : 0 < gp1 s := by cases s <;> rw [gp1] <;> omega
      omega
  omega
/-- the whole file of a shape and its gaps -/
structure File (ss : List Sh) (gs bef cs : List Nat) : Prop where
  e : cs = fil bef ss gs
  len : cs.length = lnL ss + gs.sum
  l30 : cs.length ≤ 30
  hi : ∀ n ∈ cs, n ≤ 99
  ok : fwr cs = none
  row : (layF bef (ptL ss) gs).row = cs.map some
  self : (layF cs (ptL ss) gs).row = cs.map some
  zero : (layF cs (ptL ss) gs).cost = 0
  rd : ∃ bs, prs 31 cs 0 cs.length 0 = .ok bs ∧ daL false cs (rws cs (hsL bs)) bs = shL ss ∧ fre cs (hsL bs) = gs.sum ∧ ((∀ g ∈ gs, g = 0) → daL true cs (rws cs (hsL bs)) bs = shL ss)
theorem Fit.file (h : Fit ss) (hb : ∀ n, bef.getD n 0 ≤ 99) (hg : gs.length = gpL ss) (h2 : ∀ g ∈ gs, g = 0 ∨ 2 ≤ g) (h30 : lnL ss + gs.sum ≤ 30) : (knR bef ss gs).pl ≤ 30 ∧ (∀ n, n < (knR bef ss gs).pl → ∃ v, knM bef ss gs n = some v) ∧ ∃ cs, File ss gs bef cs := by
  have hO := h.okS
  obtain ⟨ks, szs, a, b, c, d, e⟩ := h
  obtain ⟨x1, x2⟩ := kn_all (bef := bef) a hb hg h30
  have x3 : ∀ n, n < (knR bef ss gs).pl → ∃ v, knM bef ss gs n = some v := fun n hn => (x2 n hn).imp fun _ z => z.1
  obtain ⟨r1, r2, r3⟩ := fil_read (bef := bef) hO hg h2 h30
  obtain ⟨s1, s2⟩ := lay_self (bef := bef) hO h2 (by omega) (Nat.le_of_eq hg) x3
  refine ⟨by omega, x3, fil bef ss gs, rfl, r1, by omega, fun n hn => ?_, r2, lay_row hO h2 (by omega) (Nat.le_of_eq hg) x3, s1, s2, r3⟩
  unfold fil at hn
  obtain ⟨m, hm, rfl⟩ := List.mem_map.mp hn
  obtain ⟨v, hv1, hv2⟩ := x2 m (List.mem_range.mp hm)
  rw [hv1]
  exact hv2
theorem File.cells {K : PySem.W.Frag} {H : Hp} {a : Addr} {cs : List Nat} (x : File ss gs bef cs) (h : SqL K H a (cs.map vn) ∨ SqT K H a (cs.map vn)) : Cells K H a cs := ⟨h, x.l30, x.hi⟩
theorem shaped_vnT (l : List Nat) : SeqAt.shaped (.tuple (l.map pn)) = true := shaped_nats l
theorem shaped_vnL (l : List Nat) : SeqAt.shaped (.list (l.map pn)) = true := shaped_nats l
theorem dp_vns {K : PySem.W.Frag} {H : Hp} (l : List Nat) : DpAll K H (l.map vn) (l.map pn) := TpAll.dp _ _ (TpAll.ints l)
theorem eqv_vnT (l : List Nat) : PyData.eqv (.tuple (l.map pn)) (.tuple (l.map pn)) = true := PySem.SeqAt.eqv_refl_plain _ (PyData.plain_of_canLay0 _ (show PyData.canLay0 (.tuple (l.map pn)) = true from lay_pn l))
theorem eqv_vnL (l : List Nat) : PyData.eqv (.list (l.map pn)) (.list (l.map pn)) = true := PySem.SeqAt.eqv_refl_plain _ (PyData.plain_of_canLay0 _ (show PyData.canLay0 (.list (l.map pn)) = true from lay_pn l))
theorem g_neT {K : PySem.W.Frag} {H : Hp} {Q : VK} {a b : Addr} {l : List Nat} (h1 : H a = some (.tup (l.map vn))) (h2 : H b = some (.tup (l.map vn))) (q : Q (.bl false) H) : rNeD K (.ref a) (.ref b) H Q :=
  ⟨_, _, .tup (SqT.of h1) (dp_vns l), .tup (SqT.of h2) (dp_vns l), shaped_vnT l, shaped_vnT l, by rw [eqv_vnT]; exact q⟩
theorem g_neL {K : PySem.W.Frag} {H : Hp} {Q : VK} {a b : Addr} {l : List Nat} (h1 : H a = some (.lst (l.map vn))) (h2 : H b = some (.lst (l.map vn))) (q : Q (.bl false) H) : rNeD K (.ref a) (.ref b) H Q :=
  ⟨_, _, .lst (SqL.of h1) (dp_vns l), .lst (SqL.of h2) (dp_vns l), shaped_vnL l, shaped_vnL l, by rw [eqv_vnL]; exact q⟩
theorem ends_gen {t : TS} {D : Ends} {σ : L2.St} {H : Hp} (h : ∀ D', D' = D → t D' σ H) : t D σ H := h D rfl
end
end Bx

namespace Bx
theorem cut63 {ns : List Int} (h : ns.length ≤ 63) : cutV (ns.map V.int) none (some 63) = ns.map V.int := by
  unfold cutV
  rw [HT.sIx_none, List.drop_zero, Nat.sub_zero, List.length_map]
  have := HT.sIx_nat ns.length ns.length 63
  rw [show ((63 : Nat) : Int) = 63 from rfl] at this
  rw [this, List.take_of_length_le (by rw [List.length_map]; omega)]
section
variable {P : Program} {w : World} {K : PySem.W.Frag} {mg : Str → Option Value} {base : Heap} {C CB : Addr}
/-- a number out of the script: all that is asked of it is that it is not below 0 -/
def spNum (K : PySem.W.Frag) : Sp := fun vs H Q _ => ∃ (S : Addr) (ns : List Int) (k : Nat), vs = [.ref S, .int (k : Int)] ∧ Scr K H S ns ∧ k ≤ 100000 ∧ ∀ (z : Int) (H' : Hp), 0 ≤ z → Same H H' → Q (.int z) H'
theorem ok_lNumber {f : Addr} {fd : FuncData} (F : Def K mg "_law_number" sLNumber f fd) (b : Binds K fd ["_law_script", "_law_index"] []) (T : Txt mg) : Cal P w K mg base 1 "_law_number" (spNum K) [] := by
  refine cal0 F b .nil scLNumber (fun vs H Q E h => ?_) (fun cdv A outer s H vs Q E hr h => ?_)
  · obtain ⟨S, ns, k, rfl, _⟩ := h
    rfl
  obtain ⟨S, ns, k, rfl, hS, hk, q⟩ := h
  refine ⟨_, (pss_cons (ps_set (i := 2) scLNumber.nd rfl (Or.inl rfl) (pe_ifExp (pt_cmpR (op_neD hr.units) (pv 0) (pe_lst pa_nil) (nomark _)) (pe_slice sl_list (pv 0) po_none (po_some pe_int)) (pe_lst (pa_cons pe_int pa_nil))))
    (pss_cons (ps_set (i := 3) scLNumber.nd rfl (Or.inl rfl) (pe_op op_add (pe_ix ix_list (pv 2) (pe_op op_mod (pe_callTy call_int1 (by rfl) T.int b_int (pa_cons (pv 1) pa_nil)) (pe_callB call_len_seq (by rfl) T.len b_len (pa_cons (pv 2) pa_nil))) (fun _ _ => rfl)) (pe_op op_mul pe_int (pe_op op_fdiv (pv 1) (pe_callB call_len_seq (by rfl) T.len b_len (pa_cons (pv 2) pa_nil))))))
    (pss_cons (ps_par (i := 4) (j := 5) (by rfl) scLNumber.nd rfl rfl (by decide) rfl rfl (pa_cons (pe_op op_mod (pe_callTy call_int1 (by rfl) T.int b_int (pa_cons (pv 3) pa_nil)) pe_int) (pa_cons (pe_op op_mod (pe_callTy call_int1 (by rfl) T.int b_int (pa_cons (pe_op op_fdiv (pv 3) pe_int) pa_nil)) pe_int) pa_nil)) (by rfl))
    (pss_cons (ps_set (i := 6) scLNumber.nd rfl (Or.inl rfl) (pe_op op_mod (pe_callTy call_int1 (by rfl) T.int b_int (pa_cons (pe_op op_add (pe_op op_add (pe_op op_mul (pe_op op_add (pv 4) (pe_op op_mul pe_int (pv 1))) pe_int) (pe_op op_mul pe_int (pv 5))) (pe_op op_mod (pe_callTy call_int1 (by rfl) T.int b_int (pa_cons (pe_callB (cr_sum rfl) (by rfl) T.sum b_sum (pa_cons (pv 2) pa_nil)) pa_nil)) pe_int)) pa_nil)) pe_int))
    (pss_one (ps_ret (pe_op op_add (pe_op op_mul (pe_op op_mod (pe_callTy call_int1 (by rfl) T.int b_int (pa_cons (pe_op op_mul (pv 6) (pe_op op_add (pe_op op_add (pv 6) (pe_op op_mul pe_int (pv 1))) pe_int)) pa_nil)) pe_int) pe_int) (pv 5)))))))), ?_⟩
  with_reducible refine g_seq ?_
  refine ends_gen fun D' eD => ?_
  have rest : ∀ (p : Addr) (l : List Int) (H1 : Hp), Same H H1 → H1 p = some (.lst (l.map V.int)) → l ≠ [] → l.length ≤ 63 → D'.nx [some (.ref S), some (.int (k : Int)), some (.ref p), none, none, none, none] H1 := by
    intro p l H1 s1 hp hl hl63
    rw [eD]
    have h0 : 0 < l.length := List.length_pos_iff.mpr hl
    walk_at "rd"
    refine ⟨_, _, rfl, .inl (SqL.of hp), ?_⟩
    rw [List.length_map]
    refine g_I (by show (0 : Int) < _; omega) ?_
    refine g_ixL (k % l.length) (SqL.of hp) (by rw [Int.natCast_emod]) (int_get (Nat.mod_lt _ h0)) ?_
    walk_at "rd"
    refine ⟨_, _, rfl, .inl (SqL.of hp), ?_⟩
    rw [List.length_map]
    refine g_I (C := CDiv) ⟨by omega, by omega⟩ ?_
    refine g_I (.inl ⟨by decide, by decide⟩) ?_
    walk_at "rd"
    obtain ⟨c, hc⟩ : ∃ c : Int, c = l.getD (k % l.length) 0 + 13 * ((k : Int) / (l.length : Int)) := ⟨_, rfl⟩
    rw [← hc]
    refine g_I (by show (0 : Int) < _; decide) ?_
    walk_at "rd"
    refine g_I (C := CDiv) ⟨by decide, by decide⟩ ?_
    walk_at "rd"
    refine g_I (by show (0 : Int) < _; decide) ?_
    walk_at "rd"
    refine ⟨_, _, rfl, ?_⟩
    have b1 := Int.emod_nonneg (c / 1000003) (show (999983 : Int) ≠ 0 by decide)
    obtain ⟨lo, hlo⟩ : ∃ lo : Int, lo = c % 1000003 := ⟨_, rfl⟩
    obtain ⟨hi, hhi⟩ : ∃ hi : Int, hi = c / 1000003 % 999983 := ⟨_, rfl⟩
    rw [← hhi] at b1
    rw [← hlo, ← hhi]
    walk_at "rd"
    refine g_I (.inl ⟨by decide, by decide⟩) ?_
    walk_at "rd"
    refine g_I (.inr ⟨by decide, by decide⟩) ?_
    walk_at "rd"
    refine g_I (.inl ⟨by decide, by decide⟩) ?_
    walk_at "rd"
    refine ⟨p, l, rfl, SqL.of hp, ?_⟩
    walk_at "rd"
    refine g_I (by show (0 : Int) < _; decide) ?_
    walk_at "rd"
    refine g_I (by show (0 : Int) < _; decide) ?_
    walk_at "rd"
    obtain ⟨mx, hmx⟩ : ∃ mx : Int, mx = ((lo + 977 * (k : Int)) * 48271 + 31 * hi + l.sum % 65521) % 2147483647 := ⟨_, rfl⟩
    have c1 := Int.emod_nonneg ((lo + 977 * (k : Int)) * 48271 + 31 * hi + l.sum % 65521) (show (2147483647 : Int) ≠ 0 by decide)
    have c2 := Int.emod_lt_of_pos ((lo + 977 * (k : Int)) * 48271 + 31 * hi + l.sum % 65521) (show (0 : Int) < 2147483647 by decide)
    rw [← hmx] at c1 c2
    rw [← hmx]
    refine g_I (.inl ⟨by decide, by decide⟩) ?_
    walk_at "rd"
    refine g_I (.inl ⟨by omega, by omega⟩) ?_
    walk_at "rd"
    refine g_I (by show (0 : Int) < _; decide) ?_
    walk_at "rd"
    refine g_I (.inr ⟨by decide, by decide⟩) ?_
    walk_at "rd"
    have d1 := Int.emod_nonneg (mx * (mx + 31 * (k : Int) + 7)) (show (2147483629 : Int) ≠ 0 by decide)
    exact q _ H1 (by omega) s1
  walk_at "rd"
  refine ⟨Nat.zero_le _, fun l hl => ?_⟩
  have s1 := same_new hl (.lst [])
  refine ⟨.list (ns.map PyData.int), .list [], .lst (s1.seq hS.sq) (dp_ints ns rfl), .lst (SqL.of upd_same) .nil, shaped_ints ns, shaped_nil, ?_⟩
  rw [eqv_nil]
  walk_at "rd"
  by_cases e : ns = []
  · rw [if_neg (by rw [e]; decide)]
    walk_at "rd"
    refine ⟨(by show 1 ≤ sizeLine; decide), fun p hp => ?_⟩
    walk_at "rd"
    exact rest p [5] _ (s1.trans (same_new hp _)) upd_same (fun z => nomatch z) (by decide)
  · rw [if_pos (by rw [decide_eq_false (fun z => e (List.map_eq_nil_iff.mp z))]; rfl)]
    walk_at "rd"
    refine ⟨S, _, rfl, s1.seq hS.sq, fun p hp => ?_⟩
    rw [cut63 hS.len]
    walk_at "rd"
    exact rest p ns _ (s1.trans (same_new hp _)) upd_same e hS.len
end
end Bx
namespace Bx
section
variable {P : Program} {w : World} {K : PySem.W.Frag} {mg : Str → Option Value} {base : Heap} {C CB : Addr}
def spLData (K : PySem.W.Frag) : Sp := fun vs H Q _ => ∃ z : Int, vs = [.int z] ∧ 0 ≤ z ∧ ∀ (c : List Nat) (a : Addr) (H' : Hp), c.length ≤ 3 → (∀ x ∈ c, x ≤ 99) → Same H H' → Tp K H' (.ref a) (sh1 (.dat c)) → Q (.ref a) H'
theorem ok_lData {f : Addr} {fd : FuncData} (F : Def K mg "_law_data" sLData f fd) (b : Binds K fd ["_law_seed"] []) (T : Txt mg) : Cal P w K mg base 1 "_law_data" (spLData K) [] := by
  refine cal0 F b .nil scLData (fun vs H Q E h => ?_) (fun cdv A outer s H vs Q E hr h => ?_)
  · obtain ⟨z, rfl, _⟩ := h
    rfl
  obtain ⟨z, rfl, hz, q⟩ := h
  refine ⟨_, (pss_cons (ps_set (i := 1) scLData.nd rfl (Or.inr rfl) (pe_ix ix_tup (pe_tup (pa_cons pe_int (pa_cons pe_int (pa_cons pe_int pa_nil)))) (pe_op op_mod (pe_callTy call_int1 (by rfl) T.int b_int (pa_cons (pe_op op_fdiv (pv 0) pe_int) pa_nil)) pe_int) (fun _ _ => rfl)))
    (pss_one (ps_ret (pe_tup (pa_cons pe_str (pa_cons (pe_callTy call_tuple_of (by rfl) T.tuple b_tuple (pa_cons (pe_lc (own := [("_law_at", 2)]) rfl scLData.nd (pi_range1 (by rfl) T.range (pa_cons (pe_op op_mod (pe_callTy call_int1 (by rfl) T.int b_int (pa_cons (pv 0) pa_nil)) pe_int) pa_nil)) (blkOk_by (own := [("_law_at", 2)]) (N := NLData) (sc := (fnScope sLData)) (by decide +kernel)) (fun _ _ _ _ _ => (pg_name (i := 2) scLData.nd rfl (.inl rfl))) (fun _ _ _ _ _ => pts_nil) (fun _ _ _ _ _ => (pe_op op_mod (pe_callTy call_int1 (by rfl) T.int b_int (pa_cons (pe_op op_fdiv (pv 0) (pe_op op_add pe_int (pe_op op_mul pe_int (pv 2)))) pa_nil)) (pv 1)))) pa_nil)) pa_nil)))))), ?_⟩
  walk_at "rd"
  refine ⟨(by show 3 ≤ sizeLine; decide), fun p hp => ?_⟩
  have s1 := same_new hp (.tup [V.int 3, V.int 7, V.int 100])
  walk_at "rd"
  refine g_I (C := CDiv) ⟨by decide, by decide⟩ ?_
  walk_at "rd"
  refine g_I (by show (0 : Int) < _; decide) ?_
  have a1 := Int.emod_nonneg (z / 5) (show (3 : Int) ≠ 0 by decide)
  have a2 := Int.emod_lt_of_pos (z / 5) (show (0 : Int) < 3 by decide)
  obtain ⟨j, hj⟩ : ∃ j : Nat, (j : Int) = z / 5 % 3 := ⟨(z / 5 % 3).toNat, Int.toNat_of_nonneg a1⟩
  obtain ⟨mo, hm1, hm2, hm3⟩ : ∃ mo : Int, ([V.int 3, V.int 7, V.int 100] : List V)[j]? = some (.int mo) ∧ 0 < mo ∧ mo ≤ 100 := by
    have : j < 3 := by omega
    match j, this with
    | 0, _ => exact ⟨3, rfl, by decide, by decide⟩
    | 1, _ => exact ⟨7, rfl, by decide, by decide⟩
    | 2, _ => exact ⟨100, rfl, by decide, by decide⟩
  refine g_ixT j (SqT.of upd_same) hj.symm hm1 ?_
  revert s1
  generalize upd H p (.tup [V.int 3, V.int 7, V.int 100]) = H1
  intro s1
  walk_at "rd"
  refine g_I (by show (0 : Int) < _; decide) ?_
  walk_at "rd"
  have b1 := Int.emod_nonneg z (show (4 : Int) ≠ 0 by decide)
  have b2 := Int.emod_lt_of_pos z (show (0 : Int) < 4 by decide)
  refine ⟨z % 4, rfl, by omega, by omega, fun D hD => ?_⟩
  refine lc_it walk_range (fun i H' => Same H1 H' ∧ ∃ c : List Nat, c.length = i ∧ (∀ x ∈ c, x ≤ 99) ∧ H' D = some (.lst (c.map vn))) ⟨same_new hD _, [], rfl, (fun x hx => absurd hx List.not_mem_nil), upd_same⟩ (fun _ _ _ _ => True.intro) ?_ ?_
  · rintro i r H2 H3 hi ⟨s2, c, c1, c2, c3⟩ ⟨rfl, rfl⟩
    have hi : i < (z % 4).toNat := hi
    walk_at "rd"
    refine ⟨rfl, ?_⟩
    walk_at "rd"
    refine g_I (.inl ⟨by decide, by decide⟩) ?_
    walk_at "rd"
    refine g_I (C := CDiv) ⟨by omega, by omega⟩ ?_
    walk_at "rd"
    refine g_I (by show (0 : Int) < _; omega) ?_
    have e1 := Int.emod_nonneg (z / (3 + 17 * (0 + (i : Int)))) (show mo ≠ 0 by omega)
    have e2 := Int.emod_lt_of_pos (z / (3 + 17 * (0 + (i : Int)))) hm2
    obtain ⟨x, hx⟩ : ∃ x : Nat, (x : Int) = z / (3 + 17 * (0 + (i : Int))) % mo := ⟨_, Int.toNat_of_nonneg e1⟩
    rw [← hx]
    refine ⟨_, c3, small1000 (by rw [List.length_map]; omega), Same.putNew s2 hD, c ++ [x], by rw [List.length_append, c1]; rfl, fun y hy => ?_, by rw [upd_same, List.map_append]; rfl⟩
    rcases List.mem_append.mp hy with hy | hy
    · exact c2 y hy
    · rw [List.mem_singleton.mp hy]
      omega
  · rintro H2 ⟨s2, c, c1, c2, c3⟩
    walk_at "rd"
    refine ⟨D, _, rfl, .inl ⟨SqL.of c3, fun t ht => ?_⟩⟩
    have s3 := same_new ht (.tup (c.map vn))
    walk_at "rd"
    refine ⟨(by show 2 ≤ sizeLine; decide), fun u hu => ?_⟩
    have s4 := same_new hu (.tup [V.str "data", .ref t])
    exact q c u _ (by omega) c2 (((s1.trans s2).trans s3).trans s4) (Tp.pair upd_same (.tup (s4 _ _ upd_same) (TpAll.ints c)))
end
end Bx

namespace Bx
inductive Gb where
  | dat (c : List Nat) | tab (ds : List PyData) | grp (l : List Gb)
def Gb.wd : Gb → Str
  | .dat _ => "data"
  | .tab _ => "table"
  | .grp _ => "group"
mutual
def gbC : Gb → List PyData
  | .dat c => c.map pn
  | .tab ds => ds
  | .grp l => gbL l
def gbL : List Gb → List PyData
  | [] => []
  | g :: r => .tuple [.str g.wd, .tuple (gbC g)] :: gbL r
end
def gbD (g : Gb) : PyData := .tuple [.str g.wd, .tuple (gbC g)]
theorem gbL_map : ∀ l : List Gb, gbL l = l.map gbD
  | [] => by rw [gbL]; rfl
  | g :: r => by rw [gbL, gbL_map r]; rfl
def datOk (c : List Nat) : Prop := c.length ≤ 3 ∧ ∀ x ∈ c, x ≤ 99
inductive SkOk : Gb → Prop where
  | dat {c : List Nat} (h : datOk c) : SkOk (.dat c)
  | tab {n : Nat} (h : n ≤ 2) : SkOk (.tab (List.replicate n .none))
  | g0 : SkOk (.grp [])
  | g1 {c : List Nat} (h : datOk c) : SkOk (.grp [.dat c])
  | g2 {c : List Nat} (h : datOk c) : SkOk (.grp [.grp [.dat c]])
section
variable {P : Program} {w : World} {K : PySem.W.Frag} {mg : Str → Option Value} {base : Heap} {C CB : Addr}
theorem TpAll.non (H : Hp) : ∀ n : Nat, TpAll K H (List.replicate n .non) (List.replicate n .none)
  | 0 => .nil
  | n + 1 => by
    rw [List.replicate_succ, List.replicate_succ]
    exact .cons .non (TpAll.non H n)
def spLBoxes (K : PySem.W.Frag) : Sp := fun vs H Q _ => ∃ (S : Addr) (ns : List Int) (k m : Nat), vs = [.ref S, .int (k : Int), vn m] ∧ Scr K H S ns ∧ k ≤ 90000 ∧ m ≤ 10 ∧ ∀ (gs : List Gb) (a : Addr) (H' : Hp), gs.length = m → (∀ g ∈ gs, SkOk g) → Same H H' → Tp K H' (.ref a) (.tuple (gs.map gbD)) → Q (.ref a) H'
theorem ok_lBoxes {f : Addr} {fd : FuncData} (F : Def K mg "_law_boxes" sLBoxes f fd) (b : Binds K fd ["_law_script", "_law_index", "_law_many_here"] []) (T : Txt mg) (C_lNumber : Cal P w K mg base 1 "_law_number" (spNum K) []) (C_lData : Cal P w K mg base 1 "_law_data" (spLData K) []) : Cal P w K mg base 2 "_law_boxes" (spLBoxes K) [] := by
  refine cal0 F b .nil scLBoxes (fun vs H Q E h => ?_) (fun cdv A outer s H vs Q E hr h => ?_)
  · obtain ⟨S, ns, k, m, rfl, _⟩ := h
    rfl
  obtain ⟨S, ns, k, m, rfl, hS, hk, hm, q⟩ := h
  refine ⟨_, (pss_cons (ps_set (i := 3) scLBoxes.nd rfl (Or.inl rfl) (pe_lst pa_nil))
    (pss_cons (ps_for PassesOwn.never rfl (pi_range1 (by rfl) T.range (pa_cons (pv 2) pa_nil)) (pg_name (i := 4) scLBoxes.nd rfl (.inl rfl)) 
      (pss_cons (ps_set (i := 5) scLBoxes.nd rfl (Or.inl rfl) (pe_c C_lNumber hr (by decide) rfl (pa_cons (pv 0) (pa_cons (pe_op op_add (pv 1) (pv 4)) pa_nil))))
      (pss_cons (ps_set (i := 6) scLBoxes.nd rfl (Or.inl rfl) (pe_op op_mod (pe_callTy call_int1 (by rfl) T.int b_int (pa_cons (pe_op op_fdiv (pv 5) pe_int) pa_nil)) pe_int))
      (pss_one (ps_if (pt_cmpR op_lt (pv 6) pe_int (nomark _)) 
        (pss_one (ps_expr (pe_bm PySem.F.plainAttrs_list PySem.F.slot_list_append PySem.F.type_list_append mt_append (pv 3) (pa_cons (pe_c C_lData hr (by decide) rfl (pa_cons (pv 5) pa_nil)) pa_nil)))) 
        (pss_one (ps_if (pt_cmpR op_lt (pv 6) pe_int (nomark _)) 
          (pss_one (ps_expr (pe_bm PySem.F.plainAttrs_list PySem.F.slot_list_append PySem.F.type_list_append mt_append (pv 3) (pa_cons (pe_tup (pa_cons pe_str (pa_cons (pe_op op_repN (pe_tup (pa_cons pe_non pa_nil)) (pe_op op_add pe_int (pe_op op_mod (pe_callTy call_int1 (by rfl) T.int b_int (pa_cons (pv 5) pa_nil)) pe_int))) pa_nil))) pa_nil)))) 
          (pss_one (ps_if (pt_cmpR op_eq (pv 6) pe_int (nomark _)) 
            (pss_one (ps_expr (pe_bm PySem.F.plainAttrs_list PySem.F.slot_list_append PySem.F.type_list_append mt_append (pv 3) (pa_cons (pe_tup (pa_cons pe_str (pa_cons (pe_op op_repN (pe_tup (pa_cons (pe_c C_lData hr (by decide) rfl (pa_cons (pe_op op_fdiv (pv 5) pe_int) pa_nil)) pa_nil)) (pe_op op_mod (pe_callTy call_int1 (by rfl) T.int b_int (pa_cons (pv 5) pa_nil)) pe_int)) pa_nil))) pa_nil)))) 
            (pss_one (ps_expr (pe_bm PySem.F.plainAttrs_list PySem.F.slot_list_append PySem.F.type_list_append mt_append (pv 3) (pa_cons (pe_tup (pa_cons pe_str (pa_cons (pe_tup (pa_cons (pe_tup (pa_cons pe_str (pa_cons (pe_tup (pa_cons (pe_c C_lData hr (by decide) rfl (pa_cons (pe_op op_fdiv (pv 5) pe_int) pa_nil)) pa_nil)) pa_nil))) pa_nil)) pa_nil))) pa_nil)))))))))))))
    (pss_one (ps_ret (pe_callTy call_tuple_of (by rfl) T.tuple b_tuple (pa_cons (pv 3) pa_nil)))))), ?_⟩
  walk_at "rd"
  refine ⟨Nat.zero_le _, fun fa hfa => ?_⟩
  have s1 := same_new hfa (.lst [])
  walk_at "rd"
  refine ⟨(m : Int), rfl, by omega, by omega, for_it walk_range (fun i σ H' => (∃ x4 x5 x6, σ = [some (.ref S), some (.int (k : Int)), some (vn m), some (.ref fa), x4, x5, x6]) ∧ Same H H' ∧ ∃ (gs : List Gb) (acc : List V), gs.length = i ∧ acc.length = i ∧ (∀ g ∈ gs, SkOk g) ∧ H' fa = some (.lst acc) ∧ TpAll K H' acc (gs.map gbD))
    ⟨⟨_, _, _, rfl⟩, s1, [], [], rfl, rfl, (fun g hg => absurd hg List.not_mem_nil), upd_same, .nil⟩ (fun _ _ _ _ _ => True.intro) ?_ ?_⟩
  · rintro i r σ H1 H2 hi ⟨⟨x4, x5, x6, rfl⟩, s2, gs, acc, g1, g2, g3, g4, g5⟩ ⟨rfl, rfl⟩
    have hi : i < m := by
      have : i < ((m : Int)).toNat := hi
      omega
    -- what one turn adds
    have add : ∀ (g : Gb) (v : Addr) (H3 : Hp), SkOk g → Same H2 H3 → Tp K H3 (.ref v) (gbD g) → ∃ (gs' : List Gb) (acc' : List V), gs'.length = i + 1 ∧ acc'.length = i + 1 ∧ (∀ g ∈ gs', SkOk g) ∧ (upd H3 fa (.lst (acc ++ [.ref v]))) fa = some (.lst acc') ∧ TpAll K (upd H3 fa (.lst (acc ++ [.ref v]))) acc' (gs'.map gbD) := by
      intro g v H3 hg s3 hv
      refine ⟨gs ++ [g], acc ++ [.ref v], by rw [List.length_append, g1]; rfl, by rw [List.length_append, g2]; rfl, fun x hx => ?_, upd_same, ?_⟩
      · rcases List.mem_append.mp hx with hx | hx
        · exact g3 x hx
        · rw [List.mem_singleton.mp hx]
          exact hg
      · rw [List.map_append]
        have kk := tk_lst (K := K) (u := HO.lst (acc ++ [.ref v])) (s3 _ _ g4)
        exact (TpAll.mono kk _ _ (g5.same s3)).snoc (Tp.mono kk _ _ hv)
    have az : acc.length ≤ 500 := by omega
    walk_at "rd"
    refine ⟨S, ns, k + i, congrArg (fun z => [V.ref S, V.int z]) (by omega), hS.same s2, by omega, fun z H3 hz s3 => ?_⟩
    walk_at "rd"
    refine g_I (C := CDiv) ⟨by decide, by decide⟩ ?_
    walk_at "rd"
    refine g_I (by show (0 : Int) < _; decide) ?_
    walk_at "rd"
    refine g_ite (fun h1 => ?_) (fun h1 => ?_)
    · walk_at "rd"
      refine ⟨.inl ⟨rfl, _, SqL.of (s3 _ _ g4)⟩, ?_⟩
      walk_at "rd"
      refine ⟨z, rfl, hz, fun c v H4 c1 c2 s4 hv => ?_⟩
      refine ⟨fa, acc, .ref v, rfl, rfl, (s3.trans s4) _ _ g4, small (by show acc.length + 1 ≤ 1000; omega), ?_⟩
      walk_at "rd"
      exact ⟨⟨_, _, _, rfl⟩, Same.putNew (s2.trans (s3.trans s4)) hfa, add (.dat c) v H4 (.dat ⟨c1, c2⟩) (s3.trans s4) hv⟩
    walk_at "rd"
    refine g_ite (fun h2 => ?_) (fun h2 => ?_)
    · walk_at "rd"
      refine ⟨.inl ⟨rfl, _, SqL.of (s3 _ _ g4)⟩, ?_⟩
      walk_at "rd"
      refine ⟨(by show 1 ≤ sizeLine; decide), fun p1 hp1 => ?_⟩
      have s4 := same_new hp1 (.tup [V.non])
      walk_at "rd"
      refine g_I (by show (0 : Int) < _; decide) ?_
      have a1 := Int.emod_nonneg z (show (2 : Int) ≠ 0 by decide)
      have a2 := Int.emod_lt_of_pos z (show (0 : Int) < 2 by decide)
      obtain ⟨n, hn⟩ : ∃ n : Nat, (n : Int) = 1 + z % 2 := ⟨(1 + z % 2).toNat, Int.toNat_of_nonneg (by omega)⟩
      walk_at "rd"
      rw [← hn]
      refine ⟨p1, [V.non], n, rfl, rfl, upd_same, (by simp), by omega, by decide, fun p2 H5 s5 hp2 => ?_⟩
      walk_at "rd"
      refine ⟨(by show 2 ≤ sizeLine; decide), fun p3 hp3 => ?_⟩
      have s6 := same_new hp3 (.tup [V.str "table", .ref p2])
      have S6 := ((s3.trans s4).trans s5).trans s6
      refine ⟨fa, acc, .ref p3, rfl, rfl, S6 _ _ g4, small (by show acc.length + 1 ≤ 1000; omega), ?_⟩
      walk_at "rd"
      have hd : Tp K (upd H5 p3 (.tup [V.str "table", .ref p2])) (.ref p3) (gbD (.tab (List.replicate n .none))) := by
        refine Tp.pair upd_same (.tup (s6 _ _ hp2) ?_)
        rw [List.flatten_replicate_singleton]
        exact TpAll.non _ n
      exact ⟨⟨_, _, _, rfl⟩, Same.putNew (s2.trans S6) hfa, add _ p3 _ (.tab (by omega)) S6 hd⟩
    walk_at "rd"
    refine g_ite (fun h3 => ?_) (fun h3 => ?_)
    · walk_at "rd"
      refine ⟨.inl ⟨rfl, _, SqL.of (s3 _ _ g4)⟩, ?_⟩
      walk_at "rd"
      refine g_I (C := CDiv) ⟨by decide, by decide⟩ ?_
      walk_at "rd"
      refine ⟨z / 7, rfl, Int.ediv_nonneg hz (by decide), fun c v H4 c1 c2 s4 hv => ?_⟩
      walk_at "rd"
      refine ⟨(by show 1 ≤ sizeLine; decide), fun p1 hp1 => ?_⟩
      have s5 := same_new hp1 (.tup [V.ref v])
      walk_at "rd"
      refine g_I (by show (0 : Int) < _; decide) ?_
      have a1 := Int.emod_nonneg z (show (2 : Int) ≠ 0 by decide)
      have a2 := Int.emod_lt_of_pos z (show (0 : Int) < 2 by decide)
      obtain ⟨n, hn⟩ : ∃ n : Nat, (n : Int) = z % 2 := ⟨(z % 2).toNat, Int.toNat_of_nonneg (by omega)⟩
      rw [← hn]
      refine ⟨p1, [V.ref v], n, rfl, rfl, upd_same, (by simp), by omega, (by show 1 ≤ 1000; decide), fun p2 H5 s6 hp2 => ?_⟩
      walk_at "rd"
      refine ⟨(by show 2 ≤ sizeLine; decide), fun p3 hp3 => ?_⟩
      have s7 := same_new hp3 (.tup [V.str "group", .ref p2])
      have S7 := (((s3.trans s4).trans s5).trans s6).trans s7
      refine ⟨fa, acc, .ref p3, rfl, rfl, S7 _ _ g4, small (by show acc.length + 1 ≤ 1000; omega), ?_⟩
      walk_at "rd"
      have hn2 : n = 0 ∨ n = 1 := by omega
      rcases hn2 with e | e
      · rw [e] at hp2
        exact ⟨⟨_, _, _, rfl⟩, Same.putNew (s2.trans S7) hfa, add (.grp []) p3 _ .g0 S7 (Tp.pair upd_same (.tup (s7 _ _ hp2) .nil))⟩
      · rw [e] at hp2
        exact ⟨⟨_, _, _, rfl⟩, Same.putNew (s2.trans S7) hfa, add (.grp [.dat c]) p3 _ (.g1 ⟨c1, c2⟩) S7 (Tp.pair upd_same (.tup (s7 _ _ hp2) (.cons (hv.same ((s5.trans s6).trans s7)) .nil)))⟩
    · walk_at "rd"
      refine ⟨.inl ⟨rfl, _, SqL.of (s3 _ _ g4)⟩, ?_⟩
      walk_at "rd"
      refine g_I (C := CDiv) ⟨by decide, by decide⟩ ?_
      walk_at "rd"
      refine ⟨z / 7, rfl, Int.ediv_nonneg hz (by decide), fun c v H4 c1 c2 s4 hv => ?_⟩
      walk_at "rd"
      refine ⟨(by show 1 ≤ sizeLine; decide), fun p1 hp1 => ?_⟩
      have s5 := same_new hp1 (.tup [V.ref v])
      walk_at "rd"
      refine ⟨(by show 2 ≤ sizeLine; decide), fun p2 hp2 => ?_⟩
      have s6 := same_new hp2 (.tup [V.str "group", .ref p1])
      walk_at "rd"
      refine ⟨(by show 1 ≤ sizeLine; decide), fun p3 hp3 => ?_⟩
      have s7 := same_new hp3 (.tup [V.ref p2])
      walk_at "rd"
      refine ⟨(by show 2 ≤ sizeLine; decide), fun p4 hp4 => ?_⟩
      have s8 := same_new hp4 (.tup [V.str "group", .ref p3])
      have S8 := ((((s3.trans s4).trans s5).trans s6).trans s7).trans s8
      refine ⟨fa, acc, .ref p4, rfl, rfl, S8 _ _ g4, small (by show acc.length + 1 ≤ 1000; omega), ?_⟩
      walk_at "rd"
      refine ⟨⟨_, _, _, rfl⟩, Same.putNew (s2.trans S8) hfa, add (.grp [.grp [.dat c]]) p4 _ (.g2 ⟨c1, c2⟩) S8 ?_⟩
      refine Tp.pair upd_same (.tup (s8 _ _ upd_same) (.cons ?_ .nil))
      exact Tp.pair ((s7.trans s8) _ _ upd_same) (.tup (((s6.trans s7).trans s8) _ _ upd_same) (.cons (hv.same (((s5.trans s6).trans s7).trans s8)) .nil))
  · rintro σ H1 ⟨⟨x4, x5, x6, rfl⟩, s2, gs, acc, g1, g2, g3, g4, g5⟩
    walk_at "rd"
    refine ⟨fa, _, rfl, .inl ⟨SqL.of g4, fun t ht => ?_⟩⟩
    have s3 := same_new ht (.tup acc)
    refine q gs t _ ?_ g3 (s2.trans s3) (.tup upd_same (g5.same s3))
    rw [g1]
    omega
end
end Bx

namespace Bx
mutual
def flG1 : Gb → List Gb
  | .dat c => [.dat c]
  | .tab ds => [.tab ds]
  | .grp l => .grp l :: flGL l
def flGL : List Gb → List Gb
  | [] => []
  | g :: r => flG1 g ++ flGL r
end
mutual
def dpG1 : Gb → Nat
  | .dat _ => 0
  | .tab _ => 0
  | .grp l => dpGL l + 1
def dpGL : List Gb → Nat
  | [] => 0
  | g :: r => max (dpG1 g) (dpGL r)
end
theorem flGL_ap : ∀ a b : List Gb, flGL (a ++ b) = flGL a ++ flGL b
  | [], b => by
    rw [List.nil_append, flGL]
    rfl
  | g :: r, b => by rw [List.cons_append, flGL, flGL, flGL_ap r b, List.append_assoc]
theorem flGL_one (g : Gb) : flGL [g] = flG1 g := by rw [flGL, flGL, List.append_nil]
theorem flGL_take {l : List Gb} {i : Nat} {g : Gb} (h : l[i]? = some g) : flGL (l.take (i + 1)) = flGL (l.take i) ++ flG1 g := by rw [take_snoc h, flGL_ap, flGL_one]
theorem flGL_le (l : List Gb) (i : Nat) : (flGL (l.take i)).length ≤ (flGL l).length := by
  have := congrArg List.length (congrArg flGL (List.take_append_drop i l))
  rw [flGL_ap, List.length_append] at this
  omega
theorem flG1_pos : ∀ g : Gb, 0 < (flG1 g).length
  | .dat c => by rw [flG1]; exact Nat.one_pos
  | .tab d => by rw [flG1]; exact Nat.one_pos
  | .grp l => by rw [flG1, List.length_cons]; omega
theorem dpG_mem : ∀ {l : List Gb} {g : Gb}, g ∈ l → dpG1 g ≤ dpGL l
  | x :: r, g, h => by
    rw [dpGL]
    rcases List.mem_cons.mp h with rfl | h
    · omega
    · have := dpG_mem h
      omega
theorem gbD_grp (l : List Gb) : gbD (.grp l) = .tuple [.str "group", .tuple (l.map gbD)] := by
  show PyData.tuple [.str "group", .tuple (gbC (.grp l))] = _
  rw [gbC, gbL_map]
/-- a box that was made: its word, its content -/
theorem gbD_inv {K : PySem.W.Frag} {H : Hp} {v : V} {g : Gb} (h : Tp K H v (gbD g)) : ∃ a y, v = .ref a ∧ SqT K H a [.str g.wd, y] ∧ Tp K H y (.tuple (gbC g)) := Tp.pair_inv h
section
variable {P : Program} {w : World} {K : PySem.W.Frag} {mg : Str → Option Value} {base : Heap} {C CB : Addr}
def spLFlat (K : PySem.W.Frag) (m : Nat) : Sp := fun vs H Q _ => ∃ (v : V) (gs : List Gb), vs = [v] ∧ Tp K H v (.tuple (gs.map gbD)) ∧ dpGL gs < m ∧ (flGL gs).length ≤ 100 ∧ ∀ (a : Addr) (acc : List V) (H' : Hp), Same H H' → H a = none → H' a = some (.lst acc) → TpAll K H' acc ((flGL gs).map gbD) → Q (.ref a) H'
theorem ok_lFlat {f : Addr} {fd : FuncData} (F : Def K mg "_law_flat" sLFlat f fd) (b : Binds K fd ["_law_boxes_here"] []) (T : Txt mg) : ∀ m : Nat, Cal P w K mg base (m + 1) "_law_flat" (spLFlat K m) []
  | 0 => by
    refine cal0 F b .nil scLFlat (fun vs H Q E h => ?_) (fun cdv A outer s H vs Q E hr h => ?_)
    · obtain ⟨v, gs, rfl, _⟩ := h
      rfl
    · obtain ⟨v, gs, rfl, _, h, _⟩ := h
      omega
  | m + 1 => by
    have C_lFlat := ok_lFlat F b T m
    refine cal0 F b .nil scLFlat (fun vs H Q E h => ?_) (fun cdv A outer s H vs Q E hr h => ?_)
    · obtain ⟨v, gs, rfl, _⟩ := h
      rfl
    obtain ⟨v, gs, rfl, hv, hd, hz, q⟩ := h
    obtain ⟨t, xs, rfl, hT, hX⟩ := Tp.tup_inv hv
    have hxl : xs.length = gs.length := by rw [hX.length, List.length_map]
    refine ⟨_, (pss_cons (ps_set (i := 1) scLFlat.nd rfl (Or.inl rfl) (pe_lst pa_nil))
    (pss_cons (ps_for PassesOwn.never rfl (pi_tup (pv 0)) (pg_tup rfl (pgs_cons (pg_name (i := 2) scLFlat.nd rfl (.inl rfl)) (pgs_cons (pg_name (i := 3) scLFlat.nd rfl (.inl rfl)) pgs_nil))) 
      (pss_cons (ps_expr (pe_bm PySem.F.plainAttrs_list PySem.F.slot_list_append PySem.F.type_list_append mt_append (pv 1) (pa_cons (pe_tup (pa_cons (pv 2) (pa_cons (pv 3) pa_nil))) pa_nil)))
      (pss_one (ps_if (pt_cmpR op_eq (pv 2) pe_str (nomark _)) 
        (pss_one (ps_set (i := 1) scLFlat.nd rfl (Or.inl rfl) (pe_op op_cat (pv 1) (pe_c C_lFlat hr (Nat.le_refl _) rfl (pa_cons (pv 3) pa_nil))))) pss_nil))))
    (pss_one (ps_ret (pv 1))))), ?_⟩
    walk_at "rd"
    refine ⟨Nat.zero_le _, fun l0 hl0 => ?_⟩
    have s0 := same_new hl0 (.lst [])
    walk_at "rd"
    refine ⟨t, rfl, ⟨_, Same.sqt s0 hT⟩, for_it walk_tup (fun i σ H' => (∃ l x2 x3 acc, σ = [some (.ref t), some (.ref l), x2, x3] ∧ H l = none ∧ H' l = some (.lst acc) ∧ TpAll K H' acc ((flGL (gs.take i)).map gbD)) ∧ Same H H')
      ⟨⟨l0, _, _, [], rfl, hl0, upd_same, .nil⟩, s0⟩ (fun i σ H' _ z => Same.sqt z.2 hT) ?_ ?_⟩
    · rintro i x σ H1 H2 hi ⟨⟨l, x2, x3, acc, rfl, hl, e3, e4⟩, s1⟩ ⟨rfl, hx⟩
      obtain ⟨dd, e1, e2⟩ := hX.get hx
      rw [List.getElem?_map] at e1
      obtain ⟨g, hg, rfl⟩ := Option.map_eq_some_iff.mp e1
      have hm := List.mem_of_getElem? hg
      have e2 := e2.same s1
      obtain ⟨a, y, rfl, ha, hy⟩ := gbD_inv e2
      have hle := flGL_le gs i
      have hle2 := flGL_le gs (i + 1)
      rw [flGL_take hg, List.length_append] at hle2
      have hal : acc.length = (flGL (gs.take i)).length := by rw [e4.length, List.length_map]
      walk_at "rd"
      refine g_tupT ha rfl ?_
      walk_at "rd"
      refine ⟨.inl ⟨rfl, _, SqL.of e3⟩, ?_⟩
      walk_at "rd"
      refine ⟨(by show 2 ≤ sizeLine; decide), fun p hp => ?_⟩
      have s2 := same_new hp (.tup [V.str g.wd, y])
      refine ⟨l, acc, .ref p, rfl, rfl, s2 _ _ e3, small (by omega), ?_⟩
      have kk := tk_lst (K := K) (u := HO.lst (acc ++ [.ref p])) (s2 _ _ e3)
      have hp2 : Tp K (upd (upd H2 p (.tup [V.str g.wd, y])) l (.lst (acc ++ [.ref p]))) (.ref p) (gbD g) := Tp.mono kk _ _ (Tp.pair upd_same (hy.same s2))
      have f1 : (upd (upd H2 p (.tup [V.str g.wd, y])) l (.lst (acc ++ [.ref p]))) l = some (.lst (acc ++ [.ref p])) := upd_same
      have f2 := (TpAll.mono kk _ _ (e4.same s2)).snoc hp2
      have f3 : Same H (upd (upd H2 p (.tup [V.str g.wd, y])) l (.lst (acc ++ [.ref p]))) := Same.putNew (s1.trans s2) hl
      have f4 : Tp K (upd (upd H2 p (.tup [V.str g.wd, y])) l (.lst (acc ++ [.ref p]))) y (.tuple (gbC g)) := Tp.mono kk _ _ (hy.same s2)
      revert f1 f2 f3 f4
      generalize upd (upd H2 p (.tup [V.str g.wd, y])) l (.lst (acc ++ [.ref p])) = H3
      intro f1 f2 f3 f4
      walk_at "rd"
      cases g with
      | dat c =>
        refine g_dF (sne "data" "group") ?_
        refine ⟨⟨l, _, _, _, rfl, hl, f1, ?_⟩, f3⟩
        rw [flGL_take hg, List.map_append]
        exact f2
      | tab c =>
        refine g_dF (sne "table" "group") ?_
        refine ⟨⟨l, _, _, _, rfl, hl, f1, ?_⟩, f3⟩
        rw [flGL_take hg, List.map_append]
        exact f2
      | grp ks =>
        refine g_dT rfl ?_
        walk_at "rd"
        have hdk : dpGL ks + 1 ≤ dpGL gs := by
          have := dpG_mem hm
          rw [dpG1] at this
          exact this
        rw [flG1, List.length_cons] at hle2
        rw [gbC, gbL_map] at f4
        refine ⟨y, ks, rfl, f4, by omega, by omega, fun l2 acc2 H4 s4 hn4 h4 h5 => ?_⟩
        refine g_cat (s4 _ _ f1) h4 (by rw [List.length_append, h5.length, List.length_map]; show acc.length + 1 + _ ≤ 1000; omega) fun l3 hl3 => ?_
        have s5 := same_new hl3 (.lst (acc ++ [.ref p] ++ acc2))
        walk_at "rd"
        refine ⟨⟨l3, _, _, _, rfl, (f3.trans s4).free hl3, upd_same, ?_⟩, (f3.trans s4).trans s5⟩
        rw [flGL_take hg, flG1, List.map_append, List.map_cons]
        have := (f2.same (s4.trans s5)).append (h5.same s5)
        rw [List.append_assoc _ [gbD (Gb.grp ks)], List.singleton_append] at this
        exact this
    · rintro σ H1 ⟨⟨l, x2, x3, acc, rfl, hl, e3, e4⟩, s1⟩
      rw [hxl, List.take_length] at e4
      walk_at "rd"
      exact q l acc H1 s1 hl e3 e4
end
end Bx

namespace Bx
def lenG (l : List Gb) : List Nat := l.filterMap fun g => match g with
  | .dat c => some c.length
  | _ => none
def datG (l : List Gb) : List (List Nat) := l.filterMap fun g => match g with
  | .dat c => some c
  | _ => none
theorem datG_snoc (l : List Gb) (g : Gb) : datG (l ++ [g]) = datG l ++ (match g with | .dat c => [c] | _ => []) := by
  unfold datG
  rw [List.filterMap_append]
  cases g <;> rfl
theorem datG_len (l : List Gb) : (datG l).map List.length = lenG l := by
  unfold datG lenG
  rw [List.map_filterMap]
  refine congrArg (fun f => List.filterMap f l) (funext fun g => ?_)
  cases g <;> rfl
theorem datG_le (l : List Gb) : (datG l).length ≤ l.length := List.length_filterMap_le _ _
section
variable {P : Program} {w : World} {K : PySem.W.Frag} {mg : Str → Option Value} {base : Heap} {C CB : Addr}
def spLTargets (K : PySem.W.Frag) : Sp := fun vs H Q _ => ∃ (v : V) (gs : List Gb), vs = [v] ∧ Tp K H v (.tuple (gs.map gbD)) ∧ dpGL gs < 4 ∧ (flGL gs).length ≤ 40 ∧ (∀ m ∈ lenG (flGL gs), m ≤ 3) ∧ ∀ (a : Addr) (acc : List V) (H' : Hp), Same H H' → H a = none → H' a = some (.lst acc) → TpAll K H' acc ((allTo (lenG (flGL gs)) (lenG (flGL gs)).length).map pr) → Q (.ref a) H'
theorem ok_lTargets {f : Addr} {fd : FuncData} (F : Def K mg "_law_targets" sLTargets f fd) (b : Binds K fd ["_law_shape_here"] []) (T : Txt mg) (C_lFlat : Cal P w K mg base 5 "_law_flat" (spLFlat K 4) []) : Cal P w K mg base 6 "_law_targets" (spLTargets K) [] := by
  refine cal0 F b .nil scLTargets (fun vs H Q E h => ?_) (fun cdv A outer s H vs Q E hr h => ?_)
  · obtain ⟨v, gs, rfl, _⟩ := h
    rfl
  obtain ⟨v, gs, rfl, hv, hd, hz, hz3, q⟩ := h
  refine ⟨_, (pss_cons (ps_set (i := 1) scLTargets.nd rfl (Or.inl rfl) (pe_lst pa_nil))
    (pss_cons (ps_for PassesOwn.never rfl (pi_enum (by rfl) T.enumerate (pa_cons (pe_lc (own := [("_law_word_here", 4), ("_law_content", 2)]) rfl scLTargets.nd (pi_list (pe_c C_lFlat hr (by decide) rfl (pa_cons (pv 0) pa_nil))) (blkOk_by (own := [("_law_word_here", 4), ("_law_content", 2)]) (N := NLTargets) (sc := (fnScope sLTargets)) (by decide +kernel)) (fun _ _ _ _ _ => (pg_tup2 (K := K) rfl rfl (pgs_cons (pg_name (i := 4) scLTargets.nd rfl (.inl rfl)) (pgs_cons (pg_name (i := 2) scLTargets.nd rfl (.inl rfl)) pgs_nil)))) (fun _ _ _ _ _ => (pts_one (pt_cmpR op_eq (pv 4) pe_str (nomark _)))) (fun _ _ _ _ _ => (pv 2))) pa_nil)) (pg_tup rfl (pgs_cons (pg_name (i := 3) scLTargets.nd rfl (.inr rfl)) (pgs_cons (pg_name (i := 2) scLTargets.nd rfl (.inl rfl)) pgs_nil))) 
      (pss_one (ps_set (i := 1) scLTargets.nd rfl (Or.inl rfl) (pe_op op_cat (pv 1) (pe_lc (own := [("_law_at", 5)]) rfl scLTargets.nd (pi_range1 (by rfl) T.range (pa_cons (pe_callB call_len_seq (by rfl) T.len b_len (pa_cons (pv 2) pa_nil)) pa_nil)) (blkOk_by (own := [("_law_at", 5)]) (N := NLTargets) (sc := (fnScope sLTargets)) (by decide +kernel)) (fun _ _ _ _ _ => (pg_name (i := 5) scLTargets.nd rfl (.inl rfl))) (fun _ _ _ _ _ => pts_nil) (fun _ _ _ _ _ => (pe_tup (pa_cons (pv 3) (pa_cons (pv 5) pa_nil)))))))))
    (pss_one (ps_ret (pv 1))))), ?_⟩
  walk_at "rd"
  refine ⟨Nat.zero_le _, fun l0 hl0 => ?_⟩
  have s0 := same_new hl0 (.lst [])
  walk_at "rd"
  refine ⟨v, gs, rfl, hv.same s0, hd, by omega, fun a acc H1 s1 hn1 h1 h2 => ?_⟩
  refine ⟨a, rfl, ⟨_, SqL.of h1⟩, fun D hD => ?_⟩
  have hal : acc.length = (flGL gs).length := by rw [h2.length, List.length_map]
  refine lc_it walk_list (fun i H' => Same H1 H' ∧ ∃ ys, H' D = some (.lst ys) ∧ TpAll K H' ys ((datG ((flGL gs).take i)).map fun c => .tuple (c.map pn))) ⟨same_new hD _, [], upd_same, .nil⟩ (fun i H' _ z => SqL.of (z.1 _ _ h1)) ?_ ?_
  · rintro i x H2 H3 hi ⟨s2, ys, e1, e2⟩ ⟨rfl, hx⟩
    obtain ⟨dd, f1, f2⟩ := h2.get hx
    rw [List.getElem?_map] at f1
    obtain ⟨g, hg, rfl⟩ := Option.map_eq_some_iff.mp f1
    obtain ⟨ta, y, rfl, ha, hy⟩ := gbD_inv (f2.same s2)
    have hyl : ys.length ≤ 100 := by
      rw [e2.length, List.length_map]
      have := datG_le ((flGL gs).take i)
      rw [List.length_take] at this
      omega
    refine g_tupT ha rfl ?_
    walk_at "rd"
    cases g with
    | dat c =>
      refine ⟨rfl, ?_⟩
      walk_at "rd"
      refine g_dT rfl ?_
      walk_at "rd"
      refine ⟨ys, e1, small1000 (by omega), Same.putNew s2 hD, ys ++ [y], upd_same, ?_⟩
      rw [take_snoc hg, datG_snoc, List.map_append]
      have kk := tk_lst (K := K) (u := HO.lst (ys ++ [y])) e1
      refine (TpAll.mono kk _ _ e2).snoc (Tp.mono kk _ _ ?_)
      rw [gbC] at hy
      exact hy
    | tab c =>
      refine ⟨rfl, ?_⟩
      walk_at "rd"
      refine g_dF (sne "table" "data") ?_
      refine ⟨s2, ys, e1, ?_⟩
      rw [take_snoc hg, datG_snoc, List.append_nil]
      exact e2
    | grp c =>
      refine ⟨rfl, ?_⟩
      walk_at "rd"
      refine g_dF (sne "group" "data") ?_
      refine ⟨s2, ys, e1, ?_⟩
      rw [take_snoc hg, datG_snoc, List.append_nil]
      exact e2
  rintro H2 ⟨s2, ys, e1, e2⟩
  rw [hal, List.take_length] at e2
  have S2 := (s0.trans s1).trans s2
  have hyl : ys.length = (datG (flGL gs)).length := by rw [e2.length, List.length_map]
  have hll : (datG (flGL gs)).length = (lenG (flGL gs)).length := by rw [← datG_len, List.length_map]
  have hle := datG_le (flGL gs)
  have hl2 : H2 l0 = some (.lst []) := (s1.trans s2) _ _ upd_same
  walk_at "rd"
  refine ⟨D, _, rfl, SqL.of e1, for_it walk_enum (fun i σ H' => (∃ l x2 x3 x4 x5 tx, σ = [some v, some (.ref l), x2, x3, x4, x5] ∧ H l = none ∧ H' l = some (.lst tx) ∧ TpAll K H' tx ((allTo (lenG (flGL gs)) i).map pr)) ∧ Same H2 H')
    ⟨⟨l0, _, _, _, _, [], rfl, hl0, hl2, .nil⟩, Same.refl _⟩ (fun j σ H' _ z => z.2.seq (SqL.of e1)) ?_ ?_⟩
  · rintro j y σ H3 H4 hj ⟨⟨l, x2, x3, x4, x5, tx, rfl, n9, v1, v2⟩, u1⟩ ⟨T1, y1, y2, rfl, nT, rfl, g1, g2⟩
    cases Option.some.inj g1
    obtain ⟨dd, f1, f2⟩ := e2.get g2
    rw [List.getElem?_map] at f1
    obtain ⟨c, hc, rfl⟩ := Option.map_eq_some_iff.mp f1
    have hm : (lenG (flGL gs))[j]? = some c.length := by rw [← datG_len, List.getElem?_map, hc]; rfl
    have hm3 := hz3 _ (List.mem_of_getElem? hm)
    have hjl : j < (lenG (flGL gs)).length := (List.getElem?_eq_some_iff.mp hm).1
    have hgd : (lenG (flGL gs)).getD j 0 = c.length := by rw [List.getD_eq_getElem?_getD, hm] <;> rfl
    have sT := same_new nT (.tup [V.int (j : Int), y2])
    have hy2 := f2.same (u1.trans sT)
    obtain ⟨ya, yx, rfl, hya, hyx⟩ := Tp.tup_inv hy2
    have hyxl : yx.length = c.length := by rw [hyx.length, List.length_map]
    refine g_tupT (SqT.of upd_same) rfl ?_
    walk_at "rd"
    refine ⟨_, _, rfl, .inr hya, ?_⟩
    rw [hyxl]
    refine ⟨(c.length : Int), rfl, by omega, by omega, ?_⟩
    rw [Int.toNat_natCast]
    intro D2 hD2
    refine lc_it walk_range (fun o H' => Same (upd H3 T1 (.tup [V.int (j : Int), .ref ya])) H' ∧ ∃ ox, H' D2 = some (.lst ox) ∧ TpAll K H' ox ((List.range o).map fun o => pr (j, o))) ⟨same_new hD2 _, [], upd_same, .nil⟩ (fun _ _ _ _ => True.intro) ?_ ?_
    · rintro o y H5 H6 ho ⟨w1, ox, w2, w3⟩ ⟨rfl, rfl⟩
      walk_at "rd"
      refine ⟨rfl, ?_⟩
      walk_at "rd"
      refine ⟨(by show 2 ≤ sizeLine; decide), fun p hp => ?_⟩
      have w4 := same_new hp (.tup [V.int (j : Int), V.int (0 + (o : Int))])
      have hol : ox.length = o := by rw [w3.length, List.length_map, List.length_range]
      have ho : o < c.length := ho
      refine ⟨ox, w4 _ _ w2, small1000 (by omega), Same.putNew (w1.trans w4) hD2, ox ++ [.ref p], upd_same, ?_⟩
      rw [List.range_succ, List.map_append]
      refine (TpAll.mono (tk_lst (K := K) (w4 _ _ w2)) _ _ (w3.same w4)).snoc ?_
      refine .tup (tk_lst (K := K) (w4 _ _ w2) _ _ upd_same) (.cons (.int _) (.cons ?_ .nil))
      rw [show (0 : Int) + (o : Int) = (o : Int) from Int.zero_add _]
      exact .int _
    · rintro H5 ⟨w1, ox, w2, w3⟩
      have W := sT.trans w1
      have htl : tx.length ≤ 120 := by
        rw [v2.length, List.length_map]
        have := allTo_len hz3 j (by omega)
        omega
      have hol : ox.length = c.length := by rw [w3.length, List.length_map, List.length_range]
      refine g_cat (W _ _ v1) w2 (by omega) fun p hp => ?_
      have w5 := same_new hp (.lst (tx ++ ox))
      refine ⟨⟨p, _, _, _, _, tx ++ ox, rfl, ?_, upd_same, ?_⟩, (u1.trans W).trans w5⟩
      · exact ((S2.trans u1).trans W).free hp
      · rw [allTo_succ, List.map_append, hgd, List.map_map]
        exact ((v2.same W).append w3).same w5
  · rintro σ H3 ⟨⟨l, x2, x3, x4, x5, tx, rfl, n9, v1, v2⟩, u1⟩
    rw [hyl, hll] at v2
    walk_at "rd"
    exact q l tx H3 (S2.trans u1) n9 v1 v2
end
end Bx

namespace Bx
mutual
def gf1 (TL : List (Nat × Nat)) : Gb → Sh → Prop
  | .dat c, .dat c' => c' = c
  | .tab ds, .tab ts => ts.length ≤ ds.length ∧ ∀ t ∈ ts, t ∈ TL
  | .grp l, .grp ss => gfL TL l ss
  | .dat _, .tab _ => False
  | .dat _, .grp _ => False
  | .tab _, .dat _ => False
  | .tab _, .grp _ => False
  | .grp _, .dat _ => False
  | .grp _, .tab _ => False
def gfL (TL : List (Nat × Nat)) : List Gb → List Sh → Prop
  | [], [] => True
  | g :: r, s :: q => gf1 TL g s ∧ gfL TL r q
  | [], _ :: _ => False
  | _ :: _, [] => False
end
theorem gfL_snoc {TL : List (Nat × Nat)} : ∀ {l : List Gb} {ss : List Sh} {g : Gb} {s : Sh}, gfL TL l ss → gf1 TL g s → gfL TL (l ++ [g]) (ss ++ [s])
  | [], [], g, s, _, h => by
    rw [List.nil_append, List.nil_append, gfL]
    exact ⟨h, by rw [gfL]; exact True.intro⟩
  | g0 :: r, s0 :: q, g, s, h0, h => by
    rw [gfL] at h0
    rw [List.cons_append, List.cons_append, gfL]
    exact ⟨h0.1, gfL_snoc h0.2 h⟩
  | [], _ :: _, _, _, h, _ => by rw [gfL] at h; exact h.elim
  | _ :: _, [], _, _, h, _ => by rw [gfL] at h; exact h.elim
theorem gfL_len {TL : List (Nat × Nat)} : ∀ {l : List Gb} {ss : List Sh}, gfL TL l ss → l.length = ss.length
  | [], [], _ => rfl
  | g0 :: r, s0 :: q, h => by
    rw [gfL] at h
    rw [List.length_cons, List.length_cons, gfL_len h.2]
  | [], _ :: _, h => by rw [gfL] at h; exact h.elim
  | _ :: _, [], h => by rw [gfL] at h; exact h.elim
theorem lay_prZ : ∀ l : List (Nat × Nat), PyData.canLayAll0 (l.map pr) = true
  | [] => rfl
  | t :: r => by
    show (PyData.canLay0 (pr t) && PyData.canLayAll0 (r.map pr)) = true
    rw [lay_prZ r]
    rfl
theorem dep_prZ : ∀ l : List (Nat × Nat), PyData.depthAll (l.map pr) ≤ 1
  | [] => Nat.zero_le _
  | t :: r => by
    show max (PyData.depth (pr t)) (PyData.depthAll (r.map pr)) ≤ 1
    have h2 := dep_prZ r
    have h1 : PyData.depth (pr t) = 1 := rfl
    omega
theorem shaped_prZ (l : List (Nat × Nat)) : SeqAt.shaped (.list (l.map pr)) = true := by
  show (PyData.canLayAll0 (l.map pr) && decide (PyData.depthAll (l.map pr) + 1 ≤ 64)) = true
  have := dep_prZ l
  rw [lay_prZ, decide_eq_true (by omega)]
  rfl
theorem sh1_dat (c : List Nat) : sh1 (.dat c) = .tuple [.str "data", .tuple (c.map pn)] := rfl
theorem sh1_tab (c : List (Nat × Nat)) : sh1 (.tab c) = .tuple [.str "table", .tuple (c.map pr)] := rfl
section
variable {P : Program} {w : World} {K : PySem.W.Frag} {mg : Str → Option Value} {base : Heap} {C CB : Addr}
mutual
def smG1 : Gb → Prop
  | .dat _ => True
  | .tab ds => ds.length ≤ 2
  | .grp l => l.length ≤ 10 ∧ smGL l
def smGL : List Gb → Prop
  | [] => True
  | g :: r => smG1 g ∧ smGL r
end
theorem smG_mem : ∀ {l : List Gb} {g : Gb}, smGL l → g ∈ l → smG1 g
  | x :: r, g, h, hm => by
    rw [smGL] at h
    rcases List.mem_cons.mp hm with rfl | hm
    · exact h.1
    · exact smG_mem h.2 hm
def spLPointed (K : PySem.W.Frag) (m : Nat) : Sp := fun vs H Q _ => ∃ (v : V) (S ta : Addr) (k : Nat) (gs : List Gb) (ns : List Int) (TL : List (Nat × Nat)) (tx : List V), vs = [v, .ref S, .int (k : Int), .ref ta] ∧ Tp K H v (.tuple (gs.map gbD)) ∧ dpGL gs < m ∧ gs.length ≤ 10 ∧ smGL gs ∧ Scr K H S ns ∧ k + 100 * m ≤ 90000 ∧
  H ta = some (.lst tx) ∧ TpAll K H tx (TL.map pr) ∧ TL.length ≤ 300 ∧ ∀ (ss : List Sh) (a : Addr) (H' : Hp), gfL TL gs ss → Same H H' → Tp K H' (.ref a) (.tuple (shL ss)) → Q (.ref a) H'
theorem ok_lPointed {f : Addr} {fd : FuncData} (F : Def K mg "_law_pointed" sLPointed f fd) (b : Binds K fd ["_law_boxes_here", "_law_script", "_law_index", "_law_targets_here"] []) (T : Txt mg) (C_lNumber : Cal P w K mg base 1 "_law_number" (spNum K) []) : ∀ m : Nat, Cal P w K mg base (m + 2) "_law_pointed" (spLPointed K m) []
  | 0 => by
    refine cal0 F b .nil scLPointed (fun vs H Q E h => ?_) (fun cdv A outer s H vs Q E hr h => ?_)
    · obtain ⟨v, S, ta, k, gs, ns, TL, tx, rfl, _⟩ := h
      rfl
    · obtain ⟨v, S, ta, k, gs, ns, TL, tx, rfl, _, h, _⟩ := h
      omega
  | m + 1 => by
    have C_lPointed := ok_lPointed F b T C_lNumber m
    refine cal0 F b .nil scLPointed (fun vs H Q E h => ?_) (fun cdv A outer s H vs Q E hr h => ?_)
    · obtain ⟨v, S, ta, k, gs, ns, TL, tx, rfl, _⟩ := h
      rfl
    obtain ⟨v, S, ta, k, gs, ns, TL, tx, rfl, hv, hd, hl10, hsm, hS, hk, hta, htx, htl, q⟩ := h
    obtain ⟨t, xs, rfl, hT, hX⟩ := Tp.tup_inv hv
    have hxl : xs.length = gs.length := by rw [hX.length, List.length_map]
    have htxl : tx.length = TL.length := by rw [htx.length, List.length_map]
    have h1m : 1 ≤ m + 2 := by omega
    refine ⟨_, (pss_cons (ps_set (i := 4) scLPointed.nd rfl (Or.inl rfl) (pe_lst pa_nil))
    (pss_cons (ps_for PassesOwn.never rfl (pi_enumT (by rfl) T.enumerate (pa_cons (pv 0) pa_nil)) (pg_tup rfl (pgs_cons (pg_name (i := 5) scLPointed.nd rfl (.inl rfl)) (pgs_cons (pg_name (i := 6) scLPointed.nd rfl (.inl rfl)) pgs_nil))) 
      (pss_cons (ps_asg (pv 6) (pg_tup rfl (pgs_cons (pg_name (i := 7) scLPointed.nd rfl (.inl rfl)) (pgs_cons (pg_name (i := 8) scLPointed.nd rfl (.inl rfl)) pgs_nil))))
      (pss_cons (ps_if (pt_cmpR op_eq (pv 7) pe_str (nomark _)) 
        (pss_one (ps_set (i := 8) scLPointed.nd rfl (Or.inl rfl) (pe_c C_lPointed hr (Nat.le_refl _) rfl (pa_cons (pv 8) (pa_cons (pv 1) (pa_cons (pe_op op_add (pe_op op_add (pv 2) pe_int) (pv 5)) (pa_cons (pv 3) pa_nil))))))) 
        (pss_one (ps_if (pt_cmpR op_eq (pv 7) pe_str (nomark _)) 
          (pss_cons (ps_asg (pe_tup (pa_cons (pe_c C_lNumber hr h1m rfl (pa_cons (pv 1) (pa_cons (pe_op op_add (pv 2) (pv 5)) pa_nil))) (pa_cons (pe_ifExp (pt_cmpR (op_neD hr.units) (pv 3) (pe_lst pa_nil) (nomark _)) (pe_callB call_len_seq (by rfl) T.len b_len (pa_cons (pv 8) pa_nil)) pe_int) pa_nil))) (pg_tup rfl (pgs_cons (pg_name (i := 9) scLPointed.nd rfl (.inr rfl)) (pgs_cons (pg_name (i := 10) scLPointed.nd rfl (.inl rfl)) pgs_nil))))
          (pss_one (ps_set (i := 8) scLPointed.nd rfl (Or.inl rfl) (pe_callTy call_tuple_of (by rfl) T.tuple b_tuple (pa_cons (pe_lc (own := [("_law_turn", 11)]) rfl scLPointed.nd (pi_range1 (by rfl) T.range (pa_cons (pv 10) pa_nil)) (blkOk_by (own := [("_law_turn", 11)]) (N := NLPointed) (sc := (fnScope sLPointed)) (by decide +kernel)) (fun _ _ _ _ _ => (pg_name (i := 11) scLPointed.nd rfl (.inl rfl))) (fun _ _ _ _ _ => pts_nil) (fun _ _ _ _ _ => (pe_ix (ixl_k (K := K) rfl) (pv 3) (pe_op op_mod (pe_callTy call_int1 (by rfl) T.int b_int (pa_cons (pe_op op_fdiv (pv 9) (pe_op op_add pe_int (pe_op op_mul pe_int (pv 11)))) pa_nil)) (pe_callB (len_k (K := K) rfl) (by rfl) T.len b_len (pa_cons (pv 3) pa_nil))) (fun _ _ => rfl)))) pa_nil))))) pss_nil)))
      (pss_one (ps_expr (pe_bm PySem.F.plainAttrs_list PySem.F.slot_list_append PySem.F.type_list_append mt_append (pv 4) (pa_cons (pe_tup (pa_cons (pv 7) (pa_cons (pv 8) pa_nil))) pa_nil)))))))
    (pss_one (ps_ret (pe_callTy call_tuple_of (by rfl) T.tuple b_tuple (pa_cons (pv 4) pa_nil)))))), ?_⟩
    walk_at "rd"
    refine ⟨Nat.zero_le _, fun l0 hl0 => ?_⟩
    have s0 := same_new hl0 (.lst [])
    walk_at "rd"
    refine g_enumT ?_
    walk_at "rd"
    refine ⟨t, xs, rfl, Same.sqt s0 hT, ?_⟩
    refine for_it walk_enumT (fun i σ H' => (∃ x5 x6 x7 x8 x9 x10, σ = [some (.ref t), some (.ref S), some (.int (k : Int)), some (.ref ta), some (.ref l0), x5, x6, x7, x8, x9, x10, none]) ∧ Same H H' ∧ ∃ (ss : List Sh) (acc : List V), acc.length = i ∧ gfL TL (gs.take i) ss ∧ H' l0 = some (.lst acc) ∧ TpAll K H' acc (shL ss))
      ⟨⟨_, _, _, _, _, _, rfl⟩, s0, [], [], rfl, by rw [List.take_zero, gfL]; exact True.intro, upd_same, .nil⟩ (fun i σ H' _ z => Same.sqt z.2.1 hT) ?_ ?_
    · rintro i z σ H1 H2 hi ⟨⟨x5, x6, x7, x8, x9, x10, rfl⟩, s1, ss, acc, al, ag, a1, a2⟩ ⟨T1, y1, y2, rfl, nT, rfl, g1, g2⟩
      cases Option.some.inj g1
      obtain ⟨dd, f1, f2⟩ := hX.get g2
      rw [List.getElem?_map] at f1
      obtain ⟨g, hg, rfl⟩ := Option.map_eq_some_iff.mp f1
      have hm := List.mem_of_getElem? hg
      have hi10 : i < 10 := by omega
      have hsg := smG_mem hsm hm
      have sT := same_new nT (.tup [V.int (i : Int), y2])
      obtain ⟨a, y, rfl, ha, hy⟩ := gbD_inv (f2.same (s1.trans sT))
      have S2 := s1.trans sT
      have a1 := sT _ _ a1
      have a2 := a2.same sT
      refine g_tupT (SqT.of upd_same) rfl ?_
      revert ha hy S2 a1 a2
      generalize upd H1 T1 (.tup [V.int (i : Int), .ref a]) = H3
      intro ha hy S2 a1 a2
      walk_at "rd"
      refine g_tupT ha rfl ?_
      repeat (first | with_reducible refine g_gcons ?_ | with_reducible refine g_name ?_ | with_reducible refine g_gnil ?_ | with_reducible refine g_next ?_)
      with_reducible refine g_seq ?_
      refine ends_gen fun D' eD => ?_
      have rest : ∀ (y' : V) (sh : Sh) (x9 x10 : Option V) (H4 : Hp), gf1 TL g sh → Same H3 H4 → Tp K H4 y' (.tuple (cd sh)) → kw sh = g.wd → D'.nx [some (.ref t), some (.ref S), some (.int (k : Int)), some (.ref ta), some (.ref l0), some (.int (i : Int)), some (.ref a), some (.str g.wd), some y', x9, x10, none] H4 := by
        intro y' sh x9 x10 H4 hf s4 hy' hkw
        rw [eD]
        walk_at "rd"
        refine ⟨.inl ⟨rfl, _, SqL.of (s4 _ _ a1)⟩, ?_⟩
        walk_at "rd"
        refine ⟨(by show 2 ≤ sizeLine; decide), fun p hp => ?_⟩
        have s5 := same_new hp (.tup [V.str g.wd, y'])
        refine ⟨l0, acc, .ref p, rfl, rfl, (s4.trans s5) _ _ a1, small (by omega), ?_⟩
        walk_at "rd"
        have kk := tk_lst (K := K) (u := HO.lst (acc ++ [.ref p])) ((s4.trans s5) _ _ a1)
        refine ⟨⟨_, _, _, _, _, _, rfl⟩, Same.putNew (S2.trans (s4.trans s5)) hl0, ss ++ [sh], acc ++ [.ref p], by rw [List.length_append, al]; rfl, by rw [take_snoc hg]; exact gfL_snoc ag hf, upd_same, ?_⟩
        rw [shL_map, List.map_append, ← shL_map]
        refine (TpAll.mono kk _ _ (a2.same (s4.trans s5))).snoc (Tp.mono kk _ _ ?_)
        rw [sh1_eq, hkw]
        exact Tp.pair upd_same (hy'.same s5)
      cases g with
      | dat c =>
        walk_at "rd"
        refine g_dF (sne "data" "group") ?_
        walk_at "rd"
        refine g_dF (sne "data" "table") ?_
        walk_at "rd"
        refine rest y (.dat c) _ _ H3 (by rw [gf1]) (Same.refl _) ?_ rfl
        rw [gbC] at hy
        exact hy
      | tab ds =>
        walk_at "rd"
        refine g_dF (sne "table" "group") ?_
        walk_at "rd"
        refine g_dT rfl ?_
        have hds : ds.length ≤ 2 := by
          rw [smG1] at hsg
          exact hsg
        rw [gbC] at hy
        obtain ⟨ya, yx, rfl, hya, hyx⟩ := Tp.tup_inv hy
        have hyxl : yx.length = ds.length := hyx.length
        with_reducible refine g_seq ?_
        refine ends_gen fun D2 eD2 => ?_
        have rest2 : ∀ (z : Int) (cnt : Nat) (H5 : Hp), 0 ≤ z → cnt ≤ ds.length → (cnt = 0 ∨ TL ≠ []) → Same H3 H5 → D2.nx [some (.ref t), some (.ref S), some (.int (k : Int)), some (.ref ta), some (.ref l0), some (.int (i : Int)), some (.ref a), some (.str (Gb.tab ds).wd), some (.ref ya), some (.int z), some (vn cnt), none] H5 := by
          intro z cnt H5 hz hcnt hTL s5
          rw [eD2]
          walk_at "rd"
          refine ⟨(cnt : Int), rfl, by omega, by omega, fun D hD => ?_⟩
          have hta5 := (S2.trans s5) _ _ hta
          have htx5 := htx.same (S2.trans s5)
          refine lc_it walk_range (fun i H' => Same H5 H' ∧ ∃ (ts : List (Nat × Nat)) (zx : List V), ts.length = i ∧ (∀ t ∈ ts, t ∈ TL) ∧ H' D = some (.lst zx) ∧ TpAll K H' zx (ts.map pr)) ⟨same_new hD _, [], [], rfl, (fun x hx => absurd hx List.not_mem_nil), upd_same, .nil⟩ (fun _ _ _ _ => True.intro) ?_ ?_
          · rintro o r H6 H7 ho ⟨s7, ts, zx, b1, b2, b3, b4⟩ ⟨rfl, rfl⟩
            have ho : o < cnt := by
              have : o < ((cnt : Int)).toNat := ho
              omega
            have hne : TL ≠ [] := by
              rcases hTL with h | h
              · omega
              · exact h
            have h0 : 0 < TL.length := List.length_pos_iff.mpr hne
            walk_at "rd"
            refine ⟨rfl, ?_⟩
            walk_at "rd"
            refine g_I (.inl ⟨by decide, by decide⟩) ?_
            walk_at "rd"
            refine g_I (C := CDiv) ⟨by omega, by omega⟩ ?_
            walk_at "rd"
            refine ⟨_, _, rfl, .inl (SqL.of (s7 _ _ hta5)), ?_⟩
            rw [htxl]
            refine g_I (by show (0 : Int) < _; omega) ?_
            have e1 := Int.emod_nonneg (z / (1 + 5 * (0 + (o : Int)))) (show (TL.length : Int) ≠ 0 by omega)
            have e2 := Int.emod_lt_of_pos (z / (1 + 5 * (0 + (o : Int)))) (show (0 : Int) < (TL.length : Int) by omega)
            obtain ⟨j, hj⟩ : ∃ j : Nat, (j : Int) = z / (1 + 5 * (0 + (o : Int))) % (TL.length : Int) := ⟨_, Int.toNat_of_nonneg e1⟩
            have hjl : j < TL.length := by omega
            have hjx : j < tx.length := by omega
            refine g_ixL j (SqL.of (s7 _ _ hta5)) hj.symm (List.getElem?_eq_getElem hjx) ?_
            obtain ⟨dd, d1, d2⟩ := (htx5.same s7).get (List.getElem?_eq_getElem hjx)
            rw [List.getElem?_map, List.getElem?_eq_getElem hjl] at d1
            have d3 := (Option.some.inj d1).symm
            subst d3
            have kk := tk_lst (K := K) (u := HO.lst (zx ++ [tx[j]])) b3
            refine ⟨zx, b3, small1000 (by rw [b4.length, List.length_map]; omega), Same.putNew s7 hD, ts ++ [TL[j]], zx ++ [tx[j]], by rw [List.length_append, b1]; rfl, fun x hx => ?_, upd_same, ?_⟩
            · rcases List.mem_append.mp hx with hx | hx
              · exact b2 x hx
              · rw [List.mem_singleton.mp hx]
                exact List.getElem_mem hjl
            · rw [List.map_append]
              exact (TpAll.mono kk _ _ b4).snoc (Tp.mono kk _ _ d2)
          · rintro H6 ⟨s6, ts, zx, b1, b2, b3, b4⟩
            walk_at "rd"
            refine ⟨D, _, rfl, .inl ⟨SqL.of b3, fun u hu => ?_⟩⟩
            have s7 := same_new hu (.tup zx)
            walk_at "rd"
            refine rest (.ref u) (.tab ts) _ _ _ ?_ ((s5.trans s6).trans s7) (.tup upd_same (b4.same s7)) rfl
            rw [gf1]
            refine ⟨?_, b2⟩
            rw [b1]
            omega
        walk_at "rd"
        refine ⟨S, ns, k + i, congrArg (fun z => [V.ref S, V.int z]) (by omega), hS.same S2, by omega, fun z H4 hz s4 => ?_⟩
        walk_at "rd"
        refine ⟨Nat.zero_le _, fun l1 hl1 => ?_⟩
        have s5 := same_new hl1 (.lst [])
        refine ⟨.list (TL.map pr), .list [], .lst (SqL.of ((S2.trans (s4.trans s5)) _ _ hta)) (TpAll.dp _ _ (htx.same (S2.trans (s4.trans s5)))), .lst (SqL.of upd_same) .nil, shaped_prZ TL, shaped_nil, ?_⟩
        rw [eqv_nil]
        walk_at "rd"
        by_cases e : TL = []
        · rw [if_neg (by rw [e]; decide)]
          walk_at "rd"
          refine ⟨(by show 2 ≤ sizeLine; decide), fun p hp => ?_⟩
          have s6 := same_new hp (.tup [V.int z, V.int 0])
          refine g_tupT (SqT.of upd_same) rfl ?_
          walk_at "rd"
          exact rest2 z 0 _ hz (Nat.zero_le _) (.inl rfl) ((s4.trans s5).trans s6)
        · rw [if_pos (by rw [decide_eq_false (fun z => e (List.map_eq_nil_iff.mp z))]; rfl)]
          walk_at "rd"
          refine ⟨_, _, rfl, .inr (Same.sqt (s4.trans s5) hya), ?_⟩
          rw [hyxl]
          walk_at "rd"
          refine ⟨(by show 2 ≤ sizeLine; decide), fun p hp => ?_⟩
          have s6 := same_new hp (.tup [V.int z, V.int (ds.length : Int)])
          refine g_tupT (SqT.of upd_same) rfl ?_
          walk_at "rd"
          exact rest2 z ds.length _ hz (Nat.le_refl _) (.inr e) ((s4.trans s5).trans s6)
      | grp ks =>
        walk_at "rd"
        refine g_dT rfl ?_
        walk_at "rd"
        rw [smG1] at hsg
        have hdk : dpGL ks + 1 ≤ dpGL gs := by
          have := dpG_mem hm
          rw [dpG1] at this
          exact this
        rw [gbC, gbL_map] at hy
        refine ⟨y, S, ta, k + 20 + i, ks, ns, TL, tx, by rw [show (k : Int) + 20 + (i : Int) = ((k + 20 + i : Nat) : Int) by omega]; rfl, hy, by omega, hsg.1, hsg.2, hS.same S2, by omega, S2 _ _ hta, htx.same S2, htl, fun s2 a2 H4 hgf s4 h4 => ?_⟩
        walk_at "rd"
        exact rest (.ref a2) (.grp s2) _ _ H4 (by rw [gf1]; exact hgf) s4 h4 rfl
    · rintro σ H1 ⟨⟨x5, x6, x7, x8, x9, x10, rfl⟩, s1, ss, acc, al, ag, a1, a2⟩
      rw [hxl, List.take_length] at ag
      walk_at "rd"
      refine ⟨l0, _, rfl, .inl ⟨SqL.of a1, fun u hu => ?_⟩⟩
      have s3 := same_new hu (.tup acc)
      exact q ss u _ ag (s1.trans s3) (.tup upd_same (a2.same s3))
end
end Bx

namespace Bx
/-- boxes as the law makes them: small contents -/
def smSh : Sh → Prop
  | .dat c => c.length ≤ 3 ∧ ∀ x ∈ c, x ≤ 99
  | .tab t => t.length ≤ 2
  | .grp _ => True
theorem smSh_it {s : Sh} (h : smSh s) : itOk s := by
  cases s with
  | dat c => exact ⟨Nat.le_trans h.1 (by decide), h.2⟩
  | tab c => exact Nat.le_trans h (by decide)
  | grp c => exact True.intro
mutual
def okG1 : Gb → Prop
  | .dat c => datOk c
  | .tab ds => ds.length ≤ 2
  | .grp l => okGL l
def okGL : List Gb → Prop
  | [] => True
  | g :: r => okG1 g ∧ okGL r
end
theorem lens_one (s : Sh) : lens [s] = lnD s := by
  unfold lens
  rw [List.map_singleton]
  exact List.append_nil _
theorem lenG_ap (a b : List Gb) : lenG (a ++ b) = lenG a ++ lenG b := by
  unfold lenG
  rw [List.filterMap_append]
theorem lens_cons (s : Sh) (l : List Sh) : lens (s :: l) = lnD s ++ lens l := by
  unfold lens
  rw [List.map_cons, List.flatten_cons]
theorem tgsL_ap (a b : List Sh) : tgsL (a ++ b) = tgsL a ++ tgsL b := by
  unfold tgsL
  rw [List.map_append, List.flatten_append]
mutual
theorem gf_one {TL : List (Nat × Nat)} : ∀ (g : Gb) (s : Sh), gf1 TL g s → okG1 g → lens (all1 s) = lenG (flG1 g) ∧ (all1 s).length = (flG1 g).length ∧ dps1 s = dpG1 g ∧ (∀ t ∈ tgsL (all1 s), t ∈ TL) ∧ ∀ x ∈ all1 s, smSh x
  | .dat c, .dat c', h, ok => by
    rw [gf1] at h
    subst h
    rw [okG1] at ok
    rw [all1, flG1, dps1, dpG1, lens_one]
    refine ⟨rfl, rfl, rfl, fun t ht => ?_, fun x hx => ?_⟩
    · have ht : t ∈ ([] : List (Nat × Nat)) := ht
      exact absurd ht List.not_mem_nil
    · rw [List.mem_singleton.mp hx]
      exact ok
  | .tab ds, .tab ts, h, ok => by
    rw [gf1] at h
    rw [okG1] at ok
    rw [all1, flG1, dps1, dpG1, lens_one]
    refine ⟨rfl, rfl, rfl, fun t ht => ?_, fun x hx => ?_⟩
    · have ht : t ∈ ts ++ [] := ht
      rw [List.append_nil] at ht
      exact h.2 t ht
    · rw [List.mem_singleton.mp hx]
      show ts.length ≤ 2
      omega
  | .grp l, .grp ss, h, ok => by
    rw [gf1] at h
    rw [okG1] at ok
    obtain ⟨a, b, c, d, e⟩ := gf_all l ss h ok
    rw [all1, flG1, dps1, dpG1]
    refine ⟨?_, ?_, by rw [c], fun t ht => ?_, fun x hx => ?_⟩
    · rw [lens_cons, a]
      rfl
    · rw [List.length_cons, List.length_cons, b]
    · have ht : t ∈ [] ++ tgsL (allL ss) := ht
      exact d t ht
    · rcases List.mem_cons.mp hx with rfl | hx
      · exact True.intro
      · exact e x hx
  | .dat _, .tab _, h, _ => by rw [gf1] at h; exact h.elim
  | .dat _, .grp _, h, _ => by rw [gf1] at h; exact h.elim
  | .tab _, .dat _, h, _ => by rw [gf1] at h; exact h.elim
  | .tab _, .grp _, h, _ => by rw [gf1] at h; exact h.elim
  | .grp _, .dat _, h, _ => by rw [gf1] at h; exact h.elim
  | .grp _, .tab _, h, _ => by rw [gf1] at h; exact h.elim
theorem gf_all {TL : List (Nat × Nat)} : ∀ (l : List Gb) (ss : List Sh), gfL TL l ss → okGL l → lens (allL ss) = lenG (flGL l) ∧ (allL ss).length = (flGL l).length ∧ dpsL ss = dpGL l ∧ (∀ t ∈ tgsL (allL ss), t ∈ TL) ∧ ∀ x ∈ allL ss, smSh x
  | [], [], _, _ => by
    rw [allL, flGL, dpsL, dpGL]
    exact ⟨rfl, rfl, rfl, fun t ht => absurd ht List.not_mem_nil, fun x hx => absurd hx List.not_mem_nil⟩
  | g :: r, s :: q, h, ok => by
    rw [gfL] at h
    rw [okGL] at ok
    obtain ⟨a1, b1, c1, d1, e1⟩ := gf_one g s h.1 ok.1
    obtain ⟨a2, b2, c2, d2, e2⟩ := gf_all r q h.2 ok.2
    rw [allL, flGL, dpsL, dpGL]
    refine ⟨by rw [lens_append, lenG_ap, a1, a2], by rw [List.length_append, List.length_append, b1, b2], by rw [c1, c2], fun t ht => ?_, fun x hx => ?_⟩
    · rw [tgsL_ap] at ht
      exact (List.mem_append.mp ht).elim (d1 t) (d2 t)
    · exact (List.mem_append.mp hx).elim (e1 x) (e2 x)
  | [], _ :: _, h, _ => by rw [gfL] at h; exact h.elim
  | _ :: _, [], h, _ => by rw [gfL] at h; exact h.elim
end
theorem sk_ok {g : Gb} (h : SkOk g) : okG1 g ∧ smG1 g ∧ dpG1 g ≤ 2 ∧ (flG1 g).length ≤ 3 ∧ ∀ m ∈ lenG (flG1 g), m ≤ 3 := by
  cases h with
  | @dat c h =>
    refine ⟨by rw [okG1]; exact h, by rw [smG1]; exact True.intro, by rw [dpG1]; decide, by rw [flG1]; exact (by decide : 1 ≤ 3), fun m hm => ?_⟩
    have hm : m ∈ [c.length] := by rw [flG1] at hm; exact hm
    rw [List.mem_singleton.mp hm]
    exact h.1
  | @tab n h =>
    refine ⟨by rw [okG1, List.length_replicate]; exact h, by rw [smG1, List.length_replicate]; exact h, by rw [dpG1]; decide, by rw [flG1]; exact (by decide : 1 ≤ 3), fun m hm => ?_⟩
    have hm : m ∈ ([] : List Nat) := by rw [flG1] at hm; exact hm
    exact absurd hm List.not_mem_nil
  | g0 => exact ⟨by rw [okG1, okGL]; exact True.intro, by rw [smG1, smGL]; exact ⟨by decide, True.intro⟩, by rw [dpG1, dpGL]; decide, by rw [flG1, flGL]; exact (by decide : 1 ≤ 3), fun m hm => by rw [flG1, flGL] at hm; exact absurd (show m ∈ ([] : List Nat) from hm) List.not_mem_nil⟩
  | @g1 c h =>
    refine ⟨by rw [okG1, okGL, okGL, okG1]; exact ⟨h, True.intro⟩, by rw [smG1, smGL, smGL, smG1]; exact ⟨(by decide : 1 ≤ 10), True.intro, True.intro⟩, by rw [dpG1, dpGL, dpGL, dpG1]; decide, by rw [flG1, flGL, flGL, flG1]; exact (by decide : 2 ≤ 3), fun m hm => ?_⟩
    have hm : m ∈ [c.length] := by rw [flG1, flGL, flGL, flG1] at hm; exact hm
    rw [List.mem_singleton.mp hm]
    exact h.1
  | @g2 c h =>
    refine ⟨by rw [okG1, okGL, okGL, okG1, okGL, okGL, okG1]; exact ⟨⟨h, True.intro⟩, True.intro⟩, by rw [smG1, smGL, smGL, smG1, smGL, smGL, smG1]; exact ⟨(by decide : 1 ≤ 10), ⟨(by decide : 1 ≤ 10), True.intro, True.intro⟩, True.intro⟩, by rw [dpG1, dpGL, dpGL, dpG1, dpGL, dpGL, dpG1]; decide, by rw [flG1, flGL, flGL, flG1, flGL, flGL, flG1]; exact (by decide : 3 ≤ 3), fun m hm => ?_⟩
    have hm : m ∈ [c.length] := by rw [flG1, flGL, flGL, flG1, flGL, flGL, flG1] at hm; exact hm
    rw [List.mem_singleton.mp hm]
    exact h.1
theorem sk_all : ∀ {l : List Gb}, (∀ g ∈ l, SkOk g) → okGL l ∧ smGL l ∧ dpGL l ≤ 2 ∧ (flGL l).length ≤ 3 * l.length ∧ ∀ m ∈ lenG (flGL l), m ≤ 3
  | [], _ => by
    rw [okGL, smGL, dpGL, flGL]
    exact ⟨True.intro, True.intro, by decide, Nat.le_refl _, fun m hm => absurd (show m ∈ ([] : List Nat) from hm) List.not_mem_nil⟩
  | g :: r, h => by
    obtain ⟨a1, b1, c1, d1, e1⟩ := sk_ok (h g List.mem_cons_self)
    obtain ⟨a2, b2, c2, d2, e2⟩ := sk_all (l := r) fun x hx => h x (List.mem_cons_of_mem _ hx)
    rw [okGL, smGL, dpGL, flGL]
    refine ⟨⟨a1, a2⟩, ⟨b1, b2⟩, by omega, by rw [List.length_append, List.length_cons]; omega, fun m hm => ?_⟩
    rw [lenG_ap] at hm
    exact (List.mem_append.mp hm).elim (e1 m) (e2 m)
/-- a shape as the law makes it -/
structure ShOk (m : Nat) (ss : List Sh) : Prop where
  len : ss.length = m
  dp : dpsL ss ≤ 2
  nb : (allL ss).length ≤ 3 * m
  sm : ∀ s ∈ allL ss, smSh s
  tg : ∀ t ∈ tgsL (allL ss), ∃ m, (lens (allL ss))[t.1]? = some m ∧ t.2 < m
section
variable {P : Program} {w : World} {K : PySem.W.Frag} {mg : Str → Option Value} {base : Heap} {C CB : Addr}
def spLShape (K : PySem.W.Frag) : Sp := fun vs H Q _ => ∃ (S : Addr) (ns : List Int) (k m : Nat), vs = [.ref S, .int (k : Int), vn m] ∧ Scr K H S ns ∧ k ≤ 80000 ∧ m ≤ 10 ∧ ∀ (ss : List Sh) (a : Addr) (H' : Hp), ShOk m ss → Same H H' → Tp K H' (.ref a) (.tuple (shL ss)) → Q (.ref a) H'
theorem ok_lShape {f : Addr} {fd : FuncData} (F : Def K mg "_law_shape" sLShape f fd) (b : Binds K fd ["_law_script", "_law_index", "_law_many_here"] []) (T : Txt mg) (C_lBoxes : Cal P w K mg base 2 "_law_boxes" (spLBoxes K) []) (C_lPointed : Cal P w K mg base 5 "_law_pointed" (spLPointed K 3) []) (C_lTargets : Cal P w K mg base 6 "_law_targets" (spLTargets K) []) : Cal P w K mg base 7 "_law_shape" (spLShape K) [] := by
  refine cal0 F b .nil scLShape (fun vs H Q E h => ?_) (fun cdv A outer s H vs Q E hr h => ?_)
  · obtain ⟨S, ns, k, m, rfl, _⟩ := h
    rfl
  obtain ⟨S, ns, k, m, rfl, hS, hk, hm, q⟩ := h
  refine ⟨_, (pss_cons (ps_set (i := 3) scLShape.nd rfl (Or.inl rfl) (pe_c C_lBoxes hr (by decide) rfl (pa_cons (pv 0) (pa_cons (pv 1) (pa_cons (pv 2) pa_nil)))))
    (pss_one (ps_ret (pe_c C_lPointed hr (by decide) rfl (pa_cons (pv 3) (pa_cons (pv 0) (pa_cons (pe_op op_add (pv 1) pe_int) (pa_cons (pe_c C_lTargets hr (by decide) rfl (pa_cons (pv 3) pa_nil)) pa_nil)))))))), ?_⟩
  walk_at "rd"
  refine ⟨S, ns, k, m, rfl, hS, by omega, hm, fun gs a H1 hgl hsk s1 hv => ?_⟩
  obtain ⟨o1, o2, o3, o4, o5⟩ := sk_all hsk
  rw [hgl] at o4
  walk_at "rd"
  refine ⟨.ref a, gs, rfl, hv, by omega, by omega, o5, fun ta tx H2 s2 hn2 hta htx => ?_⟩
  walk_at "rd"
  have hTl : (allTo (lenG (flGL gs)) (lenG (flGL gs)).length).length ≤ 300 := by
    have h1 := allTo_len o5 _ (Nat.le_refl _)
    have h2 : (lenG (flGL gs)).length ≤ (flGL gs).length := List.length_filterMap_le _ _
    omega
  refine ⟨.ref a, S, ta, k + 10, gs, ns, _, tx, rfl, hv.same s2, by omega, by omega, o2, hS.same (s1.trans s2), by omega, hta, htx, hTl, fun ss u H3 hgf s3 hu => ?_⟩
  obtain ⟨e1, e2, e3, e4, e5⟩ := gf_all gs ss hgf o1
  refine q ss u H3 ⟨by rw [← gfL_len hgf, hgl], by omega, by omega, e5, fun t ht => ?_⟩ ((s1.trans s2).trans s3) hu
  obtain ⟨m', hm1, hm2⟩ := allTo_mem (e4 t ht) (Nat.le_refl _)
  exact ⟨m', by rw [e1]; exact hm1, hm2⟩
end
end Bx

namespace Bx
def szs (s : Nat) : List Nat := 0 :: (List.range (s - 1)).map (· + 2)
theorem mem_szs {s g : Nat} : g ∈ szs s ↔ g = 0 ∨ (2 ≤ g ∧ g ≤ s) := by
  unfold szs
  rw [List.mem_cons, List.mem_map]
  constructor
  · rintro (h | ⟨a, ha, rfl⟩)
    · exact .inl h
    · have := List.mem_range.mp ha
      exact .inr ⟨by omega, by omega⟩
  · rintro (h | ⟨h1, h2⟩)
    · exact .inl h
    · exact .inr ⟨g - 2, List.mem_range.mpr (by omega), by omega⟩
/-- all sizes of n gaps, together at most s -/
def allG : Nat → Nat → List (List Nat)
  | 0, _ => [[]]
  | n + 1, s => (szs s).flatMap fun g => (allG n (s - g)).map (g :: ·)
theorem mem_allG : ∀ {n s : Nat} {x : List Nat}, x ∈ allG n s ↔ x.length = n ∧ (∀ g ∈ x, g = 0 ∨ 2 ≤ g) ∧ x.sum ≤ s
  | 0, s, x => by
    rw [allG, List.mem_singleton]
    constructor
    · rintro rfl
      exact ⟨rfl, fun g h => absurd h List.not_mem_nil, Nat.zero_le _⟩
    · exact fun h => List.length_eq_zero_iff.mp h.1
  | n + 1, s, x => by
    rw [allG, List.mem_flatMap]
    constructor
    · rintro ⟨g, hg, hx⟩
      obtain ⟨y, hy, rfl⟩ := List.mem_map.mp hx
      obtain ⟨a, b, c⟩ := mem_allG.mp hy
      have hs := mem_szs.mp hg
      refine ⟨by rw [List.length_cons, a], fun z hz => ?_, by rw [List.sum_cons]; omega⟩
      rcases List.mem_cons.mp hz with e | hz
      · rw [e]
        omega
      · exact b z hz
    · rintro ⟨a, b, c⟩
      cases x with
      | nil => cases a
      | cons g y =>
        rw [List.sum_cons] at c
        rw [List.length_cons] at a
        have hg := b g List.mem_cons_self
        exact ⟨g, mem_szs.mpr (by omega), List.mem_map.mpr ⟨y, mem_allG.mpr ⟨by omega, fun z hz => b z (List.mem_cons_of_mem _ hz), by omega⟩, rfl⟩⟩
theorem allG_ne (n s : Nat) : List.replicate n 0 ∈ allG n s := mem_allG.mpr ⟨List.length_replicate, fun g hg => .inl (List.mem_replicate.mp hg).2, by rw [List.sum_replicate_nat]; omega⟩
def le1 (c : List Nat → Nat) (b : Option (List Nat)) (k : Nat) : Bool := match b with
  | none => false
  | some x => decide (c x ≤ k)
def srch (c : List Nat → Nat) : Nat → Nat → List Nat → Option (List Nat) → Option (List Nat)
  | 0, _, gs, b => if le1 c b (c gs) = true then b else some gs
  | n + 1, s, gs, b => if le1 c b (c gs) = true then b else (szs s).foldl (fun b g => srch c n (s - g) (gs ++ [g]) b) b
/-- costs that do not fall as sizes are told -/
def MonoC (c : List Nat → Nat) (N S : Nat) : Prop := ∀ gs g, (∀ x ∈ gs ++ [g], x = 0 ∨ 2 ≤ x) → (gs ++ [g]).length ≤ N → (gs ++ [g]).sum ≤ S → c gs ≤ c (gs ++ [g])
theorem MonoC.all {c : List Nat → Nat} {N S : Nat} (h : MonoC c N S) : ∀ (x gs : List Nat), (∀ z ∈ gs ++ x, z = 0 ∨ 2 ≤ z) → (gs ++ x).length ≤ N → (gs ++ x).sum ≤ S → c gs ≤ c (gs ++ x)
  | [], gs, _, _, _ => by rw [List.append_nil]; exact Nat.le_refl _
  | g :: r, gs, h1, h2, h3 => by
    have e : gs ++ g :: r = gs ++ [g] ++ r := by rw [List.append_assoc]; rfl
    rw [e] at h1 h2 h3 ⊢
    refine Nat.le_trans (h gs g (fun z hz => h1 z (List.mem_append_left _ hz)) ?_ ?_) (h.all r (gs ++ [g]) h1 h2 h3)
    · rw [List.length_append] at h2
      omega
    · rw [List.sum_append] at h3
      omega
/-- what the search tells of its answer -/
structure Best (c : List Nat → Nat) (xs : List (List Nat)) (b : Option (List Nat)) (r : List Nat) : Prop where
  le : ∀ x ∈ xs, c r ≤ c x
  lb : ∀ y, b = some y → c r ≤ c y
  of : b = some r ∨ r ∈ xs
theorem srch_ok {c : List Nat → Nat} {N S : Nat} (hm : MonoC c N S) : ∀ (n s : Nat) (gs : List Nat) (b : Option (List Nat)), (∀ z ∈ gs, z = 0 ∨ 2 ≤ z) → gs.length + n ≤ N → gs.sum + s ≤ S → ∃ r, srch c n s gs b = some r ∧ Best c ((allG n s).map (gs ++ ·)) b r := by
  have stop : ∀ (n s : Nat) (gs : List Nat) (y : List Nat), (∀ z ∈ gs, z = 0 ∨ 2 ≤ z) → gs.length + n ≤ N → gs.sum + s ≤ S → c y ≤ c gs → Best c ((allG n s).map (gs ++ ·)) (some y) y := fun n s gs y h1 h2 h3 h => by
    refine ⟨fun x hx => ?_, fun z hz => by rw [Option.some.inj hz]; exact Nat.le_refl _, .inl rfl⟩
    obtain ⟨x, hx', rfl⟩ := List.mem_map.mp hx
    obtain ⟨a, b, d⟩ := mem_allG.mp hx'
    refine Nat.le_trans h (hm.all x gs (fun z hz => (List.mem_append.mp hz).elim (h1 z) (b z)) ?_ ?_)
    · rw [List.length_append]
      omega
    · rw [List.sum_append]
      omega
  intro n
  induction n with
  | zero =>
    intro s gs b h1 h2 h3
    rw [srch]
    by_cases hc : le1 c b (c gs) = true
    · rw [if_pos hc]
      cases b with
      | none => cases hc
      | some y => exact ⟨y, rfl, stop 0 s gs y h1 h2 h3 (of_decide_eq_true hc)⟩
    · rw [if_neg hc]
      refine ⟨gs, rfl, ⟨fun x hx => ?_, fun y hy => ?_, .inr ?_⟩⟩
      · rw [allG, List.map_singleton, List.append_nil] at hx
        rw [List.mem_singleton.mp hx]
        exact Nat.le_refl _
      · subst hy
        have : ¬ c y ≤ c gs := fun z => hc (decide_eq_true z)
        omega
      · rw [allG, List.map_singleton, List.append_nil]
        exact List.mem_singleton.mpr rfl
  | succ n ih =>
    intro s gs b h1 h2 h3
    rw [srch]
    by_cases hc : le1 c b (c gs) = true
    · rw [if_pos hc]
      cases b with
      | none => cases hc
      | some y => exact ⟨y, rfl, stop (n + 1) s gs y h1 h2 h3 (of_decide_eq_true hc)⟩
    · rw [if_neg hc]
      have go : ∀ (l : List Nat) (b : Option (List Nat)), (∀ g ∈ l, g ∈ szs s) → (l ≠ [] ∨ b ≠ none) → ∃ r, l.foldl (fun b g => srch c n (s - g) (gs ++ [g]) b) b = some r ∧ Best c (l.flatMap fun g => (allG n (s - g)).map fun x => gs ++ g :: x) b r := by
        intro l
        induction l with
        | nil =>
          intro b _ hb
          cases b with
          | none => exact absurd rfl (hb.elim (fun z => absurd rfl z) id)
          | some y => exact ⟨y, rfl, fun x hx => absurd hx List.not_mem_nil, fun z hz => by rw [Option.some.inj hz]; exact Nat.le_refl _, .inl rfl⟩
        | cons g t iht =>
          intro b hl _
          have hg := mem_szs.mp (hl g List.mem_cons_self)
          obtain ⟨r1, a1, a2⟩ := ih (s - g) (gs ++ [g]) b (fun z hz => by
            rcases List.mem_append.mp hz with hz | hz
            · exact h1 z hz
            · rw [List.mem_singleton.mp hz]; omega) (by rw [List.length_append, List.length_singleton]; omega) (by rw [List.sum_append, List.sum_cons, List.sum_nil]; omega)
          obtain ⟨r, b1, b2⟩ := iht (some r1) (fun x hx => hl x (List.mem_cons_of_mem _ hx)) (.inr fun z => nomatch z)
          have e : (allG n (s - g)).map (gs ++ [g] ++ ·) = (allG n (s - g)).map fun x => gs ++ g :: x := List.map_congr_left fun x _ => by rw [List.append_assoc]; rfl
          rw [e] at a2
          refine ⟨r, by rw [List.foldl_cons, a1]; exact b1, ⟨fun x hx => ?_, fun y hy => Nat.le_trans (b2.lb r1 rfl) (a2.lb y hy), ?_⟩⟩
          · rw [List.flatMap_cons] at hx
            rcases List.mem_append.mp hx with hx | hx
            · exact Nat.le_trans (b2.lb r1 rfl) (a2.le x hx)
            · exact b2.le x hx
          · rw [List.flatMap_cons]
            rcases b2.of with h | h
            · have h := Option.some.inj h
              subst h
              exact a2.of.imp id (List.mem_append_left _)
            · exact .inr (List.mem_append_right _ h)
      obtain ⟨r, a1, a2⟩ := go (szs s) b (fun _ h => h) (.inl fun z => nomatch z)
      refine ⟨r, a1, ?_⟩
      have e : (allG (n + 1) s).map (gs ++ ·) = (szs s).flatMap fun g => (allG n (s - g)).map fun x => gs ++ g :: x := by
        rw [allG, List.map_flatMap]
        congr 1
        funext g
        rw [List.map_map]
        rfl
      rw [e]
      exact a2
theorem srch_fold {c : List Nat → Nat} {n s : Nat} {gs : List Nat} {b : Option (List Nat)} (h : ¬ le1 c b (c gs) = true) : srch c (n + 1) s gs b = (szs s).foldl (fun b g => srch c n (s - g) (gs ++ [g]) b) b := by
  rw [srch, if_neg h]
inductive Tr where
  | leaf | node (ts : List Tr)
mutual
def trD : Tr → PyData
  | .leaf => .none
  | .node ts => .tuple (trL ts)
def trL : List Tr → List PyData
  | [] => []
  | t :: r => trD t :: trL r
end
theorem trL_map : ∀ l : List Tr, trL l = l.map trD
  | [] => rfl
  | t :: r => by rw [trL, trL_map r, List.map_cons]
mutual
/-- what is_tree tells of a tree at gs, with n gaps and s cells to go -/
def isT (c : List Nat → Nat) (k : Nat) : Nat → Nat → List Nat → Tr → Bool
  | _, _, gs, .leaf => decide (k ≤ c gs)
  | 0, _, _, .node _ => false
  | n + 1, s, gs, .node ts => decide (ts.length = (szs s).length) && isTs c k n s gs (szs s) ts
def isTs (c : List Nat → Nat) (k : Nat) : Nat → Nat → List Nat → List Nat → List Tr → Bool
  | _, _, _, [], _ => true
  | _, _, _, _, [] => true
  | n, s, gs, g :: r, t :: u => isT c k n (s - g) (gs ++ [g]) t && isTs c k n s gs r u
end
end Bx

namespace Bx
section
variable {c : List Nat → Nat} {k N S : Nat}
theorem szs_len (s : Nat) : (szs s).length = s - 1 + 1 := by
  unfold szs
  rw [List.length_cons, List.length_map, List.length_range]
mutual
/-- a tree that holds bounds the costs -/
theorem isT_sound (hm : MonoC c N S) : ∀ (n s : Nat) (gs : List Nat) (t : Tr), (∀ z ∈ gs, z = 0 ∨ 2 ≤ z) → gs.length + n ≤ N → gs.sum + s ≤ S → isT c k n s gs t = true → ∀ x ∈ allG n s, k ≤ c (gs ++ x)
  | n, s, gs, .leaf, h1, h2, h3, h, x, hx => by
    obtain ⟨a, b, d⟩ := mem_allG.mp hx
    have h : decide (k ≤ c gs) = true := by
      cases n <;> (rw [isT] at h; exact h)
    refine Nat.le_trans (of_decide_eq_true h) (hm.all x gs (fun z hz => (List.mem_append.mp hz).elim (h1 z) (b z)) ?_ ?_)
    · rw [List.length_append]
      omega
    · rw [List.sum_append]
      omega
  | 0, s, gs, .node ts, h1, h2, h3, h, x, hx => by
    rw [isT] at h
    cases h
  | n + 1, s, gs, .node ts, h1, h2, h3, h, x, hx => by
    rw [isT, Bool.and_eq_true] at h
    rw [allG] at hx
    obtain ⟨g, hg, hx⟩ := List.mem_flatMap.mp hx
    obtain ⟨y, hy, rfl⟩ := List.mem_map.mp hx
    have := isTs_sound hm n s gs (szs s) ts (Nat.le_of_eq (of_decide_eq_true h.1).symm) h1 h2 h3 (fun z hz => mem_szs.mp hz) h.2 g hg y hy
    rw [List.append_assoc] at this
    exact this
theorem isTs_sound (hm : MonoC c N S) : ∀ (n s : Nat) (gs l : List Nat) (ts : List Tr), l.length ≤ ts.length → (∀ z ∈ gs, z = 0 ∨ 2 ≤ z) → gs.length + (n + 1) ≤ N → gs.sum + s ≤ S → (∀ g ∈ l, g = 0 ∨ (2 ≤ g ∧ g ≤ s)) → isTs c k n s gs l ts = true → ∀ g ∈ l, ∀ y ∈ allG n (s - g), k ≤ c (gs ++ [g] ++ y)
  | n, s, gs, [], ts, _, _, _, _, _, _, g, hg, _, _ => absurd hg List.not_mem_nil
  | n, s, gs, g0 :: r, [], hl, _, _, _, _, _, _, _, _, _ => absurd hl (Nat.not_succ_le_zero _)
  | n, s, gs, g0 :: r, t :: u, hl, h1, h2, h3, h4, h, g, hg, y, hy => by
    rw [isTs, Bool.and_eq_true] at h
    rcases List.mem_cons.mp hg with e | hg
    · subst e
      have hg0 := h4 g List.mem_cons_self
      exact isT_sound hm n (s - g) (gs ++ [g]) t (fun z hz => by
        rcases List.mem_append.mp hz with hz | hz
        · exact h1 z hz
        · rw [List.mem_singleton.mp hz]; omega) (by rw [List.length_append, List.length_singleton]; omega) (by rw [List.sum_append, List.sum_cons, List.sum_nil]; omega) h.1 y hy
    · exact isTs_sound hm n s gs r u (Nat.le_of_succ_le_succ hl) h1 h2 h3 (fun z hz => h4 z (List.mem_cons_of_mem _ hz)) h.2 g hg y hy
end
/-- the tree that is opened while it must be, and further to depth d -/
def lawT (c : List Nat → Nat) (k : Nat) : Nat → Nat → List Nat → Nat → Tr
  | 0, _, _, _ => .leaf
  | n + 1, s, gs, d => if k ≤ c gs ∧ d = 0 then .leaf else .node ((szs s).map fun g => lawT c k n (s - g) (gs ++ [g]) (d - 1))
theorem isTs_map {n s : Nat} {gs : List Nat} (f : Nat → Tr) : ∀ l : List Nat, (∀ g ∈ l, isT c k n (s - g) (gs ++ [g]) (f g) = true) → isTs c k n s gs l (l.map f) = true
  | [], _ => by rw [List.map_nil, isTs]
  | g :: r, h => by
    rw [List.map_cons, isTs, h g List.mem_cons_self, isTs_map f r fun x hx => h x (List.mem_cons_of_mem _ hx)]
    rfl
theorem lawT_ok : ∀ (n s : Nat) (gs : List Nat) (d : Nat), (∀ x ∈ allG n s, k ≤ c (gs ++ x)) → isT c k n s gs (lawT c k n s gs d) = true
  | 0, s, gs, d, h => by
    rw [lawT, isT]
    have := h [] (by rw [allG]; exact List.mem_singleton.mpr rfl)
    rw [List.append_nil] at this
    exact decide_eq_true this
  | n + 1, s, gs, d, h => by
    rw [lawT]
    by_cases hc : k ≤ c gs ∧ d = 0
    · rw [if_pos hc, isT]
      exact decide_eq_true hc.1
    · rw [if_neg hc, isT, List.length_map, decide_eq_true rfl, Bool.true_and]
      refine isTs_map _ _ fun g hg => lawT_ok n (s - g) (gs ++ [g]) (d - 1) fun x hx => ?_
      rw [List.append_assoc]
      exact h (g :: x) (by rw [allG]; exact List.mem_flatMap.mpr ⟨g, hg, List.mem_map.mpr ⟨x, hx, rfl⟩⟩)
/-- a tree changed at the end of a road -/
def bent : Tr → List Int → Nat → Tr
  | .leaf, _, _ => .leaf
  | .node ts, [], w => if w = 0 then .leaf else if w = 1 then .node ts.dropLast else .node (ts ++ [.leaf])
  | .node ts, r :: rd, w => .node (ts.set (r % (ts.length : Int)).toNat (bent (ts.getD (r % (ts.length : Int)).toNat .leaf) rd w))
termination_by _ rd _ => rd.length
theorem isTs_bad {n s : Nat} {gs : List Nat} : ∀ (l : List Nat) (ts : List Tr) (p : Nat) (g : Nat) (t : Tr), l[p]? = some g → ts[p]? = some t → isT c k n (s - g) (gs ++ [g]) t = false → isTs c k n s gs l ts = false
  | [], _, _, _, _, h, _, _ => by cases h
  | _ :: _, [], _, _, _, _, h, _ => by cases h
  | g0 :: r, t0 :: u, 0, g, t, h1, h2, h => by
    have e1 := Option.some.inj h1
    have e2 := Option.some.inj h2
    subst e1
    subst e2
    rw [isTs, h]
    rfl
  | g0 :: r, t0 :: u, p + 1, g, t, h1, h2, h => by
    rw [isTs, isTs_bad r u p g t h1 h2 h, Bool.and_false]
theorem bent_bad : ∀ (rd : List Int) (n s : Nat) (gs : List Nat) (w : Nat), bent (lawT c k n s gs 0) rd w ≠ lawT c k n s gs 0 → isT c k n s gs (bent (lawT c k n s gs 0) rd w) = false
  | rd, 0, s, gs, w, h => by
    rw [lawT, bent] at h
    exact absurd rfl h
  | rd, n + 1, s, gs, w, h => by
    rw [lawT] at h ⊢
    by_cases hc : k ≤ c gs ∧ 0 = 0
    · rw [if_pos hc, bent] at h
      exact absurd rfl h
    · have hk : ¬ k ≤ c gs := fun z => hc ⟨z, rfl⟩
      rw [if_neg hc] at h ⊢
      have hl : ((szs s).map fun g => lawT c k n (s - g) (gs ++ [g]) (0 - 1)).length = (szs s).length := List.length_map _
      have hp := szs_len s
      cases rd with
      | nil =>
        rw [bent]
        by_cases h0 : w = 0
        · rw [if_pos h0, isT]
          exact decide_eq_false hk
        · rw [if_neg h0]
          by_cases h1 : w = 1
          · rw [if_pos h1, isT, List.length_dropLast, hl, decide_eq_false (by omega)]
            rfl
          · rw [if_neg h1, isT, List.length_append, hl, List.length_singleton, decide_eq_false (by omega)]
            rfl
      | cons r rd =>
        rw [bent] at h ⊢
        rw [hl] at h ⊢
        have p0 := Int.emod_nonneg r (show ((szs s).length : Int) ≠ 0 by omega)
        have p1 := Int.emod_lt_of_pos r (show (0 : Int) < ((szs s).length : Int) by omega)
        obtain ⟨p, hpe⟩ : ∃ p, p = (r % ((szs s).length : Int)).toNat := ⟨_, rfl⟩
        rw [← hpe] at h ⊢
        have hlt : p < (szs s).length := by omega
        have hg : (szs s)[p]? = some (szs s)[p] := List.getElem?_eq_getElem hlt
        have ht : ((szs s).map fun g => lawT c k n (s - g) (gs ++ [g]) (0 - 1))[p]? = some (lawT c k n (s - (szs s)[p]) (gs ++ [(szs s)[p]]) 0) := by
          rw [List.getElem?_map, hg]
          rfl
        have hd : ((szs s).map fun g => lawT c k n (s - g) (gs ++ [g]) (0 - 1)).getD p .leaf = lawT c k n (s - (szs s)[p]) (gs ++ [(szs s)[p]]) 0 := by
          rw [List.getD_eq_getElem?_getD, ht]
          rfl
        rw [hd] at h ⊢
        have hb : bent (lawT c k n (s - (szs s)[p]) (gs ++ [(szs s)[p]]) 0) rd w ≠ lawT c k n (s - (szs s)[p]) (gs ++ [(szs s)[p]]) 0 := fun z => by
          refine h ?_
          rw [z]
          congr 1
          refine List.ext_getElem? fun i => ?_
          rw [List.getElem?_set]
          by_cases e : p = i
          · subst e
            rw [if_pos rfl, if_pos (by rw [hl]; exact hlt), ht]
          · rw [if_neg e]
        rw [isT, List.length_set, hl, decide_eq_true rfl, Bool.true_and]
        exact isTs_bad (szs s) _ p _ _ hg (by rw [List.getElem?_set_self (by rw [hl]; exact hlt)]) (bent_bad rd n _ _ w hb)
end
end Bx

namespace Bx
section
variable {P : Program} {w : World} {K : PySem.W.Frag} {mg : Str → Option Value} {base : Heap} {C CB : Addr}
/-- tuple(x), x a list or a tuple -/
def rTupA (K : PySem.W.Frag) : List V → Hp → VK → Prop := fun vs H Q => ∃ (a : Addr) (ys : List V), vs = [V.ref a] ∧ (SqL K H a ys ∨ SqT K H a ys) ∧ ∀ c H', Same H H' → SqT K H' c ys → Q (.ref c) H'
theorem call_tupleA {X : Cx} : CallR X (.type "tuple") (rTupA X.K) := by
  intro pins s σ H vs us Q I r h
  obtain ⟨a, ys, rfl, hs, k⟩ := h
  refine call_tuple_of pins s σ H [V.ref a] us Q I r ?_
  rcases hs with z | z
  · exact ⟨a, ys, rfl, .inl ⟨z, fun l hl => k l _ (same_new hl _) (SqT.of upd_same)⟩⟩
  · exact ⟨a, ys, rfl, .inr ⟨z, k a H (Same.refl _) z⟩⟩
/-- sizes of some first gaps, given as a list or a tuple -/
structure Gps (K : PySem.W.Frag) (H : Hp) (a : Addr) (gs : List Nat) (ss : List Sh) (m : Nat) : Prop where
  sq : SqL K H a (gs.map vn) ∨ SqT K H a (gs.map vn)
  le : gs.length ≤ gpL ss
  ok : ∀ g ∈ gs, g = 0 ∨ 2 ≤ g
  sz : lnL ss + gs.sum ≤ m
theorem Gps.same {H H' : Hp} {a : Addr} {gs : List Nat} {ss : List Sh} {m : Nat} (x : Gps K H a gs ss m) (e : Same H H') : Gps K H' a gs ss m := ⟨sq_same x.sq e, x.le, x.ok, x.sz⟩
def spLayoutOf (K : PySem.W.Frag) (C : Addr) : Sp := fun vs H Q _ => ∃ (a g : Addr) (v : V) (cs gs : List Nat) (ss : List Sh), vs = [.ref a, v, .ref g] ∧ Cells K H a cs ∧ Tp K H v (.tuple (shL ss)) ∧ OkS ss ∧ Gps K H g gs ss 100 ∧
  ∀ (A : LA) (H' : Hp), Same H H' → newA H A → LyAt K C H' A cs (ptL ss) (layF cs (ptL ss) gs) → Q (.ref A.a) H'
theorem mem_le_sum {g : Nat} : ∀ {l : List Nat}, g ∈ l → g ≤ l.sum
  | x :: r, h => by
    rw [List.sum_cons]
    rcases List.mem_cons.mp h with h | h
    · omega
    · have := mem_le_sum h
      omega
def spChecked (K : PySem.W.Frag) (C : Addr) (g : List Nat → List Sh → List Nat → Prop) (R : List Nat → List Sh → List Nat → (V → Hp → Prop) → Hp → Hp → Prop) : Sp := fun vs H Q _ => ∃ (a gd : Addr) (v : V) (cs gs : List Nat) (ss : List Sh), vs = [.ref a, v, .ref gd] ∧ Cells K H a cs ∧ fwr cs = none ∧ Tp K H v (.tuple (shL ss)) ∧ OkS ss ∧ Gps K H gd gs ss 30 ∧ g cs ss gs ∧ ∀ H', Same H H' → R cs ss gs Q H H'
def rLay (K : PySem.W.Frag) (C : Addr) : List Nat → List Sh → List Nat → (V → Hp → Prop) → Hp → Hp → Prop := fun cs ss gs Q H H' => ∀ A : LA, newA H A → LyAt K C H' A cs (ptL ss) (layF cs (ptL ss) gs) → Q (.ref A.a) H'
theorem areSz_ok {gs : List Nat} {ss : List Sh} {H : Hp} {a : Addr} {m : Nat} (hG : Gps K H a gs ss m) (hm : m ≤ 30) : areSz gs ss (m : Int) = true := by
  unfold areSz
  have h1 := hG.sz
  rw [decide_eq_true hG.le, decide_eq_true (show ((lnL ss + gs.sum : Nat) : Int) ≤ (m : Int) by omega), Bool.true_and, Bool.and_true, List.all_eq_true]
  intro g hg
  have h2 : g ≤ gs.sum := mem_le_sum hg
  unfold isSz
  rcases hG.ok g hg with z | z
  · rw [decide_eq_true z]
    rfl
  · rw [decide_eq_true z, decide_eq_true (show g ≤ 30 by omega), Bool.and_self, Bool.or_true]
end
end Bx

namespace Bx
theorem b_min : bootBuiltins "min" = some (.builtin "min") := by decide +kernel
section
variable {P : Program} {w : World} {K : PySem.W.Frag} {mg : Str → Option Value} {base : Heap} {C CB : Addr}
def spSizesW (K : PySem.W.Frag) : Sp := fun vs H Q _ => ∃ s : Nat, vs = [.int (s : Int)] ∧ s ≤ 900 ∧ ∀ l H', Same H H' → H l = none → H' l = some (.lst ((szs s).map vn)) → Q (.ref l) H'
def spAreAll (K : PySem.W.Frag) : Sp := fun vs H Q _ => ∃ (a : Addr) (v : V) (room : Int) (gs : List Nat) (ss : List Sh), vs = [.ref a, v, .int room] ∧ (SqL K H a (gs.map vn) ∨ SqT K H a (gs.map vn)) ∧ gs.length ≤ 500 ∧ Tp K H v (.tuple (shL ss)) ∧ OkS ss ∧ ∀ H', Same H H' → Q (.bl (areSz gs ss room && decide (gs.length = gpL ss))) H'
/-- check_file of a right file -/
def spCheckFileV (K : PySem.W.Frag) : Sp := fun vs H Q _ => ∃ (a : Addr) (cs : List Nat), vs = [.ref a] ∧ Cells K H a cs ∧ fwr cs = none ∧ ∀ H', Same H H' → Q .non H'
theorem ok_checkFileV {f : Addr} {fd : FuncData} (F : Def K mg "check_file" sCheckFile f fd) (b : Binds K fd ["cells"] []) (T : Txt mg) (C_firstWrong : Cal P w K mg base 33 "first_wrong" (spFirstWrong K) []) : Cal P w K mg base 34 "check_file" (spCheckFileV K) [] := by
  refine cal0 F b .nil scCheckFile (fun vs H Q E h => ?_) (fun cdv A outer s H vs Q E hr h => ?_)
  · obtain ⟨a, cs, rfl, _⟩ := h
    rfl
  obtain ⟨a, cs, rfl, hC, hf, q⟩ := h
  refine ⟨_, (pss_cons (ps_set (i := 1) scCheckFile.nd rfl (Or.inl rfl) (pe_c C_firstWrong hr (by decide) rfl (pa_cons (pv 0) pa_nil)))
    (pss_one (ps_if (pt_cmpR op_notN (pv 1) pe_non (nomark _)) 
      (pss_one ps_never) pss_nil))), ?_⟩
  walk_at "rd"
  refine ⟨a, cs, rfl, hC, fun H1 s1 => ?_⟩
  rw [hf]
  walk_at "rd"
  refine g_ndF rfl ?_
  exact q H1 s1
def rmsL (ss : List Sh) : List Nat := (List.range (min (lnL ss + 8) 30 + 1 - lnL ss)).map fun i => lnL ss + i
def spRoomsOf (K : PySem.W.Frag) : Sp := fun vs H Q _ => ∃ (v : V) (ss : List Sh), vs = [v] ∧ Tp K H v (.tuple (shL ss)) ∧ OkS ss ∧ ∀ l H', Same H H' → H l = none → H' l = some (.lst ((rmsL ss).map vn)) → Q (.ref l) H'
def RmOk (ss : List Sh) (room : Nat) : Prop := lnL ss ≤ room ∧ room ≤ min (lnL ss + 8) 30
def spCheckRoom (K : PySem.W.Frag) : Sp := fun vs H Q _ => ∃ (v : V) (ss : List Sh) (room : Nat), vs = [vn room, v] ∧ Tp K H v (.tuple (shL ss)) ∧ OkS ss ∧ RmOk ss room ∧ ∀ H', Same H H' → Q .non H'
def spCheckPatch (K : PySem.W.Frag) : Sp := fun vs H Q _ => ∃ (a : Addr) (v : V) (cs : List Nat) (ss : List Sh) (room : Nat), vs = [.ref a, v, vn room] ∧ Cells K H a cs ∧ fwr cs = none ∧ Tp K H v (.tuple (shL ss)) ∧ OkS ss ∧ RmOk ss room ∧ ∀ H', Same H H' → Q .non H'
end
end Bx

namespace Bx
def cst (bef : List Nat) (ss : List Sh) (gs : List Nat) : Nat := (layF bef (ptL ss) gs).cost
theorem LeR.tail {x y : Option Nat} {a b : List (Option Nat)} (h : LeR (x :: a) (y :: b)) : LeR a b := fun n v hn => by
  have := h (n + 1) v (by rw [List.getElem?_cons_succ]; exact hn)
  rw [List.getElem?_cons_succ] at this
  exact this
theorem rc_mono {bef : List Nat} : ∀ (a b : List (Option Nat)) (p : Nat), LeR a b → rc bef p a ≤ rc bef p b
  | [], b, p, _ => Nat.zero_le _
  | none :: r, [], p, h => by
    rw [rc]
    refine Nat.le_trans (rc_mono r [] (p + 1) fun n v hn => ?_) (Nat.le_refl _)
    have := h (n + 1) v (by rw [List.getElem?_cons_succ]; exact hn)
    cases this
  | none :: r, none :: u, p, h => by
    rw [rc, rc]
    exact rc_mono r u (p + 1) h.tail
  | none :: r, some d :: u, p, h => by
    rw [rc, rc]
    exact Nat.le_trans (rc_mono r u (p + 1) h.tail) (Nat.le_add_left _ _)
  | some c :: r, b, p, h => by
    have h0 := h 0 c rfl
    cases b with
    | nil => cases h0
    | cons y u =>
      have e : y = some c := Option.some.inj h0
      subst e
      rw [rc, rc]
      exact Nat.add_le_add_left (rc_mono r u (p + 1) h.tail) _
section
variable {bef : List Nat} {ss : List Sh}
theorem take_app1 {α : Type} (l : List α) (x : α) : (l ++ [x]).take l.length = l ∧ (l ++ [x])[l.length]? = some x ∧ (l ++ [x]).take (l.length + 1) = l ++ [x] := by
  refine ⟨List.take_left' rfl, by rw [List.getElem?_append_right (Nat.le_refl _), Nat.sub_self]; rfl, List.take_of_length_le (by rw [List.length_append]; exact Nat.le_refl _)⟩
theorem cst_mono (hO : OkS ss) : MonoC (cst bef ss) (gpL ss) (800 - lnL ss) := fun gs g h1 h2 h3 => by
  have hb := hO.nb
  have hl := hO.ln
  obtain ⟨e1, e2, e3⟩ := take_app1 gs g
  have hz : lnL ss + (gs ++ [g]).sum ≤ 800 := by omega
  have a := layF_le (bef := bef) (ss := ss) (by omega) (gs ++ [g]) h1 hz h2 e2
  rw [e1, e3] at a
  obtain ⟨k1, _, _, R1, _⟩ := layF_rel (bef := bef) (ss := ss) (by omega) (gs ++ [g]) h1 hz h2 gs.length (by rw [List.length_append]; omega)
  obtain ⟨k2, _, _, R2, _⟩ := layF_rel (bef := bef) (ss := ss) (by omega) (gs ++ [g]) h1 hz h2 (gs.length + 1) (by rw [List.length_append]; exact Nat.le_refl _)
  rw [e1] at R1
  rw [e3] at R2
  unfold cst
  rw [R1.cost, R2.cost]
  exact rc_mono _ _ 0 ((LeR.gap _ _).trans a)
/-- a layout goes on with a gap -/
theorem wg_pre (hO : OkS ss) {gs : List Nat} {g : Nat} (h1 : ∀ x ∈ gs, x = 0 ∨ 2 ≤ x) (hg : g = 0 ∨ 2 ≤ g) (h2 : gs.length < gpL ss) (h3 : lnL ss + gs.sum + g ≤ 800) :
    LOk (ptL ss) (layF bef (ptL ss) gs) ∧ (ptL ss)[(layF bef (ptL ss) gs).done]? = some .gap ∧ (layF bef (ptL ss) gs).row.length + g + pcl ((ptL ss).drop (layF bef (ptL ss) gs).done) ≤ 900 ∧ withGap bef (ptL ss) (layF bef (ptL ss) gs) g = layF bef (ptL ss) (gs ++ [g]) := by
  have hb := hO.nb
  have I := layF_in (bef := bef) (ss := ss) (by omega) gs h1 (by omega) gs.length (Nat.le_refl _) (by omega)
  rw [List.take_length] at I
  have isz := I.sz
  rw [pcl_L] at isz
  exact ⟨I.ok, I.gap (by rw [nG_L]; exact h2), by omega, (layF_snoc _ _).symm⟩
theorem wh_iff (hO : OkS ss) {gs : List Nat} (h1 : ∀ x ∈ gs, x = 0 ∨ 2 ≤ x) (h2 : gs.length ≤ gpL ss) (h3 : lnL ss + gs.sum ≤ 800) : LOk (ptL ss) (layF bef (ptL ss) gs) ∧ ((layF bef (ptL ss) gs).done = (ptL ss).length ↔ gs.length = gpL ss) := by
  have hb := hO.nb
  have I := layF_in (bef := bef) (ss := ss) (by omega) gs h1 h3 gs.length (Nat.le_refl _) h2
  rw [List.take_length] at I
  have := I.whole
  rw [nG_L] at this
  exact ⟨I.ok, this⟩
end
section
variable {P : Program} {w : World} {K : PySem.W.Frag} {mg : Str → Option Value} {base : Heap} {C CB : Addr}
/-- the best so far -/
def BestAt (K : PySem.W.Frag) (C : Addr) (H : Hp) (bef : List Nat) (ss : List Sh) (vb : V) (b : Option (List Nat)) : Prop := (vb = .non ∧ b = none) ∨ ∃ y B, vb = .ref B.a ∧ b = some y ∧ LyAt K C H B bef (ptL ss) (layF bef (ptL ss) y)
theorem BestAt.same {H H' : Hp} {bef : List Nat} {ss : List Sh} {vb : V} {b : Option (List Nat)} (x : BestAt K C H bef ss vb b) (e : Same H H') : BestAt K C H' bef ss vb b := x.imp id fun ⟨y, B, h1, h2, h3⟩ => ⟨y, B, h1, h2, h3.same e⟩
structure AtG (K : PySem.W.Frag) (C : Addr) (H : Hp) (A : LA) (bef : List Nat) (ss : List Sh) (gs : List Nat) (n s : Nat) : Prop where
  ly : LyAt K C H A bef (ptL ss) (layF bef (ptL ss) gs)
  ok : OkS ss
  b9 : bef.length ≤ 900
  gl : gs.length + n = gpL ss
  g2 : ∀ x ∈ gs, x = 0 ∨ 2 ≤ x
  sz : lnL ss + gs.sum + s ≤ 800
theorem AtG.same {H H' : Hp} {A : LA} {bef : List Nat} {ss : List Sh} {gs : List Nat} {n s : Nat} (x : AtG K C H A bef ss gs n s) (e : Same H H') : AtG K C H' A bef ss gs n s := ⟨x.ly.same e, x.ok, x.b9, x.gl, x.g2, x.sz⟩
def spCheaper (K : PySem.W.Frag) (C : Addr) (m : Nat) : Sp := fun vs H Q _ => ∃ (A : LA) (bef : List Nat) (ss : List Sh) (gs : List Nat) (n s : Nat) (vb : V) (b : Option (List Nat)), vs = [.ref A.a, vn s, vb] ∧ AtG K C H A bef ss gs n s ∧ n < m ∧ BestAt K C H bef ss vb b ∧
  ∀ r A' H', Same H H' → srch (cst bef ss) n s gs b = some r → LyAt K C H' A' bef (ptL ss) (layF bef (ptL ss) r) → Q (.ref A'.a) H'
end
end Bx

namespace Bx
theorem tr_leaf {K : PySem.W.Frag} {H : Hp} {v : V} (h : Tp K H v (trD .leaf)) : v = .non := by
  cases h
  rfl
theorem tr_node {K : PySem.W.Frag} {H : Hp} {v : V} {ts : List Tr} (h : Tp K H v (trD (.node ts))) : ∃ a xs, v = .ref a ∧ H a = some (.tup xs) ∧ TpAll K H xs (ts.map trD) := by
  rw [trD, trL_map] at h
  cases h with
  | tup h1 h2 => exact ⟨_, _, rfl, h1, h2⟩
section
variable {bef : List Nat} {ss : List Sh}
theorem isTs_stop {c : List Nat → Nat} {k n s : Nat} {gs : List Nat} : ∀ (l : List Nat) (ts : List Tr), l.length = ts.length → (isTs c k n s gs l ts = true ↔ ∀ (i : Nat) (g : Nat) (t : Tr), l[i]? = some g → ts[i]? = some t → isT c k n (s - g) (gs ++ [g]) t = true)
  | [], [], _ => ⟨fun _ i g t h => by simp at h, fun _ => by rw [isTs]⟩
  | [], _ :: _, h => by cases h
  | _ :: _, [], h => by cases h
  | g0 :: r, t0 :: u, h => by
    rw [isTs, Bool.and_eq_true, isTs_stop r u (Nat.succ.inj h)]
    constructor
    · rintro ⟨a, b⟩ i g t h1 h2
      cases i with
      | zero =>
        have e1 := Option.some.inj h1
        have e2 := Option.some.inj h2
        subst e1
        subst e2
        exact a
      | succ i => exact b i g t h1 h2
    · exact fun z => ⟨z 0 g0 t0 rfl rfl, fun i g t h1 h2 => z (i + 1) g t h1 h2⟩
end
section
variable {P : Program} {w : World} {K : PySem.W.Frag} {mg : Str → Option Value} {base : Heap} {C CB : Addr}
/-- the layout with a gap more -/
theorem AtG.next {H H' : Hp} {A A2 : LA} {bef : List Nat} {ss : List Sh} {gs : List Nat} {n s g : Nat} (x : AtG K C H A bef ss gs (n + 1) s) (hg : g ∈ szs s) (y : LyAt K C H' A2 bef (ptL ss) (layF bef (ptL ss) (gs ++ [g]))) : AtG K C H' A2 bef ss (gs ++ [g]) n (s - g) := by
  have hg := mem_szs.mp hg
  have h1 := x.gl
  have h2 := x.sz
  refine ⟨y, x.ok, x.b9, by rw [List.length_append, List.length_singleton]; omega, fun z hz => ?_, by rw [List.sum_append, List.sum_cons, List.sum_nil]; omega⟩
  rcases List.mem_append.mp hz with hz | hz
  · exact x.g2 z hz
  · rw [List.mem_singleton.mp hz]
    omega
/-- with_gap, called on it -/
theorem AtG.gap {H : Hp} {A : LA} {bef : List Nat} {ss : List Sh} {gs : List Nat} {n s g : Nat} (x : AtG K C H A bef ss gs (n + 1) s) (hg : g ∈ szs s) {Q : VK} {E : XK} (q : ∀ A2 H', Same H H' → AtG K C H' A2 bef ss (gs ++ [g]) n (s - g) → Q (.ref A2.a) H') : spWithGap K C [.ref A.a, vn g] H Q E := by
  have hg2 := mem_szs.mp hg
  have h1 := x.gl
  have h2 := x.sz
  obtain ⟨p1, p2, p3, p4⟩ := wg_pre (bef := bef) x.ok x.g2 (g := g) (by omega) (by omega) (by omega)
  refine ⟨A, bef, ptL ss, _, g, rfl, x.ly, p1, p2, by omega, x.b9, p3, fun A2 H4 s4 _ y4 => ?_⟩
  rw [p4] at y4
  exact q A2 H4 s4 (x.next hg y4)
def spIsTree (K : PySem.W.Frag) (C : Addr) (m : Nat) : Sp := fun vs H Q _ => ∃ (vt : V) (t : Tr) (A : LA) (bef : List Nat) (ss : List Sh) (gs : List Nat) (n s k : Nat), vs = [vt, .ref A.a, vn s, vn k] ∧ Tp K H vt (trD t) ∧ AtG K C H A bef ss gs n s ∧ n < m ∧ ∀ H', Same H H' → Q (.bl (isT (cst bef ss) k n s gs t)) H'
end
end Bx

namespace Bx
section
variable {P : Program} {w : World} {K : PySem.W.Frag} {mg : Str → Option Value} {base : Heap} {C CB : Addr}
def spTreeOf (K : PySem.W.Frag) (C : Addr) (m : Nat) : Sp := fun vs H Q _ => ∃ (A : LA) (bef : List Nat) (ss : List Sh) (gs : List Nat) (n s k : Nat), vs = [.ref A.a, vn s, vn k] ∧ AtG K C H A bef ss gs n s ∧ n < m ∧ (∀ x ∈ allG n s, k ≤ cst bef ss (gs ++ x)) ∧
  ∀ v H', Same H H' → Tp K H' v (trD (lawT (cst bef ss) k n s gs 0)) → Q v H'
end
end Bx

namespace Bx
theorem gp_le14 {ss : List Sh} (hO : OkS ss) : gpL ss ≤ 13 ∧ 1 ≤ gpL ss := by
  have h1 := gp_L ss
  have h2 := List.length_filter_le isG (allL ss)
  have := hO.nb
  omega
section
variable {P : Program} {w : World} {K : PySem.W.Frag} {mg : Str → Option Value} {base : Heap} {C CB CP : Addr}
/-- a file, a shape, a room -/
structure Task (K : PySem.W.Frag) (H : Hp) (a : Addr) (v : V) (cs : List Nat) (ss : List Sh) (room : Nat) : Prop where
  cl : Cells K H a cs
  ok : fwr cs = none
  sh : Tp K H v (.tuple (shL ss))
  oS : OkS ss
  rm : RmOk ss room
theorem Task.same {H H' : Hp} {a : Addr} {v : V} {cs : List Nat} {ss : List Sh} {room : Nat} (x : Task K H a v cs ss room) (e : Same H H') : Task K H' a v cs ss room := ⟨x.cl.same e, x.ok, x.sh.same e, x.oS, x.rm⟩
theorem Task.at0 {H : Hp} {a : Addr} {v : V} {cs : List Nat} {ss : List Sh} {room : Nat} (x : Task K H a v cs ss room) {H' : Hp} {A : LA} (y : LyAt K C H' A cs (ptL ss) (layF cs (ptL ss) [])) {s : Nat} (hs : s ≤ 30) : AtG K C H' A cs ss [] (gpL ss) s := by
  have h1 := x.oS.ln
  have h2 := x.cl.len
  exact ⟨y, x.oS, by omega, Nat.zero_add _, fun z hz => absurd hz List.not_mem_nil, by show lnL ss + 0 + s ≤ 800; omega⟩
/-- layout_of(cells, shape, ()) -/
theorem Task.lay0 {H : Hp} {a : Addr} {v : V} {cs : List Nat} {ss : List Sh} {room : Nat} (x : Task K H a v cs ss room) {p : Addr} (hp : H p = some (.tup [])) {Q : VK} {E : XK} (q : ∀ A H', Same H H' → LyAt K C H' A cs (ptL ss) (layF cs (ptL ss) []) → Q (.ref A.a) H') : spLayoutOf K C [.ref a, v, .ref p] H Q E := by
  have h1 := x.oS.ln
  exact ⟨a, p, v, cs, [], ss, rfl, x.cl, x.sh, x.oS, ⟨.inr (SqT.of hp), Nat.zero_le _, fun z hz => absurd hz List.not_mem_nil, by show lnL ss + 0 ≤ 100; omega⟩, fun A H' s _ y => q A H' s y⟩
def spChLayout (K : PySem.W.Frag) (C : Addr) : Sp := fun vs H Q _ => ∃ (a : Addr) (v : V) (cs : List Nat) (ss : List Sh) (room : Nat), vs = [.ref a, v, vn room] ∧ Task K H a v cs ss room ∧
  ∀ r A' H', Same H H' → srch (cst cs ss) (gpL ss) (room - lnL ss) [] none = some r → LyAt K C H' A' cs (ptL ss) (layF cs (ptL ss) r) → Q (.ref A'.a) H'
def spLeastCost (K : PySem.W.Frag) : Sp := fun vs H Q _ => ∃ (a : Addr) (v : V) (cs : List Nat) (ss : List Sh) (room : Nat), vs = [.ref a, v, vn room] ∧ Task K H a v cs ss room ∧
  ∀ r H', Same H H' → srch (cst cs ss) (gpL ss) (room - lnL ss) [] none = some r → Q (vn (cst cs ss r)) H'
structure PaT (K : PySem.W.Frag) (CP : Addr) : Prop where
  cl : Cls K CP
  nGaps : NoAttr K CP "gaps"
  nTree : NoAttr K CP "tree"
theorem put_cls {C a dx : Addr} {fs fs' : List (Str × V)} {H : Hp} {D : Ends} {σ : L2.St} {f : Str} {y : V} (c : Cls K C) (h : H a = some (.ins C dx fs)) (n : NoAttr K C f) (hz : fs.length < 1000) (hp : putF f y fs = fs') (q : D.nx σ (upd H a (.ins C dx fs'))) :
    ∃ a' C dx fs, V.ref a = .ref a' ∧ H a' = some (.ins C dx fs) ∧ Cls K C ∧ NoAttr K C f ∧ fs.length < 1000 ∧ D.nx σ (upd H a' (.ins C dx (putF f y fs))) :=
  ⟨_, _, _, _, rfl, h, c, n, hz, by rw [hp]; exact q⟩
def spPaInit (CP : Addr) : Sp := fun vs H Q _ => ∃ (p dx : Addr) (g t : V), vs = [.ref p, g, t] ∧ H p = some (.ins CP dx []) ∧ Q .non (upd H p (.ins CP dx [("gaps", g), ("tree", t)]))
/-- a Patch that stands -/
def PaAt (K : PySem.W.Frag) (H : Hp) (CP p : Addr) (gs : List Nat) (t : Tr) : Prop := ∃ dx ga vt, H p = some (.ins CP dx [("gaps", .ref ga), ("tree", vt)]) ∧ (SqL K H ga (gs.map vn) ∨ SqT K H ga (gs.map vn)) ∧ Tp K H vt (trD t)
def shw (cs : List Nat) (ss : List Sh) (room : Nat) (gs : List Nat) (t : Tr) : Bool := areSz gs ss (room : Int) && decide (gs.length = gpL ss) && isT (cst cs ss) (cst cs ss gs) (gpL ss) (room - lnL ss) [] t
def spShows (K : PySem.W.Frag) (CP : Addr) : Sp := fun vs H Q _ => ∃ (p a : Addr) (v : V) (cs : List Nat) (ss : List Sh) (room : Nat) (gs : List Nat) (t : Tr), vs = [.ref p, .ref a, v, vn room] ∧ Task K H a v cs ss room ∧ PaAt K H CP p gs t ∧ gs.length ≤ 500 ∧ ∀ H', Same H H' → Q (.bl (shw cs ss room gs t)) H'
theorem areSz_inv {gs : List Nat} {ss : List Sh} {room : Nat} (h : areSz gs ss (room : Int) = true) : gs.length ≤ gpL ss ∧ (∀ g ∈ gs, g = 0 ∨ 2 ≤ g) ∧ lnL ss + gs.sum ≤ room := by
  unfold areSz at h
  simp only [Bool.and_eq_true, decide_eq_true_eq, List.all_eq_true] at h
  obtain ⟨h1, h2, h3⟩ := h
  refine ⟨h1, fun g hg => ?_, by omega⟩
  have := h2 g hg
  unfold isSz at this
  simp at this
  omega
end
end Bx

namespace Bx
section
variable {bef : List Nat} {ss : List Sh}
/-- the cheapest sizes within some spare cells -/
theorem srch0 (hO : OkS ss) {s : Nat} (hs : s ≤ 30) (b : Option (List Nat)) : ∃ r, srch (cst bef ss) (gpL ss) s [] b = some r ∧ Best (cst bef ss) (allG (gpL ss) s) b r := by
  have hl := hO.ln
  obtain ⟨r, e, B⟩ := srch_ok (cst_mono (bef := bef) hO) (gpL ss) s [] b (fun z hz => absurd hz List.not_mem_nil) (by rw [List.length_nil]; omega) (by rw [List.sum_nil]; omega)
  rw [show (allG (gpL ss) s).map ([] ++ ·) = allG (gpL ss) s from List.map_id _] at B
  exact ⟨r, e, B⟩
theorem lay_gaps (hO : OkS ss) {r : List Nat} (h1 : ∀ x ∈ r, x = 0 ∨ 2 ≤ x) (h2 : r.length ≤ gpL ss) (h3 : lnL ss + r.sum ≤ 800) : (layF bef (ptL ss) r).gaps = r := by
  have hb := hO.nb
  have I := layF_in (bef := bef) (ss := ss) (by omega) r h1 h3 r.length (Nat.le_refl _) h2
  rw [List.take_length] at I
  exact I.gp
end
section
variable {P : Program} {w : World} {K : PySem.W.Frag} {mg : Str → Option Value} {base : Heap} {C CB CP : Addr}
def spCheapest (K : PySem.W.Frag) (CP : Addr) : Sp := fun vs H Q _ => ∃ (a : Addr) (v : V) (cs : List Nat) (ss : List Sh) (room : Nat), vs = [.ref a, v, vn room] ∧ Task K H a v cs ss room ∧
  ∀ r p dx ga vt H', Same H H' → srch (cst cs ss) (gpL ss) (room - lnL ss) [] none = some r → H' p = some (.ins CP dx [("gaps", .ref ga), ("tree", vt)]) → H' ga = some (.tup (r.map vn)) → Tp K H' vt (trD (lawT (cst cs ss) (cst cs ss r) (gpL ss) (room - lnL ss) [] 0)) → Q (.ref p) H'
/-- the best after each room -/
def bst (c : List Nat → Nat) (n : Nat) : Nat → Option (List Nat)
  | 0 => none
  | i + 1 => srch c n i [] (bst c n i)
def bsc (c : List Nat → Nat) (n i : Nat) : Nat := c ((bst c n (i + 1)).getD [])
end
end Bx

namespace Bx
section
variable {P : Program} {w : World} {K : PySem.W.Frag} {mg : Str → Option Value} {base : Heap} {C CB CP : Addr}
def rck (c : List Nat → Nat) (n l : Nat) (i : Nat) : Key × V := (Sum.inl ((l + i : Nat) : Int), vn (bsc c n i))
theorem put_new {kvs : List (Key × V)} {k : Key} {v : V} (h : ∀ p ∈ kvs, p.1 ≠ k) : putK kvs k v = kvs ++ [(k, v)] := by
  unfold putK
  rw [if_neg]
  intro z
  obtain ⟨p, hp, e⟩ := List.any_eq_true.mp z
  exact h p hp (of_decide_eq_true e)
theorem LyAt.offD {H : Hp} {A : LA} {bef : List Nat} {ps : List Pt} {L : Lay} (x : LyAt K C H A bef ps L) {d : Addr} {kvs : List (Key × V)} {o : HO} (hd : H d = some (.dK kvs)) : LyAt K C (upd H d o) A bef ps L where
  ins := by rw [upd_ne (ne_of x.ins hd (fun z => nomatch z))]; exact x.ins
  bf := by
    have go : ∀ o, H A.ab = some o → (∀ kv, o ≠ .dK kv) → A.ab ≠ d := fun o ho hk z => by
      rw [z, hd] at ho
      exact hk _ (Option.some.inj ho).symm
    rcases x.bf with (h | ⟨u, h⟩) | h
    · exact .inl (.inl (by rw [upd_ne (go _ h (fun _ z => nomatch z))]; exact h))
    · exact .inl (.inr ⟨u, by rw [upd_ne (go _ h (fun _ z => nomatch z))]; exact h⟩)
    · exact .inr h
  pt := by
    obtain ⟨xs, h1, h2⟩ := x.pt
    exact ⟨xs, by rw [upd_ne (ne_of h1 hd (fun z => nomatch z))]; exact h1, TpAll.mono (tk_dK hd) _ _ h2⟩
  gp := by rw [upd_ne (ne_of x.gp hd (fun z => nomatch z))]; exact x.gp
  rw := by rw [upd_ne (ne_of x.rw hd (fun z => nomatch z))]; exact x.rw
  bg := by rw [upd_ne (ne_of x.bg hd (fun z => nomatch z))]; exact x.bg
  st := by rw [upd_ne (ne_of x.st hd (fun z => nomatch z))]; exact x.st
  op := by rw [upd_ne (ne_of x.op hd (fun z => nomatch z))]; exact x.op
  wt := by
    obtain ⟨xs, h1, h2⟩ := x.wt
    exact ⟨xs, by rw [upd_ne (ne_of h1 hd (fun z => nomatch z))]; exact h1, TpAll.mono (tk_dK hd) _ _ h2⟩
  ne := x.ne
def spRoomCosts (K : PySem.W.Frag) : Sp := fun vs H Q _ => ∃ (a : Addr) (v : V) (cs : List Nat) (ss : List Sh), vs = [.ref a, v] ∧ Cells K H a cs ∧ fwr cs = none ∧ Tp K H v (.tuple (shL ss)) ∧ OkS ss ∧
  ∀ d H', Same H H' → H d = none → H' d = some (.dK ((List.range (min (lnL ss + 8) 30 + 1 - lnL ss)).map (rck (cst cs ss) (gpL ss) (lnL ss)))) → Q (.ref d) H'
end
end Bx

namespace Bx
theorem szs_filter : ∀ s : Nat, (List.range (s + 1)).filter (fun i => !decide (i = 1)) = szs s
  | 0 => rfl
  | 1 => rfl
  | s + 2 => by
    have ih := szs_filter (s + 1)
    rw [List.range_succ, List.filter_append, ih]
    unfold szs
    rw [show s + 2 - 1 = (s + 1 - 1) + 1 by omega, List.range_succ, List.map_append, List.filter_cons, if_pos (by simp)]
    simp
section
variable {K : PySem.W.Frag} {H : Hp} {Q : VK} {a b : Addr} {xs ys : List V}
theorem catA_k {X : Cx} (e : X.K = K) : OpR X (binaryOp .Add) (rCatA K) := by
  subst e
  exact op_catA
theorem sumA_k {X : Cx} (e : X.K = K) (hc : X.calm = true) : CallR X (.builtin "sum") (rSumA K) := by
  subst e
  exact cr_sumA hc
theorem g_catA (h1 : SqT K H a xs) (h2 : SqT K H b ys) (hz : xs.length + ys.length ≤ 1000) (h : ∀ c H', Same H H' → SqT K H' c (xs ++ ys) → Q (.ref c) H') : rCatA K (.ref a) (.ref b) H Q := by
  refine ⟨a, b, xs, ys, rfl, rfl, h1, h2, small hz, fun e => ?_, fun _ e => ?_, fun _ _ p hp => h p _ (same_new hp _) (SqT.of upd_same)⟩
  · subst e
    exact h b H (Same.refl _) h2
  · subst e
    exact h a H (Same.refl _) (by rw [List.append_nil]; exact h1)
theorem g_sumA {ns : List Nat} (h : SqT K H a (ns.map vn)) (q : Q (.int ((ns.sum : Nat) : Int)) H) : rSumA K [.ref a] H Q :=
  ⟨a, ns.map fun n : Nat => (n : Int), rfl, .inr (by rw [← map_vn]; exact h), by rw [sum_vn]; exact q⟩
end
section
variable {P : Program} {w : World} {K : PySem.W.Frag} {mg : Str → Option Value} {base : Heap} {C CB CP : Addr}
/-- what a begun tree stands on -/
structure Beg (K : PySem.W.Frag) (H : Hp) (B : Addr) (v : V) (G : Addr) (bef : List Nat) (ss : List Sh) (gs : List Nat) (n spare : Nat) : Prop where
  bf : H B = some (.tup (bef.map vn))
  sh : Tp K H v (.tuple (shL ss))
  oS : OkS ss
  gp : SqT K H G (gs.map vn)
  g2 : ∀ x ∈ gs, x = 0 ∨ 2 ≤ x
  gl : gs.length + n = gpL ss
  sz : gs.sum ≤ spare
  s30 : lnL ss + spare ≤ 30
theorem Beg.same {H H' : Hp} {B : Addr} {v : V} {G : Addr} {bef : List Nat} {ss : List Sh} {gs : List Nat} {n spare : Nat} (x : Beg K H B v G bef ss gs n spare) (e : Same H H') : Beg K H' B v G bef ss gs n spare := ⟨e _ _ x.bf, x.sh.same e, x.oS, Same.sqt e x.gp, x.g2, x.gl, x.sz, x.s30⟩
/-- what is known of begun sizes costs -/
theorem Beg.known {H : Hp} {B : Addr} {v : V} {G : Addr} {bef : List Nat} {ss : List Sh} {gs : List Nat} {n spare : Nat} (x : Beg K H B v G bef ss gs n spare) {Q : VK} {E : XK}
    (q : ∀ t Cd H', Same H H' → H' t = some (.tup [.ref Cd, .int ((knR bef ss gs).pl : Int)]) → DN H' Cd (knM bef ss gs) 100000 → Q (.ref t) H') : spKnown K [.ref B, v, .ref G] H Q E := by
  have hd := x.oS.dp
  have hl := x.oS.ln
  have hg := gp_le14 x.oS
  have h1 := x.gl
  have h2 := x.sz
  have h3 := x.s30
  refine ⟨B, G, v, bef, gs, ss, rfl, SqT.of x.bf, x.sh, by omega, by omega, x.gp, by omega, fun g hg => ?_, fun t Cd H' s a b _ => q t Cd H' s a b⟩
  have := mem_le_sum hg
  omega
theorem Beg.cost {H : Hp} {B : Addr} {v : V} {G : Addr} {bef : List Nat} {ss : List Sh} {gs : List Nat} {n spare : Nat} (x : Beg K H B v G bef ss gs n spare) {Cd : Addr} (hD : DN H Cd (knM bef ss gs) 100000) {Q : VK} {E : XK} (q : ∀ H', Same H H' → Q (vn (cst bef ss gs)) H') : spCost K [.ref B, .ref Cd] H Q E := by
  have h1 := x.gl
  have h2 := x.sz
  have h3 := x.s30
  refine ⟨B, Cd, bef, knM bef ss gs, (knR bef ss gs).pl, rfl, x.bf, hD, (lay_kn x.oS x.g2 (by omega) (by omega)).2.2.1, fun H' s => ?_⟩
  have := q H' s
  unfold cst at this
  rw [lay_cost x.oS x.g2 (by omega) (by omega)] at this
  exact this
def spLTree (K : PySem.W.Frag) (m : Nat) : Sp := fun vs H Q _ => ∃ (B G : Addr) (v : V) (bef : List Nat) (ss : List Sh) (gs : List Nat) (n spare k : Nat) (dp : Int), vs = [.ref B, v, vn (gpL ss), vn spare, vn k, .ref G, .int dp] ∧ Beg K H B v G bef ss gs n spare ∧ n < m ∧ (n : Int) - 1000 ≤ dp ∧ dp ≤ 100 ∧
  (∀ x ∈ allG n (spare - gs.sum), k ≤ cst bef ss (gs ++ x)) ∧ ∀ vt H', Same H H' → Tp K H' vt (trD (lawT (cst bef ss) k n (spare - gs.sum) gs dp.toNat)) → Q vt H'
end
end Bx

namespace Bx
def gpD (x : List Nat) : PyData := .tuple (x.map pn)
def lawG : Nat → Nat → List (List Nat)
  | 0, _ => [[]]
  | t + 1, s => (lawG t s).flatMap fun x => ((szs 5).filter fun g => decide (x.sum + g ≤ s)).map fun g => x ++ [g]
theorem mem_lawG {s : Nat} (hs : s ≤ 5) : ∀ {t : Nat} {x : List Nat}, x ∈ lawG t s ↔ x.length = t ∧ (∀ g ∈ x, g = 0 ∨ 2 ≤ g) ∧ x.sum ≤ s
  | 0, x => by
    rw [lawG, List.mem_singleton]
    constructor
    · rintro rfl
      exact ⟨rfl, fun g h => absurd h List.not_mem_nil, Nat.zero_le _⟩
    · exact fun h => List.length_eq_zero_iff.mp h.1
  | t + 1, x => by
    rw [lawG, List.mem_flatMap]
    constructor
    · rintro ⟨y, hy, hx⟩
      obtain ⟨g, hg, rfl⟩ := List.mem_map.mp hx
      obtain ⟨h1, h2⟩ := List.mem_filter.mp hg
      have h2 := of_decide_eq_true h2
      have h3 := mem_szs.mp h1
      obtain ⟨a, b, c⟩ := (mem_lawG hs).mp hy
      refine ⟨by rw [List.length_append, a]; rfl, fun z hz => ?_, by rw [List.sum_append, List.sum_cons, List.sum_nil]; omega⟩
      rcases List.mem_append.mp hz with hz | hz
      · exact b z hz
      · rw [List.mem_singleton.mp hz]
        omega
    · rintro ⟨a, b, c⟩
      obtain ⟨y, g, rfl⟩ : ∃ y g, x = y ++ [g] := by
        have hne : x ≠ [] := fun z => by rw [z] at a; cases a
        exact ⟨x.dropLast, x.getLast hne, (List.dropLast_concat_getLast hne).symm⟩
      rw [List.length_append, List.length_singleton] at a
      rw [List.sum_append, List.sum_cons, List.sum_nil] at c
      have hg := b g (List.mem_append_right _ (List.mem_singleton.mpr rfl))
      exact ⟨y, (mem_lawG hs).mpr ⟨by omega, fun z hz => b z (List.mem_append_left _ hz), by omega⟩, List.mem_map.mpr ⟨g, List.mem_filter.mpr ⟨mem_szs.mpr (by omega), decide_eq_true (by omega)⟩, rfl⟩⟩
theorem lawG_allG {s t : Nat} (hs : s ≤ 5) {x : List Nat} : x ∈ lawG t s ↔ x ∈ allG t s := by rw [mem_lawG hs, mem_allG]
theorem lawG_len : ∀ t, t < 14 → ∀ s, s < 6 → (lawG t s).length ≤ 300 := by decide +kernel
theorem ints_inv {K : PySem.W.Frag} {H : Hp} : ∀ {x : List Nat} {ys : List V}, TpAll K H ys (x.map pn) → ys = x.map vn
  | [], ys, h => by
    cases h
    rfl
  | n :: r, ys, h => by
    cases h with
    | cons h1 h2 =>
      cases h1
      rw [ints_inv h2]
      rfl
theorem gpD_inv {K : PySem.W.Frag} {H : Hp} {v : V} {x : List Nat} (h : Tp K H v (gpD x)) : ∃ a, v = .ref a ∧ H a = some (.tup (x.map vn)) := by
  unfold gpD at h
  cases h with
  | tup h1 h2 =>
    rw [ints_inv h2] at h1
    exact ⟨_, rfl, h1⟩
theorem gpD_tp {K : PySem.W.Frag} {H : Hp} {a : Addr} {x : List Nat} (h : H a = some (.tup (x.map vn))) : Tp K H (.ref a) (gpD x) := .tup h (TpAll.ints x)
theorem g_catH {K : PySem.W.Frag} {H : Hp} {Q : VK} {a b : Addr} {xs ys : List V} (h1 : H a = some (.tup xs)) (h2 : H b = some (.tup ys)) (hz : xs.length + ys.length ≤ 1000) (h : ∀ c H', Same H H' → H' c = some (.tup (xs ++ ys)) → Q (.ref c) H') : rCatA K (.ref a) (.ref b) H Q := by
  refine ⟨a, b, xs, ys, rfl, rfl, SqT.of h1, SqT.of h2, small hz, fun e => ?_, fun _ e => ?_, fun _ _ p hp => h p _ (same_new hp _) upd_same⟩
  · subst e
    exact h b H (Same.refl _) h2
  · subst e
    exact h a H (Same.refl _) (by rw [List.append_nil]; exact h1)
section
variable {P : Program} {w : World} {K : PySem.W.Frag} {mg : Str → Option Value} {base : Heap} {C CB CP : Addr}
def spAllG (K : PySem.W.Frag) : Sp := fun vs H Q _ => ∃ t s : Nat, vs = [vn t, vn s] ∧ t < 14 ∧ s < 6 ∧ ∀ l xs H', Same H H' → H l = none → H' l = some (.lst xs) → TpAll K H' xs ((lawG t s).map gpD) → Q (.ref l) H'
end
end Bx

namespace Bx
/-- the sizes in the order of the law -/
def szG : Nat → Nat → List (List Nat)
  | 0, _ => [[]]
  | t + 1, s => (szG t s).flatMap fun x => (szs (s - x.sum)).map fun g => x ++ [g]
theorem mem_szG {s : Nat} : ∀ {t : Nat} {x : List Nat}, x ∈ szG t s → x.length = t ∧ (∀ g ∈ x, g = 0 ∨ 2 ≤ g) ∧ x.sum ≤ s
  | 0, x, h => by
    rw [szG, List.mem_singleton] at h
    subst h
    exact ⟨rfl, fun g hg => absurd hg List.not_mem_nil, Nat.zero_le _⟩
  | t + 1, x, h => by
    rw [szG, List.mem_flatMap] at h
    obtain ⟨y, hy, hx⟩ := h
    obtain ⟨g, hg, rfl⟩ := List.mem_map.mp hx
    obtain ⟨a, b, c⟩ := mem_szG hy
    have d := mem_szs.mp hg
    refine ⟨by rw [List.length_append, a]; rfl, fun z hz => ?_, by rw [List.sum_append, List.sum_cons, List.sum_nil]; omega⟩
    rcases List.mem_append.mp hz with hz | hz
    · exact b z hz
    · rw [List.mem_singleton.mp hz]
      omega
theorem szG_ne (s : Nat) : ∀ t, szG t s ≠ []
  | 0 => fun h => by rw [szG] at h; cases h
  | t + 1 => fun h => by
    rw [szG, List.flatMap_eq_nil_iff] at h
    obtain ⟨x, hx⟩ := List.exists_mem_of_ne_nil _ (szG_ne s t)
    have := h x hx
    rw [List.map_eq_nil_iff] at this
    unfold szs at this
    cases this
theorem szG_len : ∀ t, t < 14 → ∀ s, s < 6 → (szG t s).length ≤ 300 := by decide +kernel
theorem gp_le6 {ss : List Sh} (h1 : (allL ss).length ≤ 6) : gpL ss ≤ 13 := by
  have h2 := gp_L ss
  have h3 := List.length_filter_le isG (allL ss)
  omega
section
variable {P : Program} {w : World} {K : PySem.W.Frag} {mg : Str → Option Value} {base : Heap} {C CB : Addr}
inductive Rw where
  | non | num (k : Nat) | is (n a c : Nat) | to (n a : Nat)
def rwD : Rw → PyData
  | .non => .none
  | .num k => .int (k : Int)
  | .is n a c => .tuple [.str "is", .int (n : Int), .int (a : Int), .int (c : Int)]
  | .to n a => .tuple [.str "to", .int (n : Int), .int (a : Int)]
def frR (g : Nat) : List Rw := if g = 0 then [] else [.num 3, .num g] ++ List.replicate (g - 2) .non
theorem frR_len {g : Nat} (h : g = 0 ∨ 2 ≤ g) : (frR g).length = g := by
  unfold frR
  split
  · rename_i h0
    rw [h0]
    rfl
  · rw [List.length_append, List.length_replicate]
    show 2 + (g - 2) = g
    omega
def spLFree (K : PySem.W.Frag) : Sp := fun vs H Q _ => ∃ g : Nat, vs = [vn g] ∧ (g = 0 ∨ 2 ≤ g) ∧ g ≤ 100 ∧ ∀ (a : Addr) (acc : List V) (H' : Hp), Same H H' → H a = none → H' a = some (.lst acc) → TpAll K H' acc ((frR g).map rwD) → Q (.ref a) H'
theorem ok_lFree {f : Addr} {fd : FuncData} (F : Def K mg "_law_free" sLFree f fd) (b : Binds K fd ["_law_gap"] []) (T : Txt mg) : Cal P w K mg base 1 "_law_free" (spLFree K) [] := by
  refine cal0 F b .nil scLFree (fun vs H Q E h => ?_) (fun cdv A outer s H vs Q E hr h => ?_)
  · obtain ⟨g, rfl, _⟩ := h
    rfl
  obtain ⟨g, rfl, hg, hz, q⟩ := h
  refine ⟨_, (pss_one (ps_ret (pe_ifExp (pt_cmpR op_eq (pv 0) pe_int (nomark _)) (pe_lst pa_nil) (pe_op op_cat (pe_lst (pa_cons pe_int (pa_cons (pv 0) pa_nil))) (pe_op op_rep (pe_lst (pa_cons pe_non pa_nil)) (pe_op op_sub (pv 0) pe_int)))))), ?_⟩
  walk_at "rd"
  by_cases e : g = 0
  · refine g_dT (by rw [e]; rfl) ?_
    walk_at "rd"
    refine ⟨Nat.zero_le _, fun p hp => ?_⟩
    refine q p [] _ (same_new hp _) hp upd_same ?_
    unfold frR
    rw [if_pos e]
    exact .nil
  · have h2 : 2 ≤ g := by omega
    refine g_dF (fun z => e (by injection z with z; omega)) ?_
    walk_at "rd"
    refine ⟨(by show 2 ≤ sizeLine; decide), fun p hp => ?_⟩
    have s1 := same_new hp (.lst [V.int 3, vn g])
    walk_at "rd"
    refine ⟨(by show 1 ≤ sizeLine; decide), fun p2 hp2 => ?_⟩
    have s2 := same_new hp2 (.lst [V.non])
    walk_at "rd"
    refine ⟨p2, (g : Int) - 2, [V.non], rfl, rfl, upd_same, by omega, by omega, (by rw [sizeLine_eq]; show 1 * _ ≤ _; omega), fun p3 hp3 => ?_⟩
    rw [show ((g : Int) - 2).toNat = g - 2 by omega, List.flatten_replicate_singleton]
    have s3 := same_new hp3 (.lst (List.replicate (g - 2) V.non))
    refine g_cat (xs := [V.int 3, vn g]) ((s2.trans s3) _ _ upd_same) upd_same (by rw [List.length_replicate]; show 2 + _ ≤ 1000; omega) fun p4 hp4 => ?_
    have s4 := same_new hp4 (.lst ([V.int 3, vn g] ++ List.replicate (g - 2) V.non))
    have S4 := ((s1.trans s2).trans s3).trans s4
    refine q p4 _ _ S4 (((s1.trans s2).trans s3).free hp4) upd_same ?_
    unfold frR
    rw [if_neg e, List.map_append, List.map_replicate]
    exact TpAll.append (.cons (.int _) (.cons (.int _) .nil)) (TpAll.non _ _)
def spLMany (K : PySem.W.Frag) (n : Nat) : Sp := fun vs H Q _ => ∃ (v : V) (ss : List Sh), vs = [v] ∧ Tp K H v (.tuple (shL ss)) ∧ dpsL ss < n ∧ (allL ss).length ≤ 100 ∧ ∀ H', Same H H' → Q (vn (gpL ss)) H'
theorem all_mem_le {ss : List Sh} {s : Sh} (h : s ∈ ss) : (all1 s).length ≤ (allL ss).length := by
  induction ss with
  | nil => exact absurd h List.not_mem_nil
  | cons x r ih =>
    rw [allL, List.length_append]
    rcases List.mem_cons.mp h with rfl | h
    · omega
    · have := ih h
      omega
theorem gpL_sum1 : ∀ ss : List Sh, gpL ss = 1 + (ss.map gp1).sum
  | [] => rfl
  | s :: r => by rw [gpL, gpL_sum1 r, List.map_cons, List.sum_cons]; omega
theorem ok_lMany {f : Addr} {fd : FuncData} (F : Def K mg "_law_many" sLMany f fd) (b : Binds K fd ["_law_boxes_here"] []) (T : Txt mg) : ∀ n : Nat, Cal P w K mg base (n + 1) "_law_many" (spLMany K n) []
  | 0 => by
    refine cal0 F b .nil scLMany (fun vs H Q E h => ?_) (fun cdv A outer s H vs Q E hr h => ?_)
    · obtain ⟨v, ss, rfl, _⟩ := h
      rfl
    · obtain ⟨v, ss, rfl, _, h, _⟩ := h
      omega
  | n + 1 => by
    have C_lMany := ok_lMany F b T n
    refine cal0 F b .nil scLMany (fun vs H Q E h => ?_) (fun cdv A outer s H vs Q E hr h => ?_)
    · obtain ⟨v, ss, rfl, _⟩ := h
      rfl
    obtain ⟨v, ss, rfl, hv, hd, hz, q⟩ := h
    obtain ⟨t, xs, rfl, hT, hX⟩ := Tp.tup_inv hv
    have hlen := allL_len ss
    have hxl : xs.length = ss.length := by rw [hX.length, shL_map, List.length_map]
    refine ⟨_, (pss_one (ps_ret (pe_op op_add pe_int (pe_callB (cr_sum rfl) (by rfl) T.sum b_sum (pa_cons (pe_lc (own := [("_law_word_here", 1), ("_law_content", 2)]) rfl scLMany.nd (pi_tup (pv 0)) (blkOk_by (own := [("_law_word_here", 1), ("_law_content", 2)]) (N := NLMany) (sc := (fnScope sLMany)) (by decide +kernel)) (fun _ _ _ _ _ => (pg_tup2 (K := K) rfl rfl (pgs_cons (pg_name (i := 1) scLMany.nd rfl (.inl rfl)) (pgs_cons (pg_name (i := 2) scLMany.nd rfl (.inl rfl)) pgs_nil)))) (fun _ _ _ _ _ => pts_nil) (fun _ _ _ _ _ => (pe_op op_add pe_int (pe_ifExp (pt_cmpR op_eq (pv 1) pe_str (nomark _)) (pe_c C_lMany hr (Nat.le_refl _) rfl (pa_cons (pv 2) pa_nil)) pe_int)))) pa_nil))))), ?_⟩
    walk_at "rd"
    refine ⟨t, rfl, ⟨_, hT⟩, fun D hD => ?_⟩
    refine lc_it walk_tup (fun i H' => Same H H' ∧ H' D = some (.lst (((ss.take i).map gp1).map vn))) ⟨same_new hD _, upd_same⟩ (fun i H' _ z => Same.sqt z.1 hT) ?_ ?_
    · rintro i x H1 H2 hi ⟨s1, s2⟩ ⟨rfl, hx⟩
      obtain ⟨dd, e1, e2⟩ := hX.get hx
      rw [shL_map, List.getElem?_map] at e1
      obtain ⟨kk, hb, rfl⟩ := Option.map_eq_some_iff.mp e1
      have etk : ((ss.take (i + 1)).map gp1).map vn = ((ss.take i).map gp1).map vn ++ [vn (gp1 kk)] := by
        rw [take_snoc hb, List.map_append, List.map_append]
        rfl
      have fin : ∀ (z : Int) (H3 : Hp), Same H2 H3 → z = (gp1 kk : Int) → ∃ acc, H3 D = some (.lst acc) ∧ acc.length < sizeLine ∧ Same H (upd H3 D (.lst (acc ++ [V.int z]))) ∧ upd H3 D (.lst (acc ++ [V.int z])) D = some (.lst (((ss.take (i + 1)).map gp1).map vn)) := fun z H3 u1 u2 =>
        ⟨_, u1 _ _ s2, small1000 (by rw [List.length_map, List.length_map, List.length_take]; omega), Same.putNew (s1.trans u1) hD, by rw [upd_same, etk, u2]⟩
      have hm := List.mem_of_getElem? hb
      have d1 := dps_mem ss _ hm
      have d2 := all_mem_le hm
      rw [sh1_eq] at e2
      obtain ⟨tx, y, rfl, g1, g2⟩ := Tp.pair_inv e2
      refine g_tupT (Same.sqt s1 g1) rfl ?_
      walk_at "rd"
      refine ⟨rfl, ?_⟩
      walk_at "rd"
      cases kk with
      | dat c =>
        refine g_dF ne_dg ?_
        walk_at "rd"
        exact fin _ _ (Same.refl _) (by rw [gp1]; rfl)
      | tab c =>
        refine g_dF ne_tg ?_
        walk_at "rd"
        exact fin _ _ (Same.refl _) (by rw [gp1]; rfl)
      | grp ks =>
        refine g_dT rfl ?_
        walk_at "rd"
        rw [dps1] at d1
        rw [all1, List.length_cons] at d2
        refine ⟨y, ks, rfl, Tp.same g2 s1, by omega, by omega, fun H3 s3 => ?_⟩
        walk_at "rd"
        exact fin _ _ s3 (by rw [gp1]; omega)
    · rintro H1 ⟨s1, s2⟩
      rw [hxl, List.take_length] at s2
      walk_at "rd"
      refine ⟨D, (ss.map gp1).map fun n : Nat => (n : Int), rfl, SqL.of (by rw [← map_vn]; exact s2), ?_⟩
      rw [sum_vn]
      walk_at "rd"
      have := q H1 s1
      rw [gpL_sum1] at this
      rw [show (1 : Int) + (((ss.map gp1).sum : Nat) : Int) = ((1 + (ss.map gp1).sum : Nat) : Int) by omega]
      exact this
end
end Bx

namespace Bx
mutual
def toG1 : Sh → Gb
  | .dat c => .dat c
  | .tab t => .tab (t.map pr)
  | .grp ks => .grp (toGL ks)
def toGL : List Sh → List Gb
  | [] => []
  | s :: r => toG1 s :: toGL r
end
theorem toGL_map : ∀ l : List Sh, toGL l = l.map toG1
  | [] => by rw [toGL]; rfl
  | s :: r => by rw [toGL, toGL_map r]; rfl
mutual
theorem toG_D : ∀ s : Sh, gbD (toG1 s) = sh1 s
  | .dat c => by
    rw [toG1, sh1]
    show PyData.tuple [.str "data", .tuple (gbC (.dat c))] = _
    rw [gbC]
  | .tab c => by
    rw [toG1, sh1]
    show PyData.tuple [.str "table", .tuple (gbC (.tab (c.map pr)))] = _
    rw [gbC]
  | .grp ks => by rw [toG1, sh1, gbD_grp, toGL_D ks]
theorem toGL_D : ∀ l : List Sh, (toGL l).map gbD = shL l
  | [] => by rw [toGL, shL]; rfl
  | s :: r => by rw [toGL, shL, List.map_cons, toG_D s, toGL_D r]
end
mutual
theorem toG_fl : ∀ s : Sh, flG1 (toG1 s) = (all1 s).map toG1
  | .dat c => by rw [toG1, flG1, all1, List.map_singleton, toG1]
  | .tab c => by rw [toG1, flG1, all1, List.map_singleton, toG1]
  | .grp ks => by rw [toG1, flG1, all1, List.map_cons, toG1, toGL_fl ks]
theorem toGL_fl : ∀ l : List Sh, flGL (toGL l) = (allL l).map toG1
  | [] => by rw [toGL, flGL, allL]; rfl
  | s :: r => by rw [toGL, flGL, allL, List.map_append, toG_fl s, toGL_fl r]
end
mutual
theorem toG_dp : ∀ s : Sh, dpG1 (toG1 s) = dps1 s
  | .dat c => by rw [toG1, dpG1, dps1]
  | .tab c => by rw [toG1, dpG1, dps1]
  | .grp ks => by rw [toG1, dpG1, dps1, toGL_dp ks]
theorem toGL_dp : ∀ l : List Sh, dpGL (toGL l) = dpsL l
  | [] => by rw [toGL, dpGL, dpsL]
  | s :: r => by rw [toGL, dpGL, dpsL, toG_dp s, toGL_dp r]
end
def cn2 : Sh → Nat
  | .dat c => 2 + c.length
  | .tab t => 2 + t.length
  | .grp _ => 2
mutual
theorem cn2_1 : ∀ s : Sh, ln1 s = ((all1 s).map cn2).sum
  | .dat c => by rw [ln1, all1]; rfl
  | .tab c => by rw [ln1, all1]; rfl
  | .grp ks => by
    rw [ln1, all1, List.map_cons, List.sum_cons, cn2_L ks]
    rfl
theorem cn2_L : ∀ l : List Sh, lnL l = ((allL l).map cn2).sum
  | [] => by rw [lnL, allL]; rfl
  | s :: r => by rw [lnL, allL, List.map_append, List.sum_append, cn2_1 s, cn2_L r]
end
section
variable {P : Program} {w : World} {K : PySem.W.Frag} {mg : Str → Option Value} {base : Heap} {C CB : Addr}
def spLLength (K : PySem.W.Frag) : Sp := fun vs H Q _ => ∃ (v : V) (ss : List Sh), vs = [v] ∧ Tp K H v (.tuple (shL ss)) ∧ dpsL ss < 4 ∧ (allL ss).length ≤ 100 ∧ ∀ H', Same H H' → Q (vn (lnL ss)) H'
theorem ok_lLength {f : Addr} {fd : FuncData} (F : Def K mg "_law_length" sLLength f fd) (b : Binds K fd ["_law_shape_here"] []) (T : Txt mg) (C_lFlat : Cal P w K mg base 5 "_law_flat" (spLFlat K 4) []) : Cal P w K mg base 6 "_law_length" (spLLength K) [] := by
  refine cal0 F b .nil scLLength (fun vs H Q E h => ?_) (fun cdv A outer s H vs Q E hr h => ?_)
  · obtain ⟨v, ss, rfl, _⟩ := h
    rfl
  obtain ⟨v, ss, rfl, hv, hd, hz, q⟩ := h
  refine ⟨_, (pss_one (ps_ret (pe_callB (cr_sum rfl) (by rfl) T.sum b_sum (pa_cons (pe_lc (own := [("_law_word_here", 1), ("_law_content", 2)]) rfl scLLength.nd (pi_list (pe_c C_lFlat hr (by decide) rfl (pa_cons (pv 0) pa_nil))) (blkOk_by (own := [("_law_word_here", 1), ("_law_content", 2)]) (N := NLLength) (sc := (fnScope sLLength)) (by decide +kernel)) (fun _ _ _ _ _ => (pg_tup2 (K := K) rfl rfl (pgs_cons (pg_name (i := 1) scLLength.nd rfl (.inl rfl)) (pgs_cons (pg_name (i := 2) scLLength.nd rfl (.inl rfl)) pgs_nil)))) (fun _ _ _ _ _ => pts_nil) (fun _ _ _ _ _ => (pe_op op_add pe_int (pe_ifExp (pt_cmpR op_eq (pv 1) pe_str (nomark _)) pe_int (pe_callB (len_k (K := K) rfl) (by rfl) T.len b_len (pa_cons (pv 2) pa_nil)))))) pa_nil)))), ?_⟩
  walk_at "rd"
  refine ⟨v, toGL ss, rfl, by rw [toGL_D]; exact hv, by rw [toGL_dp]; exact hd, by rw [toGL_fl, List.length_map]; exact hz, fun a acc H1 s1 hn1 h1 h2 => ?_⟩
  refine ⟨a, rfl, ⟨_, SqL.of h1⟩, fun D hD => ?_⟩
  rw [toGL_fl] at h2
  have hal : acc.length = (allL ss).length := by rw [h2.length, List.length_map, List.length_map]
  refine lc_it walk_list (fun i H' => Same H1 H' ∧ H' D = some (.lst ((((allL ss).take i).map cn2).map vn))) ⟨same_new hD _, upd_same⟩ (fun i H' _ z => SqL.of (z.1 _ _ h1)) ?_ ?_
  · rintro i x H2 H3 hi ⟨s2, e1⟩ ⟨rfl, hx⟩
    obtain ⟨dd, f1, f2⟩ := h2.get hx
    rw [List.getElem?_map, List.getElem?_map] at f1
    obtain ⟨g0, hg0, rfl⟩ := Option.map_eq_some_iff.mp f1
    obtain ⟨g, hg, rfl⟩ := Option.map_eq_some_iff.mp hg0
    have f2 := f2.same s2
    rw [toG_D, sh1_eq] at f2
    obtain ⟨ta, y, rfl, ha, hy⟩ := Tp.pair_inv f2
    obtain ⟨ya, yx, rfl, hya, hyx⟩ := Tp.tup_inv hy
    have hyl : yx.length = cn g := by rw [hyx.length, cd_len]
    have fin : ∀ (z : Int), z = (cn2 g : Int) → ∃ acc, H3 D = some (.lst acc) ∧ acc.length < sizeLine ∧ Same H1 (upd H3 D (.lst (acc ++ [V.int z]))) ∧ upd H3 D (.lst (acc ++ [V.int z])) D = some (.lst ((((allL ss).take (i + 1)).map cn2).map vn)) := fun z u2 =>
      ⟨_, e1, small1000 (by rw [List.length_map, List.length_map, List.length_take]; omega), Same.putNew s2 hD, by rw [upd_same, take_snoc hg, List.map_append, List.map_append, u2]; rfl⟩
    refine g_tupT ha rfl ?_
    walk_at "rd"
    refine ⟨rfl, ?_⟩
    walk_at "rd"
    cases g with
    | dat c =>
      refine g_dF ne_dg ?_
      walk_at "rd"
      refine ⟨_, _, rfl, .inr hya, ?_⟩
      rw [hyl]
      walk_at "rd"
      exact fin _ (by show (2 : Int) + (c.length : Int) = ((2 + c.length : Nat) : Int); omega)
    | tab c =>
      refine g_dF ne_tg ?_
      walk_at "rd"
      refine ⟨_, _, rfl, .inr hya, ?_⟩
      rw [hyl]
      walk_at "rd"
      exact fin _ (by show (2 : Int) + (c.length : Int) = ((2 + c.length : Nat) : Int); omega)
    | grp ks =>
      refine g_dT rfl ?_
      walk_at "rd"
      exact fin _ rfl
  · rintro H2 ⟨s2, e1⟩
    rw [hal, List.take_length] at e1
    walk_at "rd"
    refine ⟨D, ((allL ss).map cn2).map fun n : Nat => (n : Int), rfl, SqL.of (by rw [← map_vn]; exact e1), ?_⟩
    rw [sum_vn, ← cn2_L]
    exact q H2 (s1.trans s2)
def spLSizes (K : PySem.W.Frag) : Sp := fun vs H Q _ => ∃ (v : V) (ss : List Sh) (s : Nat), vs = [v, vn s] ∧ Tp K H v (.tuple (shL ss)) ∧ dpsL ss < 4 ∧ (allL ss).length ≤ 6 ∧ s < 6 ∧ ∀ (l : Addr) (xs : List V) (H' : Hp), Same H H' → H l = none → H' l = some (.lst xs) → TpAll K H' xs ((szG (gpL ss) s).map gpD) → Q (.ref l) H'
theorem ok_lSizes {f : Addr} {fd : FuncData} (F : Def K mg "_law_sizes" sLSizes f fd) (b : Binds K fd ["_law_shape_here", "_law_spare"] []) (T : Txt mg) (C_lMany : Cal P w K mg base 5 "_law_many" (spLMany K 4) []) : Cal P w K mg base 6 "_law_sizes" (spLSizes K) [] := by
  refine cal0 F b .nil scLSizes (fun vs H Q E h => ?_) (fun cdv A outer s H vs Q E hr h => ?_)
  · obtain ⟨v, ss, s, rfl, _⟩ := h
    rfl
  obtain ⟨v, ss, s, rfl, hv, hd, hz, hs, q⟩ := h
  have ht := gp_le6 hz
  refine ⟨_, (pss_cons (ps_set (i := 2) scLSizes.nd rfl (Or.inl rfl) (pe_lst (pa_cons (pe_tup pa_nil) pa_nil)))
    (pss_cons (ps_for PassesOwn.never rfl (pi_range1 (by rfl) T.range (pa_cons (pe_c C_lMany hr (by decide) rfl (pa_cons (pv 0) pa_nil)) pa_nil)) (pg_name (i := 3) scLSizes.nd rfl (.inl rfl)) 
      (pss_cons (ps_set (i := 4) scLSizes.nd rfl (Or.inl rfl) (pe_lst pa_nil))
      (pss_cons (ps_for PassesOwn.never rfl (pi_list (pv 2)) (pg_name (i := 5) scLSizes.nd rfl (.inr rfl)) 
        (pss_cons (ps_setLc (i := 6) (own := [("_law_gap", 7)]) rfl scLSizes.nd rfl rfl (sw_true rfl rfl rfl (by decide +kernel)) (pi_range1 (by rfl) T.range (pa_cons (pe_op op_add (pe_op op_sub (pv 1) (pe_callB (cr_sumA rfl) (by rfl) T.sum b_sum (pa_cons (pv 5) pa_nil))) pe_int) pa_nil)) (blkOk_by (own := [("_law_gap", 7)]) (N := NLSizes) (sc := (fnScope sLSizes)) (by decide +kernel)) (fun _ _ _ _ _ => (pg_name (i := 7) scLSizes.nd rfl (.inl rfl))) (fun _ _ _ _ _ => (pts_one (pt_cmpR op_ne (pv 7) pe_int (nomark _)))) (fun _ _ _ _ _ => (pv 7)))
        (pss_one (ps_set (i := 4) scLSizes.nd rfl (Or.inl rfl) (pe_op op_cat (pv 4) (pe_lc (own := [("_law_gap", 7)]) rfl scLSizes.nd (pi_list (pv 6)) (blkOk_by (own := [("_law_gap", 7)]) (N := NLSizes) (sc := (fnScope sLSizes)) (by decide +kernel)) (fun _ _ _ _ _ => (pg_name (i := 7) scLSizes.nd rfl (.inl rfl))) (fun _ _ _ _ _ => pts_nil) (fun _ _ _ _ _ => (pe_op (catA_k (K := K) rfl) (pv 5) (pe_tup (pa_cons (pv 7) pa_nil))))))))))
      (pss_one (ps_set (i := 2) scLSizes.nd rfl (Or.inl rfl) (pv 4))))))
    (pss_one (ps_ret (pv 2))))), ?_⟩
  walk_at "rd"
  refine ⟨Nat.zero_le _, fun p hp => ?_⟩
  walk_at "rd"
  refine ⟨(by show 1 ≤ sizeLine; decide), fun l0 hl0 => ?_⟩
  walk_at "rd"
  have s0 : Same H (upd (upd H p (.tup [])) l0 (.lst [V.ref p])) := (same_new hp _).trans (same_new hl0 _)
  refine ⟨v, ss, rfl, hv.same s0, hd, by omega, fun H0 sm => ?_⟩
  have s0m := s0.trans sm
  refine ⟨(gpL ss : Int), rfl, by omega, by omega, for_it walk_range (fun i σ H' => ∃ l xs x3 x4 x5 x6, σ = [some v, some (vn s), some (.ref l), x3, x4, x5, x6, none] ∧ Same H H' ∧ H l = none ∧ H' l = some (.lst xs) ∧ TpAll K H' xs ((szG i s).map gpD))
    ⟨l0, [.ref p], _, _, _, _, rfl, s0m, (same_new hp (.tup [])).free hl0, sm _ _ upd_same, .cons (gpD_tp (x := []) (((same_new hl0 _).trans sm) _ _ upd_same)) .nil⟩ (fun _ _ _ _ _ => True.intro) ?_ ?_⟩
  · rintro i r σ H1 H2 hi ⟨l, xs, x3, x4, x5, x6, rfl, s1, hl, e1, e2⟩ ⟨rfl, rfl⟩
    have hi : i < gpL ss := by
      have : i < ((gpL ss : Int)).toNat := hi
      omega
    have hxl : xs.length = (szG i s).length := by rw [e2.length, List.length_map]
    have hll := szG_len (i + 1) (by omega) s hs
    have hli := szG_len i (by omega) s hs
    walk_at "rd"
    refine ⟨Nat.zero_le _, fun g0 hg0 => ?_⟩
    have s2 := same_new hg0 (.lst [])
    have S2 := s1.trans s2
    walk_at "rd"
    refine ⟨l, rfl, ⟨_, SqL.of (s2 _ _ e1)⟩, for_it walk_list (fun j σ H' => ∃ lg acc x5 x6, σ = [some v, some (vn s), some (.ref l), some (V.int (0 + (i : Int))), some (.ref lg), x5, x6, none] ∧ Same _ H' ∧ H lg = none ∧ H' lg = some (.lst acc) ∧ TpAll K H' acc ((((szG i s).take j).flatMap fun x => (szs (s - x.sum)).map fun g => x ++ [g]).map gpD))
      ⟨g0, [], _, _, rfl, s2, s1.free hg0, upd_same, .nil⟩ (fun j σ H' _ ⟨_, _, _, _, _, z, _⟩ => SqL.of (z _ _ e1)) ?_ ?_⟩
    · rintro j vx σ H3 H4 hj ⟨lg, acc, x5, x6, rfl, s3, hlg, f1, f2⟩ ⟨rfl, hvx⟩
      obtain ⟨d, d1, d2⟩ := e2.get hvx
      rw [List.getElem?_map] at d1
      obtain ⟨x, hx, rfl⟩ := Option.map_eq_some_iff.mp d1
      obtain ⟨ax, rfl, hax⟩ := gpD_inv d2
      have hax := s3 _ _ hax
      have S3 := s1.trans s3
      have hxm := mem_szG (List.mem_of_getElem? hx)
      have hacc : acc.length + ((szs (s - x.sum)).map fun g => x ++ [g]).length ≤ 300 := by
        have h1 : (szG (i + 1) s) = ((szG i s).take (j + 1)).flatMap (fun x => (szs (s - x.sum)).map fun g => x ++ [g]) ++ ((szG i s).drop (j + 1)).flatMap (fun x => (szs (s - x.sum)).map fun g => x ++ [g]) := by
          rw [← List.flatMap_append, List.take_append_drop, szG]
        rw [h1, List.length_append, take_snoc hx, List.flatMap_append, List.length_append, List.flatMap_cons, List.flatMap_nil, List.append_nil] at hll
        rw [f2.length, List.length_map]
        omega
      rw [List.length_map] at hacc
      walk_at "rd"
      refine g_sumA (SqT.of hax) ?_
      walk_at "rd"
      obtain ⟨k, hk⟩ : ∃ k, k = s - x.sum := ⟨_, rfl⟩
      rw [← hk] at hacc
      refine ⟨((k + 1 : Nat) : Int), by rw [show (s : Int) - (x.sum : Int) + 1 = ((k + 1 : Nat) : Int) by omega], by omega, by omega, fun D hD => ?_⟩
      rw [Int.toNat_natCast]
      refine lc_it walk_range (fun i H' => Same H4 H' ∧ H' D = some (.lst (((List.range i).filter (fun i => !decide (i = 1))).map vn))) ⟨same_new hD _, upd_same⟩ (fun _ _ _ _ => True.intro) ?_ ?_
      · rintro i r H5 H6 hi ⟨s5, e5⟩ ⟨rfl, rfl⟩
        have hlen : (((List.range i).filter (fun i => !decide (i = 1))).map vn).length ≤ 1000 := by
          have := List.length_filter_le (fun i => !decide (i = 1)) (List.range i)
          rw [List.length_range] at this
          rw [List.length_map]
          have : i < k + 1 := hi
          omega
        walk_at "rd"
        refine ⟨rfl, ?_⟩
        walk_at "rd"
        by_cases h1 : i = 1
        · refine g_ndF (congrArg V.int (by omega)) ?_
          refine ⟨s5, ?_⟩
          rw [e5, List.range_succ, List.filter_append, List.filter_cons, if_neg (by simp [h1]), List.filter_nil, List.append_nil]
        · refine g_ndT (fun z => h1 (by have := V.int.inj z; omega)) ?_
          walk_at "rd"
          refine ⟨_, e5, small1000 hlen, Same.putNew s5 hD, ?_⟩
          rw [upd_same, List.range_succ, List.filter_append, List.filter_cons, if_pos (by simp [h1]), List.filter_nil, List.map_append, List.map_singleton]
          rw [show vn i = V.int (0 + (i : Int)) from congrArg V.int (Int.zero_add _).symm]
      rintro H5 ⟨s5, e5⟩
      rw [szs_filter] at e5
      walk_at "rd"
      refine ⟨D, rfl, ⟨_, SqL.of e5⟩, fun D2 hD2 => ?_⟩
      refine lc_it walk_list (fun m H' => Same H5 H' ∧ ∃ ac, H' D2 = some (.lst ac) ∧ TpAll K H' ac (((szs k).take m).map fun g => gpD (x ++ [g]))) ⟨same_new hD2 _, [], upd_same, .nil⟩ (fun m H' _ z => SqL.of (z.1 _ _ e5)) ?_ ?_
      · rintro m gx H6 H7 hm ⟨s6, ac, k1, k2⟩ ⟨rfl, hgx⟩
        obtain ⟨g, hgi, rfl⟩ := vn_get hgx
        have hml : m < (szs k).length := (List.getElem?_eq_some_iff.mp hgi).1
        have hax7 := (s5.trans s6) _ _ hax
        have hac : ac.length ≤ 300 := by
          rw [k2.length, List.length_map, List.length_take]
          omega
        walk_at "rd"
        refine ⟨rfl, ?_⟩
        walk_at "rd"
        refine ⟨(by show 1 ≤ sizeLine; decide), fun p6 hp6 => ?_⟩
        have s7 := same_new hp6 (.tup [vn g])
        refine g_catH (s7 _ _ hax7) upd_same (by rw [List.length_map]; show x.length + 1 ≤ 1000; omega) fun c H8 s8 hc8 => ?_
        have S8 := s7.trans s8
        refine ⟨ac, S8 _ _ k1, small1000 (by omega), Same.putNew (s6.trans S8) hD2, ac ++ [.ref c], upd_same, ?_⟩
        rw [take_snoc hgi, List.map_append]
        have kk := tk_lst (K := K) (u := HO.lst (ac ++ [V.ref c])) (S8 _ _ k1)
        refine (TpAll.mono kk _ _ (k2.same S8)).snoc (Tp.mono kk _ _ (gpD_tp ?_))
        rw [List.map_append]
        exact hc8
      rintro H6 ⟨s6, ac, k1, k2⟩
      rw [List.length_map, List.take_length] at k2
      have k3 : ac.length = (szs k).length := by rw [k2.length, List.length_map]
      have S6 := s5.trans s6
      refine g_cat (S6 _ _ f1) k1 (by omega) fun l2 hl2 => ?_
      have s7 := same_new hl2 (.lst (acc ++ ac))
      walk_at "rd"
      refine ⟨l2, acc ++ ac, _, _, rfl, (s3.trans S6).trans s7, ((s1.trans s3).trans S6).free hl2, upd_same, ?_⟩
      rw [take_snoc hx, List.flatMap_append, List.flatMap_cons, List.flatMap_nil, List.append_nil, List.map_append, ← hk, List.map_map]
      exact (f2.same (S6.trans s7)).append (k2.same s7)
    · rintro σ H3 ⟨lg, acc, x5, x6, rfl, s3, hlg, f1, f2⟩
      rw [hxl, List.take_length] at f2
      walk_at "rd"
      exact ⟨lg, acc, _, _, _, _, rfl, s1.trans s3, hlg, f1, f2⟩
  · rintro σ H1 ⟨l, xs, x3, x4, x5, x6, rfl, s1, hl, e1, e2⟩
    rw [Int.toNat_natCast] at e2
    walk_at "rd"
    exact q l xs H1 s1 hl e1 e2
end
end Bx

namespace Bx
def isR (n : Nat) : List Nat → Nat → List Rw
  | [], _ => []
  | x :: r, j => .is n j x :: isR n r (j + 1)
def toR (t : Nat × Nat) : Rw := .to t.1 t.2
def dn1 (s : Sh) : Nat := (lens (all1 s)).length
mutual
def pu1 : Sh → List Nat → Nat → List Rw
  | .dat c, gs, n => frR (hdg gs) ++ ([.num 2, .num (2 + c.length)] ++ isR n c 0)
  | .tab t, gs, _ => frR (hdg gs) ++ ([.num 4, .num (2 + t.length)] ++ t.map toR)
  | .grp ks, gs, n => frR (hdg gs) ++ ([.num 1, .num (2 + (puL ks gs.tail n).length)] ++ puL ks gs.tail n)
def puL : List Sh → List Nat → Nat → List Rw
  | [], gs, _ => frR (hdg gs)
  | s :: r, gs, n => pu1 s gs n ++ puL r (gs.drop (gp1 s)) (n + dn1 s)
end
theorem isR_len (n : Nat) : ∀ (c : List Nat) (j : Nat), (isR n c j).length = c.length
  | [], _ => rfl
  | _ :: r, j => by rw [isR, List.length_cons, List.length_cons, isR_len n r]
theorem isR_get (n : Nat) : ∀ (c : List Nat) (j i : Nat), (isR n c j)[i]? = (c[i]?).map fun x => Rw.is n (j + i) x
  | [], _, _ => rfl
  | x :: r, j, 0 => rfl
  | x :: r, j, i + 1 => by
    rw [isR, List.getElem?_cons_succ, List.getElem?_cons_succ, isR_get n r, show j + 1 + i = j + (i + 1) by omega]
def zz (gs : List Nat) : Prop := ∀ g ∈ gs, g = 0 ∨ 2 ≤ g
theorem zz_hd {gs : List Nat} (h : zz gs) : hdg gs = 0 ∨ 2 ≤ hdg gs := by
  cases gs with
  | nil => exact .inl rfl
  | cons g r => exact h g List.mem_cons_self
theorem zz.drop {gs : List Nat} (h : zz gs) (n : Nat) : zz (gs.drop n) := fun g hg => h g (List.mem_of_mem_drop hg)
theorem zz.tail {gs : List Nat} (h : zz gs) : zz gs.tail := fun g hg => h g (List.mem_of_mem_tail hg)
theorem gp1_pos (s : Sh) : 1 ≤ gp1 s := by cases s <;> rw [gp1] <;> omega
mutual
theorem pu1_len : ∀ (s : Sh) (gs : List Nat) (n : Nat), gp1 s ≤ gs.length → zz gs → (pu1 s gs n).length = ln1 s + (gs.take (gp1 s)).sum
  | .dat c, gs, n, h, hz => by
    rw [gp1] at h
    rw [pu1, ln1, gp1, List.length_append, List.length_append, isR_len, frR_len (zz_hd hz), take_one_sum h]
    show hdg gs + (2 + c.length) = _
    omega
  | .tab t, gs, n, h, hz => by
    rw [gp1] at h
    rw [pu1, ln1, gp1, List.length_append, List.length_append, List.length_map, frR_len (zz_hd hz), take_one_sum h]
    show hdg gs + (2 + t.length) = _
    omega
  | .grp ks, gs, n, h, hz => by
    rw [gp1] at h
    have hl : gpL ks ≤ gs.tail.length := by rw [List.length_tail]; omega
    rw [pu1, ln1, gp1, List.length_append, List.length_append, puL_len ks gs.tail n hl hz.tail, frR_len (zz_hd hz), take_tail (by omega)]
    show hdg gs + (2 + (lnL ks + (gs.tail.take (gpL ks)).sum)) = _
    omega
theorem puL_len : ∀ (ss : List Sh) (gs : List Nat) (n : Nat), gpL ss ≤ gs.length → zz gs → (puL ss gs n).length = lnL ss + (gs.take (gpL ss)).sum
  | [], gs, n, h, hz => by
    rw [gpL] at h
    rw [puL, lnL, gpL, frR_len (zz_hd hz), take_one_sum h]
    omega
  | s :: r, gs, n, h, hz => by
    rw [gpL] at h
    rw [puL, lnL, gpL, List.length_append, pu1_len s gs n (by omega) hz, puL_len r _ _ (by rw [List.length_drop]; omega) (hz.drop _), take_sum_add]
    omega
end
/-- what a row asks of its cell -/
def rok (cs : List Nat) (st : Nat → Nat) (q : Nat) : Rw → Prop
  | .non => True
  | .num k => cel cs q = k
  | .is _ _ c => cel cs q = c
  | .to n a => cel cs q = st n + a
def RowAt (cs : List Nat) (st : Nat → Nat) (p : Nat) (rows : List Rw) : Prop := ∀ i r, rows[i]? = some r → rok cs st (p + i) r
theorem RowAt.left {cs : List Nat} {st : Nat → Nat} {p : Nat} {a b : List Rw} (h : RowAt cs st p (a ++ b)) : RowAt cs st p a := fun i r hi => h i r (by rw [List.getElem?_append_left (List.getElem?_eq_some_iff.mp hi).1]; exact hi)
theorem RowAt.right {cs : List Nat} {st : Nat → Nat} {p : Nat} {a b : List Rw} (h : RowAt cs st p (a ++ b)) : RowAt cs st (p + a.length) b := fun i r hi => by
  have := h (a.length + i) r (by rw [List.getElem?_append_right (by omega), Nat.add_sub_cancel_left]; exact hi)
  rw [show p + a.length + i = p + (a.length + i) by omega]
  exact this
theorem row_gap {cs : List Nat} {st : Nat → Nat} {p : Nat} {gs : List Nat} (hz : zz gs) (h : RowAt cs st p (frR (hdg gs))) : gpA cs gs p := fun hn => by
  have h2 : 2 ≤ hdg gs := by
    have := zz_hd hz
    omega
  unfold frR at h
  rw [if_neg hn] at h
  exact ⟨h2, h 0 (.num 3) rfl, h 1 (.num (hdg gs)) rfl⟩
mutual
theorem at_rows1 {cs : List Nat} {st : Nat → Nat} : ∀ (s : Sh) (gs : List Nat) (n p : Nat), gp1 s ≤ gs.length → zz gs → RowAt cs st p (pu1 s gs n) → atS cs st s gs p
  | .dat c, gs, n, p, hl, hz, h => by
    rw [pu1] at h
    have h1 := h.left
    have h2 := h.right
    rw [frR_len (zz_hd hz)] at h2
    rw [atS]
    refine ⟨row_gap hz h1, h2 0 (.num 2) rfl, h2 1 (.num (2 + c.length)) rfl, fun i v hv => ?_⟩
    have := h2.right i (.is n (0 + i) v) (by rw [isR_get, hv]; rfl)
    exact this
  | .tab t, gs, n, p, hl, hz, h => by
    rw [pu1] at h
    have h1 := h.left
    have h2 := h.right
    rw [frR_len (zz_hd hz)] at h2
    rw [atS]
    refine ⟨row_gap hz h1, h2 0 (.num 4) rfl, h2 1 (.num (2 + t.length)) rfl, fun i x hx => ?_⟩
    have := h2.right i (toR x) (by rw [List.getElem?_map, hx]; rfl)
    exact this
  | .grp ks, gs, n, p, hl, hz, h => by
    rw [gp1] at hl
    have hkl : gpL ks ≤ gs.tail.length := by rw [List.length_tail]; omega
    rw [pu1] at h
    have h1 := h.left
    have h2 := h.right
    rw [frR_len (zz_hd hz)] at h2
    rw [atS]
    have e := h2 1 (.num (2 + (puL ks gs.tail n).length)) rfl
    rw [puL_len ks gs.tail n hkl hz.tail] at e
    have e' : cel cs (p + hdg gs + 1) = 2 + (lnL ks + (gs.tail.take (gpL ks)).sum) := e
    exact ⟨row_gap hz h1, h2 0 (.num 1) rfl, by omega, at_rows ks gs.tail n _ hkl hz.tail h2.right⟩
theorem at_rows {cs : List Nat} {st : Nat → Nat} : ∀ (ss : List Sh) (gs : List Nat) (n p : Nat), gpL ss ≤ gs.length → zz gs → RowAt cs st p (puL ss gs n) → atL cs st ss gs p
  | [], gs, n, p, hl, hz, h => by
    rw [puL] at h
    rw [atL]
    exact row_gap hz h
  | s :: r, gs, n, p, hl, hz, h => by
    rw [gpL] at hl
    rw [puL] at h
    rw [atL]
    have h2 := h.right
    rw [pu1_len s gs n (by omega) hz, show p + (ln1 s + (gs.take (gp1 s)).sum) = p + ln1 s + (gs.take (gp1 s)).sum by omega] at h2
    exact ⟨at_rows1 s gs n p (by omega) hz h.left, at_rows r _ _ _ (by rw [List.length_drop]; omega) (hz.drop _) h2⟩
end
/-- where the cells of the data boxes are -/
def Wh (rows : List Rw) (p n : Nat) (rw_ : List (Nat × Nat)) : Prop :=
  (∀ i a j c, rows[i]? = some (.is a j c) → n ≤ a ∧ ∃ q, rw_[a - n]? = some q ∧ p + i = q.1 + j ∧ j < q.2) ∧ ∀ k q j, rw_[k]? = some q → j < q.2 → ∃ i c, rows[i]? = some (.is (n + k) j c) ∧ p + i = q.1 + j
theorem Wh.app {a b : List Rw} {p n : Nat} {r1 r2 : List (Nat × Nat)} (h1 : Wh a p n r1) (h2 : Wh b (p + a.length) (n + r1.length) r2) : Wh (a ++ b) p n (r1 ++ r2) := by
  refine ⟨fun i x j c hi => ?_, fun k q j hk hj => ?_⟩
  · by_cases h : i < a.length
    · rw [List.getElem?_append_left h] at hi
      obtain ⟨e1, q, e2, e3, e4⟩ := h1.1 i x j c hi
      exact ⟨e1, q, by rw [List.getElem?_append_left (List.getElem?_eq_some_iff.mp e2).1]; exact e2, e3, e4⟩
    · rw [List.getElem?_append_right (by omega)] at hi
      obtain ⟨e1, q, e2, e3, e4⟩ := h2.1 _ x j c hi
      refine ⟨by omega, q, ?_, by omega, e4⟩
      rw [List.getElem?_append_right (by omega), show x - n - r1.length = x - (n + r1.length) by omega]
      exact e2
  · by_cases h : k < r1.length
    · rw [List.getElem?_append_left h] at hk
      obtain ⟨i, c, e1, e2⟩ := h1.2 k q j hk hj
      exact ⟨i, c, by rw [List.getElem?_append_left (List.getElem?_eq_some_iff.mp e1).1]; exact e1, e2⟩
    · rw [List.getElem?_append_right (by omega)] at hk
      obtain ⟨i, c, e1, e2⟩ := h2.2 _ q j hk hj
      refine ⟨a.length + i, c, ?_, by omega⟩
      rw [List.getElem?_append_right (by omega), Nat.add_sub_cancel_left, e1, show n + r1.length + (k - r1.length) = n + k by omega]
def noIs (l : List Rw) : Prop := ∀ r ∈ l, ∀ a j c, r ≠ .is a j c
theorem Wh.no {l : List Rw} {p n : Nat} (h : noIs l) : Wh l p n [] := ⟨fun i a j c hi => absurd rfl (h _ (List.mem_of_getElem? hi) a j c), fun k q j hk => by simp at hk⟩
theorem no_fr (g : Nat) : noIs (frR g) := fun r hr a j c => by
  unfold frR at hr
  split at hr
  · exact absurd hr List.not_mem_nil
  · rcases List.mem_append.mp hr with hr | hr
    · simp only [List.mem_cons, List.not_mem_nil, or_false] at hr
      rcases hr with rfl | rfl <;> exact fun z => nomatch z
    · rw [(List.mem_replicate.mp hr).2]
      exact fun z => nomatch z
theorem no_two (a b : Nat) : noIs [.num a, .num b] := fun r hr x j c => by
  simp only [List.mem_cons, List.not_mem_nil, or_false] at hr
  rcases hr with rfl | rfl <;> exact fun z => nomatch z
theorem rw1_len (s : Sh) (gs : List Nat) (p : Nat) : (rw1 s gs p).length = dn1 s := by
  have := congrArg List.length (rw_lens1 s gs p)
  rw [List.length_map] at this
  exact this
mutual
theorem wh_1 : ∀ (s : Sh) (gs : List Nat) (n p : Nat), gp1 s ≤ gs.length → zz gs → Wh (pu1 s gs n) p n (rw1 s gs p)
  | .dat c, gs, n, p, hl, hz => by
    rw [pu1, rw1]
    have h2 : Wh ([.num 2, .num (2 + c.length)] ++ isR n c 0) (p + (frR (hdg gs)).length) n [(p + hdg gs + 2, c.length)] := by
      rw [frR_len (zz_hd hz)]
      refine Wh.app (r1 := []) (.no (no_two _ _)) ?_
      refine ⟨fun i a j x hi => ?_, fun k q j hk hj => ?_⟩
      · rw [isR_get] at hi
        obtain ⟨y, hy, e⟩ := Option.map_eq_some_iff.mp hi
        injection e with e1 e2 e3
        have := (List.getElem?_eq_some_iff.mp hy).1
        refine ⟨Nat.le_of_eq e1, (p + hdg gs + 2, c.length), ?_, ?_, ?_⟩
        · rw [← e1]
          show [(p + hdg gs + 2, c.length)][n - (n + 0)]? = _
          rw [show n - (n + 0) = 0 by omega]
          rfl
        · show p + hdg gs + 2 + i = p + hdg gs + 2 + j
          omega
        · show j < c.length
          omega
      · cases k with
        | zero =>
          cases Option.some.inj hk
          have hj : j < c.length := hj
          refine ⟨j, c[j], ?_, rfl⟩
          rw [isR_get, List.getElem?_eq_getElem hj]
          show some (Rw.is n (0 + j) c[j]) = some (Rw.is (n + 0 + 0) j c[j])
          rw [Nat.zero_add]
          rfl
        | succ k => simp at hk
    have := Wh.app (r1 := []) (Wh.no (p := p) (n := n) (no_fr (hdg gs))) h2
    exact this
  | .tab t, gs, n, p, hl, hz => by
    rw [pu1, rw1]
    refine Wh.no fun r hr a j c => ?_
    rcases List.mem_append.mp hr with hr | hr
    · exact no_fr _ r hr a j c
    · rcases List.mem_append.mp hr with hr | hr
      · exact no_two _ _ r hr a j c
      · obtain ⟨x, _, rfl⟩ := List.mem_map.mp hr
        exact fun z => nomatch z
  | .grp ks, gs, n, p, hl, hz => by
    rw [gp1] at hl
    have hkl : gpL ks ≤ gs.tail.length := by rw [List.length_tail]; omega
    rw [pu1, rw1]
    have h3 := wh_L ks gs.tail n (p + hdg gs + 2) hkl hz.tail
    have h2 : Wh ([.num 1, .num (2 + (puL ks gs.tail n).length)] ++ puL ks gs.tail n) (p + (frR (hdg gs)).length) n (rwL ks gs.tail (p + hdg gs + 2)) := by
      rw [frR_len (zz_hd hz)]
      exact Wh.app (r1 := []) (.no (no_two _ _)) h3
    exact Wh.app (r1 := []) (Wh.no (p := p) (n := n) (no_fr (hdg gs))) h2
theorem wh_L : ∀ (ss : List Sh) (gs : List Nat) (n p : Nat), gpL ss ≤ gs.length → zz gs → Wh (puL ss gs n) p n (rwL ss gs p)
  | [], gs, n, p, hl, hz => by
    rw [puL, rwL]
    exact .no (no_fr _)
  | s :: r, gs, n, p, hl, hz => by
    rw [gpL] at hl
    rw [puL, rwL]
    refine Wh.app (wh_1 s gs n p (by omega) hz) ?_
    rw [pu1_len s gs n (by omega) hz, rw1_len, show p + (ln1 s + (gs.take (gp1 s)).sum) = p + ln1 s + (gs.take (gp1 s)).sum by omega]
    exact wh_L r _ _ _ (by rw [List.length_drop]; omega) (hz.drop _)
end
/-- the numbers in rows -/
def rle (N : Nat) : Rw → Prop
  | .num k => k ≤ max 4 N
  | .is _ _ c => c ≤ 99
  | .non => True
  | .to _ _ => True
theorem rle.mono {N M : Nat} (h : N ≤ M) {r : Rw} (x : rle N r) : rle M r := by
  cases r with
  | num k =>
    show k ≤ max 4 M
    have : k ≤ max 4 N := x
    omega
  | is a b c => exact x
  | non => exact True.intro
  | to a b => exact True.intro
theorem rle_fr (g : Nat) : ∀ r ∈ frR g, rle g r := fun r hr => by
  unfold frR at hr
  split at hr
  · exact absurd hr List.not_mem_nil
  · rcases List.mem_append.mp hr with hr | hr
    · simp only [List.mem_cons, List.not_mem_nil, or_false] at hr
      rcases hr with rfl | rfl
      · show 3 ≤ max 4 g
        omega
      · show g ≤ max 4 g
        omega
    · rw [(List.mem_replicate.mp hr).2]
      exact True.intro
mutual
theorem rle_1 : ∀ (s : Sh) (gs : List Nat) (n : Nat), zz gs → (∀ x ∈ all1 s, smSh x) → ∀ r ∈ pu1 s gs n, rle (pu1 s gs n).length r
  | .dat c, gs, n, hz, hs, r, hr => by
    have hc := hs (.dat c) (all1_self _)
    rw [pu1] at hr ⊢
    rcases List.mem_append.mp hr with hr | hr
    · exact (rle_fr _ r hr).mono (by rw [List.length_append, frR_len (zz_hd hz)]; omega)
    · rcases List.mem_append.mp hr with hr | hr
      · have hr : r = .num 2 ∨ r = .num (2 + c.length) := by simpa using hr
        rcases hr with rfl | rfl
        · show 2 ≤ max 4 _
          omega
        · show 2 + c.length ≤ max 4 _
          rw [List.length_append, List.length_append, isR_len]
          show 2 + c.length ≤ max 4 (_ + (2 + c.length))
          omega
      · obtain ⟨i, hi⟩ := List.mem_iff_getElem?.mp hr
        rw [isR_get] at hi
        obtain ⟨y, hy, rfl⟩ := Option.map_eq_some_iff.mp hi
        exact hc.2 y (List.mem_of_getElem? hy)
  | .tab t, gs, n, hz, hs, r, hr => by
    rw [pu1] at hr ⊢
    rcases List.mem_append.mp hr with hr | hr
    · exact (rle_fr _ r hr).mono (by rw [List.length_append, frR_len (zz_hd hz)]; omega)
    · rcases List.mem_append.mp hr with hr | hr
      · have hr : r = .num 4 ∨ r = .num (2 + t.length) := by simpa using hr
        rcases hr with rfl | rfl
        · show 4 ≤ max 4 _
          omega
        · show 2 + t.length ≤ max 4 _
          rw [List.length_append, List.length_append, List.length_map]
          show 2 + t.length ≤ max 4 (_ + (2 + t.length))
          omega
      · obtain ⟨x, _, rfl⟩ := List.mem_map.mp hr
        exact True.intro
  | .grp ks, gs, n, hz, hs, r, hr => by
    rw [pu1] at hr ⊢
    have hL : (frR (hdg gs) ++ ([Rw.num 1, .num (2 + (puL ks gs.tail n).length)] ++ puL ks gs.tail n)).length = hdg gs + (2 + (puL ks gs.tail n).length) := by
      rw [List.length_append, List.length_append, frR_len (zz_hd hz)]
      rfl
    rcases List.mem_append.mp hr with hr | hr
    · exact (rle_fr _ r hr).mono (by rw [hL]; omega)
    · rcases List.mem_append.mp hr with hr | hr
      · have hr : r = .num 1 ∨ r = .num (2 + (puL ks gs.tail n).length) := by simpa using hr
        rw [hL]
        rcases hr with rfl | rfl
        · show 1 ≤ max 4 _
          omega
        · show 2 + (puL ks gs.tail n).length ≤ max 4 _
          omega
      · exact (rle_L ks gs.tail n hz.tail (fun x hx => hs x (by rw [all1]; exact List.mem_cons_of_mem _ hx)) r hr).mono (by rw [hL]; omega)
theorem rle_L : ∀ (ss : List Sh) (gs : List Nat) (n : Nat), zz gs → (∀ x ∈ allL ss, smSh x) → ∀ r ∈ puL ss gs n, rle (puL ss gs n).length r
  | [], gs, n, hz, hs, r, hr => by
    rw [puL] at hr ⊢
    rw [frR_len (zz_hd hz)]
    exact rle_fr _ r hr
  | s :: q, gs, n, hz, hs, r, hr => by
    rw [puL] at hr ⊢
    rw [List.length_append]
    rcases List.mem_append.mp hr with hr | hr
    · exact (rle_1 s gs n hz (fun x hx => hs x (by rw [allL]; exact List.mem_append_left _ hx)) r hr).mono (by omega)
    · exact (rle_L q _ _ (hz.drop _) (fun x hx => hs x (by rw [allL]; exact List.mem_append_right _ hx)) r hr).mono (by omega)
end
end Bx

namespace Bx
def pfx : List Sh → List Nat → Nat → List Rw
  | [], _, _ => []
  | s :: r, gs, n => pu1 s gs n ++ pfx r (gs.drop (gp1 s)) (n + dn1 s)
def gpS (ss : List Sh) : Nat := (ss.map gp1).sum
def dnS (ss : List Sh) : Nat := (ss.map dn1).sum
theorem puL_pfx : ∀ (ss : List Sh) (gs : List Nat) (n : Nat), puL ss gs n = pfx ss gs n ++ frR (hdg (gs.drop (gpS ss)))
  | [], gs, n => by
    rw [puL, pfx]
    rfl
  | s :: r, gs, n => by
    rw [puL, pfx, puL_pfx r, List.append_assoc, List.drop_drop]
    rfl
theorem pfx_snoc : ∀ (ss : List Sh) (gs : List Nat) (n : Nat) (s : Sh), pfx (ss ++ [s]) gs n = pfx ss gs n ++ pu1 s (gs.drop (gpS ss)) (n + dnS ss)
  | [], gs, n, s => by
    rw [List.nil_append, pfx, pfx, pfx, List.append_nil, List.nil_append]
    rfl
  | x :: r, gs, n, s => by
    rw [List.cons_append, pfx, pfx, pfx_snoc r, List.append_assoc, List.drop_drop, Nat.add_assoc]
    rfl
theorem gpS_snoc (a : List Sh) (s : Sh) : gpS (a ++ [s]) = gpS a + gp1 s := by
  unfold gpS
  rw [List.map_append, List.sum_append, List.map_singleton, List.sum_singleton]
theorem dnS_snoc (a : List Sh) (s : Sh) : dnS (a ++ [s]) = dnS a + dn1 s := by
  unfold dnS
  rw [List.map_append, List.sum_append, List.map_singleton, List.sum_singleton]
theorem gpS_gpL (ss : List Sh) : gpL ss = gpS ss + 1 := by
  rw [gpL_sum1]
  unfold gpS
  omega
theorem gpS_take {ss : List Sh} {i : Nat} {s : Sh} (h : ss[i]? = some s) : gpS (ss.take i) + gp1 s ≤ gpS ss := by
  rw [← gpS_snoc, ← take_snoc h]
  have := congrArg gpS (List.take_append_drop (i + 1) ss)
  unfold gpS at this ⊢
  rw [List.map_append, List.sum_append] at this
  omega
theorem pfx_app : ∀ (a b : List Sh) (gs : List Nat) (n : Nat), pfx (a ++ b) gs n = pfx a gs n ++ pfx b (gs.drop (gpS a)) (n + dnS a)
  | [], b, gs, n => by
    rw [List.nil_append, pfx, List.nil_append]
    rfl
  | x :: r, b, gs, n => by
    rw [List.cons_append, pfx, pfx, pfx_app r, List.append_assoc, List.drop_drop, Nat.add_assoc]
    rfl
theorem pfx_le {ss : List Sh} (i : Nat) (gs : List Nat) (n : Nat) : (pfx (ss.take i) gs n).length ≤ (puL ss gs n).length := by
  have := congrArg (fun l => (pfx l gs n).length) (List.take_append_drop i ss)
  have h2 : (pfx (ss.take i ++ ss.drop i) gs n).length = (pfx ss gs n).length := this
  rw [pfx_app, List.length_append] at h2
  rw [puL_pfx, List.length_append]
  omega
theorem hdg_get {gs : List Nat} (h : 1 ≤ gs.length) : (gs.map vn)[0]? = some (vn (hdg gs)) := by
  cases gs with
  | nil => exact absurd h (by decide)
  | cons g r => rfl
theorem cut_one {gs : List Nat} (h : 1 ≤ gs.length) : cutV (gs.map vn) (some 1) none = gs.tail.map vn := by
  have e : HT.sIx gs.length 0 (some 1) = 1 := by
    have := HT.sIx_nat gs.length 0 1
    rw [show ((1 : Nat) : Int) = 1 from rfl] at this
    omega
  unfold cutV
  rw [HT.sIx_none, List.length_map, e, ← List.map_drop, ← List.map_take, List.drop_one, List.take_of_length_le (by rw [List.length_tail]; exact Nat.le_refl _)]
theorem dnS_dn : ∀ ss : List Sh, dnS ss = (lens (allL ss)).length
  | [] => rfl
  | s :: r => by
    rw [allL, lens_append, List.length_append, ← dnS_dn r]
    rfl
theorem dn1_grp (ks : List Sh) : dn1 (.grp ks) = dnS ks := by
  rw [dnS_dn]
  show (lens (all1 (.grp ks))).length = _
  rw [all1, lens_cons]
  rfl
theorem le_hdg {gs : List Nat} {N : Nat} (h : ∀ g ∈ gs, g ≤ N) : hdg gs ≤ N := by
  cases gs with
  | nil => exact Nat.zero_le _
  | cons g r => exact h g List.mem_cons_self
section
variable {P : Program} {w : World} {K : PySem.W.Frag} {mg : Str → Option Value} {base : Heap} {C CB : Addr}
def spLPut (K : PySem.W.Frag) (m : Nat) : Sp := fun vs H Q _ => ∃ (v : V) (ga : Addr) (n : Nat) (ss : List Sh) (gs : List Nat), vs = [v, .ref ga, vn n] ∧ Tp K H v (.tuple (shL ss)) ∧ dpsL ss < m ∧ H ga = some (.lst (gs.map vn)) ∧ gpL ss ≤ gs.length ∧ gs.length ≤ 100 ∧ zz gs ∧ (∀ g ∈ gs, g ≤ 100) ∧ (puL ss gs n).length ≤ 200 ∧ ss.length ≤ 100 ∧ (allL ss).length ≤ 100 ∧
  ∀ (t la lg : Addr) (acc : List V) (H' : Hp), Same H H' → H' t = some (.tup [.ref la, .ref lg, vn (n + dnS ss)]) → H' la = some (.lst acc) → TpAll K H' acc ((puL ss gs n).map rwD) → H' lg = some (.lst ((gs.drop (gpL ss)).map vn)) → Q (.ref t) H'
theorem ok_lPut {f : Addr} {fd : FuncData} (F : Def K mg "_law_put" sLPut f fd) (b : Binds K fd ["_law_boxes_here", "_law_gaps", "_law_number_here"] []) (T : Txt mg) (C_lFree : Cal P w K mg base 1 "_law_free" (spLFree K) []) : ∀ m : Nat, Cal P w K mg base (m + 2) "_law_put" (spLPut K m) []
  | 0 => by
    refine cal0 F b .nil scLPut (fun vs H Q E h => ?_) (fun cdv A outer s H vs Q E hr h => ?_)
    · obtain ⟨v, ga, n, ss, gs, rfl, _⟩ := h
      rfl
    · obtain ⟨v, ga, n, ss, gs, rfl, _, h, _⟩ := h
      omega
  | m + 1 => by
    have C_lPut := ok_lPut F b T C_lFree m
    refine cal0 F b .nil scLPut (fun vs H Q E h => ?_) (fun cdv A outer s H vs Q E hr h => ?_)
    · obtain ⟨v, ga, n, ss, gs, rfl, _⟩ := h
      rfl
    obtain ⟨v, ga, n, ss, gs, rfl, hv, hd, hga, hgl, hg100, hz, hgz, hpl, hsl, hal, q⟩ := h
    obtain ⟨t, xs, rfl, hT, hX⟩ := Tp.tup_inv hv
    have hxl : xs.length = ss.length := by rw [hX.length, shL_map, List.length_map]
    have h1m : 1 ≤ m + 2 := by omega
    have hgS := gpS_gpL ss
    refine ⟨_, (pss_cons (ps_set (i := 3) scLPut.nd rfl (Or.inl rfl) (pe_lst pa_nil))
    (pss_cons (ps_for PassesOwn.never rfl (pi_tup (pv 0)) (pg_tup rfl (pgs_cons (pg_name (i := 4) scLPut.nd rfl (.inl rfl)) (pgs_cons (pg_name (i := 5) scLPut.nd rfl (.inl rfl)) pgs_nil))) 
      (pss_cons (ps_par (i := 3) (j := 1) (by rfl) scLPut.nd rfl rfl (by decide) rfl rfl (pa_cons (pe_op op_cat (pv 3) (pe_c C_lFree hr h1m rfl (pa_cons (pe_ix ix_list (pv 1) pe_int (fun _ _ => rfl)) pa_nil))) (pa_cons (pe_slice sl_list (pv 1) (po_some pe_int) po_none) pa_nil)) (by rfl))
      (pss_one (ps_if (pt_cmpR op_eq (pv 4) pe_str (nomark _)) 
        (pss_cons (ps_asg (pe_c C_lPut hr (Nat.le_refl _) rfl (pa_cons (pv 5) (pa_cons (pv 1) (pa_cons (pv 2) pa_nil)))) (pg_tup rfl (pgs_cons (pg_name (i := 6) scLPut.nd rfl (.inl rfl)) (pgs_cons (pg_name (i := 1) scLPut.nd rfl (.inl rfl)) (pgs_cons (pg_name (i := 2) scLPut.nd rfl (.inr rfl)) pgs_nil)))))
        (pss_one (ps_set (i := 3) scLPut.nd rfl (Or.inl rfl) (pe_op op_cat (pe_op op_cat (pv 3) (pe_lst (pa_cons pe_int (pa_cons (pe_op op_add pe_int (pe_callB call_len_seq (by rfl) T.len b_len (pa_cons (pv 6) pa_nil))) pa_nil)))) (pv 6))))) 
        (pss_one (ps_if (pt_cmpR op_eq (pv 4) pe_str (nomark _)) 
          (pss_cons (ps_set (i := 3) scLPut.nd rfl (Or.inl rfl) (pe_op op_cat (pe_op op_cat (pv 3) (pe_lst (pa_cons pe_int (pa_cons (pe_op op_add pe_int (pe_callB call_len_seq (by rfl) T.len b_len (pa_cons (pv 5) pa_nil))) pa_nil)))) (pe_lc (own := [("_law_at", 7), ("_law_cell", 8)]) rfl scLPut.nd (pi_enumT (by rfl) T.enumerate (pa_cons (pv 5) pa_nil)) (blkOk_by (own := [("_law_at", 7), ("_law_cell", 8)]) (N := NLPut) (sc := (fnScope sLPut)) (by decide +kernel)) (fun _ _ _ _ _ => (pg_tup2 (K := K) rfl rfl (pgs_cons (pg_name (i := 7) scLPut.nd rfl (.inl rfl)) (pgs_cons (pg_name (i := 8) scLPut.nd rfl (.inl rfl)) pgs_nil)))) (fun _ _ _ _ _ => pts_nil) (fun _ _ _ _ _ => (pe_tup (pa_cons pe_str (pa_cons (pv 2) (pa_cons (pv 7) (pa_cons (pv 8) pa_nil)))))))))
          (pss_one (ps_aug (i := 2) scLPut.nd rfl (.inr rfl) pe_int ip_add))) 
          (pss_one (ps_set (i := 3) scLPut.nd rfl (Or.inl rfl) (pe_op op_cat (pe_op op_cat (pv 3) (pe_lst (pa_cons pe_int (pa_cons (pe_op op_add pe_int (pe_callB call_len_seq (by rfl) T.len b_len (pa_cons (pv 5) pa_nil))) pa_nil)))) (pe_lc (own := [("_law_one", 9)]) rfl scLPut.nd (pi_tup (pv 5)) (blkOk_by (own := [("_law_one", 9)]) (N := NLPut) (sc := (fnScope sLPut)) (by decide +kernel)) (fun _ _ _ _ _ => (pg_name (i := 9) scLPut.nd rfl (.inl rfl))) (fun _ _ _ _ _ => pts_nil) (fun _ _ _ _ _ => (pe_tup (pa_cons pe_str (pa_cons (pe_ix (ixt_k (K := K) rfl) (pv 9) pe_int (fun _ _ => rfl)) (pa_cons (pe_ix (ixt_k (K := K) rfl) (pv 9) pe_int (fun _ _ => rfl)) pa_nil)))))))))))))))
    (pss_one (ps_ret (pe_tup (pa_cons (pe_op op_cat (pv 3) (pe_c C_lFree hr h1m rfl (pa_cons (pe_ix ix_list (pv 1) pe_int (fun _ _ => rfl)) pa_nil))) (pa_cons (pe_slice sl_list (pv 1) (po_some pe_int) po_none) (pa_cons (pv 2) pa_nil)))))))), ?_⟩
    walk_at "rd"
    refine ⟨Nat.zero_le _, fun l0 hl0 => ?_⟩
    have s0 := same_new hl0 (.lst [])
    walk_at "rd"
    refine ⟨t, rfl, ⟨_, Same.sqt s0 hT⟩, for_it walk_tup (fun i σ H' => (∃ gi fa acc x4 x5 x6, σ = [some (.ref t), some (.ref gi), some (vn (n + dnS (ss.take i))), some (.ref fa), x4, x5, x6, none, none, none] ∧ H' gi = some (.lst ((gs.drop (gpS (ss.take i))).map vn)) ∧ H' fa = some (.lst acc) ∧ TpAll K H' acc ((pfx (ss.take i) gs n).map rwD)) ∧ Same H H')
      ⟨⟨ga, l0, [], _, _, _, rfl, s0 _ _ hga, upd_same, .nil⟩, s0⟩ (fun i σ H' _ z => Same.sqt z.2 hT) ?_ ?_⟩
    · rintro i x σ H1 H2 hi ⟨⟨gi, fa, acc, x4, x5, x6, rfl, a1, a2, a3⟩, s1⟩ ⟨rfl, hx⟩
      obtain ⟨dd, e1, e2⟩ := hX.get hx
      rw [shL_map, List.getElem?_map] at e1
      obtain ⟨kk, hb, rfl⟩ := Option.map_eq_some_iff.mp e1
      have hm := List.mem_of_getElem? hb
      have d1 := dps_mem ss _ hm
      have d2 := all_mem_le hm
      have hgt := gpS_take hb
      have hpos := gp1_pos kk
      obtain ⟨g', hg'⟩ : ∃ g', g' = gs.drop (gpS (ss.take i)) := ⟨_, rfl⟩
      obtain ⟨n', hn'⟩ : ∃ n', n' = n + dnS (ss.take i) := ⟨_, rfl⟩
      have hg'l : gp1 kk + 1 ≤ g'.length := by rw [hg', List.length_drop]; omega
      have hz' : zz g' := by rw [hg']; exact hz.drop _
      have hgz' : ∀ g ∈ g', g ≤ 100 := fun g hg => hgz g (by rw [hg'] at hg; exact List.mem_of_mem_drop hg)
      have htk : ss.take (i + 1) = ss.take i ++ [kk] := take_snoc hb
      have hpx : pfx (ss.take (i + 1)) gs n = pfx (ss.take i) gs n ++ pu1 kk g' n' := by rw [htk, pfx_snoc, hg', hn']
      have hle := pfx_le (ss := ss) (i + 1) gs n
      rw [hpx, List.length_append] at hle
      have hacl : acc.length = (pfx (ss.take i) gs n).length := by rw [a3.length, List.length_map]
      have hdr : g'.drop (gp1 kk) = gs.drop (gpS (ss.take (i + 1))) := by rw [htk, gpS_snoc, hg', List.drop_drop]
      have hnn : n' + dn1 kk = n + dnS (ss.take (i + 1)) := by rw [htk, dnS_snoc, hn']; omega
      rw [← hg'] at a1
      have e2 := e2.same s1
      rw [sh1_eq] at e2
      obtain ⟨tx, y, rfl, u1, u2⟩ := Tp.pair_inv e2
      obtain ⟨ya, yx, rfl, hya, hyx⟩ := Tp.tup_inv u2
      have hyl : yx.length = cn kk := by rw [hyx.length, cd_len]
      rw [← hn']
      walk_at "rd"
      refine g_tupT u1 rfl ?_
      walk_at "rd"
      refine g_ixL 0 (SqL.of a1) rfl (hdg_get (by omega)) ?_
      walk_at "rd"
      refine ⟨hdg g', rfl, zz_hd hz', le_hdg hgz', fun fr acr H3 s3 hnf hf1 hf2 => ?_⟩
      have hfl : acr.length = hdg g' := by rw [hf2.length, List.length_map, frR_len (zz_hd hz')]
      have hp1l := pu1_len kk g' n' (by omega) hz'
      have hhd : hdg g' ≤ (pu1 kk g' n').length := by
        rw [hp1l]
        cases g' with
        | nil => exact absurd hg'l (by rw [List.length_nil]; omega)
        | cons g r =>
          have : (g :: r).take (gp1 kk) = g :: r.take (gp1 kk - 1) := by
            cases hh : gp1 kk with
            | zero => omega
            | succ p => rfl
          rw [this, List.sum_cons]
          show g ≤ _
          omega
      refine g_cat (s3 _ _ a2) hf1 (by omega) fun p1 hp1 => ?_
      have s4 := same_new hp1 (.lst (acc ++ acr))
      have w1 : (upd H3 p1 (.lst (acc ++ acr))) p1 = some (.lst (acc ++ acr)) := upd_same
      have v1 := ((a3.same s3).append hf2).same s4
      revert s4 w1 v1
      generalize upd H3 p1 (.lst (acc ++ acr)) = H4
      intro s4 w1 v1
      have S4 := s3.trans s4
      walk_at "rd"
      refine ⟨gi, _, rfl, SqL.of (S4 _ _ a1), fun p2 hp2 => ?_⟩
      rw [cut_one (by omega)]
      have s5 := same_new hp2 (.lst (g'.tail.map vn))
      have w2 : (upd H4 p2 (.lst (g'.tail.map vn))) p2 = some (.lst (g'.tail.map vn)) := upd_same
      revert s5 w2
      generalize upd H4 p2 (.lst (g'.tail.map vn)) = H5
      intro s5 w2
      have S5 := S4.trans s5
      have w1 := s5 _ _ w1
      have v1 := v1.same s5
      have hya := Same.sqt S5 hya
      have hyx := hyx.same S5
      walk_at "rd"
      refine ⟨_, _, rfl, ?_⟩
      walk_at "rd"
      -- the end of a turn
      have fin : ∀ (gj fb : Addr) (acc' : List V) (x4 x5 x6 : Option V) (H6 : Hp) (k' : V), Same H5 H6 → H6 gj = some (.lst ((g'.drop (gp1 kk)).map vn)) → H6 fb = some (.lst acc') → TpAll K H6 acc' ((pfx (ss.take i) gs n ++ pu1 kk g' n').map rwD) → k' = vn (n' + dn1 kk) →
          (∃ gi fa acc x4' x5' x6', [some (.ref t), some (.ref gj), some k', some (.ref fb), x4, x5, x6, none, none, none] = [some (.ref t), some (.ref gi), some (vn (n + dnS (ss.take (i + 1)))), some (.ref fa), x4', x5', x6', none, none, none] ∧ H6 gi = some (.lst ((gs.drop (gpS (ss.take (i + 1)))).map vn)) ∧ H6 fa = some (.lst acc) ∧ TpAll K H6 acc ((pfx (ss.take (i + 1)) gs n).map rwD)) ∧ Same H H6 := by
        intro gj fb acc' x4 x5 x6 H6 k' t1 t2 t3 t4 t5
        exact ⟨⟨gj, fb, acc', x4, x5, x6, by rw [t5, hnn], by rw [← hdr]; exact t2, t3, by rw [hpx]; exact t4⟩, s1.trans (S5.trans t1)⟩
      cases kk with
      | dat c =>
        refine g_dF ne_dg ?_
        walk_at "rd"
        refine g_dT rfl ?_
        walk_at "rd"
        refine ⟨_, _, rfl, .inr hya, ?_⟩
        rw [show yx.length = c.length from hyl]
        walk_at "rd"
        refine ⟨(by show 2 ≤ sizeLine; decide), fun p3 hp3 => ?_⟩
        have s6 := same_new hp3 (.lst [V.int 2, V.int (2 + (c.length : Int))])
        refine g_cat (ys := [V.int 2, V.int (2 + (c.length : Int))]) (s6 _ _ w1) upd_same (by rw [List.length_append]; show acc.length + acr.length + 2 ≤ 1000; omega) fun p4 hp4 => ?_
        have s7 := same_new hp4 (.lst (acc ++ acr ++ [V.int 2, V.int (2 + (c.length : Int))]))
        have S7 := s6.trans s7
        have w4 : (upd (upd H5 p3 (.lst [V.int 2, V.int (2 + (c.length : Int))])) p4 (.lst (acc ++ acr ++ [V.int 2, V.int (2 + (c.length : Int))]))) p4 = some (.lst (acc ++ acr ++ [V.int 2, V.int (2 + (c.length : Int))])) := upd_same
        revert S7 w4
        generalize upd (upd H5 p3 (.lst [V.int 2, V.int (2 + (c.length : Int))])) p4 (.lst (acc ++ acr ++ [V.int 2, V.int (2 + (c.length : Int))])) = H7
        intro S7 w4
        have hc : yx.length = c.length := hyl
        have hcl : c.length + 2 ≤ (pu1 (.dat c) g' n').length := by
          rw [pu1, List.length_append, List.length_append, isR_len]
          show c.length + 2 ≤ _ + (2 + c.length)
          omega
        refine g_enumT ?_
        walk_at "rd"
        refine ⟨ya, yx, rfl, Same.sqt S7 hya, fun D hD => ?_⟩
        refine lc_it walk_enumT (fun j H' => Same H7 H' ∧ ∃ zs, H' D = some (.lst zs) ∧ TpAll K H' zs (((isR n' c 0).take j).map rwD)) ⟨same_new hD _, [], upd_same, .nil⟩ (fun j H' _ z => Same.sqt (S7.trans z.1) hya) ?_ ?_
        · rintro j z H8 H9 hj ⟨s8, zs, k1, k2⟩ ⟨T1, y1, y2, rfl, nT, rfl, g1, g2⟩
          cases Option.some.inj g1
          obtain ⟨dd, f1, f2⟩ := hyx.get g2
          have f1 : (c.map pn)[j]? = some dd := f1
          rw [List.getElem?_map] at f1
          obtain ⟨cx, hcx, rfl⟩ := Option.map_eq_some_iff.mp f1
          have hy2 : y2 = vn cx := by
            cases f2
            rfl
          subst hy2
          have sT := same_new nT (.tup [V.int (j : Int), vn cx])
          refine g_tupT (SqT.of upd_same) rfl ?_
          walk_at "rd"
          refine ⟨rfl, ?_⟩
          walk_at "rd"
          refine ⟨(by show 4 ≤ sizeLine; decide), fun p5 hp5 => ?_⟩
          have s9 := same_new hp5 (.tup [V.str "is", vn n', V.int (j : Int), vn cx])
          have hzl : zs.length ≤ 200 := by
            rw [k2.length, List.length_map, List.length_take, isR_len]
            omega
          refine ⟨zs, (sT.trans s9) _ _ k1, small1000 (by omega), Same.putNew ((s8.trans sT).trans s9) hD, zs ++ [.ref p5], upd_same, ?_⟩
          have hsn : (isR n' c 0)[j]? = some (.is n' (0 + j) cx) := by rw [isR_get, hcx]; rfl
          rw [take_snoc hsn, List.map_append]
          have kk2 := tk_lst (K := K) (u := HO.lst (zs ++ [V.ref p5])) ((sT.trans s9) _ _ k1)
          refine (TpAll.mono kk2 _ _ (k2.same (sT.trans s9))).snoc (Tp.mono kk2 _ _ ?_)
          rw [Nat.zero_add]
          exact .tup upd_same (.cons (.str _) (.cons (.int _) (.cons (.int _) (.cons (.int _) .nil))))
        rintro H8 ⟨s8, zs, k1, k2⟩
        rw [hc, List.take_of_length_le (by rw [isR_len]; exact Nat.le_refl _)] at k2
        have hzl : zs.length = c.length := by rw [k2.length, List.length_map, isR_len]
        refine g_cat (s8 _ _ w4) k1 (by rw [List.length_append, List.length_append, hzl]; show acc.length + acr.length + 2 + c.length ≤ 1000; omega) fun p6 hp6 => ?_
        have s9 := same_new hp6 (.lst (acc ++ acr ++ [V.int 2, V.int (2 + (c.length : Int))] ++ zs))
        walk_at "rd"
        refine fin p2 p6 _ (some (.str (kw (.dat c)))) (some (.ref ya)) x6 _ (.int ((n' : Int) + 1)) ((S7.trans s8).trans s9) (((S7.trans s8).trans s9) _ _ (by rw [gp1, List.drop_one]; exact w2)) upd_same ?_ rfl
        have := ((v1.same ((S7.trans s8).trans s9)).append (TpAll.cons (.int 2) (TpAll.cons (.int (2 + (c.length : Int))) .nil))).append (k2.same s9)
        rw [pu1]
        simp only [List.append_assoc, List.map_append] at this ⊢
        exact this
      | tab c =>
        refine g_dF ne_tg ?_
        walk_at "rd"
        refine g_dF (sne "table" "data") ?_
        walk_at "rd"
        refine ⟨_, _, rfl, .inr hya, ?_⟩
        rw [show yx.length = c.length from hyl]
        walk_at "rd"
        refine ⟨(by show 2 ≤ sizeLine; decide), fun p3 hp3 => ?_⟩
        have s6 := same_new hp3 (.lst [V.int 4, V.int (2 + (c.length : Int))])
        refine g_cat (ys := [V.int 4, V.int (2 + (c.length : Int))]) (s6 _ _ w1) upd_same (by rw [List.length_append]; show acc.length + acr.length + 2 ≤ 1000; omega) fun p4 hp4 => ?_
        have s7 := same_new hp4 (.lst (acc ++ acr ++ [V.int 4, V.int (2 + (c.length : Int))]))
        have S7 := s6.trans s7
        have w4 : (upd (upd H5 p3 (.lst [V.int 4, V.int (2 + (c.length : Int))])) p4 (.lst (acc ++ acr ++ [V.int 4, V.int (2 + (c.length : Int))]))) p4 = some (.lst (acc ++ acr ++ [V.int 4, V.int (2 + (c.length : Int))])) := upd_same
        revert S7 w4
        generalize upd (upd H5 p3 (.lst [V.int 4, V.int (2 + (c.length : Int))])) p4 (.lst (acc ++ acr ++ [V.int 4, V.int (2 + (c.length : Int))])) = H7
        intro S7 w4
        have hc : yx.length = c.length := hyl
        have hcl : c.length + 2 ≤ (pu1 (.tab c) g' n').length := by
          rw [pu1, List.length_append, List.length_append, List.length_map]
          show c.length + 2 ≤ _ + (2 + c.length)
          omega
        refine ⟨_, rfl, ya, rfl, ⟨_, Same.sqt S7 hya⟩, fun D hD => ?_⟩
        refine lc_it walk_tup (fun j H' => Same H7 H' ∧ ∃ zs, H' D = some (.lst zs) ∧ TpAll K H' zs (((c.map toR).take j).map rwD)) ⟨same_new hD _, [], upd_same, .nil⟩ (fun j H' _ z => Same.sqt (S7.trans z.1) hya) ?_ ?_
        · rintro j z H8 H9 hj ⟨s8, zs, k1, k2⟩ ⟨rfl, g2⟩
          obtain ⟨dd, f1, f2⟩ := hyx.get g2
          have f1 : (c.map pr)[j]? = some dd := f1
          rw [List.getElem?_map] at f1
          obtain ⟨tt, htt, rfl⟩ := Option.map_eq_some_iff.mp f1
          obtain ⟨az, zx, rfl, haz, hzx⟩ := Tp.tup_inv (show Tp K H5 z (.tuple [.int (tt.1 : Int), .int (tt.2 : Int)]) from f2)
          have haz2 : SqT K H9 az [vn tt.1, vn tt.2] := by
            cases hzx with
            | cons q1 q2 =>
              cases q2 with
              | cons q3 q4 =>
                cases q4
                cases q1
                cases q3
                exact Same.sqt (S7.trans s8) haz
          walk_at "rd"
          refine ⟨rfl, ?_⟩
          walk_at "rd"
          refine g_ixT 0 haz2 rfl rfl ?_
          walk_at "rd"
          refine g_ixT 1 haz2 rfl rfl ?_
          walk_at "rd"
          refine ⟨(by show 3 ≤ sizeLine; decide), fun p5 hp5 => ?_⟩
          have s9 := same_new hp5 (.tup [V.str "to", vn tt.1, vn tt.2])
          have hzl : zs.length ≤ 200 := by
            rw [k2.length, List.length_map, List.length_take, List.length_map]
            omega
          refine ⟨zs, s9 _ _ k1, small1000 (by omega), Same.putNew (s8.trans s9) hD, zs ++ [.ref p5], upd_same, ?_⟩
          have hsn : (c.map toR)[j]? = some (toR tt) := by rw [List.getElem?_map, htt]; rfl
          rw [take_snoc hsn, List.map_append]
          have kk2 := tk_lst (K := K) (u := HO.lst (zs ++ [V.ref p5])) (s9 _ _ k1)
          refine (TpAll.mono kk2 _ _ (k2.same s9)).snoc (Tp.mono kk2 _ _ ?_)
          exact .tup upd_same (.cons (.str _) (.cons (.int _) (.cons (.int _) .nil)))
        rintro H8 ⟨s8, zs, k1, k2⟩
        rw [hc, List.take_of_length_le (by rw [List.length_map]; exact Nat.le_refl _)] at k2
        have hzl : zs.length = c.length := by rw [k2.length, List.length_map, List.length_map]
        refine g_cat (s8 _ _ w4) k1 (by rw [List.length_append, List.length_append, hzl]; show acc.length + acr.length + 2 + c.length ≤ 1000; omega) fun p6 hp6 => ?_
        have s9 := same_new hp6 (.lst (acc ++ acr ++ [V.int 4, V.int (2 + (c.length : Int))] ++ zs))
        walk_at "rd"
        refine fin p2 p6 _ (some (.str (kw (.tab c)))) (some (.ref ya)) x6 _ (vn n') ((S7.trans s8).trans s9) (((S7.trans s8).trans s9) _ _ (by rw [gp1, List.drop_one]; exact w2)) upd_same ?_ rfl
        have := ((v1.same ((S7.trans s8).trans s9)).append (TpAll.cons (.int 4) (TpAll.cons (.int (2 + (c.length : Int))) .nil))).append (k2.same s9)
        rw [pu1]
        simp only [List.append_assoc, List.map_append] at this ⊢
        exact this
      | grp ks =>
        refine g_dT rfl ?_
        walk_at "rd"
        rw [dps1] at d1
        rw [all1, List.length_cons] at d2
        rw [gp1] at hg'l
        have hpu : (pu1 (.grp ks) g' n').length = hdg g' + (2 + (puL ks g'.tail n').length) := by
          rw [pu1, List.length_append, List.length_append, frR_len (zz_hd hz')]
          rfl
        have hkl := allL_len ks
        refine ⟨.ref ya, p2, n', ks, g'.tail, rfl, u2.same S5, by omega, w2, by rw [List.length_tail]; omega, by rw [List.length_tail, hg', List.length_drop]; omega, hz'.tail, fun g hg => hgz' g (List.mem_of_mem_tail hg), by omega, by omega, by omega, fun tt la lg acc2 H6 s6 r1 r2 r3 r4 => ?_⟩
        walk_at "rd"
        refine g_tupT (SqT.of r1) rfl ?_
        walk_at "rd"
        refine ⟨_, _, rfl, .inl (SqL.of r2), ?_⟩
        have hc2 : acc2.length = (puL ks g'.tail n').length := by rw [r3.length, List.length_map]
        rw [hc2]
        walk_at "rd"
        refine ⟨(by show 2 ≤ sizeLine; decide), fun p3 hp3 => ?_⟩
        have s7 := same_new hp3 (.lst [V.int 1, V.int (2 + ((puL ks g'.tail n').length : Int))])
        refine g_cat (ys := [V.int 1, V.int (2 + ((puL ks g'.tail n').length : Int))]) ((s6.trans s7) _ _ w1) upd_same (by rw [List.length_append]; show acc.length + acr.length + 2 ≤ 1000; omega) fun p4 hp4 => ?_
        have s8 := same_new hp4 (.lst (acc ++ acr ++ [V.int 1, V.int (2 + ((puL ks g'.tail n').length : Int))]))
        walk_at "rd"
        refine g_cat upd_same ((s7.trans s8) _ _ r2) (by rw [List.length_append, List.length_append]; show acc.length + acr.length + 2 + acc2.length ≤ 1000; omega) fun p5 hp5 => ?_
        have s9 := same_new hp5 (.lst (acc ++ acr ++ [V.int 1, V.int (2 + ((puL ks g'.tail n').length : Int))] ++ acc2))
        walk_at "rd"
        have S9 := (s7.trans s8).trans s9
        refine fin lg p5 _ (some (.str (kw (.grp ks)))) (some (.ref ya)) (some (.ref la)) _ (vn (n' + dnS ks)) (s6.trans S9) (S9 _ _ ?_) upd_same ?_ (by rw [dn1_grp])
        · rw [gp1, ← List.drop_drop, List.drop_one]
          exact r4
        · have := ((v1.same (s6.trans S9)).append (TpAll.cons (.int 1) (TpAll.cons (.int (2 + ((puL ks g'.tail n').length : Int))) .nil))).append (r3.same S9)
          rw [pu1]
          simp only [List.append_assoc, List.map_append] at this ⊢
          exact this
    · rintro σ H1 ⟨⟨gi, fa, acc, x4, x5, x6, rfl, a1, a2, a3⟩, s1⟩
      rw [hxl, List.take_length] at a1 a3
      rw [hxl, List.take_length]
      obtain ⟨g', hg'⟩ : ∃ g', g' = gs.drop (gpS ss) := ⟨_, rfl⟩
      have hg'l : 1 ≤ g'.length := by rw [hg', List.length_drop]; omega
      have hz' : zz g' := by rw [hg']; exact hz.drop _
      have hgz' : ∀ g ∈ g', g ≤ 100 := fun g hg => hgz g (by rw [hg'] at hg; exact List.mem_of_mem_drop hg)
      have hpl2 := hpl
      rw [puL_pfx, ← hg', List.length_append, frR_len (zz_hd hz')] at hpl2
      have hacl : acc.length = (pfx ss gs n).length := by rw [a3.length, List.length_map]
      rw [← hg'] at a1
      walk_at "rd"
      refine g_ixL 0 (SqL.of a1) rfl (hdg_get hg'l) ?_
      walk_at "rd"
      refine ⟨hdg g', rfl, zz_hd hz', le_hdg hgz', fun fr acr H3 s3 hnf hf1 hf2 => ?_⟩
      have hfl : acr.length = hdg g' := by rw [hf2.length, List.length_map, frR_len (zz_hd hz')]
      refine g_cat (s3 _ _ a2) hf1 (by omega) fun p1 hp1 => ?_
      have s4 := same_new hp1 (.lst (acc ++ acr))
      walk_at "rd"
      refine ⟨gi, _, rfl, SqL.of ((s3.trans s4) _ _ a1), fun p2 hp2 => ?_⟩
      rw [cut_one hg'l]
      have s5 := same_new hp2 (.lst (g'.tail.map vn))
      walk_at "rd"
      refine ⟨(by show 3 ≤ sizeLine; decide), fun p3 hp3 => ?_⟩
      have s6 := same_new hp3 (.tup [V.ref p1, V.ref p2, vn (n + dnS ss)])
      have S6 := ((s3.trans s4).trans s5).trans s6
      refine q p3 p1 p2 (acc ++ acr) _ (s1.trans S6) upd_same ((s5.trans s6) _ _ upd_same) ?_ ?_
      · rw [puL_pfx, List.map_append, ← hg']
        exact (a3.same S6).append (hf2.same ((s4.trans s5).trans s6))
      · rw [s6 _ _ upd_same, hg', hgS, ← List.drop_one, List.drop_drop]
end
end Bx

namespace Bx
theorem le_sum : ∀ {l : List Nat} {x : Nat}, x ∈ l → x ≤ l.sum
  | y :: r, x, h => by
    rw [List.sum_cons]
    rcases List.mem_cons.mp h with rfl | h
    · omega
    · have := le_sum h
      omega
theorem k_none_tuple {K : PySem.W.Frag} : PySem.W.kitOne K (.type "NoneType") (.type "tuple") = some false := kit_ty (by decide +kernel)
/-- a row as it is held -/
def rwV (K : PySem.W.Frag) (H : Hp) (x : V) : Rw → Prop
  | .non => x = .non
  | .num k => x = vn k
  | .is n a c => ∃ t, x = .ref t ∧ SqT K H t [.str "is", vn n, vn a, vn c]
  | .to n a => ∃ t, x = .ref t ∧ SqT K H t [.str "to", vn n, vn a]
theorem rw_tp {K : PySem.W.Frag} {H : Hp} {x : V} : ∀ {r : Rw}, Tp K H x (rwD r) → rwV K H x r
  | .non, h => by
    cases h
    rfl
  | .num k, h => by
    cases h
    rfl
  | .is n a c, h => by
    obtain ⟨t, zx, rfl, ht, hz⟩ := Tp.tup_inv (show Tp K H x (.tuple [.str "is", .int (n : Int), .int (a : Int), .int (c : Int)]) from h)
    cases hz with
    | cons q1 q2 =>
      cases q2 with
      | cons q3 q4 =>
        cases q4 with
        | cons q5 q6 =>
          cases q6 with
          | cons q7 q8 =>
            cases q8
            cases q1
            cases q3
            cases q5
            cases q7
            exact ⟨t, rfl, ht⟩
  | .to n a, h => by
    obtain ⟨t, zx, rfl, ht, hz⟩ := Tp.tup_inv (show Tp K H x (.tuple [.str "to", .int (n : Int), .int (a : Int)]) from h)
    cases hz with
    | cons q1 q2 =>
      cases q2 with
      | cons q3 q4 =>
        cases q4 with
        | cons q5 q6 =>
          cases q6
          cases q1
          cases q3
          cases q5
          exact ⟨t, rfl, ht⟩
/-- the cells of a file -/
def clO (bef : List Nat) (st : Nat → Nat) : Nat → Rw → Nat
  | q, .non => bef.getD q 0
  | _, .num k => k
  | _, .is _ _ c => c
  | _, .to n a => st n + a
def stO (ss : List Sh) (gs : List Nat) (i : Nat) : Nat := ((rwL ss gs 0).getD i (0, 0)).1
def flO (bef : List Nat) (ss : List Sh) (gs : List Nat) : List Nat := (puL ss gs 0).mapIdx (clO bef (stO ss gs))
theorem flO_len {bef gs : List Nat} {ss : List Sh} : (flO bef ss gs).length = (puL ss gs 0).length := by
  unfold flO
  rw [List.length_mapIdx]
theorem flO_get {bef gs : List Nat} {ss : List Sh} {i : Nat} {r : Rw} (h : (puL ss gs 0)[i]? = some r) : (flO bef ss gs)[i]? = some (clO bef (stO ss gs) i r) := by
  unfold flO
  rw [List.getElem?_mapIdx, h]
  rfl
theorem flO_row (bef : List Nat) (ss : List Sh) (gs : List Nat) : RowAt (flO bef ss gs) (stO ss gs) 0 (puL ss gs 0) := fun i r hr => by
  have e : cel (flO bef ss gs) (0 + i) = clO bef (stO ss gs) i r := by
    unfold cel
    rw [Nat.zero_add, List.getD_eq_getElem?_getD, flO_get hr]
    rfl
  cases r with
  | non => exact True.intro
  | num k => exact e
  | is n a c => exact e
  | to n a => exact e
theorem stO_is {ss : List Sh} {gs : List Nat} (hl : gpL ss ≤ gs.length) (hz : zz gs) {i n a c : Nat} (h : (puL ss gs 0)[i]? = some (.is n a c)) : i = stO ss gs n + a := by
  obtain ⟨_, q, e1, e2, _⟩ := (wh_L ss gs 0 0 hl hz).1 i n a c h
  unfold stO
  rw [List.getD_eq_getElem?_getD, show n = n - 0 by omega, e1]
  show i = q.1 + a
  omega
/-- an entry's cell is there -/
theorem stO_to {ss : List Sh} {gs : List Nat} (hl : gpL ss ≤ gs.length) (hz : zz gs) {n a m : Nat} (h : (lens (allL ss))[n]? = some m) (ha : a < m) : ∃ c, (puL ss gs 0)[stO ss gs n + a]? = some (.is n a c) := by
  rw [← rw_lensL ss gs 0, List.getElem?_map] at h
  cases hrr : (rwL ss gs 0)[n]? with
  | none =>
    rw [hrr] at h
    cases h
  | some r =>
    rw [hrr] at h
    have e2 : r.2 = m := Option.some.inj h
    obtain ⟨i, c, e3, e4⟩ := (wh_L ss gs 0 0 hl hz).2 n r a hrr (by omega)
    rw [Nat.zero_add] at e3
    exact ⟨c, by rw [← stO_is hl hz e3]; exact e3⟩
mutual
theorem pu_to1 : ∀ (s : Sh) (gs : List Nat) (n : Nat), ∀ r ∈ pu1 s gs n, ∀ x y, r = .to x y → (x, y) ∈ tgsL (all1 s)
  | .dat c, gs, n, r, hr, x, y, e => by
    subst e
    rw [pu1] at hr
    rcases List.mem_append.mp hr with hr | hr
    · unfold frR at hr
      split at hr
      · exact absurd hr List.not_mem_nil
      · rcases List.mem_append.mp hr with hr | hr
        · simp at hr
        · have := (List.mem_replicate.mp hr).2
          cases this
    · rcases List.mem_append.mp hr with hr | hr
      · simp at hr
      · obtain ⟨i, hi⟩ := List.mem_iff_getElem?.mp hr
        rw [isR_get] at hi
        obtain ⟨z, _, e⟩ := Option.map_eq_some_iff.mp hi
        cases e
  | .tab t, gs, n, r, hr, x, y, e => by
    subst e
    rw [pu1] at hr
    rcases List.mem_append.mp hr with hr | hr
    · unfold frR at hr
      split at hr
      · exact absurd hr List.not_mem_nil
      · rcases List.mem_append.mp hr with hr | hr
        · simp at hr
        · have := (List.mem_replicate.mp hr).2
          cases this
    · rcases List.mem_append.mp hr with hr | hr
      · simp at hr
      · obtain ⟨z, hz, e⟩ := List.mem_map.mp hr
        unfold toR at e
        injection e with e1 e2
        have ez : z = (x, y) := Prod.ext e1 e2
        subst ez
        unfold tgsL
        exact List.mem_flatten.mpr ⟨_, List.mem_map.mpr ⟨.tab t, all1_self _, rfl⟩, hz⟩
  | .grp ks, gs, n, r, hr, x, y, e => by
    subst e
    rw [pu1] at hr
    rcases List.mem_append.mp hr with hr | hr
    · unfold frR at hr
      split at hr
      · exact absurd hr List.not_mem_nil
      · rcases List.mem_append.mp hr with hr | hr
        · simp at hr
        · have := (List.mem_replicate.mp hr).2
          cases this
    · rcases List.mem_append.mp hr with hr | hr
      · simp at hr
      · have := pu_toL ks gs.tail n _ hr x y rfl
        unfold tgsL at this ⊢
        obtain ⟨l, hl, hm⟩ := List.mem_flatten.mp this
        obtain ⟨s, hs, e⟩ := List.mem_map.mp hl
        exact List.mem_flatten.mpr ⟨l, List.mem_map.mpr ⟨s, by rw [all1]; exact List.mem_cons_of_mem _ hs, e⟩, hm⟩
theorem pu_toL : ∀ (ss : List Sh) (gs : List Nat) (n : Nat), ∀ r ∈ puL ss gs n, ∀ x y, r = .to x y → (x, y) ∈ tgsL (allL ss)
  | [], gs, n, r, hr, x, y, e => by
    subst e
    rw [puL] at hr
    unfold frR at hr
    split at hr
    · exact absurd hr List.not_mem_nil
    · rcases List.mem_append.mp hr with hr | hr
      · simp at hr
      · have := (List.mem_replicate.mp hr).2
        cases this
  | s :: q, gs, n, r, hr, x, y, e => by
    rw [puL] at hr
    rw [allL]
    unfold tgsL
    rw [List.map_append, List.flatten_append]
    rcases List.mem_append.mp hr with hr | hr
    · exact List.mem_append_left _ (pu_to1 s gs n r hr x y e)
    · exact List.mem_append_right _ (pu_toL q _ _ r hr x y e)
end
/-- what an entry asks for lies in the file -/
theorem to_in {ss : List Sh} {gs : List Nat} (ht : ∀ t ∈ tgsL (allL ss), ∃ m, (lens (allL ss))[t.1]? = some m ∧ t.2 < m) (hl : gpL ss ≤ gs.length) (hz : zz gs) {i n a : Nat} (h : (puL ss gs 0)[i]? = some (.to n a)) : ∃ c, (puL ss gs 0)[stO ss gs n + a]? = some (.is n a c) := by
  obtain ⟨m, h1, h2⟩ := ht _ (pu_toL ss gs 0 _ (List.mem_of_getElem? h) n a rfl)
  exact stO_to hl hz h1 h2
section
variable {P : Program} {w : World} {K : PySem.W.Frag} {mg : Str → Option Value} {base : Heap} {C CB : Addr} {H : Hp} {Q : VK}
theorem isi_nt (h : Q (.bl false) H) : rIsi K [.non, .ty "tuple"] H Q := ⟨_, _, _, _, _, rfl, .ty _, .base .non, k_none_tuple, h⟩
theorem g_par3 {ta : TA} {D : Ends} {σ : L2.St} {i j l : Nat} (h : ta σ H fun vs H1 => ∃ u v w, vs = [u, v, w] ∧ D.nx (((σ.set i (some u)).set j (some v)).set l (some w)) H1) : tPar3 i j l ta D σ H := h
def spLFile (K : PySem.W.Frag) : Sp := fun vs H Q _ => ∃ (v : V) (ga bf : Addr) (ss : List Sh) (gs bef : List Nat), vs = [v, .ref ga, .ref bf] ∧ Tp K H v (.tuple (shL ss)) ∧ dpsL ss ≤ 2 ∧ (allL ss).length ≤ 30 ∧ (∀ t ∈ tgsL (allL ss), ∃ m, (lens (allL ss))[t.1]? = some m ∧ t.2 < m) ∧ SqT K H ga (gs.map vn) ∧ gs.length = gpL ss ∧ zz gs ∧ lnL ss + gs.sum ≤ 99 ∧ H bf = some (.lst (bef.map vn)) ∧ bef.length ≤ 500 ∧
  ∀ (t : Addr) (H' : Hp), Same H H' → H' t = some (.tup ((flO bef ss gs).map vn)) → Q (.ref t) H'
theorem ok_lFile {f : Addr} {fd : FuncData} (F : Def K mg "_law_file" sLFile f fd) (b : Binds K fd ["_law_shape_here", "_law_gaps", "_law_before"] []) (T : Txt mg) (C_lPut : Cal P w K mg base 5 "_law_put" (spLPut K 3) []) : Cal P w K mg base 6 "_law_file" (spLFile K) [] := by
  refine cal0 F b .nil scLFile (fun vs H Q E h => ?_) (fun cdv A outer s H vs Q E hr h => ?_)
  · obtain ⟨v, ga, bf, ss, gs, bef, rfl, _⟩ := h
    rfl
  obtain ⟨v, ga, bf, ss, gs, bef, rfl, hv, hd, hal, htg, hga, hgl, hz, hsz, hbf, hbl, q⟩ := h
  have et : gs.take (gpL ss) = gs := by rw [← hgl, List.take_length]
  have hpl : (puL ss gs 0).length = lnL ss + gs.sum := by rw [puL_len ss gs 0 (by omega) hz, et]
  have hg99 : ∀ g ∈ gs, g ≤ 100 := fun g hg => by
    have := le_sum hg
    omega
  have hgp := gp_L ss
  have hgf := List.length_filter_le isG (allL ss)
  refine ⟨_, (pss_cons (ps_par3 (i := 3) (j := 4) (l := 5) (by rfl) scLFile.nd rfl rfl rfl (by decide) (by decide) (by decide) rfl rfl rfl (pa_cons (pe_ix ix_tup (pe_c C_lPut hr (by decide) rfl (pa_cons (pv 0) (pa_cons (pe_callTy call_list_of (by rfl) T.list b_list (pa_cons (pv 1) pa_nil)) (pa_cons pe_int pa_nil)))) pe_int (fun _ _ => rfl)) (pa_cons (pe_lst pa_nil) (pa_cons pe_dnewT pa_nil))) (by rfl))
    (pss_cons (ps_for PassesOwn.never rfl (pi_enum (by rfl) T.enumerate (pa_cons (pv 3) pa_nil)) (pg_tup rfl (pgs_cons (pg_name (i := 6) scLFile.nd rfl (.inl rfl)) (pgs_cons (pg_name (i := 7) scLFile.nd rfl (.inl rfl)) pgs_nil))) 
      (pss_one (ps_if (PW.pt (pw_and (pt_val (pe_callB call_isi (by rfl) T.isinstance b_isinstance (pa_cons (pv 7) (pa_cons (pe_bltn (v := .ty "tuple") (by rfl) T.tuple b_tuple rfl) pa_nil)))) (pw_and1 (pt_cmpR op_eq (pe_ix ix_tup (pv 7) pe_int (fun _ _ => rfl)) pe_str (nomark _))))) 
        (pss_one (ps_dput (hu_of hr) (pv 5) (pe_tup (pa_cons (pe_ix ix_tup (pv 7) pe_int (fun _ _ => rfl)) (pa_cons (pe_ix ix_tup (pv 7) pe_int (fun _ _ => rfl)) pa_nil))) (pv 6) rfl)) pss_nil)))
    (pss_cons (ps_for PassesOwn.never rfl (pi_enum (by rfl) T.enumerate (pa_cons (pv 3) pa_nil)) (pg_tup rfl (pgs_cons (pg_name (i := 6) scLFile.nd rfl (.inl rfl)) (pgs_cons (pg_name (i := 7) scLFile.nd rfl (.inl rfl)) pgs_nil))) 
      (pss_one (ps_if (pt_cmpR op_isN (pv 7) pe_non (nomark _)) 
        (pss_one (ps_expr (pe_bm PySem.F.plainAttrs_list PySem.F.slot_list_append PySem.F.type_list_append mt_append (pv 4) (pa_cons (pe_ifExp (pt_cmpR op_lt (pv 6) (pe_callB call_len_seq (by rfl) T.len b_len (pa_cons (pv 2) pa_nil)) (nomark _)) (pe_ix ix_seq (pv 2) (pv 6) (fun _ _ => rfl)) pe_int) pa_nil)))) 
        (pss_one (ps_if (pt_val (pe_callB call_isi (by rfl) T.isinstance b_isinstance (pa_cons (pv 7) (pa_cons (pe_bltn (v := .ty "tuple") (by rfl) T.tuple b_tuple rfl) pa_nil)))) 
          (pss_one (ps_expr (pe_bm PySem.F.plainAttrs_list PySem.F.slot_list_append PySem.F.type_list_append mt_append (pv 4) (pa_cons (pe_ifExp (pt_cmpR op_eq (pe_ix ix_tup (pv 7) pe_int (fun _ _ => rfl)) pe_str (nomark _)) (pe_ix ix_tup (pv 7) pe_int (fun _ _ => rfl)) (pe_dget (hu_of hr) (pv 5) (pe_tup (pa_cons (pe_ix ix_tup (pv 7) pe_int (fun _ _ => rfl)) (pa_cons (pe_ix ix_tup (pv 7) pe_int (fun _ _ => rfl)) pa_nil))) (fun _ _ => rfl))) pa_nil)))) 
          (pss_one (ps_expr (pe_bm PySem.F.plainAttrs_list PySem.F.slot_list_append PySem.F.type_list_append mt_append (pv 4) (pa_cons (pv 7) pa_nil)))))))))
    (pss_one (ps_ret (pe_callTy call_tuple_of (by rfl) T.tuple b_tuple (pa_cons (pv 4) pa_nil))))))), ?_⟩
  refine g_seq (g_par3 ?_)
  walk_at "rd"
  refine ⟨ga, _, rfl, .inr hga, fun R hR => ?_⟩
  have s1 := same_new hR (.lst (gs.map vn))
  have hsl := allL_len ss
  walk_at "rd"
  refine ⟨v, R, 0, ss, gs, rfl, hv.same s1, by omega, upd_same, by omega, by omega, hz, hg99, by omega, by omega, by omega, fun t0 la lg acc H1 s2 r1 r2 r3 r4 => ?_⟩
  have hacl : acc.length = (puL ss gs 0).length := by rw [r3.length, List.length_map]
  walk_at "rd"
  refine g_ixT 0 (SqT.of r1) rfl rfl ?_
  walk_at "rd"
  refine ⟨Nat.zero_le _, fun l0 hl0 => ?_⟩
  have s3 := same_new hl0 (.lst [])
  walk_at "rd"
  refine g_dnewT fun Dd hDd => ?_
  have s4 := same_new hDd (.dT [])
  have nD : H1 Dd = none := s3.free hDd
  have nlD : l0 ≠ Dd := ne_of_none (upd_same : _ = some (HO.lst [])) hDd
  walk_at "rd"
  refine ⟨_, _, _, rfl, ?_⟩
  walk_at "rd"
  refine ⟨la, _, rfl, SqL.of ((s3.trans s4) _ _ r2), for_it walk_enum (fun i σ H' => (∃ x6 x7, σ = [some v, some (.ref ga), some (.ref bf), some (.ref la), some (.ref l0), some (.ref Dd), x6, x7]) ∧ Same H1 H' ∧ H' l0 = some (.lst []) ∧ ∃ g, DT2 H' Dd g i ∧ ∀ q n a c, q < i → (puL ss gs 0)[q]? = some (.is n a c) → g (n, a) = some (stO ss gs n + a))
    ⟨⟨_, _, rfl⟩, s3.trans s4, s4 _ _ upd_same, _, .nil upd_same, fun q n a c hq => absurd hq (Nat.not_lt_zero _)⟩ (fun i σ H' _ z => SqL.of (z.2.1 _ _ r2)) ?_ ?_⟩
  · rintro i x σ H3 H4 hi ⟨⟨x6, x7, rfl⟩, e1, e2, g, e3, e4⟩ ⟨T1, y1, y2, rfl, nT, rfl, g1, g2⟩
    cases Option.some.inj g1
    obtain ⟨dd, f1, f2⟩ := r3.get g2
    rw [List.getElem?_map] at f1
    obtain ⟨r, hri, rfl⟩ := Option.map_eq_some_iff.mp f1
    have f3 := rw_tp f2
    have sT := same_new nT (.tup [V.int (i : Int), y2])
    have keep : (∀ n a c, r ≠ .is n a c) → ∀ q n a c, q < i + 1 → (puL ss gs 0)[q]? = some (.is n a c) → g (n, a) = some (stO ss gs n + a) := fun hr q n a c hq hqq => by
      by_cases e : q = i
      · subst e
        rw [hri] at hqq
        exact absurd (Option.some.inj hqq) (hr n a c)
      · exact e4 q n a c (by omega) hqq
    refine g_tupT (SqT.of upd_same) rfl ?_
    walk_at "rd"
    cases r with
    | non =>
      subst f3
      refine isi_nt ?_
      walk_at "rd"
      exact ⟨⟨_, _, rfl⟩, e1.trans sT, sT _ _ e2, g, (e3.same sT).mono (Nat.le_succ _), keep (fun _ _ _ z => nomatch z)⟩
    | num k =>
      subst f3
      refine isi_it ?_
      walk_at "rd"
      exact ⟨⟨_, _, rfl⟩, e1.trans sT, sT _ _ e2, g, (e3.same sT).mono (Nat.le_succ _), keep (fun _ _ _ z => nomatch z)⟩
    | is n a c =>
      obtain ⟨t, rfl, ht⟩ := f3
      have ht2 := Same.sqt (e1.trans sT) ht
      refine isi_tt ht2 ?_
      walk_at "rd"
      refine g_ixT 0 ht2 rfl rfl ?_
      walk_at "rd"
      refine g_dT rfl ?_
      walk_at "rd"
      refine g_ixT 1 ht2 rfl rfl ?_
      walk_at "rd"
      refine g_ixT 2 ht2 rfl rfl ?_
      walk_at "rd"
      refine ⟨(by show 2 ≤ sizeLine; decide), fun p hp => ?_⟩
      have s5 := same_new hp (.tup [vn n, vn a])
      walk_at "rd"
      refine (e3.same (sT.trans s5)).put (i0 := n) (j0 := a) (v := i) upd_same (by omega) fun o ho => ?_
      walk_at "rd"
      refine ⟨⟨_, _, rfl⟩, Same.putNew ((e1.trans sT).trans s5) nD, by rw [upd_ne nlD]; exact (sT.trans s5) _ _ e2, _, ho, fun q n' a' c' hq hqq => ?_⟩
      show (if (n', a') = (n, a) then some i else g (n', a')) = _
      by_cases e : (n', a') = (n, a)
      · rw [if_pos e]
        injection e with ea eb
        subst ea
        subst eb
        exact congrArg some (stO_is (by omega) hz hri)
      · rw [if_neg e]
        by_cases eq : q = i
        · subst eq
          rw [hri] at hqq
          injection hqq with hqq
          injection hqq with ea eb
          exact absurd (by rw [ea, eb]) e
        · exact e4 q n' a' c' (by omega) hqq
    | to n a =>
      obtain ⟨t, rfl, ht⟩ := f3
      have ht2 := Same.sqt (e1.trans sT) ht
      refine isi_tt ht2 ?_
      walk_at "rd"
      refine g_ixT 0 ht2 rfl rfl ?_
      walk_at "rd"
      refine g_dF (sne "to" "is") ?_
      walk_at "rd"
      exact ⟨⟨_, _, rfl⟩, e1.trans sT, sT _ _ e2, g, (e3.same sT).mono (Nat.le_succ _), keep (fun _ _ _ z => nomatch z)⟩
  · rintro σ H3 ⟨⟨x6, x7, rfl⟩, e1, e2, g, e3, e4⟩
    rw [hacl] at e3 e4
    have e5 : ∀ (q n a c : Nat), (puL ss gs 0)[q]? = some (.is n a c) → g (n, a) = some (stO ss gs n + a) := fun q n a c h => e4 q n a c (List.getElem?_eq_some_iff.mp h).1 h
    have nl : H1 l0 = none := hl0
    walk_at "rd"
    refine ⟨la, _, rfl, SqL.of (e1 _ _ r2), for_it walk_enum (fun i σ H' => (∃ x6 x7, σ = [some v, some (.ref ga), some (.ref bf), some (.ref la), some (.ref l0), some (.ref Dd), x6, x7]) ∧ Same H1 H' ∧ H' l0 = some (.lst (((flO bef ss gs).take i).map vn)) ∧ DT2 H' Dd g (puL ss gs 0).length)
      ⟨⟨_, _, rfl⟩, e1, e2, e3⟩ (fun i σ H' _ z => SqL.of (z.2.1 _ _ r2)) ?_ ?_⟩
    · rintro i x σ H4 H5 hi ⟨⟨x6, x7, rfl⟩, h1, h2, h3⟩ ⟨T1, y1, y2, rfl, nT, rfl, g1, g2⟩
      cases Option.some.inj g1
      obtain ⟨dd, f1, f2⟩ := r3.get g2
      rw [List.getElem?_map] at f1
      obtain ⟨r, hri, rfl⟩ := Option.map_eq_some_iff.mp f1
      have f3 := rw_tp f2
      have sT := same_new nT (.tup [V.int (i : Int), y2])
      have hfi := flO_get (bef := bef) hri
      have hil : i < (puL ss gs 0).length := (List.getElem?_eq_some_iff.mp hri).1
      have htl : (((flO bef ss gs).take i).map vn).length ≤ 1000 := by
        rw [List.length_map, List.length_take]
        omega
      have fin : ∀ (x6 x7 : Option V) (H6 : Hp) (z : V), Same H4 H6 → z = vn (clO bef (stO ss gs) i r) → (∃ x6' x7', [some v, some (.ref ga), some (.ref bf), some (.ref la), some (.ref l0), some (.ref Dd), x6, x7] = [some v, some (.ref ga), some (.ref bf), some (.ref la), some (.ref l0), some (.ref Dd), x6', x7']) ∧ Same H1 (upd H6 l0 (.lst (((flO bef ss gs).take i).map vn ++ [z]))) ∧ (upd H6 l0 (.lst (((flO bef ss gs).take i).map vn ++ [z]))) l0 = some (.lst (((flO bef ss gs).take (i + 1)).map vn)) ∧ DT2 (upd H6 l0 (.lst (((flO bef ss gs).take i).map vn ++ [z]))) Dd g (puL ss gs 0).length := by
        intro x6 x7 H6 z t1 t2
        refine ⟨⟨_, _, rfl⟩, Same.putNew (h1.trans t1) nl, ?_, (h3.same t1).at (upd_ne nlD.symm)⟩
        rw [upd_same, take_snoc hfi, List.map_append, t2]
        rfl
      refine g_tupT (SqT.of upd_same) rfl ?_
      walk_at "rd"
      cases r with
      | non =>
        subst f3
        refine g_dT rfl ?_
        walk_at "rd"
        refine ⟨ty_l (SqL.of (sT _ _ h2)), ?_⟩
        walk_at "rd"
        have hbf4 : SqL K (upd H4 T1 (.tup [V.int (i : Int), V.non])) bf (bef.map vn) := SqL.of ((((s1.trans s2).trans h1).trans sT) _ _ hbf)
        refine ⟨bf, _, rfl, .inl hbf4, ?_⟩
        walk_at "rd"
        rw [List.length_map]
        refine g_ite (fun hlt => ?_) (fun hlt => ?_)
        · have hlt : i < bef.length := by omega
          walk_at "rd"
          refine .inl (g_ixL i hbf4 rfl (by rw [List.getElem?_map, List.getElem?_eq_getElem hlt]; rfl) ?_)
          walk_at "rd"
          refine g_app (sT _ _ h2) htl ?_
          exact fin _ _ _ _ sT (by show vn _ = vn (bef.getD i 0); rw [List.getD_eq_getElem?_getD, List.getElem?_eq_getElem hlt]; rfl)
        · have hlt : bef.length ≤ i := by omega
          walk_at "rd"
          refine g_app (sT _ _ h2) htl ?_
          exact fin _ _ _ _ sT (by show _ = vn (bef.getD i 0); rw [List.getD_eq_getElem?_getD, List.getElem?_eq_none hlt]; rfl)
      | num k =>
        subst f3
        refine g_dF (fun z => nomatch (show V.int (k : Int) = V.non from z)) ?_
        walk_at "rd"
        refine ⟨ty_l (SqL.of (sT _ _ h2)), ?_⟩
        walk_at "rd"
        refine g_app (sT _ _ h2) htl ?_
        exact fin _ _ _ _ sT rfl
      | is n a c =>
        obtain ⟨t, rfl, ht⟩ := f3
        have ht2 := Same.sqt (h1.trans sT) ht
        refine g_dF (fun z => nomatch z) ?_
        walk_at "rd"
        refine isi_tt ht2 ?_
        walk_at "rd"
        refine ⟨ty_l (SqL.of (sT _ _ h2)), ?_⟩
        walk_at "rd"
        refine g_ixT 0 ht2 rfl rfl ?_
        walk_at "rd"
        refine g_dT rfl ?_
        walk_at "rd"
        refine g_ixT 3 ht2 rfl rfl ?_
        walk_at "rd"
        refine g_app (sT _ _ h2) htl ?_
        exact fin _ _ _ _ sT rfl
      | to n a =>
        obtain ⟨t, rfl, ht⟩ := f3
        have ht2 := Same.sqt (h1.trans sT) ht
        obtain ⟨c, htc⟩ := to_in htg (by omega) hz hri
        refine g_dF (fun z => nomatch z) ?_
        walk_at "rd"
        refine isi_tt ht2 ?_
        walk_at "rd"
        refine ⟨ty_l (SqL.of (sT _ _ h2)), ?_⟩
        walk_at "rd"
        refine g_ixT 0 ht2 rfl rfl ?_
        walk_at "rd"
        refine g_dF (sne "to" "is") ?_
        walk_at "rd"
        refine g_ixT 1 ht2 rfl rfl ?_
        walk_at "rd"
        refine g_ixT 2 ht2 rfl rfl ?_
        walk_at "rd"
        refine ⟨(by show 2 ≤ sizeLine; decide), fun p hp => ?_⟩
        have s5 := same_new hp (.tup [vn n, vn a])
        walk_at "rd"
        have hget := (h3.same (sT.trans s5)).get (i := n) (j := a) upd_same
        rw [e5 _ _ _ _ htc] at hget
        refine ⟨Dd, _, rfl, hget, ?_⟩
        walk_at "rd"
        refine g_app ((sT.trans s5) _ _ h2) htl ?_
        exact fin _ _ _ _ (sT.trans s5) rfl
    · rintro σ H4 ⟨⟨x6, x7, rfl⟩, h1, h2, h3⟩
      rw [hacl, ← flO_len (bef := bef), List.take_length] at h2
      walk_at "rd"
      refine ⟨l0, _, rfl, .inl ⟨SqL.of h2, fun t ht => ?_⟩⟩
      have s9 := same_new ht (.tup ((flO bef ss gs).map vn))
      exact q t _ (((s1.trans s2).trans h1).trans s9) upd_same
end
end Bx

namespace Bx
/-- a shape that the law uses -/
structure DrS (ss : List Sh) : Prop where
  ne : ss ≠ []
  nb : (allL ss).length ≤ 6
  ln : lnL ss ≤ 24
  dp : dpsL ss ≤ 2
  sm : ∀ s ∈ allL ss, smSh s
  tg : ∀ t ∈ tgsL (allL ss), ∃ m, (lens (allL ss))[t.1]? = some m ∧ t.2 < m
theorem DrS.ok {ss : List Sh} (h : DrS ss) : OkS ss := ⟨h.ne, h.nb, Nat.le_trans h.ln (by decide), h.dp, fun s hs => smSh_it (h.sm s hs), h.tg⟩
theorem sum_le5 : ∀ (l : List Sh), (∀ s ∈ l, smSh s) → (l.map cn2).sum ≤ 5 * l.length
  | [], _ => Nat.zero_le _
  | s :: r, h => by
    have h1 := sum_le5 r fun x hx => h x (List.mem_cons_of_mem _ hx)
    have h2 : cn2 s ≤ 5 := by
      have := h s List.mem_cons_self
      cases s with
      | dat c => have : c.length ≤ 3 := this.1
                 show 2 + c.length ≤ 5
                 omega
      | tab t => have : t.length ≤ 2 := this
                 show 2 + t.length ≤ 5
                 omega
      | grp _ => exact (by decide : 2 ≤ 5)
    rw [List.map_cons, List.sum_cons, List.length_cons]
    omega
theorem ShOk.drs {m : Nat} {ss : List Sh} (h : ShOk m ss) (h1 : 1 ≤ m) (h2 : (allL ss).length ≤ 6) (h3 : lnL ss ≤ 24) : DrS ss := ⟨fun e => by have := h.len; rw [e] at this; have : 0 = m := this; omega, h2, h3, h.dp, h.sm, h.tg⟩
theorem ShOk.drs1 {ss : List Sh} (h : ShOk 1 ss) : DrS ss := by
  have h1 := h.nb
  refine h.drs (Nat.le_refl _) (by omega) ?_
  rw [cn2_L]
  have := sum_le5 _ h.sm
  omega
structure DrOk (s : Nat) (ss : List Sh) (gs bef : List Nat) : Prop where
  sh : DrS ss
  len : gs.length = gpL ss
  zz : zz gs
  sum : gs.sum ≤ s
  bf : ∀ x ∈ bef, x ≤ 4
section
variable {P : Program} {w : World} {K : PySem.W.Frag} {mg : Str → Option Value} {base : Heap} {C CB : Addr} {H : Hp} {Q : VK}
def spLDrawn (K : PySem.W.Frag) : Sp := fun vs H Q _ => ∃ (S : Addr) (ns : List Int) (k m s : Nat), vs = [.ref S, .int (k : Int), vn m, vn s] ∧ Scr K H S ns ∧ k ≤ 70000 ∧ 1 ≤ m ∧ m ≤ 10 ∧ s < 6 ∧
  ∀ (ss : List Sh) (gs bef : List Nat) (sh fl t : Addr) (H' : Hp), DrOk s ss gs bef → Same H H' → H' t = some (.tup [.ref sh, .ref fl]) → Tp K H' (.ref sh) (.tuple (shL ss)) → H' fl = some (.tup ((flO bef ss gs).map vn)) → Q (.ref t) H'
theorem ok_lDrawn {f : Addr} {fd : FuncData} (F : Def K mg "_law_drawn" sLDrawn f fd) (b : Binds K fd ["_law_script", "_law_index", "_law_many_here", "_law_spare"] []) (T : Txt mg) (C_lNumber : Cal P w K mg base 1 "_law_number" (spNum K) []) (C_lShape : Cal P w K mg base 7 "_law_shape" (spLShape K) []) (C_lFlat : Cal P w K mg base 5 "_law_flat" (spLFlat K 4) []) (C_lLength : Cal P w K mg base 6 "_law_length" (spLLength K) []) (C_lSizes : Cal P w K mg base 6 "_law_sizes" (spLSizes K) []) (C_lFile : Cal P w K mg base 6 "_law_file" (spLFile K) []) : Cal P w K mg base 8 "_law_drawn" (spLDrawn K) [] := by
  refine cal0 F b .nil scLDrawn (fun vs H Q E h => ?_) (fun cdv A outer s H vs Q E hr h => ?_)
  · obtain ⟨S, ns, k, m, s, rfl, _⟩ := h
    rfl
  obtain ⟨S, ns, k, m, sp, rfl, hS, hk, hm1, hm, hsp, q⟩ := h
  refine ⟨_, (pss_cons (ps_set (i := 4) scLDrawn.nd rfl (Or.inl rfl) (pe_c C_lShape hr (by decide) rfl (pa_cons (pv 0) (pa_cons (pv 1) (pa_cons (pv 2) pa_nil)))))
    (pss_cut (ps_if (PW.pt (pw_or (pt_cmpR op_gt (pe_callB call_len_seq (by rfl) T.len b_len (pa_cons (pe_c C_lFlat hr (by decide) rfl (pa_cons (pv 4) pa_nil)) pa_nil)) pe_int (nomark _)) (pw_or1 (pt_cmpR op_gt (pe_c C_lLength hr (by decide) rfl (pa_cons (pv 4) pa_nil)) pe_int (nomark _))))) 
      (pss_one (ps_set (i := 4) scLDrawn.nd rfl (Or.inl rfl) (pe_c C_lShape hr (by decide) rfl (pa_cons (pv 0) (pa_cons (pv 1) (pa_cons pe_int pa_nil)))))) pss_nil)
    (pss_cons (ps_set (i := 5) scLDrawn.nd rfl (Or.inl rfl) (pe_c C_lSizes hr (by decide) rfl (pa_cons (pv 4) (pa_cons (pv 3) pa_nil))))
    (pss_cons (ps_setLc (i := 6) (own := [("_law_at", 7)]) rfl scLDrawn.nd rfl rfl (sw_true rfl rfl rfl (by decide +kernel)) (pi_range1 (by rfl) T.range (pa_cons pe_int pa_nil)) (blkOk_by (own := [("_law_at", 7)]) (N := NLDrawn) (sc := (fnScope sLDrawn)) (by decide +kernel)) (fun _ _ _ _ _ => (pg_name (i := 7) scLDrawn.nd rfl (.inl rfl))) (fun _ _ _ _ _ => pts_nil) (fun _ _ _ _ _ => (pe_op op_mod (pe_callTy call_int1 (by rfl) T.int b_int (pa_cons (pe_c C_lNumber hr (by decide) rfl (pa_cons (pv 0) (pa_cons (pe_op op_add (pe_op op_add (pv 1) pe_int) (pv 7)) pa_nil))) pa_nil)) pe_int)))
    (pss_one (ps_ret (pe_tup (pa_cons (pv 4) (pa_cons (pe_c C_lFile hr (by decide) rfl (pa_cons (pv 4) (pa_cons (pe_ix ix_list (pv 5) (pe_op op_mod (pe_callTy call_int1 (by rfl) T.int b_int (pa_cons (pe_c C_lNumber hr (by decide) rfl (pa_cons (pv 0) (pa_cons (pe_op op_add (pv 1) pe_int) pa_nil))) pa_nil)) (pe_callB call_len_seq (by rfl) T.len b_len (pa_cons (pv 5) pa_nil))) (fun _ _ => rfl)) (pa_cons (pv 6) pa_nil)))) pa_nil))))))))), ?_⟩
  walk_at "rd"
  refine ⟨S, ns, k, m, rfl, hS, by omega, by omega, fun s0 a H1 ok0 s1 hv => ?_⟩
  have hd0 := ok0.dp
  have hn0 := ok0.nb
  walk_at "rd"
  refine ⟨fun σ' H' => ∃ (a : Addr) (ss : List Sh), σ' = [some (.ref S), some (.int (k : Int)), some (vn m), some (vn sp), some (.ref a), none, none, none] ∧ Same H H' ∧ DrS ss ∧ Tp K H' (.ref a) (.tuple (shL ss)), ?_, ?_⟩
  · walk_at "rd"
    refine ⟨.ref a, toGL s0, rfl, by rw [toGL_D]; exact hv, by rw [toGL_dp]; omega, by rw [toGL_fl, List.length_map]; omega, fun fa acc H2 s2 hn2 h1 h2 => ?_⟩
    rw [toGL_fl] at h2
    have hal : acc.length = (allL s0).length := by rw [h2.length, List.length_map, List.length_map]
    walk_at "rd"
    refine ⟨_, _, rfl, .inl (SqL.of h1), ?_⟩
    rw [hal]
    walk_at "rd"
    refine g_ite (fun hb => ?_) (fun hb => ?_)
    · walk_at "rd"
      refine ⟨S, ns, k, 1, rfl, hS.same (s1.trans s2), by omega, by decide, fun s3 a3 H3 ok3 t3 hv3 => ?_⟩
      walk_at "rd"
      exact ⟨a3, s3, rfl, (s1.trans s2).trans t3, ok3.drs1, hv3⟩
    · walk_at "rd"
      refine ⟨.ref a, s0, rfl, hv.same s2, by omega, by omega, fun H3 t3 => ?_⟩
      walk_at "rd"
      refine g_ite (fun hc => ?_) (fun hc => ?_)
      · walk_at "rd"
        refine ⟨S, ns, k, 1, rfl, hS.same ((s1.trans s2).trans t3), by omega, by decide, fun s4 a4 H4 ok4 t4 hv4 => ?_⟩
        walk_at "rd"
        exact ⟨a4, s4, rfl, ((s1.trans s2).trans t3).trans t4, ok4.drs1, hv4⟩
      · walk_at "rd"
        exact ⟨a, s0, rfl, (s1.trans s2).trans t3, ok0.drs hm1 (by omega) (by omega), hv.same (s2.trans t3)⟩
  · rintro σ H1 ⟨a, ss, rfl, s1, hO, hv⟩
    have o1 := hO.dp
    have o2 := hO.nb
    have o3 := hO.ln
    walk_at "rd"
    refine ⟨.ref a, ss, sp, rfl, hv, by omega, o2, hsp, fun l xs H2 s2 hn2 hl hX => ?_⟩
    walk_at "rd"
    refine ⟨30, rfl, by decide, by decide, fun D hD => ?_⟩
    refine lc_it walk_range (fun j H' => Same H2 H' ∧ ∃ bs : List Nat, H' D = some (.lst (bs.map vn)) ∧ bs.length = j ∧ ∀ x ∈ bs, x ≤ 4) ⟨same_new hD _, [], upd_same, rfl, fun x hx => absurd hx List.not_mem_nil⟩ (fun _ _ _ _ => True.intro) ?_ ?_
    · rintro j x H3 H4 hj ⟨s3, bs, e1, e2, e3⟩ ⟨rfl, rfl⟩
      have hj : j < 30 := hj
      walk_at "rd"
      refine ⟨rfl, ?_⟩
      walk_at "rd"
      refine ⟨S, ns, k + 60 + j, congrArg (fun z => [V.ref S, V.int z]) (by omega), hS.same ((s1.trans s2).trans s3), by omega, fun z H5 hz s5 => ?_⟩
      walk_at "rd"
      refine g_I (by show (0 : Int) < _; decide) ?_
      have a1 := Int.emod_nonneg z (show (5 : Int) ≠ 0 by decide)
      have a2 := Int.emod_lt_of_pos z (show (0 : Int) < 5 by decide)
      obtain ⟨n, hn⟩ : ∃ n : Nat, (n : Int) = z % 5 := ⟨(z % 5).toNat, Int.toNat_of_nonneg a1⟩
      rw [← hn]
      refine ⟨_, s5 _ _ e1, small1000 (by rw [List.length_map]; omega), Same.putNew (s3.trans s5) hD, bs ++ [n], by rw [upd_same, List.map_append]; rfl, by rw [List.length_append, e2]; rfl, fun y hy => ?_⟩
      rcases List.mem_append.mp hy with hy | hy
      · exact e3 y hy
      · rw [List.mem_singleton.mp hy]
        omega
    · rintro H3 ⟨s3, bs, e1, e2, e3⟩
      have e2 : bs.length = 30 := e2
      walk_at "rd"
      refine ⟨S, ns, k + 50, congrArg (fun z => [V.ref S, V.int z]) (by omega), hS.same ((s1.trans s2).trans s3), by omega, fun z H4 hz s4 => ?_⟩
      have S4 := s3.trans s4
      walk_at "rd"
      refine ⟨_, _, rfl, .inl (SqL.of (S4 _ _ hl)), ?_⟩
      have hxl : xs.length = (szG (gpL ss) sp).length := by rw [hX.length, List.length_map]
      have hxp : 0 < xs.length := by
        rw [hxl]
        exact List.length_pos_iff.mpr (szG_ne _ _)
      walk_at "rd"
      have hx0 : (0 : Int) < (xs.length : Int) := by omega
      refine g_I hx0 ?_
      have a1 := Int.emod_nonneg z (show (xs.length : Int) ≠ 0 by omega)
      have a2 := Int.emod_lt_of_pos z hx0
      obtain ⟨n, hn⟩ : ∃ n : Nat, (n : Int) = z % (xs.length : Int) := ⟨(z % (xs.length : Int)).toNat, Int.toNat_of_nonneg a1⟩
      rw [← hn] at a2 ⊢
      have hnl : n < xs.length := by omega
      refine g_ixL n (SqL.of (S4 _ _ hl)) rfl (List.getElem?_eq_getElem hnl) ?_
      obtain ⟨dd, f1, f2⟩ := hX.get (List.getElem?_eq_getElem hnl)
      rw [List.getElem?_map] at f1
      obtain ⟨gs, hgs, rfl⟩ := Option.map_eq_some_iff.mp f1
      obtain ⟨g1, g2, g3⟩ := mem_szG (List.mem_of_getElem? hgs)
      obtain ⟨ga, hga, hgt⟩ := gpD_inv (f2.same S4)
      rw [hga]
      walk_at "rd"
      refine ⟨.ref a, ga, D, ss, gs, bs, rfl, hv.same (s2.trans S4), o1, by omega, hO.tg, SqT.of hgt, g1, g2, by omega, s4 _ _ e1, by omega, fun fl H5 s5 hfl => ?_⟩
      walk_at "rd"
      refine ⟨(by show 2 ≤ sizeLine; decide), fun t ht => ?_⟩
      have s6 := same_new ht (.tup [.ref a, .ref fl])
      exact q ss gs bs a fl t _ ⟨hO, g1, g2, g3, e3⟩ (((s1.trans s2).trans S4).trans (s5.trans s6)) upd_same (hv.same ((s2.trans S4).trans (s5.trans s6))) (s6 _ _ hfl)
end
end Bx

namespace Bx
mutual
def tlB (cs : List Nat) : Bo → Nat → Prop
  | .bx k p l ks, b => p = b ∧ 2 ≤ l ∧ cel cs p = k ∧ cel cs (p + 1) = l ∧ (k = 1 → tlL cs ks (p + 2) (p + l)) ∧ (k ≠ 1 → ks = [])
def tlL (cs : List Nat) : List Bo → Nat → Nat → Prop
  | [], b, e => b = e
  | x :: r, b, e => tlB cs x b ∧ tlL cs r (b + cel cs (b + 1)) e
end
theorem prs_tl : ∀ (f : Nat) (cs : List Nat) (a e dp : Nat) (bs : List Bo), prs f cs a e dp = .ok bs → e - a < f → a ≤ e → tlL cs bs a e
  | 0, _, _, _, _, _, _, h, _ => absurd h (Nat.not_lt_zero _)
  | f + 1, cs, a, e, dp, bs, h, hf, hae => by
    rcases prs_ok h with ⟨hl, rfl⟩ | ⟨hl, q, ks, r, i, j, rfl⟩
    · rw [tlL]
      omega
    · obtain ⟨q1, q2, q3, q4, q5, q6⟩ := hd_none q
      have hr := prs_tl f cs _ e dp r j (by omega) (by omega)
      rw [tlL, tlB]
      refine ⟨⟨rfl, q5, rfl, rfl, fun g => ?_, fun g => ?_⟩, hr⟩
      · rw [if_pos g] at i
        exact prs_tl f cs _ _ _ ks i (by omega) (by omega)
      · rw [if_neg g] at i
        cases i
        rfl
/-- the ends of the groups -/
def eds (cs hs : List Nat) : List Nat := (hs.filter (isK cs 1)).map fun g => g + cel cs (g + 1)
theorem eds_app (cs a b : List Nat) : eds cs (a ++ b) = eds cs a ++ eds cs b := by
  unfold eds
  rw [List.filter_append, List.map_append]
theorem eds_cons (cs : List Nat) (p : Nat) (r : List Nat) : eds cs (p :: r) = (if cel cs p = 1 then [p + cel cs (p + 1)] else []) ++ eds cs r := by
  unfold eds isK
  rw [List.filter_cons]
  by_cases h : cel cs p = 1
  · rw [if_pos h, if_pos (by rw [decide_eq_true h])]
    rfl
  · rw [if_neg h, if_neg (by rw [decide_eq_false h]; exact Bool.false_ne_true)]
    rfl
mutual
theorem tl_eds1 {cs : List Nat} : ∀ (x : Bo) (b : Nat), tlB cs x b → ∀ y ∈ eds cs (hsB x), b + 2 ≤ y ∧ y ≤ b + cel cs (b + 1)
  | .bx k p l ks, b, h, y, hy => by
    rw [tlB] at h
    obtain ⟨rfl, h2, h3, h4, h5, h6⟩ := h
    rw [hsB, eds_cons] at hy
    rcases List.mem_append.mp hy with hy | hy
    · split at hy
      · rw [List.mem_singleton.mp hy]
        omega
      · exact absurd hy List.not_mem_nil
    · by_cases hk : k = 1
      · have := tl_eds ks _ _ (h5 hk) y hy
        omega
      · rw [h6 hk, hsL] at hy
        exact absurd hy List.not_mem_nil
theorem tl_eds {cs : List Nat} : ∀ (bs : List Bo) (b e : Nat), tlL cs bs b e → ∀ y ∈ eds cs (hsL bs), b + 2 ≤ y ∧ y ≤ e
  | [], b, e, h, y, hy => absurd hy List.not_mem_nil
  | x :: r, b, e, h, y, hy => by
    rw [tlL] at h
    have hle := tl_le1 x b h.1
    have hle2 := tl_le r _ e h.2
    rw [hsL, eds_app] at hy
    rcases List.mem_append.mp hy with hy | hy
    · have := tl_eds1 x b h.1 y hy
      omega
    · have := tl_eds r _ e h.2 y hy
      omega
theorem tl_le1 {cs : List Nat} : ∀ (x : Bo) (b : Nat), tlB cs x b → 2 ≤ cel cs (b + 1)
  | .bx k p l ks, b, h => by
    rw [tlB] at h
    obtain ⟨rfl, h2, h3, h4, h5, h6⟩ := h
    omega
theorem tl_le {cs : List Nat} : ∀ (bs : List Bo) (b e : Nat), tlL cs bs b e → b ≤ e
  | [], b, e, h => by
    rw [tlL] at h
    omega
  | x :: r, b, e, h => by
    rw [tlL] at h
    have := tl_le r _ e h.2
    omega
end
/-- the free box at the front -/
def spr : List Bo → Nat
  | .bx k _ l _ :: _ => if k = 3 then l else 0
  | [] => 0
mutual
/-- what the law looks up: place, size and spare cells -/
def lk1 : Bo → List Bo → List (Nat × Nat × Nat)
  | .bx k p l ks, r => if k = 1 then lkL ks else if k = 2 then [(p, l - 2, spr r)] else []
def lkL : List Bo → List (Nat × Nat × Nat)
  | [] => []
  | x :: r => lk1 x r ++ lkL r
end
mutual
def en1 : Bo → List Nat
  | .bx k p l ks => if k = 1 then enL ks else if k = 4 then (List.range (l - 2)).map fun i => p + 2 + i else []
def enL : List Bo → List Nat
  | [] => []
  | x :: r => en1 x ++ enL r
end
theorem ens_app (cs a b : List Nat) : ens cs (a ++ b) = ens cs a ++ ens cs b := by
  unfold ens
  rw [List.filter_append, List.map_append, List.flatten_append]
mutual
theorem en_ens1 {cs : List Nat} : ∀ (x : Bo) (b : Nat), tlB cs x b → en1 x = ens cs (hsB x)
  | .bx k p l ks, b, h => by
    rw [tlB] at h
    obtain ⟨rfl, h2, h3, h4, h5, h6⟩ := h
    rw [en1, hsB, show p :: hsL ks = [p] ++ hsL ks from rfl, ens_app]
    have e1 : ens cs [p] = if cel cs p = 4 then plc (row cs p) else [] := by
      unfold ens isK
      by_cases h : cel cs p = 4
      · rw [if_pos h, List.filter_cons, if_pos (by rw [decide_eq_true h])]
        simp
      · rw [if_neg h, List.filter_cons, if_neg (by rw [decide_eq_false h]; exact Bool.false_ne_true)]
        rfl
    rw [e1, h3]
    by_cases hk : k = 1
    · rw [if_pos hk, if_neg (by omega), en_ens ks _ _ (h5 hk)]
      rfl
    · rw [if_neg hk, h6 hk, hsL]
      have e2 : ens cs [] = [] := rfl
      rw [e2, List.append_nil]
      by_cases h4k : k = 4
      · rw [if_pos h4k, if_pos h4k]
        unfold plc row
        dsimp only
        rw [h4]
      · rw [if_neg h4k, if_neg h4k]
theorem en_ens {cs : List Nat} : ∀ (bs : List Bo) (b e : Nat), tlL cs bs b e → enL bs = ens cs (hsL bs)
  | [], b, e, h => rfl
  | x :: r, b, e, h => by
    rw [tlL] at h
    rw [enL, hsL, ens_app, en_ens1 x b h.1, en_ens r _ e h.2]
end
mutual
theorem lk_hs1 {cs : List Nat} : ∀ (x : Bo) (r : List Bo) (b : Nat), tlB cs x b → (lk1 x r).map (·.1) = (hsB x).filter (isK cs 2)
  | .bx k p l ks, r, b, h => by
    rw [tlB] at h
    obtain ⟨rfl, h2, h3, h4, h5, h6⟩ := h
    rw [lk1, hsB, List.filter_cons]
    by_cases hk : k = 1
    · rw [if_pos hk, if_neg (by unfold isK; rw [decide_eq_false (by omega)]; exact Bool.false_ne_true), lk_hs ks _ _ (h5 hk)]
    · rw [if_neg hk, h6 hk, hsL, List.filter_nil]
      by_cases hk2 : k = 2
      · rw [if_pos hk2, if_pos (by unfold isK; rw [decide_eq_true (by omega)])]
        rfl
      · rw [if_neg hk2, if_neg (by unfold isK; rw [decide_eq_false (by omega)]; exact Bool.false_ne_true)]
        rfl
theorem lk_hs {cs : List Nat} : ∀ (bs : List Bo) (b e : Nat), tlL cs bs b e → (lkL bs).map (·.1) = (hsL bs).filter (isK cs 2)
  | [], b, e, h => rfl
  | x :: r, b, e, h => by
    rw [tlL] at h
    rw [lkL, hsL, List.map_append, List.filter_append, lk_hs1 x r b h.1, lk_hs r _ e h.2]
end
/-- the spare cells behind a box that ends at y, as they are found in the cells -/
def spA (cs : List Nat) (x : Nat × Nat × Nat) (y : Nat) (b e : Nat) (ed : List Nat) : Prop :=
  b + 2 ≤ y ∧ y + x.2.2 ≤ e ∧ ((x.2.2 = 0 ∧ (y = e ∨ y ∈ ed)) ∨ (y + 2 ≤ e ∧ y ∉ ed ∧ x.2.2 = if cel cs y = 3 then cel cs (y + 1) else 0))
/-- what a data box of the law's is -/
def lkOk (cs : List Nat) (x : Nat × Nat × Nat) (b e : Nat) (ed : List Nat) : Prop :=
  b ≤ x.1 ∧ cel cs x.1 = 2 ∧ cel cs (x.1 + 1) = x.2.1 + 2 ∧ spA cs x (x.1 + cel cs (x.1 + 1)) b e ed
theorem spr_tl {cs : List Nat} {r : List Bo} {b e : Nat} (h : tlL cs r b e) : (r = [] ∧ b = e ∧ spr r = 0) ∨ (b + 2 ≤ e ∧ b + spr r ≤ e ∧ spr r = if cel cs b = 3 then cel cs (b + 1) else 0) := by
  cases r with
  | nil =>
    rw [tlL] at h
    exact .inl ⟨rfl, h, rfl⟩
  | cons x r =>
    rw [tlL] at h
    have h1 := tl_le1 x b h.1
    have h2 := tl_le r _ e h.2
    refine .inr ⟨by omega, ?_⟩
    cases x with
    | bx k p l ks =>
      have h3 := h.1
      rw [tlB] at h3
      obtain ⟨rfl, h5, h3, h4, _⟩ := h3
      rw [spr, h3, h4]
      refine ⟨?_, rfl⟩
      split
      · omega
      · omega
mutual
theorem lk_ok1 {cs : List Nat} : ∀ (x : Bo) (r : List Bo) (b e : Nat), tlB cs x b → tlL cs r (b + cel cs (b + 1)) e → ∀ t ∈ lk1 x r, lkOk cs t b e (eds cs (hsB x) ++ eds cs (hsL r))
  | .bx k p l ks, r, b, e, h, hr, t, ht => by
    have hr2 := tl_eds r _ _ hr
    have hre := tl_le r _ _ hr
    rw [tlB] at h
    obtain ⟨rfl, h2, h3, h4, h5, h6⟩ := h
    rw [h4] at hr hr2 hre
    rw [lk1] at ht
    rw [hsB, eds_cons]
    by_cases hk : k = 1
    · rw [if_pos hk] at ht
      rw [if_pos (by omega), h4]
      obtain ⟨a1, a2, a3, a4, a5, a6⟩ := lk_ok ks _ _ (h5 hk) t ht
      have hks := tl_eds ks _ _ (h5 hk)
      refine ⟨by omega, a2, a3, by omega, by omega, ?_⟩
      rcases a6 with ⟨c1, c2⟩ | ⟨c1, c2, c3⟩
      · refine .inl ⟨c1, .inr (List.mem_append_left _ ?_)⟩
        rcases c2 with c2 | c2
        · rw [c2]
          exact List.mem_append_left _ List.mem_cons_self
        · exact List.mem_append_right _ c2
      · refine .inr ⟨by omega, fun hm => ?_, c3⟩
        rcases List.mem_append.mp hm with hm | hm
        · rcases List.mem_append.mp hm with hm | hm
          · have := List.mem_singleton.mp hm
            omega
          · exact c2 hm
        · have := hr2 _ hm
          omega
    · rw [if_neg hk] at ht
      rw [if_neg (by omega), h6 hk]
      by_cases hk2 : k = 2
      · rw [if_pos hk2] at ht
        rw [List.mem_singleton.mp ht]
        refine ⟨Nat.le_refl _, by show cel cs p = 2; omega, by show cel cs (p + 1) = l - 2 + 2; omega, ?_⟩
        show spA cs (p, l - 2, spr r) (p + cel cs (p + 1)) p e _
        rw [h4]
        refine ⟨by omega, ?_, ?_⟩
        · show p + l + spr r ≤ e
          rcases spr_tl hr with ⟨_, c1, c2⟩ | ⟨c1, c2, c3⟩
          · omega
          · exact c2
        rcases spr_tl hr with ⟨_, c1, c2⟩ | ⟨c1, c3, c2⟩
        · exact .inl ⟨c2, .inl c1⟩
        · refine .inr ⟨c1, fun hm => ?_, c2⟩
          rcases List.mem_append.mp hm with hm | hm
          · exact absurd hm List.not_mem_nil
          · have := hr2 _ hm
            omega
      · rw [if_neg hk2] at ht
        exact absurd ht List.not_mem_nil
theorem lk_ok {cs : List Nat} : ∀ (bs : List Bo) (b e : Nat), tlL cs bs b e → ∀ t ∈ lkL bs, lkOk cs t b e (eds cs (hsL bs))
  | [], b, e, h, t, ht => absurd ht List.not_mem_nil
  | x :: r, b, e, h, t, ht => by
    rw [tlL] at h
    have hx := tl_eds1 x b h.1
    have hl := tl_le1 x b h.1
    rw [lkL] at ht
    rw [hsL, eds_app]
    rcases List.mem_append.mp ht with ht | ht
    · exact lk_ok1 x r b e h.1 h.2 t ht
    · obtain ⟨a1, a2, a3, a4, a5, a6⟩ := lk_ok r _ _ h.2 t ht
      refine ⟨by omega, a2, a3, by omega, by omega, ?_⟩
      rcases a6 with ⟨c1, c2⟩ | ⟨c1, c2, c3⟩
      · exact .inl ⟨c1, c2.imp id fun z => List.mem_append_right _ z⟩
      · refine .inr ⟨c1, fun hm => ?_, c3⟩
        rcases List.mem_append.mp hm with hm | hm
        · have := hx _ hm
          omega
        · exact c2 hm
end
/-- the length of the free box behind a box, as the program finds it -/
def frA (cs hs : List Nat) (p : Nat) : Nat :=
  if p + cel cs (p + 1) = cs.length ∨ p + cel cs (p + 1) ∈ eds cs hs ∨ cel cs (p + cel cs (p + 1)) ≠ 3 then 0 else cel cs (p + cel cs (p + 1) + 1)
theorem frA_lk {cs : List Nat} {bs : List Bo} (h : tlL cs bs 0 cs.length) {t : Nat × Nat × Nat} (ht : t ∈ lkL bs) : frA cs (hsL bs) t.1 = t.2.2 := by
  obtain ⟨_, _, _, _, a5, a6⟩ := lk_ok bs _ _ h t ht
  unfold frA
  rcases a6 with ⟨c1, c2⟩ | ⟨c1, c2, c3⟩
  · rw [if_pos (c2.elim .inl fun z => .inr (.inl z)), c1]
  · rw [c3]
    by_cases h3 : cel cs (t.1 + cel cs (t.1 + 1)) = 3
    · rw [if_pos h3, if_neg]
      rintro (z | z | z)
      · omega
      · exact c2 z
      · exact z h3
    · rw [if_neg h3, if_pos (.inr (.inr h3))]
end Bx

namespace Bx
def lkD (x : Nat × Nat × Nat) : PyData := .tuple [.int (x.1 : Int), .int (x.2.1 : Int), .int (x.2.2 : Int)]
mutual
theorem lk_len1 {cs : List Nat} : ∀ (x : Bo) (r : List Bo) (b : Nat), tlB cs x b → (lk1 x r).length + (en1 x).length ≤ cel cs (b + 1)
  | .bx k p l ks, r, b, h => by
    rw [tlB] at h
    obtain ⟨rfl, h2, h3, h4, h5, h6⟩ := h
    rw [lk1, en1, h4]
    by_cases hk : k = 1
    · rw [if_pos hk, if_pos hk]
      have := lk_len ks _ _ (h5 hk)
      omega
    · rw [if_neg hk, if_neg hk]
      by_cases hk2 : k = 2
      · rw [if_pos hk2, if_neg (by omega)]
        show 1 + 0 ≤ l
        omega
      · rw [if_neg hk2]
        split
        · rw [List.length_map, List.length_range]
          show 0 + _ ≤ l
          omega
        · exact Nat.zero_le _
theorem lk_len {cs : List Nat} : ∀ (bs : List Bo) (b e : Nat), tlL cs bs b e → (lkL bs).length + (enL bs).length + b ≤ e
  | [], b, e, h => by
    rw [tlL] at h
    rw [lkL, enL]
    show 0 + 0 + b ≤ e
    omega
  | x :: r, b, e, h => by
    rw [tlL] at h
    have h1 := lk_len1 x r b h.1
    have h2 := lk_len r _ e h.2
    rw [lkL, enL, List.length_append, List.length_append]
    omega
end
section
variable {P : Program} {w : World} {K : PySem.W.Frag} {mg : Str → Option Value} {base : Heap} {C CB : Addr} {H : Hp} {Q : VK}
def spLLooked (K : PySem.W.Frag) (m : Nat) : Sp := fun vs H Q _ => ∃ (a : Addr) (cs : List Nat) (b e : Nat) (bs : List Bo), vs = [.ref a, vn b, vn e] ∧ Cells K H a cs ∧ e ≤ cs.length ∧ tlL cs bs b e ∧ depL bs < m ∧
  ∀ (t fl el : Addr) (fx : List V) (H' : Hp), Same H H' → H' t = some (.tup [.ref fl, .ref el]) → H' fl = some (.lst fx) → TpAll K H' fx ((lkL bs).map lkD) → H' el = some (.lst ((enL bs).map vn)) → Q (.ref t) H'
theorem ok_lLooked {f : Addr} {fd : FuncData} (F : Def K mg "_law_looked" sLLooked f fd) (b : Binds K fd ["_law_cells", "_law_begin", "_law_end"] []) (T : Txt mg) : ∀ m : Nat, Cal P w K mg base (m + 1) "_law_looked" (spLLooked K m) []
  | 0 => by
    refine cal0 F b .nil scLLooked (fun vs H Q E h => ?_) (fun cdv A outer s H vs Q E hr h => ?_)
    · obtain ⟨a, cs, b, e, bs, rfl, _⟩ := h
      rfl
    · obtain ⟨a, cs, b, e, bs, rfl, _, _, _, h, _⟩ := h
      omega
  | m + 1 => by
    have C_lLooked := ok_lLooked F b T m
    refine cal0 F b .nil scLLooked (fun vs H Q E h => ?_) (fun cdv A outer s H vs Q E hr h => ?_)
    · obtain ⟨a, cs, b, e, bs, rfl, _⟩ := h
      rfl
    obtain ⟨a, cs, b0, e, bs, rfl, hC, he, hT, hd, q⟩ := h
    have hll := lk_len bs _ _ hT
    have hcl := hC.len
    refine ⟨_, (pss_cons (ps_par3 (i := 3) (j := 4) (l := 5) (by rfl) scLLooked.nd rfl rfl rfl (by decide) (by decide) (by decide) rfl rfl rfl (pa_cons (pe_lst pa_nil) (pa_cons (pe_lst pa_nil) (pa_cons (pv 1) pa_nil))) (by rfl))
    (pss_cons (ps_while PassesOwn.never (pt_cmpR op_lt (pv 5) (pv 2) (nomark _)) 
      (pss_cons (ps_par (i := 6) (j := 7) (by rfl) scLLooked.nd rfl rfl (by decide) rfl rfl (pa_cons (pe_ix ix_seq (pv 0) (pv 5) (fun _ _ => rfl)) (pa_cons (pe_ix ix_seq (pv 0) (pe_op op_add (pv 5) pe_int) (fun _ _ => rfl)) pa_nil)) (by rfl))
      (pss_cons (ps_set (i := 8) scLLooked.nd rfl (Or.inl rfl) (pe_op op_add (pv 5) (pv 7)))
      (pss_cons (ps_if (pt_cmpR op_eq (pv 6) pe_int (nomark _)) 
        (pss_cons (ps_asg (pe_c C_lLooked hr (Nat.le_refl _) rfl (pa_cons (pv 0) (pa_cons (pe_op op_add (pv 5) pe_int) (pa_cons (pv 8) pa_nil)))) (pg_tup rfl (pgs_cons (pg_name (i := 9) scLLooked.nd rfl (.inl rfl)) (pgs_cons (pg_name (i := 10) scLLooked.nd rfl (.inl rfl)) pgs_nil))))
        (pss_one (ps_par (i := 3) (j := 4) (by rfl) scLLooked.nd rfl rfl (by decide) rfl rfl (pa_cons (pe_op op_cat (pv 3) (pv 9)) (pa_cons (pe_op op_cat (pv 4) (pv 10)) pa_nil)) (by rfl)))) 
        (pss_one (ps_if (pt_cmpR op_eq (pv 6) pe_int (nomark _)) 
          (pss_cons (ps_set (i := 11) scLLooked.nd rfl (Or.inl rfl) (pe_ifExp (PW.pt (pw_and (pt_cmpR op_lt (pv 8) (pv 2) (nomark _)) (pw_and1 (pt_cmpR op_eq (pe_ix ix_seq (pv 0) (pv 8) (fun _ _ => rfl)) pe_int (nomark _))))) (pe_ix ix_seq (pv 0) (pe_op op_add (pv 8) pe_int) (fun _ _ => rfl)) pe_int))
          (pss_one (ps_expr (pe_bm PySem.F.plainAttrs_list PySem.F.slot_list_append PySem.F.type_list_append mt_append (pv 3) (pa_cons (pe_tup (pa_cons (pv 5) (pa_cons (pe_op op_sub (pv 7) pe_int) (pa_cons (pv 11) pa_nil)))) pa_nil))))) 
          (pss_one (ps_if (pt_cmpR op_eq (pv 6) pe_int (nomark _)) 
            (pss_one (ps_set (i := 4) scLLooked.nd rfl (Or.inl rfl) (pe_op op_cat (pv 4) (pe_listRg rfl (by rfl) T.list (prg_2 (by rfl) T.range (pe_op op_add (pv 5) pe_int) (pv 8)))))) pss_nil)))))
      (pss_one (ps_set (i := 5) scLLooked.nd rfl (Or.inl rfl) (pv 8)))))))
    (pss_one (ps_ret (pe_tup (pa_cons (pv 3) (pa_cons (pv 4) pa_nil))))))), ?_⟩
    refine g_seq (g_par3 ?_)
    walk_at "rd"
    refine ⟨Nat.zero_le _, fun l1 hl1 => ?_⟩
    have s1 := same_new hl1 (.lst [])
    walk_at "rd"
    refine ⟨Nat.zero_le _, fun l2 hl2 => ?_⟩
    have s2 := same_new hl2 (.lst [])
    have n12 : l1 ≠ l2 := ne_of_none (upd_same : _ = some (HO.lst [])) hl2
    walk_at "rd"
    refine ⟨_, _, _, rfl, ?_⟩
    walk_at "rd"
    refine while_w (fun n σ H' => ∃ (p f1 f2 : Addr) (r : List Bo) (q : Nat) (fx : List V) (d1 : List (Nat × Nat × Nat)) (d2 : List Nat) (x6 x7 x8 x9 x10 x11 : Option V), n = r.length ∧ σ = [some (.ref a), some (vn b0), some (vn e), some (.ref f1), some (.ref f2), some (vn q), x6, x7, x8, x9, x10, x11] ∧ Same H H' ∧ H f1 = none ∧ f1 ≠ f2 ∧ H' f1 = some (.lst fx) ∧ TpAll K H' fx (d1.map lkD) ∧ H' f2 = some (.lst (d2.map vn)) ∧ lkL bs = d1 ++ lkL r ∧ enL bs = d2 ++ enL r ∧ tlL cs r q e ∧ depL r < m + 1)
      bs.length ⟨a, l1, l2, bs, b0, [], [], [], _, _, _, _, _, _, rfl, rfl, s1.trans s2, hl1, n12, s2 _ _ upd_same, .nil, upd_same, rfl, rfl, hT, hd⟩ ?_ mono_lt
    rintro n σ H1 ⟨p0, f1, f2, r, q0, fx, d1, d2, x6, x7, x8, x9, x10, x11, rfl, rfl, t1, t2, t3, t4, t5, t6, t7, t8, t9, t10⟩
    walk_at "rd"
    cases r with
    | nil =>
      rw [tlL] at t9
      rw [lkL, List.append_nil] at t7
      rw [enL, List.append_nil] at t8
      subst t9
      refine g_dF (by omega) ?_
      walk_at "rd"
      refine ⟨(by show 2 ≤ sizeLine; decide), fun t ht => ?_⟩
      have s9 := same_new ht (.tup [.ref f1, .ref f2])
      exact q t f1 f2 fx _ (t1.trans s9) upd_same (s9 _ _ t4) (by rw [t7]; exact t5.same s9) (by rw [t8]; exact s9 _ _ t6)
    | cons x r =>
      rw [tlL] at t9
      obtain ⟨u1, u2⟩ := t9
      have h2 := tl_le1 x q0 u1
      have h3 := tl_le r _ e u2
      have hC1 := hC.same t1
      have hlen := lk_len r _ _ u2
      have hlen1 := lk_len1 x r _ u1
      have hd1 : d1.length ≤ 30 := by
        have := congrArg List.length t7
        rw [List.length_append] at this
        omega
      have hd2 : d2.length + (enL (x :: r)).length ≤ 30 := by
        have := congrArg List.length t8
        rw [List.length_append] at this
        omega
      have hfx : fx.length = d1.length := by rw [t5.length, List.length_map]
      rw [depL] at t10
      refine g_dT (by omega) ?_
      walk_at "rd"
      refine hC1.ix q0 rfl (by omega) ?_
      walk_at "rd"
      refine hC1.ix (q0 + 1) (by omega) (by omega) ?_
      walk_at "rd"
      refine ⟨_, _, rfl, ?_⟩
      walk_at "rd"
      cases x with
      | bx k p l ks =>
        rw [tlB] at u1
        obtain ⟨rfl, v2, v3, v4, v5, v6⟩ := u1
        rw [v4] at u2 h3 hlen hlen1 ⊢
        rw [v3]
        rw [depB] at t10
        rw [lkL, lk1] at t7
        rw [enL, en1] at t8 hd2
        by_cases hk : k = 1
        · subst hk
          rw [if_pos rfl] at t7 t8 hd2
          refine g_dT rfl ?_
          walk_at "rd"
          refine ⟨a, cs, p + 2, p + l, ks, congrArg (fun z => [V.ref a, z, vn (p + l)]) rfl, hC1, by omega, v5 rfl, by omega, fun t fl el gx H2 s3 e1 e2 e3 e4 => ?_⟩
          have hks := lk_len ks _ _ (v5 rfl)
          have hgx : gx.length = (lkL ks).length := by rw [e3.length, List.length_map]
          walk_at "rd"
          refine g_tupT (SqT.of e1) rfl ?_
          walk_at "rd"
          refine g_cat (s3 _ _ t4) e2 (by omega) fun p1 hp1 => ?_
          have s4 := same_new hp1 (.lst (fx ++ gx))
          walk_at "rd"
          refine g_cat ((s3.trans s4) _ _ t6) (s4 _ _ e4) (by rw [List.length_map, List.length_map]; rw [List.length_append] at hd2; omega) fun p2 hp2 => ?_
          have s5 := same_new hp2 (.lst (d2.map vn ++ (enL ks).map vn))
          have n12 : p1 ≠ p2 := ne_of_none (upd_same : _ = some (HO.lst (fx ++ gx))) hp2
          walk_at "rd"
          refine ⟨_, _, rfl, ?_⟩
          walk_at "rd"
          refine ⟨r.length, Nat.lt_succ_self _, a, p1, p2, r, p + l, fx ++ gx, d1 ++ lkL ks, d2 ++ enL ks, _, _, _, _, _, _, rfl, rfl, ((t1.trans s3).trans s4).trans s5, (t1.trans s3).free hp1, n12, s5 _ _ upd_same, ?_, by rw [upd_same, List.map_append], by rw [t7, List.append_assoc], by rw [t8, List.append_assoc], u2, by omega⟩
          rw [List.map_append]
          exact (t5.same ((s3.trans s4).trans s5)).append (e3.same (s4.trans s5))
        · rw [if_neg hk] at t7 t8 hd2
          refine g_dF (fun z => hk (by have := V.int.inj z; omega)) ?_
          walk_at "rd"
          by_cases hk2 : k = 2
          · subst hk2
            rw [if_pos rfl] at t7
            rw [if_neg (by decide)] at t8 hd2
            refine g_dT rfl ?_
            walk_at "rd"
            rcases spr_tl u2 with ⟨w1, w2, w3⟩ | ⟨w1, _, w2⟩
            · refine g_dF (by omega) ?_
              walk_at "rd"
              refine ⟨ty_l (SqL.of t4), ?_⟩
              walk_at "rd"
              rw [show ((l : Int) - 2) = ((l - 2 : Nat) : Int) by omega]
              refine ⟨(by show 3 ≤ sizeLine; decide), fun p1 hp1 => ?_⟩
              have s4 := same_new hp1 (.tup [vn p, vn (l - 2), V.int 0])
              walk_at "rd"
              refine g_app (s4 _ _ t4) (by omega) ?_
              walk_at "rd"
              have kk := tk_lst (K := K) (u := HO.lst (fx ++ [.ref p1])) (s4 _ _ t4)
              refine ⟨r.length, Nat.lt_succ_self _, a, f1, f2, r, p + l, fx ++ [.ref p1], d1 ++ [(p, l - 2, spr r)], d2, _, _, _, _, _, _, rfl, rfl, Same.putNew (t1.trans s4) t2, t2, t3, upd_same, ?_, by rw [upd_ne t3.symm]; exact s4 _ _ t6, by rw [t7, List.append_assoc] <;> rfl, by rw [t8] <;> rfl, u2, by omega⟩
              rw [List.map_append, w3]
              refine (TpAll.mono kk _ _ (t5.same s4)).snoc (Tp.mono kk _ _ ?_)
              exact .tup upd_same (.cons (.int _) (.cons (.int _) (.cons (.int _) .nil)))
            · refine g_dT (by omega) ?_
              walk_at "rd"
              refine hC1.ix (p + l) (by omega) (by omega) ?_
              walk_at "rd"
              by_cases w3 : cel cs (p + l) = 3
              · rw [if_pos w3] at w2
                refine g_dT (congrArg V.int (by omega)) ?_
                walk_at "rd"
                have hr1 : p + l + 1 < cs.length := by omega
                refine hC1.ix (p + l + 1) (by omega) hr1 ?_
                walk_at "rd"
                refine ⟨ty_l (SqL.of t4), ?_⟩
                walk_at "rd"
                rw [show ((l : Int) - 2) = ((l - 2 : Nat) : Int) by omega]
                refine ⟨(by show 3 ≤ sizeLine; decide), fun p1 hp1 => ?_⟩
                have s4 := same_new hp1 (.tup [vn p, vn (l - 2), vn (cel cs (p + l + 1))])
                walk_at "rd"
                refine g_app (s4 _ _ t4) (by omega) ?_
                walk_at "rd"
                have kk := tk_lst (K := K) (u := HO.lst (fx ++ [.ref p1])) (s4 _ _ t4)
                refine ⟨r.length, Nat.lt_succ_self _, a, f1, f2, r, p + l, fx ++ [.ref p1], d1 ++ [(p, l - 2, spr r)], d2, _, _, _, _, _, _, rfl, rfl, Same.putNew (t1.trans s4) t2, t2, t3, upd_same, ?_, by rw [upd_ne t3.symm]; exact s4 _ _ t6, by rw [t7, List.append_assoc] <;> rfl, by rw [t8] <;> rfl, u2, by omega⟩
                rw [List.map_append, w2]
                refine (TpAll.mono kk _ _ (t5.same s4)).snoc (Tp.mono kk _ _ ?_)
                exact .tup upd_same (.cons (.int _) (.cons (.int _) (.cons (.int _) .nil)))
              · rw [if_neg w3] at w2
                refine g_dF (fun z => w3 (by have := V.int.inj z; omega)) ?_
                walk_at "rd"
                refine ⟨ty_l (SqL.of t4), ?_⟩
                walk_at "rd"
                rw [show ((l : Int) - 2) = ((l - 2 : Nat) : Int) by omega]
                refine ⟨(by show 3 ≤ sizeLine; decide), fun p1 hp1 => ?_⟩
                have s4 := same_new hp1 (.tup [vn p, vn (l - 2), V.int 0])
                walk_at "rd"
                refine g_app (s4 _ _ t4) (by omega) ?_
                walk_at "rd"
                have kk := tk_lst (K := K) (u := HO.lst (fx ++ [.ref p1])) (s4 _ _ t4)
                refine ⟨r.length, Nat.lt_succ_self _, a, f1, f2, r, p + l, fx ++ [.ref p1], d1 ++ [(p, l - 2, spr r)], d2, _, _, _, _, _, _, rfl, rfl, Same.putNew (t1.trans s4) t2, t2, t3, upd_same, ?_, by rw [upd_ne t3.symm]; exact s4 _ _ t6, by rw [t7, List.append_assoc] <;> rfl, by rw [t8] <;> rfl, u2, by omega⟩
                rw [List.map_append, w2]
                refine (TpAll.mono kk _ _ (t5.same s4)).snoc (Tp.mono kk _ _ ?_)
                exact .tup upd_same (.cons (.int _) (.cons (.int _) (.cons (.int _) .nil)))
          · rw [if_neg hk2] at t7
            refine g_dF (fun z => hk2 (by have := V.int.inj z; omega)) ?_
            walk_at "rd"
            by_cases hk4 : k = 4
            · subst hk4
              rw [if_pos rfl] at t8 hd2
              refine g_dT rfl ?_
              walk_at "rd"
              refine ⟨_, _, rfl, rfl, .of_le (by omega) (by omega) (by omega) (by omega), fun p1 hp1 => ?_⟩
              have e1 : rgV ((p : Int) + 2) ((p : Int) + (l : Int)) = ((List.range (l - 2)).map fun i => p + 2 + i).map vn := by
                rw [show (p : Int) + 2 = ((p + 2 : Nat) : Int) by omega, show (p : Int) + (l : Int) = ((p + l : Nat) : Int) by omega, rg_nat]
                rw [show p + l - (p + 2) = l - 2 by omega]
              rw [e1]
              have s4 := same_new hp1 (.lst (((List.range (l - 2)).map fun i => p + 2 + i).map vn))
              walk_at "rd"
              refine g_cat (s4 _ _ t6) upd_same (by rw [List.length_map, List.length_map]; rw [List.length_append] at hd2; omega) fun p2 hp2 => ?_
              have s5 := same_new hp2 (.lst (d2.map vn ++ ((List.range (l - 2)).map fun i => p + 2 + i).map vn))
              walk_at "rd"
              refine ⟨r.length, Nat.lt_succ_self _, a, f1, p2, r, p + l, fx, d1, d2 ++ (List.range (l - 2)).map fun i => p + 2 + i, _, _, _, _, _, _, rfl, rfl, (t1.trans s4).trans s5, t2, ne_of_none (s4 _ _ t4) hp2, (s4.trans s5) _ _ t4, t5.same (s4.trans s5), by rw [upd_same, List.map_append], by rw [t7]; rfl, by rw [t8, List.append_assoc], u2, by omega⟩
            · rw [if_neg hk4] at t8
              refine g_dF (fun z => hk4 (by have := V.int.inj z; omega)) ?_
              walk_at "rd"
              exact ⟨r.length, Nat.lt_succ_self _, a, f1, f2, r, p + l, fx, d1, d2, _, _, _, _, _, _, rfl, rfl, t1, t2, t3, t4, t5, t6, by rw [t7]; rfl, by rw [t8] <;> rfl, u2, by omega⟩
end
end Bx

namespace Bx
/-- by how much a box of n cells with s spare ones behind it can grow -/
def gw (n s : Nat) : List Int := ((List.range (n + s + 1)).filter fun i => isSz (n + s - i)).map fun (i : Nat) => (i : Int) - (n : Int)
/-- a file, as it is read -/
structure Fl (cs : List Nat) (bs : List Bo) : Prop where
  ok : fwr cs = none
  tl : tlL cs bs 0 cs.length
  pt : Pth cs 0 cs.length (hsL bs)
  ln : cs.length ≤ 30
theorem Fl.hl {cs : List Nat} {bs : List Bo} (h : Fl cs bs) : (hsL bs).length ≤ 100 := by
  have := h.pt.len
  have := h.ln
  omega
theorem Fl.sp {cs : List Nat} {bs : List Bo} (h : Fl cs bs) {t : Nat × Nat × Nat} (ht : t ∈ lkL bs) : t.1 + t.2.1 + 2 + t.2.2 ≤ cs.length := by
  obtain ⟨_, a2, a3, _, a5, _⟩ := lk_ok bs _ _ h.tl t ht
  omega
theorem Fl.at {cs : List Nat} {bs : List Bo} (h : Fl cs bs) {t : Nat × Nat × Nat} (ht : t ∈ lkL bs) : cel cs t.1 = 2 ∧ cel cs (t.1 + 1) = t.2.1 + 2 ∧ t.1 + t.2.1 + 2 ≤ cs.length := by
  obtain ⟨_, a2, a3, _, a5, _⟩ := lk_ok bs _ _ h.tl t ht
  omega
section
variable {P : Program} {w : World} {K : PySem.W.Frag} {mg : Str → Option Value} {base : Heap} {C CB : Addr} {H : Hp} {Q : VK}
theorem inV_ints : ∀ (ns : List Int) (z : Int), inV (.int z) (ns.map V.int) = decide (z ∈ ns)
  | [], z => (decide_eq_false List.not_mem_nil).symm
  | n :: r, z => by
    have ih := inV_ints r z
    show (eqV (.int n) (.int z) || inV (.int z) (r.map V.int)) = _
    rw [ih]
    have e : eqV (.int n) (.int z) = decide (z = n) := by
      show (n == z) = _
      by_cases h : z = n
      · subst h
        rw [decide_eq_true rfl]
        exact beq_self_eq_true z
      · rw [decide_eq_false h]
        exact beq_eq_false_iff_ne.mpr fun y => h y.symm
    rw [e]
    by_cases h1 : z = n
    · have hm : z ∈ n :: r := by
        rw [h1]
        exact List.mem_cons_self
      rw [decide_eq_true h1, decide_eq_true hm, Bool.true_or]
    · rw [decide_eq_false h1, Bool.false_or]
      by_cases h2 : z ∈ r
      · rw [decide_eq_true h2, decide_eq_true (List.mem_cons_of_mem _ h2)]
      · rw [decide_eq_false h2, decide_eq_false (fun m => (List.mem_cons.mp m).elim h1 h2)]
theorem flat_ints : ∀ ns : List Int, (ns.map V.int).all flatV = true
  | [] => rfl
  | n :: r => by
    show (true && (r.map V.int).all flatV) = true
    rw [flat_ints r]
    rfl
theorem rIn_ints {p : Addr} {ns : List Int} {z : Int} (h : SqL K H p (ns.map V.int) ∨ SqT K H p (ns.map V.int)) (q : Q (.bl (decide (z ∈ ns))) H) : rIn K false (.int z) (.ref p) H Q :=
  ⟨p, _, rfl, h, rfl, flat_ints ns, by rw [if_neg Bool.false_ne_true, inV_ints]; exact q⟩
theorem rNotIn_ints {p : Addr} {ns : List Int} {z : Int} (h : SqL K H p (ns.map V.int) ∨ SqT K H p (ns.map V.int)) (q : Q (.bl (!decide (z ∈ ns))) H) : rIn K true (.int z) (.ref p) H Q :=
  ⟨p, _, rfl, h, rfl, flat_ints ns, by rw [if_pos rfl, inV_ints]; exact q⟩
theorem mem_cast {n : Nat} {l : List Nat} : (decide (((n : Nat) : Int) ∈ l.map fun (n : Nat) => (n : Int))) = decide (n ∈ l) := by
  by_cases h : n ∈ l
  · rw [decide_eq_true h, decide_eq_true (List.mem_map.mpr ⟨n, h, rfl⟩)]
  · rw [decide_eq_false h, decide_eq_false]
    intro m
    obtain ⟨x, hx, e⟩ := List.mem_map.mp m
    have : x = n := by omega
    rw [this] at hx
    exact h hx
def spFreeAfter (K : PySem.W.Frag) : Sp := fun vs H Q _ => ∃ (a : Addr) (cs : List Nat) (bs : List Bo) (t : Nat × Nat × Nat), vs = [.ref a, vn t.1] ∧ Cells K H a cs ∧ Fl cs bs ∧ t ∈ lkL bs ∧ ∀ H', Same H H' → Q (vn t.2.2) H'
theorem ok_freeAfter {f : Addr} {fd : FuncData} (F : Def K mg "free_after" sFreeAfter f fd) (b : Binds K fd ["cells", "at"] []) (T : Txt mg) (C_boxPlaces : Cal P w K mg base 1 "box_places" (spBoxPlaces K) []) : Cal P w K mg base 2 "free_after" (spFreeAfter K) [] := by
  refine cal0 F b .nil scFreeAfter (fun vs H Q E h => ?_) (fun cdv A outer s H vs Q E hr h => ?_)
  · obtain ⟨a, cs, bs, t, rfl, _⟩ := h
    rfl
  obtain ⟨a, cs, bs, t, rfl, hC, hF, ht, q⟩ := h
  obtain ⟨h1, h2, h3⟩ := hF.at ht
  have hln := hF.ln
  have hfr := frA_lk hF.tl ht
  obtain ⟨_, _, _, _, a5, a6⟩ := lk_ok bs _ _ hF.tl t ht
  rw [h2] at a5 a6
  unfold frA at hfr
  rw [h2] at hfr
  refine ⟨_, (pss_cons (ps_set (i := 2) scFreeAfter.nd rfl (Or.inl rfl) (pe_op op_add (pv 1) (pe_ix ix_seq (pv 0) (pe_op op_add (pv 1) pe_int) (fun _ _ => rfl))))
    (pss_cons (ps_setLc (i := 3) (own := [("group", 4)]) rfl scFreeAfter.nd rfl rfl (sw_true rfl rfl rfl (by decide +kernel)) (pi_list (pe_c C_boxPlaces hr (by decide) rfl (pa_cons (pv 0) (pa_cons (pe_gc rfl T.cGROUP) pa_nil)))) (blkOk_by (own := [("group", 4)]) (N := NFreeAfter) (sc := (fnScope sFreeAfter)) (by decide +kernel)) (fun _ _ _ _ _ => (pg_name (i := 4) scFreeAfter.nd rfl (.inl rfl))) (fun _ _ _ _ _ => pts_nil) (fun _ _ _ _ _ => (pe_op op_add (pv 4) (pe_ix (seq_k (K := K) rfl) (pv 0) (pe_op op_add (pv 4) pe_int) (fun _ _ => rfl)))))
    (pss_cons (ps_if (PW.pt (pw_or (pt_cmpR op_eq (pv 2) (pe_callB call_len_seq (by rfl) T.len b_len (pa_cons (pv 0) pa_nil)) (nomark _)) (pw_or (pt_cmpR op_in_seq (pv 2) (pv 3) (by rfl)) (pw_or1 (pt_cmpR op_ne (pe_ix ix_seq (pv 0) (pv 2) (fun _ _ => rfl)) (pe_gc rfl T.cFREE) (nomark _)))))) 
      (pss_one (ps_ret pe_int)) pss_nil)
    (pss_one (ps_ret (pe_ix ix_seq (pv 0) (pe_op op_add (pv 2) pe_int) (fun _ _ => rfl))))))), ?_⟩
  walk_at "rd"
  refine hC.ix (t.1 + 1) (by omega) (by omega) ?_
  rw [h2]
  walk_at "rd"
  refine ⟨a, cs, hsL bs, 1, rfl, hC, hF.pt, hF.hl, fun pl H1 s1 hn1 hpl => ?_⟩
  have hC1 := hC.same s1
  refine ⟨pl, rfl, ⟨_, SqL.of hpl⟩, fun D hD => ?_⟩
  refine lc_it walk_list (fun j H' => Same H1 H' ∧ H' D = some (.lst (((eds cs (hsL bs)).take j).map vn))) ⟨same_new hD _, upd_same⟩ (fun j H' _ z => SqL.of (z.1 _ _ hpl)) ?_ ?_
  · rintro j x H2 H3 hj ⟨s2, e1⟩ ⟨rfl, hx⟩
    obtain ⟨g, hg, rfl⟩ := vn_get hx
    have hgm := List.mem_filter.mp (List.mem_of_getElem? hg)
    obtain ⟨m1, m2, m3⟩ := hF.pt.mem g hgm.1
    walk_at "rd"
    refine ⟨rfl, ?_⟩
    walk_at "rd"
    refine (hC1.same s2).ix (g + 1) (by omega) m1 ?_
    walk_at "rd"
    have heg : (eds cs (hsL bs))[j]? = some (g + cel cs (g + 1)) := by
      unfold eds
      rw [List.getElem?_map, hg]
      rfl
    have hel : (((eds cs (hsL bs)).take j).map vn).length ≤ 1000 := by
      have e2 : (eds cs (hsL bs)).length ≤ (hsL bs).length := by
        unfold eds
        rw [List.length_map]
        exact List.length_filter_le _ _
      have := hF.hl
      rw [List.length_map, List.length_take]
      omega
    refine ⟨_, e1, small1000 hel, Same.putNew s2 hD, ?_⟩
    rw [upd_same, take_snoc heg, List.map_append]
    rfl
  · rintro H2 ⟨s2, e1⟩
    rw [List.length_map, show ((hsL bs).filter (isK cs 1)).length = (eds cs (hsL bs)).length by unfold eds; rw [List.length_map], List.take_length] at e1
    have hC2 := hC1.same s2
    walk_at "rd"
    refine ⟨a, _, rfl, hC2.sq, ?_⟩
    rw [List.length_map]
    walk_at "rd"
    by_cases c1 : t.1 + (t.2.1 + 2) = cs.length
    · rw [if_pos (.inl c1)] at hfr
      refine g_dT (congrArg V.int (by omega)) ?_
      walk_at "rd"
      have := q H2 (s1.trans s2)
      rw [← hfr] at this
      exact this
    · refine g_dF (fun z => c1 (by have := V.int.inj z; omega)) ?_
      walk_at "rd"
      rw [show (t.1 : Int) + ((t.2.1 + 2 : Nat) : Int) = ((t.1 + (t.2.1 + 2) : Nat) : Int) by omega]
      refine rIn_ints (ns := (eds cs (hsL bs)).map fun (n : Nat) => (n : Int)) (.inl (SqL.of (by rw [e1, List.map_map]; rfl))) ?_
      rw [mem_cast]
      walk_at "rd"
      by_cases c2 : t.1 + (t.2.1 + 2) ∈ eds cs (hsL bs)
      · rw [if_pos (.inr (.inl c2))] at hfr
        refine g_dT c2 ?_
        walk_at "rd"
        have := q H2 (s1.trans s2)
        rw [← hfr] at this
        exact this
      · refine g_dF c2 ?_
        walk_at "rd"
        have hend : t.1 + (t.2.1 + 2) + 2 ≤ cs.length := by
          rcases a6 with ⟨_, z⟩ | ⟨z, _⟩
          · exact absurd z (fun z => z.elim c1 c2)
          · exact z
        refine hC2.ix (t.1 + (t.2.1 + 2)) rfl (by omega) ?_
        walk_at "rd"
        by_cases c3 : cel cs (t.1 + (t.2.1 + 2)) = 3
        · rw [if_neg (fun z => z.elim c1 fun z => z.elim c2 fun z => z c3)] at hfr
          refine g_ndF (congrArg V.int (by omega)) ?_
          walk_at "rd"
          refine hC2.ix (t.1 + (t.2.1 + 2) + 1) (by omega) (by omega) ?_
          have := q H2 (s1.trans s2)
          rw [← hfr] at this
          exact this
        · rw [if_pos (.inr (.inr c3))] at hfr
          refine g_ndT (fun z => c3 (by have := V.int.inj z; omega)) ?_
          walk_at "rd"
          have := q H2 (s1.trans s2)
          rw [← hfr] at this
          exact this
theorem g_iR2 {ta : TA} {σ : L2.St} {R : It → Hp → Prop} (h : ta σ H fun vs H1 => ∃ i j : Int, vs = [.int i, .int j] ∧ (-(2 ^ 62) ≤ i ∧ i < 2 ^ 62 ∧ -(2 ^ 62) ≤ j ∧ j < 2 ^ 62) ∧ R (Itr i (j - i).toNat) H1) : iRng2 ta σ H R := h
def spGrowthsAt (K : PySem.W.Frag) : Sp := fun vs H Q _ => ∃ (a : Addr) (cs : List Nat) (bs : List Bo) (t : Nat × Nat × Nat), vs = [.ref a, vn t.1] ∧ Cells K H a cs ∧ Fl cs bs ∧ t ∈ lkL bs ∧ ∀ (l : Addr) (H' : Hp), Same H H' → H l = none → H' l = some (.lst ((gw t.2.1 t.2.2).map .int)) → Q (.ref l) H'
theorem ok_growthsAt {f : Addr} {fd : FuncData} (F : Def K mg "growths_at" sGrowthsAt f fd) (b : Binds K fd ["cells", "at"] []) (T : Txt mg) (C_freeAfter : Cal P w K mg base 2 "free_after" (spFreeAfter K) []) (C_isSize : Cal P w K mg base 2 "is_size" spIsSize []) : Cal P w K mg base 3 "growths_at" (spGrowthsAt K) [] := by
  refine cal0 F b .nil scGrowthsAt (fun vs H Q E h => ?_) (fun cdv A outer s H vs Q E hr h => ?_)
  · obtain ⟨a, cs, bs, t, rfl, _⟩ := h
    rfl
  obtain ⟨a, cs, bs, t, rfl, hC, hF, ht, q⟩ := h
  obtain ⟨h1, h2, h3⟩ := hF.at ht
  have hln := hF.ln
  have hsp : t.2.2 ≤ 99 := by
    have := frA_lk hF.tl ht
    rw [← this]
    unfold frA
    split
    · exact Nat.zero_le _
    · exact cel_top hC _
  refine ⟨_, (pss_cons (ps_set (i := 2) scGrowthsAt.nd rfl (Or.inr rfl) (pe_c C_freeAfter hr (by decide) rfl (pa_cons (pv 0) (pa_cons (pv 1) pa_nil))))
    (pss_cons (ps_set (i := 3) scGrowthsAt.nd rfl (Or.inl rfl) (pe_op op_sub (pe_gc rfl T.cHEAD) (pe_ix ix_seq (pv 0) (pe_op op_add (pv 1) pe_int) (fun _ _ => rfl))))
    (pss_one (ps_ret (pe_lc (own := [("more", 4)]) rfl scGrowthsAt.nd (pi_range2 (by rfl) T.range (pa_cons (pv 3) (pa_cons (pe_op op_add (pv 2) pe_int) pa_nil))) (blkOk_by (own := [("more", 4)]) (N := NGrowthsAt) (sc := (fnScope sGrowthsAt)) (by decide +kernel)) (fun _ _ _ _ _ => (pg_name (i := 4) scGrowthsAt.nd rfl (.inl rfl))) (fun _ _ _ _ _ => (pts_one (pt_val (pe_c C_isSize hr (by decide) rfl (pa_cons (pe_op op_sub (pv 2) (pv 4)) pa_nil))))) (fun _ _ _ _ _ => (pv 4))))))), ?_⟩
  walk_at "rd"
  refine ⟨a, cs, bs, t, rfl, hC, hF, ht, fun H1 s1 => ?_⟩
  have hC1 := hC.same s1
  walk_at "rd"
  refine hC1.ix (t.1 + 1) (by omega) (by omega) ?_
  rw [h2]
  walk_at "rd"
  refine g_iR2 ?_
  walk_at "rd"
  refine ⟨_, _, rfl, ⟨by omega, by omega, by omega, by omega⟩, fun D hD => ?_⟩
  have hn : (((t.2.2 : Int) + 1) - (2 - ((t.2.1 + 2 : Nat) : Int))).toNat = t.2.1 + t.2.2 + 1 := by omega
  refine lc_it walk_range (fun j H' => Same H1 H' ∧ H' D = some (.lst (((((List.range j).filter fun i => isSz (t.2.1 + t.2.2 - i)).map fun (i : Nat) => (i : Int) - (t.2.1 : Int))).map .int))) ⟨same_new hD _, upd_same⟩ (fun _ _ _ _ => True.intro) ?_ ?_
  · rintro j x H2 H3 hj ⟨s2, e1⟩ ⟨rfl, rfl⟩
    have hj : j < t.2.1 + t.2.2 + 1 := by
      have : j < (((t.2.2 : Int) + 1) - (2 - ((t.2.1 + 2 : Nat) : Int))).toNat := hj
      omega
    walk_at "rd"
    refine ⟨rfl, ?_⟩
    walk_at "rd"
    have e2 : (t.2.2 : Int) - (2 - ((t.2.1 + 2 : Nat) : Int) + (j : Int)) = ((t.2.1 + t.2.2 - j : Nat) : Int) := by omega
    refine ⟨t.2.1 + t.2.2 - j, congrArg (fun z => [V.int z]) e2, ?_⟩
    have hel : ((((List.range j).filter fun i => isSz (t.2.1 + t.2.2 - i)).map fun (i : Nat) => (i : Int) - (t.2.1 : Int)).map V.int).length ≤ 1000 := by
      have := List.length_filter_le (fun i => isSz (t.2.1 + t.2.2 - i)) (List.range j)
      rw [List.length_range] at this
      rw [List.length_map, List.length_map]
      omega
    walk_at "rd"
    cases hz : isSz (t.2.1 + t.2.2 - j) with
    | true =>
      refine iteT ?_
      walk_at "rd"
      refine ⟨_, e1, small1000 hel, Same.putNew s2 hD, ?_⟩
      rw [upd_same, List.range_succ, List.filter_append, List.filter_cons, if_pos hz, List.filter_nil, List.map_append, List.map_append]
      exact congrArg (fun z : Int => some (HO.lst (_ ++ [V.int z]))) (show (2 - ((t.2.1 + 2 : Nat) : Int) + (j : Int)) = (j : Int) - (t.2.1 : Int) by omega)
    | false =>
      refine iteF ?_
      refine ⟨s2, ?_⟩
      rw [e1, List.range_succ, List.filter_append, List.filter_cons, if_neg (by rw [hz]; exact Bool.false_ne_true), List.filter_nil, List.append_nil]
  · rintro H2 ⟨s2, e1⟩
    rw [hn] at e1
    walk_at "rd"
    exact q D H2 (s1.trans s2) (s1.free hD) e1
end
end Bx

namespace Bx
theorem k_none_int {K : PySem.W.Frag} : PySem.W.kitOne K (.type "NoneType") (.type "int") = some false := kit_ty (by decide +kernel)
theorem k_str_int {K : PySem.W.Frag} : PySem.W.kitOne K (.type "str") (.type "int") = some false := kit_ty (by decide +kernel)
theorem k_bool_int {K : PySem.W.Frag} : PySem.W.kitOne K (.type "bool") (.type "int") = some true := kit_ty (by decide +kernel)
theorem k_bool_bool {K : PySem.W.Frag} : PySem.W.kitOne K (.type "bool") (.type "bool") = some true := kit_ty (by decide +kernel)
/-- a value that is no integer for the document -/
def NoInt (K : PySem.W.Frag) (H : Hp) (v : V) : Prop := v = .non ∨ (∃ s, v = .str s) ∨ (∃ b, v = .bl b) ∨ ∃ a xs, v = .ref a ∧ SqT K H a xs
theorem NoInt.same {K : PySem.W.Frag} {H H' : Hp} {v : V} (e : Same H H') (h : NoInt K H v) : NoInt K H' v := by
  rcases h with h | h | h | ⟨a, xs, h1, h2⟩
  · exact .inl h
  · exact .inr (.inl h)
  · exact .inr (.inr (.inl h))
  · exact .inr (.inr (.inr ⟨a, xs, h1, Same.sqt e h2⟩))
/-- an own class of errors without an own __init__ -/
structure OwX (K : PySem.W.Frag) (mg : Str → Option Value) (x : Str) (C : Addr) : Prop where
  gC : mg x = some (.ref C)
  kC : PySem.W.keepIn K (.ref C) = true
  sub : PySem.W.subIn K (.ref C) (.type "BaseException") = some true
  ty : PySem.W.typeIn K (.ref C) = some (.type "type")
  ex : ∃ (bmB : List Value) (B newId initId : String), ExcBaseFacts B newId initId bmB ∧ PySem.W.excIn K C bmB newId = true
section
variable {X : Cx} {C : Addr}
theorem pmk_ox {x m : Str} {j : Nat} {p p2 pos : Pos} (O : OwX X.K X.mg x C) (hg : Gl X x) (hdb : (x == ("__debug__" : Str)) = false := by decide) : PMk X (.Call (.Name x p) [.Constant (.str m) j p2] [] pos) (fun _ H Q => Q (.ref C) none H) := by
  obtain ⟨bmB, B, newId, initId, F, q⟩ := O.ex
  exact L2.pmk_own F q O.gC O.kC (raises_own O.sub O.ty) hg hdb
end
section
variable {P : Program} {w : World} {K : PySem.W.Frag} {mg : Str → Option Value} {base : Heap} {C CB : Addr} {H : Hp} {Q : VK}
theorem isi_ni (h : Q (.bl false) H) : rIsi K [.non, .ty "int"] H Q := ⟨_, _, _, _, _, rfl, .ty _, .base .non, k_none_int, h⟩
theorem isi_si {s : Str} (h : Q (.bl false) H) : rIsi K [.str s, .ty "int"] H Q := ⟨_, _, _, _, _, rfl, .ty _, .base (.str s), k_str_int, h⟩
theorem isi_bi {b : Bool} (h : Q (.bl true) H) : rIsi K [.bl b, .ty "int"] H Q := ⟨_, _, _, _, _, rfl, .ty _, .base (.bl b), k_bool_int, h⟩
theorem isi_bb {b : Bool} (h : Q (.bl true) H) : rIsi K [.bl b, .ty "bool"] H Q := ⟨_, _, _, _, _, rfl, .ty _, .base (.bl b), k_bool_bool, h⟩
def spBetweenA (K : PySem.W.Frag) : Sp := fun vs H Q _ => ∃ (v : V) (l m : Int), vs = [v, .int l, .int m] ∧ ((∃ n : Int, v = .int n ∧ Q (.bl (decide (l ≤ n ∧ n ≤ m))) H) ∨ (NoInt K H v ∧ Q (.bl false) H))
theorem ok_isBetweenA {f : Addr} {fd : FuncData} (F : Def K mg "is_between" sIsBetween f fd) (b : Binds K fd ["value", "least", "most"] []) (T : Txt mg) : Cal P w K mg base 1 "is_between" (spBetweenA K) [] := by
  refine cal0 F b .nil scIsBetween (fun vs H Q E h => ?_) (fun cdv A outer s H vs Q E hr h => ?_)
  · obtain ⟨v, l, m, rfl, _⟩ := h
    rfl
  obtain ⟨v, l, m, rfl, h⟩ := h
  refine ⟨_, (pss_cons (ps_if (PW.pt (pw_or (pt_not (pt_val (pe_callB call_isi (by rfl) T.isinstance b_isinstance (pa_cons (pv 0) (pa_cons (pe_bltn (v := .ty "int") (by rfl) T.int b_int rfl) pa_nil))))) (pw_or1 (pt_val (pe_callB call_isi (by rfl) T.isinstance b_isinstance (pa_cons (pv 0) (pa_cons (pe_bltn (v := .ty "bool") (by rfl) T.bool b_bool rfl) pa_nil))))))) 
      (pss_one (ps_ret pe_bl)) pss_nil)
    (pss_one (ps_ret (pe_chain op_le op_le (pv 1) (pv 0) (pv 2))))), ?_⟩
  rcases h with ⟨n, rfl, q⟩ | ⟨h, q⟩
  · walk_at "rd"
    refine g_ite (fun h1 => ?_) (fun h1 => ?_)
    · walk_at "rd"
      by_cases h2 : n ≤ m
      · rw [decide_eq_true ⟨h1, h2⟩] at q
        rw [decide_eq_true h2]
        exact q
      · rw [decide_eq_false (fun z => h2 z.2)] at q
        rw [decide_eq_false h2]
        exact q
    · rw [decide_eq_false (fun z => h1 z.1)] at q
      exact q
  · rcases h with rfl | ⟨s, rfl⟩ | ⟨b, rfl⟩ | ⟨a, xs, rfl, ha⟩
    · walk_at "rd"
      refine isi_ni ?_
      walk_at "rd"
      exact q
    · walk_at "rd"
      refine isi_si ?_
      walk_at "rd"
      exact q
    · walk_at "rd"
      refine isi_bi ?_
      walk_at "rd"
      refine isi_bb ?_
      walk_at "rd"
      exact q
    · walk_at "rd"
      refine isi_ti ha ?_
      walk_at "rd"
      exact q
/-- what is raised without a place -/
def OErr (C : Addr) (H : Hp) (E : XK) : Prop := ∀ H', Same H H' → E (.ref C) none H'
theorem OErr.of {H1 : Hp} {E : XK} (h : OErr C H E) (s : Same H H1) : OErr C H1 E := fun H' s2 => h H' (s.trans s2)
def BadN (K : PySem.W.Frag) (H : Hp) (v : V) (n : Nat) : Prop := NoInt K H v ∨ ∃ i : Int, v = .int i ∧ ¬ (0 ≤ i ∧ i < (n : Int))
theorem BadN.same {H' : Hp} {v : V} {n : Nat} (e : Same H H') (h : BadN K H v n) : BadN K H' v n := h.elim (fun z => .inl (z.same e)) .inr
def spDataAt (K : PySem.W.Frag) (CB : Addr) : Sp := fun vs H Q E => ∃ (a : Addr) (v : V) (cs : List Nat) (bs : List Bo), vs = [.ref a, v] ∧ Cells K H a cs ∧ Fl cs bs ∧
  ((∃ (i : Nat) (t : Nat × Nat × Nat), v = vn i ∧ (lkL bs)[i]? = some t ∧ ∀ H', Same H H' → Q (vn t.1) H') ∨ (BadN K H v (lkL bs).length ∧ OErr CB H E))
theorem lk_at {cs : List Nat} {bs : List Bo} (h : Fl cs bs) {i : Nat} : ((hsL bs).filter (isK cs 2))[i]? = ((lkL bs)[i]?).map (·.1) := by
  rw [← lk_hs bs _ _ h.tl, List.getElem?_map]
theorem lk_ln {cs : List Nat} {bs : List Bo} (h : Fl cs bs) : ((hsL bs).filter (isK cs 2)).length = (lkL bs).length := by
  rw [← lk_hs bs _ _ h.tl, List.length_map]
theorem ok_dataAt {f : Addr} {fd : FuncData} (F : Def K mg "data_at" sDataAt f fd) (b : Binds K fd ["cells", "number"] []) (T : Txt mg) (O : OwX K mg "BadBox" CB) (C_checkFile : Cal P w K mg base 34 "check_file" (spCheckFileV K) []) (C_boxPlaces : Cal P w K mg base 1 "box_places" (spBoxPlaces K) []) (C_isBetween : Cal P w K mg base 1 "is_between" (spBetweenA K) []) : CalX P w K mg base 35 "data_at" (spDataAt K CB) := by
  refine calX F b scDataAt (fun vs H Q E h => ?_) (fun cdv A outer s H vs Q E hr h => ?_)
  · obtain ⟨a, v, cs, bs, rfl, _⟩ := h
    rfl
  obtain ⟨a, v, cs, bs, rfl, hC, hF, h⟩ := h
  have hll := lk_len bs _ _ hF.tl
  have hln := hF.ln
  refine ⟨_, (pss_cons (ps_expr (pe_c C_checkFile hr (by decide) rfl (pa_cons (pv 0) pa_nil)))
    (pss_cons (ps_set (i := 2) scDataAt.nd rfl (Or.inl rfl) (pe_c C_boxPlaces hr (by decide) rfl (pa_cons (pv 0) (pa_cons (pe_gc rfl T.cDATA) pa_nil))))
    (pss_cons (ps_if (pt_not (pt_val (pe_c C_isBetween hr (by decide) rfl (pa_cons (pv 1) (pa_cons pe_int (pa_cons (pe_op op_sub (pe_callB call_len_seq (by rfl) T.len b_len (pa_cons (pv 2) pa_nil)) pe_int) pa_nil)))))) 
      (pss_one (ps_raise rfl (takes_of rfl rfl rfl rfl) (pmk_ox (C := CB) O (by rfl)))) pss_nil)
    (pss_one (ps_ret (pe_ix ix_list (pv 2) (pv 1) (fun _ _ => rfl))))))), ?_⟩
  walk_at "rd"
  refine ⟨a, cs, rfl, hC, hF.ok, fun H1 s1 => ?_⟩
  walk_at "rd"
  have hC1 := hC.same s1
  refine ⟨a, cs, hsL bs, 2, rfl, hC1, hF.pt, hF.hl, fun pl H2 s2 hn2 hpl => ?_⟩
  walk_at "rd"
  refine ⟨_, _, rfl, .inl (SqL.of hpl), ?_⟩
  rw [List.length_map, lk_ln hF]
  walk_at "rd"
  refine ⟨v, 0, ((lkL bs).length : Int) - 1, rfl, ?_⟩
  rcases h with ⟨i, t, rfl, hi, q⟩ | ⟨hb, qe⟩
  · have hil := (List.getElem?_eq_some_iff.mp hi).1
    refine .inl ⟨_, rfl, ?_⟩
    rw [decide_eq_true (show (0 : Int) ≤ (i : Int) ∧ (i : Int) ≤ ((lkL bs).length : Int) - 1 by omega)]
    walk_at "rd"
    refine g_ixL i (SqL.of hpl) rfl (by rw [List.getElem?_map, lk_at hF, hi]; rfl) ?_
    exact q H2 (s1.trans s2)
  · rcases hb with hb | ⟨i, rfl, hi⟩
    · refine .inr ⟨hb.same (s1.trans s2), ?_⟩
      walk_at "rd"
      exact qe H2 (s1.trans s2)
    · refine .inl ⟨i, rfl, ?_⟩
      rw [decide_eq_false (fun z => hi (by omega))]
      walk_at "rd"
      exact qe H2 (s1.trans s2)
def spGrowths (K : PySem.W.Frag) (CB : Addr) : Sp := fun vs H Q E => ∃ (a : Addr) (v : V) (cs : List Nat) (bs : List Bo), vs = [.ref a, v] ∧ Cells K H a cs ∧ Fl cs bs ∧
  ((∃ (i : Nat) (t : Nat × Nat × Nat), v = vn i ∧ (lkL bs)[i]? = some t ∧ ∀ (l : Addr) (H' : Hp), Same H H' → H l = none → H' l = some (.lst ((gw t.2.1 t.2.2).map .int)) → Q (.ref l) H') ∨ (BadN K H v (lkL bs).length ∧ OErr CB H E))
theorem ok_growths {f : Addr} {fd : FuncData} (F : Def K mg "growths" sGrowths f fd) (b : Binds K fd ["cells", "number"] []) (T : Txt mg) (C_dataAt : CalX P w K mg base 35 "data_at" (spDataAt K CB)) (C_growthsAt : Cal P w K mg base 3 "growths_at" (spGrowthsAt K) []) : CalX P w K mg base 36 "growths" (spGrowths K CB) := by
  refine calX F b scGrowths (fun vs H Q E h => ?_) (fun cdv A outer s H vs Q E hr h => ?_)
  · obtain ⟨a, v, cs, bs, rfl, _⟩ := h
    rfl
  obtain ⟨a, v, cs, bs, rfl, hC, hF, h⟩ := h
  refine ⟨_, (pss_one (ps_ret (pe_c C_growthsAt hr (by decide) rfl (pa_cons (pv 0) (pa_cons (pe_cX C_dataAt hr (by decide) rfl (takes_of rfl rfl rfl rfl) (pa_cons (pv 0) (pa_cons (pv 1) pa_nil))) pa_nil))))), ?_⟩
  walk_at "rd"
  refine g_callS ?_
  walk_at "rd"
  refine ⟨a, v, cs, bs, rfl, hC, hF, ?_⟩
  rcases h with ⟨i, t, rfl, hi, q⟩ | ⟨hb, qe⟩
  · refine .inl ⟨i, t, rfl, hi, fun H1 s1 => ?_⟩
    walk_at "rd"
    exact ⟨a, cs, bs, t, rfl, hC.same s1, hF, List.mem_of_getElem? hi, fun l H2 s2 hn2 hl => q l H2 (s1.trans s2) (s1.free hn2) hl⟩
  · exact .inr ⟨hb, qe⟩
end
end Bx

namespace Bx
theorem pi_listK {X : Cx} {K : PySem.W.Frag} {tg l : Expr} {tl : TE} (e : X.K = K) (hl : PE X l tl) : PI X tg l (iList K tl) := by
  subst e
  exact pi_list hl
/-- the entries: what is asked for -/
def enV (cs hs : List Nat) : List Nat := (ens cs hs).map (cel cs)
section
variable {P : Program} {w : World} {K : PySem.W.Frag} {mg : Str → Option Value} {base : Heap} {C CB : Addr} {H : Hp} {Q : VK}
def spEntriesOf (K : PySem.W.Frag) : Sp := fun vs H Q _ => ∃ (a : Addr) (cs : List Nat) (bs : List Bo), vs = [.ref a] ∧ Cells K H a cs ∧ Fl cs bs ∧ ∀ (l : Addr) (H' : Hp), Same H H' → H l = none → H' l = some (.lst ((enV cs (hsL bs)).map vn)) → Q (.ref l) H'
theorem ok_entriesOf {f : Addr} {fd : FuncData} (F : Def K mg "entries_of" sEntriesOf f fd) (b : Binds K fd ["cells"] []) (T : Txt mg) (C_boxPlaces : Cal P w K mg base 1 "box_places" (spBoxPlaces K) []) (C_contentPlaces : Cal P w K mg base 1 "content_places" (spContentPlaces K) []) : Cal P w K mg base 2 "entries_of" (spEntriesOf K) [] := by
  refine cal0 F b .nil scEntriesOf (fun vs H Q E h => ?_) (fun cdv A outer s H vs Q E hr h => ?_)
  · obtain ⟨a, cs, bs, rfl, _⟩ := h
    rfl
  obtain ⟨a, cs, bs, rfl, hC, hF, q⟩ := h
  have hln := hF.ln
  have hen := lk_len bs _ _ hF.tl
  rw [en_ens bs _ _ hF.tl] at hen
  refine ⟨_, (pss_one (ps_ret (pe_lc2 (own := [("at", 1), ("place", 2)]) rfl scEntriesOf.nd (pi_list (pe_c C_boxPlaces hr (by decide) rfl (pa_cons (pv 0) (pa_cons (pe_gc rfl T.cTABLE) pa_nil)))) (blkOk_by (own := [("at", 1), ("place", 2)]) (N := NEntriesOf) (sc := (fnScope sEntriesOf)) (by decide +kernel)) (vs1 := [2]) (by decide) (fun _ _ _ _ _ => (pg_name (i := 1) scEntriesOf.nd rfl (.inl rfl))) (fun _ _ _ _ _ => pts_nil) (fun _ _ _ _ _ => (pi_listK (K := K) rfl (pe_c C_contentPlaces hr (by decide) rfl (pa_cons (pv 0) (pa_cons (pv 1) pa_nil))))) (fun _ _ _ _ _ => (pg_name (i := 2) scEntriesOf.nd rfl (.inl rfl))) (fun _ _ _ _ _ => pts_nil) (fun _ _ _ _ _ => (pe_ix (seq_k (K := K) rfl) (pv 0) (pv 2) (fun _ _ => rfl)))))), ?_⟩
  refine g_ret ?_
  refine g_lc2 (K := K) ?_
  walk_at "rd"
  refine ⟨a, cs, hsL bs, 4, rfl, hC, hF.pt, hF.hl, fun pl H1 s1 hn1 hpl => ?_⟩
  have hC1 := hC.same s1
  obtain ⟨ts, hts⟩ : ∃ ts, ts = (hsL bs).filter (isK cs 4) := ⟨_, rfl⟩
  have hens : ens cs (hsL bs) = (ts.map fun p => plc (row cs p)).flatten := by rw [hts]; rfl
  rw [← hts] at hpl
  have snoc : ∀ {i p : Nat}, ts[i]? = some p → ((ts.take (i + 1)).map fun p => plc (row cs p)).flatten = ((ts.take i).map fun p => plc (row cs p)).flatten ++ plc (row cs p) := fun h => by
    rw [take_snoc h, List.map_append, List.flatten_append]
    simp
  have hle : ∀ i : Nat, (((ts.take i).map fun p => plc (row cs p)).flatten).length ≤ 30 := fun i => by
    have e := congrArg (fun l => ((l.map fun p => plc (row cs p)).flatten).length) (List.take_append_drop i ts)
    have e2 : (((ts.take i ++ ts.drop i).map fun p => plc (row cs p)).flatten).length = (ens cs (hsL bs)).length := by rw [hens]; exact e
    rw [List.map_append, List.flatten_append, List.length_append] at e2
    omega
  refine ⟨pl, rfl, ⟨_, SqL.of hpl⟩, fun D hD => ?_⟩
  refine lc2_it walk_list (fun i H' => Same H1 H' ∧ H' D = some (.lst ((((ts.take i).map fun p => plc (row cs p)).flatten.map (cel cs)).map vn))) ⟨same_new hD _, upd_same⟩ (fun i H' _ z => SqL.of (z.1 _ _ hpl)) ?_ ?_
  · rintro i x H2 H3 hi ⟨s2, e1⟩ ⟨rfl, hx⟩
    obtain ⟨p, hp, rfl⟩ := vn_get hx
    have hpm := List.mem_of_getElem? hp
    rw [hts] at hpm
    obtain ⟨m0, m4⟩ := List.mem_filter.mp hpm
    have m4 : cel cs p = 4 := of_decide_eq_true m4
    obtain ⟨m1, m2, m3⟩ := hF.pt.mem p m0
    have es : stp cs p = cel cs (p + 1) := if_neg (by omega)
    rw [es] at m2 m3
    walk_at "rd"
    refine ⟨rfl, ?_⟩
    walk_at "rd"
    refine ⟨a, cs, p, rfl, hC1.same s2, m1, m2, fun pl2 H4 s4 hn4 hpl2 => ?_⟩
    have hC4 := hC1.same (s2.trans s4)
    refine ⟨pl2, rfl, ⟨_, SqL.of hpl2⟩, ?_⟩
    have hpll : (plc (row cs p)).length = cel cs (p + 1) - 2 := by
      unfold plc row
      rw [List.length_map, List.length_range]
    refine lcin_it walk_list (fun j H' => Same H1 H' ∧ H' pl2 = some (.lst ((plc (row cs p)).map vn)) ∧ H' D = some (.lst (((((ts.take i).map fun p => plc (row cs p)).flatten ++ (plc (row cs p)).take j).map (cel cs)).map vn))) ⟨s2.trans s4, hpl2, by rw [List.take_zero, List.append_nil]; exact s4 _ _ e1⟩ (fun j H' _ z => SqL.of z.2.1) ?_ ?_
    · rintro j x H5 H6 hj ⟨s6, e2, e3⟩ ⟨rfl, hx2⟩
      obtain ⟨pp, hpp, rfl⟩ := vn_get hx2
      have hpm2 := plc_mem (List.mem_of_getElem? hpp)
      have : (row cs p).1 = p + 2 := rfl
      have : (row cs p).2 = cel cs (p + 1) - 2 := rfl
      walk_at "rd"
      refine ⟨rfl, ?_⟩
      walk_at "rd"
      refine (hC1.same s6).ix pp rfl (by omega) ?_
      have hal : (((((ts.take i).map fun p => plc (row cs p)).flatten ++ (plc (row cs p)).take j).map (cel cs)).map vn).length ≤ 1000 := by
        have := hle i
        rw [List.length_map, List.length_map, List.length_append, List.length_take]
        omega
      have nPD : pl2 ≠ D := (ne_of_none e1 hn4).symm
      refine ⟨_, e3, small1000 hal, Same.putNew s6 hD, by rw [upd_ne nPD]; exact e2, ?_⟩
      rw [upd_same, take_snoc hpp]
      simp only [List.map_append, List.append_assoc]
      rfl
    · rintro H5 ⟨s6, e2, e3⟩
      rw [List.length_map, List.take_length] at e3
      exact ⟨s6, by rw [snoc hp]; exact e3⟩
  · rintro H2 ⟨s2, e1⟩
    rw [List.length_map, List.take_length, ← hens] at e1
    exact q D H2 (s1.trans s2) (s1.free hD) e1
/-- the numbers of those that cannot grow by one -/
def tgtL (l : List (Nat × Nat × Nat)) : List Nat := (List.range l.length).filter fun i => !decide ((1 : Int) ∈ gw (l.getD i (0, 0, 0)).2.1 (l.getD i (0, 0, 0)).2.2)
def spTight (K : PySem.W.Frag) : Sp := fun vs H Q _ => ∃ (a : Addr) (cs : List Nat) (bs : List Bo), vs = [.ref a] ∧ Cells K H a cs ∧ Fl cs bs ∧ ∀ (l : Addr) (H' : Hp), Same H H' → H l = none → H' l = some (.lst ((tgtL (lkL bs)).map vn)) → Q (.ref l) H'
theorem ok_tight {f : Addr} {fd : FuncData} (F : Def K mg "tight" sTight f fd) (b : Binds K fd ["cells"] []) (T : Txt mg) (C_checkFile : Cal P w K mg base 34 "check_file" (spCheckFileV K) []) (C_boxPlaces : Cal P w K mg base 1 "box_places" (spBoxPlaces K) []) (C_growthsAt : Cal P w K mg base 3 "growths_at" (spGrowthsAt K) []) : Cal P w K mg base 35 "tight" (spTight K) [] := by
  refine cal0 F b .nil scTight (fun vs H Q E h => ?_) (fun cdv A outer s H vs Q E hr h => ?_)
  · obtain ⟨a, cs, bs, rfl, _⟩ := h
    rfl
  obtain ⟨a, cs, bs, rfl, hC, hF, q⟩ := h
  have hll := lk_len bs _ _ hF.tl
  have hln := hF.ln
  refine ⟨_, (pss_cons (ps_expr (pe_c C_checkFile hr (by decide) rfl (pa_cons (pv 0) pa_nil)))
    (pss_one (ps_ret (pe_lc (own := [("number", 1), ("at", 2)]) rfl scTight.nd (pi_enum (by rfl) T.enumerate (pa_cons (pe_c C_boxPlaces hr (by decide) rfl (pa_cons (pv 0) (pa_cons (pe_gc rfl T.cDATA) pa_nil))) pa_nil)) (blkOk_by (own := [("number", 1), ("at", 2)]) (N := NTight) (sc := (fnScope sTight)) (by decide +kernel)) (fun _ _ _ _ _ => (pg_tup2 (K := K) rfl rfl (pgs_cons (pg_name (i := 1) scTight.nd rfl (.inl rfl)) (pgs_cons (pg_name (i := 2) scTight.nd rfl (.inl rfl)) pgs_nil)))) (fun _ _ _ _ _ => (pts_one (pt_cmpR (notin_k (K := K) rfl) pe_int (pe_c C_growthsAt hr (by decide) rfl (pa_cons (pv 0) (pa_cons (pv 2) pa_nil))) (by rfl)))) (fun _ _ _ _ _ => (pv 1)))))), ?_⟩
  walk_at "rd"
  refine ⟨a, cs, rfl, hC, hF.ok, fun H1 s1 => ?_⟩
  walk_at "rd"
  have hC1 := hC.same s1
  refine ⟨a, cs, hsL bs, 2, rfl, hC1, hF.pt, hF.hl, fun pl H2 s2 hn2 hpl => ?_⟩
  have hC2 := hC1.same s2
  refine ⟨pl, _, rfl, SqL.of hpl, fun D hD => ?_⟩
  refine lc_it walk_enum (fun i H' => Same H2 H' ∧ H' D = some (.lst (((List.range i).filter fun i => !decide ((1 : Int) ∈ gw ((lkL bs).getD i (0, 0, 0)).2.1 ((lkL bs).getD i (0, 0, 0)).2.2)).map vn))) ⟨same_new hD _, upd_same⟩ (fun i H' _ z => SqL.of (z.1 _ _ hpl)) ?_ ?_
  · rintro i x H3 H4 hi ⟨s3, e1⟩ ⟨T1, y1, y2, rfl, nT, rfl, g1, g2⟩
    cases Option.some.inj g1
    obtain ⟨p, hp, rfl⟩ := vn_get g2
    rw [lk_at hF] at hp
    obtain ⟨t, ht, rfl⟩ := Option.map_eq_some_iff.mp hp
    have sT := same_new nT (.tup [V.int (i : Int), vn t.1])
    have htg : (lkL bs).getD i (0, 0, 0) = t := by rw [List.getD_eq_getElem?_getD, ht]; rfl
    have hil := (List.getElem?_eq_some_iff.mp ht).1
    refine g_tupT (SqT.of upd_same) rfl ?_
    walk_at "rd"
    refine ⟨rfl, ?_⟩
    walk_at "rd"
    refine ⟨a, cs, bs, t, rfl, hC2.same (s3.trans sT), hF, List.mem_of_getElem? ht, fun l H5 s5 hn5 hl => ?_⟩
    have S5 := (s3.trans sT).trans s5
    refine rNotIn_ints (.inl (SqL.of hl)) ?_
    walk_at "rd"
    have hel : (((List.range i).filter fun i => !decide ((1 : Int) ∈ gw ((lkL bs).getD i (0, 0, 0)).2.1 ((lkL bs).getD i (0, 0, 0)).2.2)).map vn).length ≤ 1000 := by
      have := List.length_filter_le (fun i => !decide ((1 : Int) ∈ gw ((lkL bs).getD i (0, 0, 0)).2.1 ((lkL bs).getD i (0, 0, 0)).2.2)) (List.range i)
      rw [List.length_range] at this
      rw [List.length_map]
      omega
    by_cases h1 : (1 : Int) ∈ gw t.2.1 t.2.2
    · rw [decide_eq_true h1]
      refine iteF ?_
      refine ⟨S5, ?_⟩
      rw [List.range_succ, List.filter_append, List.filter_cons, if_neg (by rw [htg, decide_eq_true h1]; exact Bool.false_ne_true), List.filter_nil, List.append_nil]
      exact (sT.trans s5) _ _ e1
    · rw [decide_eq_false h1]
      refine iteT ?_
      walk_at "rd"
      refine ⟨_, (sT.trans s5) _ _ e1, small1000 hel, Same.putNew S5 hD, ?_⟩
      rw [upd_same, List.range_succ, List.filter_append, List.filter_cons, if_pos (by rw [htg, decide_eq_false h1]; rfl), List.filter_nil, List.map_append]
      rfl
  · rintro H3 ⟨s3, e1⟩
    rw [List.length_map, lk_ln hF] at e1
    exact q D H3 ((s1.trans s2).trans s3) ((s1.trans s2).free hD) e1
theorem gw_one {n s : Nat} (h : s ≠ 1) (h3 : s ≤ 30) : (!decide ((1 : Int) ∈ gw n s)) = (decide (s = 0) || decide (s = 2)) := by
  have key : (1 : Int) ∈ gw n s ↔ ¬ (s = 0 ∨ s = 2) := by
    unfold gw
    rw [List.mem_map]
    constructor
    · rintro ⟨i, hi, e⟩
      obtain ⟨h1, h2⟩ := List.mem_filter.mp hi
      have h1 := List.mem_range.mp h1
      have ei : i = n + 1 := by omega
      subst ei
      rintro (z | z)
      · omega
      · rw [z, show n + 2 - (n + 1) = 1 by omega] at h2
        exact absurd h2 (by decide)
    · intro hz
      refine ⟨n + 1, List.mem_filter.mpr ⟨List.mem_range.mpr (by omega), ?_⟩, by omega⟩
      unfold isSz
      rw [show n + s - (n + 1) = s - 1 by omega, decide_eq_true (show 2 ≤ s - 1 by omega), decide_eq_true (show s - 1 ≤ 30 by omega)]
      exact Bool.or_true _
  by_cases hz : s = 0 ∨ s = 2
  · rw [decide_eq_false (fun z => key.mp z hz)]
    rcases hz with hz | hz
    · rw [decide_eq_true hz]
      rfl
    · rw [decide_eq_true hz, Bool.or_true]
      rfl
  · rw [decide_eq_true (key.mpr hz), decide_eq_false (fun z => hz (.inl z)), decide_eq_false (fun z => hz (.inr z))]
    rfl
end
end Bx

namespace Bx
theorem k_no_lt {K : PySem.W.Frag} {T : String} (h1 : PySem.W.kitOne K (.type T) (.type "list") = some false) (h2 : PySem.W.kitOne K (.type T) (.type "tuple") = some false) : PySem.W.kitAny K (.type T) [.type "list", .type "tuple"] = some false :=
  kitAny_cons (b := false) h1 (fun _ => kitAny_cons (b := false) h2 (fun _ => kitAny_nil) (fun h => by cases h)) (fun h => by cases h)
theorem k_none_lt {K : PySem.W.Frag} : PySem.W.kitAny K (.type "NoneType") [.type "list", .type "tuple"] = some false := k_no_lt (kit_ty (by decide +kernel)) (kit_ty (by decide +kernel))
theorem k_int_lt {K : PySem.W.Frag} : PySem.W.kitAny K (.type "int") [.type "list", .type "tuple"] = some false := k_no_lt (kit_ty (by decide +kernel)) (kit_ty (by decide +kernel))
theorem k_str_lt {K : PySem.W.Frag} : PySem.W.kitAny K (.type "str") [.type "list", .type "tuple"] = some false := k_no_lt (kit_ty (by decide +kernel)) (kit_ty (by decide +kernel))
theorem k_dict_lt {K : PySem.W.Frag} : PySem.W.kitAny K (.type "dict") [.type "list", .type "tuple"] = some false := k_no_lt (kit_ty (by decide +kernel)) (kit_ty (by decide +kernel))
/-- a value that is no row -/
def NoRow (H : Hp) (v : V) : Prop := v = .non ∨ (∃ i, v = .int i) ∨ (∃ s, v = .str s) ∨ ∃ a kvs, v = .ref a ∧ H a = some (.dK kvs)
theorem NoRow.same {H H' : Hp} {v : V} (e : Same H H') (h : NoRow H v) : NoRow H' v := by
  rcases h with h | h | h | ⟨a, xs, h1, h2⟩
  · exact .inl h
  · exact .inr (.inl h)
  · exact .inr (.inr (.inl h))
  · exact .inr (.inr (.inr ⟨a, xs, h1, e _ _ h2⟩))
def isC : V → Bool
  | .int n => decide (0 ≤ n ∧ n ≤ 99)
  | _ => false
/-- whether a row of values can be the content -/
def cnH (cs : List Nat) (bs : List Bo) (t : Nat × Nat × Nat) (xs : List V) : Bool :=
  decide (((xs.length : Int) - (t.2.1 : Int)) ∈ gw t.2.1 t.2.2) && (xs.all isC && !(enV cs (hsL bs)).any fun e => decide (e ∈ (plc (row cs t.1)).drop xs.length))
section
variable {P : Program} {w : World} {K : PySem.W.Frag} {mg : Str → Option Value} {base : Heap} {C CB : Addr} {H : Hp} {Q : VK}
theorem b_any : bootBuiltins "any" = some (.builtin "any") := by decide +kernel
theorem cut_from (l : List V) (n : Nat) : cutV l (some (n : Int)) none = l.drop n := by
  unfold cutV
  rw [HT.sIx_none, HT.sIx_nat]
  by_cases h : n ≤ l.length
  · rw [Nat.min_eq_left h, List.take_of_length_le (by rw [List.length_drop]; exact Nat.le_refl _)]
  · rw [Nat.min_eq_right (by omega), List.drop_of_length_le (Nat.le_refl _), List.take_nil, List.drop_of_length_le (by omega)]
theorem g_anyB {l : Addr} {bs : List Bool} (h : SqL K H l (bs.map V.bl)) (q : Q (.bl (bs.any id)) H) : rAny K [.ref l] H Q := ⟨l, bs, rfl, h, q⟩
theorem g_notV {ta : TE} {σ : L2.St} (h : ta σ H fun x H1 => ∃ c, x = .bl c ∧ Q (.bl (!c)) H1) : tNotV ta σ H Q := h
theorem isiT_seq {p tp : Addr} {xs : List V} (e : H tp = some (.tup [V.ty "list", V.ty "tuple"])) (h : SqL K H p xs ∨ SqT K H p xs) (q : Q (.bl true) H) : rIsiT K [.ref p, .ref tp] H Q := by
  rcases h with z | z
  · exact ⟨_, _, _, _, _, _, rfl, e, cls_lt, tyL z, k_list_lt, q⟩
  · exact ⟨_, _, _, _, _, _, rfl, e, cls_lt, tyT z, k_tuple_lt, q⟩
def spIsCellA (K : PySem.W.Frag) : Sp := fun vs H Q _ => ∃ v : V, vs = [v] ∧ ((∃ n : Int, v = .int n) ∨ NoInt K H v) ∧ Q (.bl (isC v)) H
theorem ok_isCellA {f : Addr} {fd : FuncData} (F : Def K mg "is_cell" sIsCell f fd) (b : Binds K fd ["value"] []) (T : Txt mg) (C_isBetween : Cal P w K mg base 1 "is_between" (spBetweenA K) []) : Cal P w K mg base 2 "is_cell" (spIsCellA K) [] := by
  refine cal0 F b .nil scIsCell (fun vs H Q E h => ?_) (fun cdv A outer s H vs Q E hr h => ?_)
  · obtain ⟨v, rfl, _⟩ := h
    rfl
  obtain ⟨v, rfl, hv, q⟩ := h
  refine ⟨_, (pss_one (ps_ret (pe_c C_isBetween hr (by decide) rfl (pa_cons (pv 0) (pa_cons pe_int (pa_cons (pe_gc rfl T.cLARGEST_CELL) pa_nil)))))), ?_⟩
  walk_at "rd"
  refine ⟨v, _, _, rfl, ?_⟩
  rcases hv with ⟨n, rfl⟩ | hv
  · exact .inl ⟨n, rfl, q⟩
  · refine .inr ⟨hv, ?_⟩
    have e : isC v = false := by
      rcases hv with rfl | ⟨s, rfl⟩ | ⟨b, rfl⟩ | ⟨a, xs, rfl, _⟩ <;> rfl
    rw [e] at q
    exact q
/-- the kinds of values that stand in contents -/
def CelV (K : PySem.W.Frag) (H : Hp) (xs : List V) : Prop := ∀ x ∈ xs, (∃ n : Int, x = .int n) ∨ NoInt K H x
theorem CelV.same {H' : Hp} {xs : List V} (e : Same H H') (h : CelV K H xs) : CelV K H' xs := fun x hx => (h x hx).imp id fun z => z.same e
def spCanHold (K : PySem.W.Frag) : Sp := fun vs H Q _ => ∃ (a : Addr) (c : V) (cs : List Nat) (bs : List Bo) (t : Nat × Nat × Nat), vs = [.ref a, vn t.1, c] ∧ Cells K H a cs ∧ Fl cs bs ∧ t ∈ lkL bs ∧
  ((NoRow H c ∧ ∀ H', Same H H' → Q (.bl false) H') ∨ ∃ (p : Addr) (xs : List V), c = .ref p ∧ (SqL K H p xs ∨ SqT K H p xs) ∧ xs.length ≤ 100 ∧ CelV K H xs ∧ ∀ H', Same H H' → Q (.bl (cnH cs bs t xs)) H')
theorem ok_canHold {f : Addr} {fd : FuncData} (F : Def K mg "can_hold" sCanHold f fd) (b : Binds K fd ["cells", "at", "content"] []) (T : Txt mg) (C_growthsAt : Cal P w K mg base 3 "growths_at" (spGrowthsAt K) []) (C_isCell : Cal P w K mg base 2 "is_cell" (spIsCellA K) []) (C_contentPlaces : Cal P w K mg base 1 "content_places" (spContentPlaces K) []) (C_entriesOf : Cal P w K mg base 2 "entries_of" (spEntriesOf K) []) : Cal P w K mg base 4 "can_hold" (spCanHold K) [] := by
  refine cal0 F b .nil scCanHold (fun vs H Q E h => ?_) (fun cdv A outer s H vs Q E hr h => ?_)
  · obtain ⟨a, c, cs, bs, t, rfl, _⟩ := h
    rfl
  obtain ⟨a, c, cs, bs, t, rfl, hC, hF, ht, h⟩ := h
  obtain ⟨h1, h2, h3⟩ := hF.at ht
  have hln := hF.ln
  refine ⟨_, (pss_cons (ps_if (pt_not (pt_val (pe_callB call_isiT (by rfl) T.isinstance b_isinstance (pa_cons (pv 2) (pa_cons (pe_tup (pa_cons (pe_bltn (v := .ty "list") (by rfl) T.list b_list rfl) (pa_cons (pe_bltn (v := .ty "tuple") (by rfl) T.tuple b_tuple rfl) pa_nil))) pa_nil))))) 
      (pss_one (ps_ret pe_bl)) pss_nil)
    (pss_cons (ps_if (pt_cmpR op_notIn_seq (pe_op op_sub (pe_op op_add (pe_gc rfl T.cHEAD) (pe_callB call_len_seq (by rfl) T.len b_len (pa_cons (pv 2) pa_nil))) (pe_ix ix_seq (pv 0) (pe_op op_add (pv 1) pe_int) (fun _ _ => rfl))) (pe_c C_growthsAt hr (by decide) rfl (pa_cons (pv 0) (pa_cons (pv 1) pa_nil))) (by rfl)) 
      (pss_one (ps_ret pe_bl)) pss_nil)
    (pss_cons (ps_if (pt_not (pt_val (pe_callB (cr_all rfl) (by rfl) T.all b_all (pa_cons (pe_lc (own := [("cell", 4)]) rfl scCanHold.nd (pi_seq (pv 2)) (blkOk_by (own := [("cell", 4)]) (N := NCanHold) (sc := (fnScope sCanHold)) (by decide +kernel)) (fun _ _ _ _ _ => (pg_name (i := 4) scCanHold.nd rfl (.inl rfl))) (fun _ _ _ _ _ => pts_nil) (fun _ _ _ _ _ => (pe_c C_isCell hr (by decide) rfl (pa_cons (pv 4) pa_nil)))) pa_nil)))) 
      (pss_one (ps_ret pe_bl)) pss_nil)
    (pss_cons (ps_set (i := 3) scCanHold.nd rfl (Or.inr rfl) (pe_slice sl_list (pe_c C_contentPlaces hr (by decide) rfl (pa_cons (pv 0) (pa_cons (pv 1) pa_nil))) (po_some (pe_callB call_len_seq (by rfl) T.len b_len (pa_cons (pv 2) pa_nil))) po_none))
    (pss_one (ps_ret (pe_not (pe_callB (cr_any rfl) (by rfl) T.any b_any (pa_cons (pe_lc (own := [("entry", 5)]) rfl scCanHold.nd (pi_list (pe_c C_entriesOf hr (by decide) rfl (pa_cons (pv 0) pa_nil))) (blkOk_by (own := [("entry", 5)]) (N := NCanHold) (sc := (fnScope sCanHold)) (by decide +kernel)) (fun _ _ _ _ _ => (pg_name (i := 5) scCanHold.nd rfl (.inl rfl))) (fun _ _ _ _ _ => pts_nil) (fun _ _ _ _ _ => (pe_cmpR (in_k (K := K) rfl) (pv 5) (pv 3) (by rfl)))) pa_nil))))))))), ?_⟩
  walk_at "rd"
  refine ⟨(by show 2 ≤ sizeLine; decide), fun tp htp => ?_⟩
  have s1 := same_new htp (.tup [V.ty "list", V.ty "tuple"])
  walk_at "rd"
  rcases h with ⟨hn, q⟩ | ⟨p, xs, rfl, hp, hpl, hcv, q⟩
  · have hq := q _ s1
    rcases hn with rfl | ⟨i, rfl⟩ | ⟨z, rfl⟩ | ⟨d, kvs, rfl, hd⟩
    · refine ⟨_, _, _, _, _, _, rfl, upd_same, cls_lt, .base .non, k_none_lt, ?_⟩
      walk_at "rd"
      exact hq
    · refine ⟨_, _, _, _, _, _, rfl, upd_same, cls_lt, .base (.int i), k_int_lt, ?_⟩
      walk_at "rd"
      exact hq
    · refine ⟨_, _, _, _, _, _, rfl, upd_same, cls_lt, .base (.str z), k_str_lt, ?_⟩
      walk_at "rd"
      exact hq
    · refine ⟨_, _, _, _, _, _, rfl, upd_same, cls_lt, .base (.dK (s1 _ _ hd)), k_dict_lt, ?_⟩
      walk_at "rd"
      exact hq
  have hp1 : SqL K (upd H tp (.tup [V.ty "list", V.ty "tuple"])) p xs ∨ SqT K (upd H tp (.tup [V.ty "list", V.ty "tuple"])) p xs := hp.elim (fun z => .inl (s1.seq z)) (fun z => .inr (Same.sqt s1 z))
  refine isiT_seq upd_same hp1 ?_
  walk_at "rd"
  refine ⟨p, xs, rfl, hp1, ?_⟩
  walk_at "rd"
  refine (hC.same s1).ix (t.1 + 1) (by omega) (by omega) ?_
  rw [h2]
  walk_at "rd"
  refine ⟨a, cs, bs, t, rfl, hC.same s1, hF, ht, fun l H2 s2 hn2 hl => ?_⟩
  have S2 := s1.trans s2
  rw [show (2 : Int) + (xs.length : Int) - ((t.2.1 + 2 : Nat) : Int) = (xs.length : Int) - (t.2.1 : Int) by omega]
  refine rNotIn_ints (.inl (SqL.of hl)) ?_
  walk_at "rd"
  have hel30 : (enV cs (hsL bs)).length ≤ 30 := by
    have := lk_len bs _ _ hF.tl
    rw [en_ens bs _ _ hF.tl] at this
    unfold enV
    rw [List.length_map]
    omega
  have bad : ∀ (H3 : Hp), Same H2 H3 → cnH cs bs t xs = false → Q (.bl false) H3 := fun H3 s3 e => by
    have := q H3 (S2.trans s3)
    rw [e] at this
    exact this
  by_cases hc : ((xs.length : Int) - (t.2.1 : Int)) ∈ gw t.2.1 t.2.2
  · refine g_ndF hc ?_
    walk_at "rd"
    have hp2 : SqL K H2 p xs ∨ SqT K H2 p xs := hp1.elim (fun z => .inl (s2.seq z)) (fun z => .inr (Same.sqt s2 z))
    rcases hp2 with z | z
    · refine ⟨p, rfl, .inl ⟨⟨xs, z⟩, fun D hD => ?_⟩⟩
      refine lc_it walk_list (fun i H' => Same H2 H' ∧ H' D = some (.lst (((xs.take i).map isC).map V.bl))) ⟨same_new hD _, upd_same⟩ (fun i H' _ z1 => z1.1.seq z) ?_ ?_
      · rintro i x H3 H4 hi ⟨s3, e1⟩ ⟨rfl, hx⟩
        walk_at "rd"
        refine ⟨rfl, ?_⟩
        walk_at "rd"
        refine ⟨x, rfl, (hcv.same (S2.trans s3)) x (List.mem_of_getElem? hx), ?_⟩
        refine ⟨_, e1, small1000 (by rw [List.length_map, List.length_map, List.length_take]; omega), Same.putNew s3 hD, ?_⟩
        rw [upd_same, take_snoc hx, List.map_append, List.map_append]
        rfl
      · rintro H3 ⟨s3, e1⟩
        rw [List.take_length] at e1
        walk_at "rd"
        refine g_allB (bs := xs.map isC) (SqL.of e1) ?_
        rw [List.all_map]
        walk_at "rd"
        have e8 : xs.all (id ∘ isC) = xs.all isC := rfl
        rw [e8]
        have S3 := S2.trans s3
        cases hb : xs.all isC with
        | false =>
          walk_at "rd"
          exact bad H3 s3 (by unfold cnH; rw [hb]; exact Bool.and_false _)
        | true =>
          walk_at "rd"
          refine ⟨a, cs, t.1, rfl, hC.same S3, by omega, by omega, fun pl H4 s4 hn4 hpl => ?_⟩
          have S4 := S3.trans s4
          walk_at "rd"
          refine ⟨p, xs, rfl, hp.elim (fun z => .inl (S4.seq z)) (fun z => .inr (Same.sqt S4 z)), ?_⟩
          walk_at "rd"
          refine ⟨pl, _, rfl, SqL.of hpl, fun gl hgl => ?_⟩
          rw [cut_from, ← List.map_drop]
          have s5 := same_new hgl (.lst (((plc (row cs t.1)).drop xs.length).map vn))
          walk_at "rd"
          refine g_notV ?_
          walk_at "rd"
          refine ⟨a, cs, bs, rfl, hC.same (S4.trans s5), hF, fun el H6 s6 hn6 hel => ?_⟩
          have S6 := (S4.trans s5).trans s6
          refine ⟨el, rfl, ⟨_, SqL.of hel⟩, fun D2 hD2 => ?_⟩
          refine lc_it walk_list (fun i H' => Same H6 H' ∧ H' D2 = some (.lst ((((enV cs (hsL bs)).take i).map fun e => decide (e ∈ (plc (row cs t.1)).drop xs.length)).map V.bl))) ⟨same_new hD2 _, upd_same⟩ (fun i H' _ z1 => SqL.of (z1.1 _ _ hel)) ?_ ?_
          · rintro i x H7 H8 hi ⟨s7, e7⟩ ⟨rfl, hx⟩
            obtain ⟨e, he, rfl⟩ := vn_get hx
            have hei := (List.getElem?_eq_some_iff.mp he).1
            walk_at "rd"
            refine ⟨rfl, ?_⟩
            walk_at "rd"
            refine rIn_ints (ns := ((plc (row cs t.1)).drop xs.length).map fun (n : Nat) => (n : Int)) (.inl (SqL.of (by rw [List.map_map]; exact (s6.trans s7) _ _ upd_same))) ?_
            rw [mem_cast]
            refine ⟨_, e7, small1000 (by rw [List.length_map, List.length_map, List.length_take]; omega), Same.putNew s7 hD2, ?_⟩
            rw [upd_same, take_snoc he, List.map_append, List.map_append]
            rfl
          · rintro H7 ⟨s7, e7⟩
            rw [List.length_map, List.take_length] at e7
            walk_at "rd"
            refine g_anyB (bs := (enV cs (hsL bs)).map fun e => decide (e ∈ (plc (row cs t.1)).drop xs.length)) (SqL.of e7) ?_
            rw [List.any_map]
            walk_at "rd"
            have := q H7 (S6.trans s7)
            unfold cnH at this
            rw [decide_eq_true hc, hb] at this
            exact this
    · refine ⟨p, rfl, .inr ⟨⟨xs, z⟩, fun D hD => ?_⟩⟩
      refine lc_it walk_tup (fun i H' => Same H2 H' ∧ H' D = some (.lst (((xs.take i).map isC).map V.bl))) ⟨same_new hD _, upd_same⟩ (fun i H' _ z1 => Same.sqt z1.1 z) ?_ ?_
      · rintro i x H3 H4 hi ⟨s3, e1⟩ ⟨rfl, hx⟩
        walk_at "rd"
        refine ⟨rfl, ?_⟩
        walk_at "rd"
        refine ⟨x, rfl, (hcv.same (S2.trans s3)) x (List.mem_of_getElem? hx), ?_⟩
        refine ⟨_, e1, small1000 (by rw [List.length_map, List.length_map, List.length_take]; omega), Same.putNew s3 hD, ?_⟩
        rw [upd_same, take_snoc hx, List.map_append, List.map_append]
        rfl
      · rintro H3 ⟨s3, e1⟩
        rw [List.take_length] at e1
        walk_at "rd"
        refine g_allB (bs := xs.map isC) (SqL.of e1) ?_
        rw [List.all_map]
        walk_at "rd"
        have e8 : xs.all (id ∘ isC) = xs.all isC := rfl
        rw [e8]
        have S3 := S2.trans s3
        cases hb : xs.all isC with
        | false =>
          walk_at "rd"
          exact bad H3 s3 (by unfold cnH; rw [hb]; exact Bool.and_false _)
        | true =>
          walk_at "rd"
          refine ⟨a, cs, t.1, rfl, hC.same S3, by omega, by omega, fun pl H4 s4 hn4 hpl => ?_⟩
          have S4 := S3.trans s4
          walk_at "rd"
          refine ⟨p, xs, rfl, hp.elim (fun z => .inl (S4.seq z)) (fun z => .inr (Same.sqt S4 z)), ?_⟩
          walk_at "rd"
          refine ⟨pl, _, rfl, SqL.of hpl, fun gl hgl => ?_⟩
          rw [cut_from, ← List.map_drop]
          have s5 := same_new hgl (.lst (((plc (row cs t.1)).drop xs.length).map vn))
          walk_at "rd"
          refine g_notV ?_
          walk_at "rd"
          refine ⟨a, cs, bs, rfl, hC.same (S4.trans s5), hF, fun el H6 s6 hn6 hel => ?_⟩
          have S6 := (S4.trans s5).trans s6
          refine ⟨el, rfl, ⟨_, SqL.of hel⟩, fun D2 hD2 => ?_⟩
          refine lc_it walk_list (fun i H' => Same H6 H' ∧ H' D2 = some (.lst ((((enV cs (hsL bs)).take i).map fun e => decide (e ∈ (plc (row cs t.1)).drop xs.length)).map V.bl))) ⟨same_new hD2 _, upd_same⟩ (fun i H' _ z1 => SqL.of (z1.1 _ _ hel)) ?_ ?_
          · rintro i x H7 H8 hi ⟨s7, e7⟩ ⟨rfl, hx⟩
            obtain ⟨e, he, rfl⟩ := vn_get hx
            have hei := (List.getElem?_eq_some_iff.mp he).1
            walk_at "rd"
            refine ⟨rfl, ?_⟩
            walk_at "rd"
            refine rIn_ints (ns := ((plc (row cs t.1)).drop xs.length).map fun (n : Nat) => (n : Int)) (.inl (SqL.of (by rw [List.map_map]; exact (s6.trans s7) _ _ upd_same))) ?_
            rw [mem_cast]
            refine ⟨_, e7, small1000 (by rw [List.length_map, List.length_map, List.length_take]; omega), Same.putNew s7 hD2, ?_⟩
            rw [upd_same, take_snoc he, List.map_append, List.map_append]
            rfl
          · rintro H7 ⟨s7, e7⟩
            rw [List.length_map, List.take_length] at e7
            walk_at "rd"
            refine g_anyB (bs := (enV cs (hsL bs)).map fun e => decide (e ∈ (plc (row cs t.1)).drop xs.length)) (SqL.of e7) ?_
            rw [List.any_map]
            walk_at "rd"
            have := q H7 (S6.trans s7)
            unfold cnH at this
            rw [decide_eq_true hc, hb] at this
            exact this
  · refine g_ndT hc ?_
    walk_at "rd"
    exact bad H2 (.refl _) (by unfold cnH; rw [decide_eq_false hc]; rfl)
end
end Bx

namespace Bx
/-- the cells after a box at t got a content of other numbers -/
def grR (cs : List Nat) (t : Nat × Nat × Nat) (ys : List Nat) : List Nat :=
  let r1 := cs.take t.1 ++ (2 :: (2 + ys.length) :: ys) ++ cs.drop (t.1 + (2 + ys.length))
  let f := t.2.2 + t.2.1 - ys.length
  if 0 < f then r1.take (t.1 + (2 + ys.length)) ++ [3, f] ++ r1.drop (t.1 + (2 + ys.length) + 2) else r1
theorem gw_mem {n s : Nat} {z : Int} (h : z ∈ gw n s) : -(n : Int) ≤ z ∧ z ≤ (s : Int) ∧ ((s : Int) - z = 0 ∨ 2 ≤ (s : Int) - z) := by
  unfold gw at h
  obtain ⟨i, hi, rfl⟩ := List.mem_map.mp h
  obtain ⟨h1, h2⟩ := List.mem_filter.mp hi
  have h1 := List.mem_range.mp h1
  unfold isSz at h2
  have h3 : n + s - i = 0 ∨ 2 ≤ n + s - i := by
    rcases Bool.or_eq_true _ _ ▸ h2 with h | h
    · exact .inl (of_decide_eq_true h)
    · exact .inr (of_decide_eq_true (Bool.and_eq_true _ _ ▸ h).1)
  omega
section
variable {P : Program} {w : World} {K : PySem.W.Frag} {mg : Str → Option Value} {base : Heap} {C CB CG : Addr} {H : Hp} {Q : VK}
def spGrown (K : PySem.W.Frag) (CB CG : Addr) : Sp := fun vs H Q E => ∃ (a : Addr) (v c : V) (cs : List Nat) (bs : List Bo), vs = [.ref a, v, c] ∧ Cells K H a cs ∧ Fl cs bs ∧
  ((BadN K H v (lkL bs).length ∧ OErr CB H E) ∨ ∃ (i : Nat) (t : Nat × Nat × Nat), v = vn i ∧ (lkL bs)[i]? = some t ∧
    ((NoRow H c ∧ OErr CG H E) ∨ ∃ (p : Addr) (xs : List V), c = .ref p ∧ (SqL K H p xs ∨ SqT K H p xs) ∧ xs.length ≤ 100 ∧ CelV K H xs ∧
      ((cnH cs bs t xs = false ∧ OErr CG H E) ∨ ∃ ys : List Nat, xs = ys.map vn ∧ cnH cs bs t xs = true ∧ ∀ (r : Addr) (H' : Hp), Same H H' → H' r = some (.tup ((grR cs t ys).map vn)) → Q (.ref r) H')))
theorem ok_grown {f : Addr} {fd : FuncData} (F : Def K mg "grown" sGrown f fd) (b : Binds K fd ["cells", "number", "content"] []) (T : Txt mg) (O : OwX K mg "BadGrowth" CG) (C_dataAt : CalX P w K mg base 35 "data_at" (spDataAt K CB)) (C_canHold : Cal P w K mg base 4 "can_hold" (spCanHold K) []) (C_freeAfter : Cal P w K mg base 2 "free_after" (spFreeAfter K) []) : CalX P w K mg base 36 "grown" (spGrown K CB CG) := by
  refine calX F b scGrown (fun vs H Q E h => ?_) (fun cdv A outer s H vs Q E hr h => ?_)
  · obtain ⟨a, v, c, cs, bs, rfl, _⟩ := h
    rfl
  obtain ⟨a, v, c, cs, bs, rfl, hC, hF, h⟩ := h
  have hln := hF.ln
  refine ⟨_, (pss_cons (ps_set (i := 3) scGrown.nd rfl (Or.inl rfl) (pe_cX C_dataAt hr (by decide) rfl (takes_of rfl rfl rfl rfl) (pa_cons (pv 0) (pa_cons (pv 1) pa_nil))))
    (pss_cons (ps_if (pt_not (pt_val (pe_c C_canHold hr (by decide) rfl (pa_cons (pv 0) (pa_cons (pv 3) (pa_cons (pv 2) pa_nil)))))) 
      (pss_one (ps_raise rfl (takes_of rfl rfl rfl rfl) (pmk_ox (C := CG) O (by rfl)))) pss_nil)
    (pss_cons (ps_set (i := 4) scGrown.nd rfl (Or.inl rfl) (pe_callTy call_list_of (by rfl) T.list b_list (pa_cons (pv 0) pa_nil)))
    (pss_cons (ps_set (i := 5) scGrown.nd rfl (Or.inl rfl) (pe_op op_add (pe_gc rfl T.cHEAD) (pe_callB call_len_seq (by rfl) T.len b_len (pa_cons (pv 2) pa_nil))))
    (pss_cons (ps_set (i := 6) scGrown.nd rfl (Or.inl rfl) (pe_op op_add (pv 3) (pv 5)))
    (pss_cons (ps_asg (pe_lst (pa_cons (pe_gc rfl T.cDATA) (pa_cons (pv 5) (StX.pa_star (pv 2) pa_nil)))) (pg_slc (pv 4) (po_some (pv 3)) (po_some (pv 6))))
    (pss_cons (ps_set (i := 7) scGrown.nd rfl (Or.inl rfl) (pe_op op_sub (pe_op op_add (pe_c C_freeAfter hr (by decide) rfl (pa_cons (pv 0) (pa_cons (pv 3) pa_nil))) (pe_ix ix_seq (pv 0) (pe_op op_add (pv 3) pe_int) (fun _ _ => rfl))) (pv 5)))
    (pss_cons (ps_if (pt_cmpR op_gt (pv 7) pe_int (nomark _)) 
      (pss_one (ps_asg (pe_lst (pa_cons (pe_gc rfl T.cFREE) (pa_cons (pv 7) pa_nil))) (pg_slc (pv 4) (po_some (pv 6)) (po_some (pe_op op_add (pv 6) (pe_gc rfl T.cHEAD)))))) pss_nil)
    (pss_one (ps_ret (pe_callTy call_tuple_of (by rfl) T.tuple b_tuple (pa_cons (pv 4) pa_nil)))))))))))), ?_⟩
  walk_at "rd"
  refine g_callS ?_
  walk_at "rd"
  refine ⟨a, v, cs, bs, rfl, hC, hF, ?_⟩
  rcases h with ⟨hb, qe⟩ | ⟨i, t, rfl, hi, h⟩
  · exact .inr ⟨hb, qe⟩
  have ht := List.mem_of_getElem? hi
  obtain ⟨h1, h2, h3⟩ := hF.at ht
  have h4 := hF.sp ht
  refine .inl ⟨i, t, rfl, hi, fun H1 s1 => ?_⟩
  walk_at "rd"
  refine ⟨a, c, cs, bs, t, rfl, hC.same s1, hF, ht, ?_⟩
  rcases h with ⟨hn, qe⟩ | ⟨p, xs, rfl, hp, hpl, hcv, h⟩
  · refine .inl ⟨hn.same s1, fun H2 s2 => ?_⟩
    walk_at "rd"
    exact qe H2 (s1.trans s2)
  have hp1 : SqL K H1 p xs ∨ SqT K H1 p xs := hp.elim (fun z => .inl (s1.seq z)) (fun z => .inr (Same.sqt s1 z))
  refine .inr ⟨p, xs, rfl, hp1, hpl, hcv.same s1, fun H2 s2 => ?_⟩
  have S2 := s1.trans s2
  rcases h with ⟨hc, qe⟩ | ⟨ys, rfl, hc, q⟩
  · rw [hc]
    walk_at "rd"
    exact qe H2 S2
  rw [hc]
  walk_at "rd"
  have hc1 : ((ys.length : Int) - (t.2.1 : Int)) ∈ gw t.2.1 t.2.2 := by
    unfold cnH at hc
    have := (Bool.and_eq_true _ _ ▸ hc).1
    rw [List.length_map] at this
    exact of_decide_eq_true this
  obtain ⟨c1, c2, c3⟩ := gw_mem hc1
  rw [List.length_map] at hpl
  refine ⟨a, _, rfl, (hC.same S2).sq, fun R hR => ?_⟩
  have s3 := same_new hR (.lst (cs.map vn))
  have S3 := S2.trans s3
  have hp3 := hp.elim (fun z => Or.inl (S3.seq z)) (fun z => Or.inr (Same.sqt S3 z))
  have hR0 : H R = none := S2.free hR
  have hR3 : (upd H2 R (.lst (cs.map vn))) R = some (.lst (cs.map vn)) := upd_same
  revert s3 S3 hp3 hR3
  generalize upd H2 R (.lst (cs.map vn)) = H3
  intro s3 S3 hp3 hR3
  walk_at "rd"
  refine ⟨p, ys.map vn, rfl, hp3, ?_⟩
  rw [List.length_map]
  walk_at "rd"
  refine ⟨p, ys.map vn, rfl, hp3.symm, ?_⟩
  walk_at "rd"
  refine ⟨(by show (ys.map vn ++ []).length + 2 ≤ sizeLine; rw [List.append_nil, List.length_map]; exact Nat.le_trans (by omega : _ ≤ 102) (by decide)), fun L hL => ?_⟩
  rw [List.append_nil]
  have s4 := same_new hL (.lst (V.int 2 :: V.int (2 + (ys.length : Int)) :: ys.map vn))
  have nRL : R ≠ L := ne_of_none hR3 hL
  walk_at "rd"
  refine g_slc ?_
  walk_at "rd"
  refine ⟨R, cs.map vn, L, _, t.1, t.1 + (2 + ys.length), rfl, rfl, nRL, rfl, congrArg some (by omega), s4 _ _ hR3, upd_same, by omega, by rw [List.length_map]; omega, by rw [List.length_map]; show _ + (ys.map vn).length.succ.succ ≤ sizeLine; rw [List.length_map]; exact Nat.le_trans (by omega : _ ≤ 200) (by decide), ?_⟩
  obtain ⟨r1, hr1⟩ : ∃ r1, r1 = cs.take t.1 ++ (2 :: (2 + ys.length) :: ys) ++ cs.drop (t.1 + (2 + ys.length)) := ⟨_, rfl⟩
  have er1 : (cs.map vn).take t.1 ++ (V.int 2 :: V.int (2 + (ys.length : Int)) :: ys.map vn) ++ (cs.map vn).drop (t.1 + (2 + ys.length)) = r1.map vn := by
    rw [hr1, List.map_append, List.map_append, List.map_take, List.map_drop]
    rfl
  have hr1l : r1.length = cs.length := by
    rw [hr1, List.length_append, List.length_append, List.length_take, List.length_drop]
    show min t.1 cs.length + (ys.length + 1 + 1) + _ = _
    omega
  rw [er1]
  have s5 : Same H (upd (upd H3 L (.lst (V.int 2 :: V.int (2 + (ys.length : Int)) :: ys.map vn))) R (.lst (r1.map vn))) := Same.putNew (S3.trans s4) hR0
  have hR5 : (upd (upd H3 L (.lst (V.int 2 :: V.int (2 + (ys.length : Int)) :: ys.map vn))) R (.lst (r1.map vn))) R = some (.lst (r1.map vn)) := upd_same
  revert s5 hR5
  generalize upd (upd H3 L (.lst (V.int 2 :: V.int (2 + (ys.length : Int)) :: ys.map vn))) R (.lst (r1.map vn)) = H5
  intro s5 hR5
  walk_at "rd"
  refine ⟨a, cs, bs, t, rfl, hC.same s5, hF, ht, fun H6 s6 => ?_⟩
  have S6 := s5.trans s6
  have hR6 := s6 _ _ hR5
  walk_at "rd"
  refine (hC.same S6).ix (t.1 + 1) (by omega) (by omega) ?_
  rw [h2]
  walk_at "rd"
  have ef : (t.2.2 : Int) + ((t.2.1 + 2 : Nat) : Int) - (2 + (ys.length : Int)) = ((t.2.2 + t.2.1 - ys.length : Nat) : Int) := by omega
  rw [ef]
  refine g_ite (fun hf => ?_) (fun hf => ?_)
  · have hf : 0 < t.2.2 + t.2.1 - ys.length := by omega
    walk_at "rd"
    refine ⟨(by show 2 ≤ sizeLine; decide), fun L2 hL2 => ?_⟩
    have s7 := same_new hL2 (.lst [V.int 3, vn (t.2.2 + t.2.1 - ys.length)])
    have nRL2 : R ≠ L2 := ne_of_none hR6 hL2
    walk_at "rd"
    refine g_slc ?_
    walk_at "rd"
    refine ⟨R, r1.map vn, L2, _, t.1 + (2 + ys.length), t.1 + (2 + ys.length) + 2, rfl, rfl, nRL2, congrArg some (by omega), congrArg some (by omega), s7 _ _ hR6, upd_same, by omega, by rw [List.length_map]; omega, by rw [List.length_map]; show _ + 2 ≤ sizeLine; exact Nat.le_trans (by omega : _ ≤ 200) (by decide), ?_⟩
    have er2 : (r1.map vn).take (t.1 + (2 + ys.length)) ++ [V.int 3, vn (t.2.2 + t.2.1 - ys.length)] ++ (r1.map vn).drop (t.1 + (2 + ys.length) + 2) = (grR cs t ys).map vn := by
      unfold grR
      rw [if_pos hf, ← hr1, List.map_append, List.map_append, List.map_take, List.map_drop]
      rfl
    rw [er2]
    have s8 := Same.putNew (o := .lst ((grR cs t ys).map vn)) (S6.trans s7) hR0
    walk_at "rd"
    refine ⟨R, _, rfl, .inl ⟨SqL.of upd_same, fun r hr2 => ?_⟩⟩
    exact q r _ (s8.trans (same_new hr2 _)) upd_same
  · have hf : ¬ 0 < t.2.2 + t.2.1 - ys.length := by omega
    walk_at "rd"
    refine ⟨R, _, rfl, .inl ⟨SqL.of hR6, fun r hr2 => ?_⟩⟩
    refine q r _ (S6.trans (same_new hr2 _)) ?_
    unfold grR
    rw [if_neg hf, ← hr1]
    exact upd_same
end
end Bx

namespace Bx
open LamX NdefX
section
variable {K : PySem.W.Frag} {H H1 H2 : Hp}
theorem extN_same (e : Same H H1) : ExtN H H1 := ExtN.of e
theorem extN_tk (e : ExtN H H1) : TK K H H1 := fun a xs h => e a _ h (fun ps z => by cases z)
theorem extN_lst (e : ExtN H H1) {a : Addr} {xs : List V} (h : H a = some (.lst xs)) : H1 a = some (.lst xs) := e a _ h (fun ps z => by cases z)
theorem extN_tup (e : ExtN H H1) {a : Addr} {xs : List V} (h : H a = some (.tup xs)) : H1 a = some (.tup xs) := e a _ h (fun ps z => by cases z)
theorem extN_rd (e : ExtN H H1) {a : Addr} {u : HO} (hu : ∀ ps, u ≠ .tbl ps) (hf : ∀ o ps, HO.frz o u ≠ .tbl ps) (h : Rd H a u) : Rd H1 a u := h.elim (fun h => .inl (e a _ h hu)) fun ⟨o, h⟩ => .inr ⟨o, e a _ h (hf o)⟩
theorem extN_sql (e : ExtN H H1) {a : Addr} {xs : List V} (h : SqL K H a xs) : SqL K H1 a xs := h.elim (fun h => .inl (extN_rd e (fun ps z => by cases z) (fun o ps z => by cases z) h)) .inr
theorem extN_sqt (e : ExtN H H1) {a : Addr} {xs : List V} (h : SqT K H a xs) : SqT K H1 a xs := h.elim (fun h => .inl (extN_rd e (fun ps z => by cases z) (fun o ps z => by cases z) h)) .inr
theorem extN_cells (e : ExtN H H1) {a : Addr} {cs : List Nat} (h : Cells K H a cs) : Cells K H1 a cs := ⟨h.sq.imp (extN_sql e) (extN_sqt e), h.len, h.top⟩
theorem extN_tp (e : ExtN H H1) {v : V} {d : PyData} (h : Tp K H v d) : Tp K H1 v d := Tp.mono (extN_tk e) _ _ h
theorem extN_noint (e : ExtN H H1) {v : V} (h : NoInt K H v) : NoInt K H1 v := by
  rcases h with h | h | h | ⟨a, xs, h1, h2⟩
  · exact .inl h
  · exact .inr (.inl h)
  · exact .inr (.inr (.inl h))
  · exact .inr (.inr (.inr ⟨a, xs, h1, extN_sqt e h2⟩))
theorem extN_norow (e : ExtN H H1) {v : V} (h : NoRow H v) : NoRow H1 v := by
  rcases h with h | h | h | ⟨a, xs, h1, h2⟩
  · exact .inl h
  · exact .inr (.inl h)
  · exact .inr (.inr (.inl h))
  · exact .inr (.inr (.inr ⟨a, xs, h1, e a _ h2 (fun ps z => by cases z)⟩))
theorem extN_badn (e : ExtN H H1) {v : V} {n : Nat} (h : BadN K H v n) : BadN K H1 v n := h.elim (fun z => .inl (extN_noint e z)) .inr
theorem extN_celv (e : ExtN H H1) {xs : List V} (h : CelV K H xs) : CelV K H1 xs := fun x hx => (h x hx).imp id fun z => extN_noint e z
end
section
variable {P : Program} {w : World} {K : PySem.W.Frag} {mg : Str → Option Value} {base : Heap}
structure DefC (K : PySem.W.Frag) (mg : Str → Option Value) (x : Str) (st : Stmt) (f c : Addr) (ps : List Str) : Prop where
  ex : ∃ (oc : Value) (od : Option Addr) (dV kV doc pm : Value) (an : Option Addr) (ct : Value) (osl : Array (Option Value)),
    K.lookup f = some ⟨oc, od, .func (PySem.W.fnOf x x (fnArgs st) (fnBody st) (fnScope st) dV kV doc pm an (.ref c) ct), osl⟩ ∧ PySem.W.codeIn K (.ref c) x = true ∧ Binds K (PySem.W.fnOf x x (fnArgs st) (fnBody st) (fnScope st) dV kV doc pm an (.ref c) ct) ps []
  mgf : mg x = some (.ref f)
  kp : PySem.W.keepIn K (.ref f) = true
theorem calC {x : Str} {st : Stmt} {f c : Addr} {N ps : List Str} {k : Nat} {sp : Sp} (F : DefC K mg x st f c ps) (S : FnScope N ps (fnScope st)) (len : ∀ vs H Q E, sp vs H Q E → vs.length = ps.length)
    (hbody : ∀ (A : Around) (outer : List Env) (s : Shared) (H : Hp) (vs : List V) (Q : VK) (E : XK), Room k (A.deeper (envOfC x (fnScope st) s.heap.objs.size f (.ref c))) → sp vs H Q E →
      ∃ t, PSs (cxOf C8.CX0 P w K mg base N x (fnScope st) f (.ref c) A outer s H E).nox (fnBody st) t ∧ t { nx := fun _ H' => Q .non H', rt := Q } (L2.start N vs) H) : Cal P w K mg base (k + 1) x sp [] := by
  obtain ⟨oc, od, dV, kV, doc, pm, an, ct, osl, lk, hcd, b⟩ := F.ex
  refine ⟨f, _, ps, [], fn_of lk hcd S len fun A outer s H vs Q E hr hsp => ?_, F.mgf, F.kp, b, .nil⟩
  obtain ⟨t, ht, hq⟩ := hbody A outer s H vs Q E hr hsp
  exact ⟨t, ht.nox, hq⟩
end
section
variable {X : Cx}
/-- _law_word(lambda a: body, y) -/
theorem pe_word {TL : List (Addr × Str)} {a y : Str} {fw c PT CB CG : Addr} {fdw : FuncData} {j k : Nat} {NL fr : List Str} {js : List Nat} {params : Arguments} {body : Expr} {scope : Scope} {t : XK → TE} {p lpos py pos : Pos} (FW : Def X.K X.mg "_law_word" sLWord fw fdw) (bW : Binds X.K fdw ["_law_function", "_law_things"] []) (gB : X.mg "BadBox" = some (.ref CB)) (gG : X.mg "BadGrowth" = some (.ref CG)) (hg : Gl X "_law_word")
    (TB : TabB X.base X.mg c PT) (hcode : X.env.code = .ref c) (hmT : (PT, X.env.qual ++ "<lambda>") ∈ TL) (hu : ∀ p ∈ TL, p.1 = PT → p.2 = X.env.qual ++ "<lambda>") (hr : Room (k + 2) X.A)
    (S : NScope NL [a] fr scope) (hfree : ∀ y ∈ scope.names, y.2 = .free → X.env.scope.names.lookup y.1 = some .cell ∨ X.env.scope.names.lookup y.1 = some .free) (hfr : ∀ y ∈ fr, (y, NameKind.free) ∈ scope.names) (hjs : js.map (fun j => X.N[j]?) = fr.map some) (hdef : defaultsOf params X.env = ([], []))
    (hbind : ∀ (q : Str) (cl : List (Str × Addr)) (pm cv ctv u : Value), bindArgs (PySem.W.kla_fn "<lambda>" q params body scope cl pm cv ctv) ⟨[u], []⟩ = pure [(a, u)])
    (hbody : ∀ (A : Around) (outer : List Env) (s : Shared) (H : Hp) (E : XK) (f c' : Addr), Room k (A.deeper (envF (lamF X params scope c') f s.heap.objs.size)) → PE (lamC X NL params scope f c' A outer s H E) body (t E))
    (hjN : X.N[j]? = some y) (hjl : X.env.scope.names.lookup y = some .local) (dy : (y == ("__debug__" : Str)) = false) :
    PE X (.Call (.Name "_law_word" p) [.Lambda params body scope lpos, .Name y py] [] pos) (tLam1 TL (TWord X.K CB CG "box" "growth") NL js t j) := by
  obtain ⟨oc, od, dV, kV, doc, pm, an, cdv, ct, osl, rfl, lk, hcd⟩ := FW.fn.ex
  exact pe_lam1 hg FW.mgf FW.kp lk hcd bW scLWord rfl rfl rfl rfl (by decide) (by decide) (by decide) dy (word_takes rfl gB rfl rfl gG rfl fun f v => ⟨rfl, rfl⟩) TB hcode hmT hu hr S hfree hfr hjs hdef hbind hbody hjN hjl
/-- what a lambda takes from around is there -/
def frB (sc scope : Scope) : Bool := scope.names.all fun y => !decide (y.2 = .free) || (decide (sc.names.lookup y.1 = some .cell) || decide (sc.names.lookup y.1 = some .free))
theorem frB_ok {sc scope : Scope} (h : frB sc scope = true) (y : Str × NameKind) (hy : y ∈ scope.names) (e : y.2 = .free) : sc.names.lookup y.1 = some .cell ∨ sc.names.lookup y.1 = some .free := by
  have := List.all_eq_true.mp h y hy
  rw [decide_eq_true e] at this
  rcases Bool.or_eq_true _ _ ▸ this with z | z
  · cases z
  · exact (Bool.or_eq_true _ _ ▸ z).imp of_decide_eq_true of_decide_eq_true
end
end Bx

namespace Bx
open LamX
def ctO (i j : Nat) : List Nat := (List.range j).map fun a => (a * 7 + i) % 100
theorem ctO_len (i j : Nat) : (ctO i j).length = j := by
  unfold ctO
  rw [List.length_map, List.length_range]
theorem ctO_c (i j : Nat) : ((ctO i j).map vn).all isC = true := by
  rw [List.all_eq_true]
  intro x hx
  obtain ⟨y, hy, rfl⟩ := List.mem_map.mp hx
  unfold ctO at hy
  obtain ⟨a, _, rfl⟩ := List.mem_map.mp hy
  show decide (_ ∧ _) = true
  exact decide_eq_true ⟨by omega, by omega⟩
def gnO (cs : List Nat) (hs : List Nat) (t : Nat × Nat × Nat) (j : Nat) : List Nat := (ens cs hs).filter fun e => decide (t.1 + 2 + j ≤ cel cs e) && decide (cel cs e < t.1 + 2 + t.2.1)
theorem mem_plc {cs : List Nat} {p j e : Nat} : e ∈ (plc (row cs p)).drop j ↔ p + 2 + j ≤ e ∧ e < p + 2 + (cel cs (p + 1) - 2) := by
  unfold plc row
  dsimp only
  rw [← List.map_drop, List.mem_map]
  constructor
  · rintro ⟨i, hi, rfl⟩
    obtain ⟨k, hk⟩ := List.mem_iff_getElem?.mp hi
    rw [List.getElem?_drop] at hk
    have h1 := (List.getElem?_eq_some_iff.mp hk).1
    rw [List.length_range] at h1
    rw [List.getElem?_range h1] at hk
    have := Option.some.inj hk
    omega
  · rintro ⟨h1, h2⟩
    refine ⟨e - (p + 2), List.mem_iff_getElem?.mpr ⟨e - (p + 2) - j, ?_⟩, by omega⟩
    rw [List.getElem?_drop, show j + (e - (p + 2) - j) = e - (p + 2) by omega, List.getElem?_range (by omega)]
theorem gnO_any {cs : List Nat} {bs : List Bo} {t : Nat × Nat × Nat} (h2 : cel cs (t.1 + 1) = t.2.1 + 2) (j : Nat) : ((enV cs (hsL bs)).any fun e => decide (e ∈ (plc (row cs t.1)).drop j)) = !decide (gnO cs (hsL bs) t j = []) := by
  by_cases h : gnO cs (hsL bs) t j = []
  · rw [decide_eq_true h]
    show _ = false
    rw [List.any_eq_false]
    intro e he
    unfold enV at he
    obtain ⟨q, hq, rfl⟩ := List.mem_map.mp he
    intro hd
    have hd := mem_plc.mp (of_decide_eq_true hd)
    have : q ∈ gnO cs (hsL bs) t j := List.mem_filter.mpr ⟨hq, by rw [decide_eq_true hd.1, decide_eq_true (show cel cs q < t.1 + 2 + t.2.1 by omega)]; rfl⟩
    rw [h] at this
    exact absurd this List.not_mem_nil
  · rw [decide_eq_false h]
    show _ = true
    obtain ⟨q, hq⟩ := List.exists_mem_of_ne_nil _ h
    obtain ⟨q1, q2⟩ := List.mem_filter.mp hq
    have q3 := Bool.and_eq_true _ _ ▸ q2
    have q4 := of_decide_eq_true q3.1
    have q5 := of_decide_eq_true q3.2
    exact List.any_eq_true.mpr ⟨cel cs q, List.mem_map.mpr ⟨q, q1, rfl⟩, decide_eq_true (mem_plc.mpr ⟨q4, by omega⟩)⟩
theorem cnH_ct {cs : List Nat} {bs : List Bo} {t : Nat × Nat × Nat} (h2 : cel cs (t.1 + 1) = t.2.1 + 2) (i j : Nat) : cnH cs bs t ((ctO i j).map vn) = (decide (((j : Int) - (t.2.1 : Int)) ∈ gw t.2.1 t.2.2) && decide (gnO cs (hsL bs) t j = [])) := by
  unfold cnH
  rw [List.length_map, ctO_len, ctO_c, gnO_any h2, Bool.not_not, Bool.true_and]
/-- cells overwritten one after the other -/
def stR (cs : List Nat) (p : Nat) (w : List Nat) (k : Nat) : List Nat := cs.take p ++ w.take k ++ cs.drop (p + k)
theorem stR_zero (cs : List Nat) (p : Nat) (w : List Nat) : stR cs p w 0 = cs := by
  unfold stR
  rw [List.take_zero, List.append_nil, Nat.add_zero, List.take_append_drop]
theorem stR_len {cs : List Nat} {p k : Nat} {w : List Nat} (h : p + k ≤ cs.length) (hk : k ≤ w.length) : (stR cs p w k).length = cs.length := by
  unfold stR
  rw [List.length_append, List.length_append, List.length_take, List.length_take, List.length_drop]
  omega
theorem stR_succ {cs : List Nat} {p k x : Nat} {w : List Nat} (h : p + k < cs.length) (hx : w[k]? = some x) : (stR cs p w k).set (p + k) x = stR cs p w (k + 1) := by
  unfold stR
  have hk := (List.getElem?_eq_some_iff.mp hx).1
  have e1 : (cs.take p ++ w.take k).length = p + k := by
    rw [List.length_append, List.length_take, List.length_take]
    omega
  rw [List.set_append_right _ _ (by omega), e1, Nat.sub_self, List.drop_eq_getElem_cons h, List.set_cons_zero, take_snoc hx, show p + (k + 1) = p + k + 1 by omega]
  simp only [List.append_assoc, List.cons_append, List.nil_append]
theorem set_two {r : List Nat} {e a b : Nat} (h : e + 2 ≤ r.length) : (r.set e a).set (e + 1) b = r.take e ++ [a, b] ++ r.drop (e + 2) := by
  apply List.ext_getElem?
  intro i
  by_cases h1 : i < e
  · rw [List.getElem?_set_ne (by omega), List.getElem?_set_ne (by omega), List.append_assoc, List.getElem?_append_left (by rw [List.length_take]; omega), List.getElem?_take_of_lt h1]
  · by_cases h2 : i < e + 2
    · rw [List.append_assoc, List.getElem?_append_right (by rw [List.length_take]; omega), List.length_take, Nat.min_eq_left (by omega), List.getElem?_append_left (by show i - e < 2; omega)]
      by_cases h3 : i = e
      · subst h3
        rw [List.getElem?_set_ne (by omega), List.getElem?_set_self (by omega), Nat.sub_self]
        rfl
      · have : i = e + 1 := by omega
        subst this
        rw [List.getElem?_set_self (by rw [List.length_set]; omega), show e + 1 - e = 1 by omega]
        rfl
    · rw [List.getElem?_set_ne (by omega), List.getElem?_set_ne (by omega), List.getElem?_append_right (by rw [List.length_append, List.length_take]; show _ + 2 ≤ i; omega), List.length_append, List.length_take, Nat.min_eq_left (by omega), List.getElem?_drop]
      show r[i]? = r[e + 2 + (i - (e + 2))]?
      rw [show e + 2 + (i - (e + 2)) = i by omega]
end Bx

namespace Bx
open LamX NdefX
section
variable {P : Program} {w : World} {K : PySem.W.Frag} {mg : Str → Option Value} {base : Heap} {C CB CG : Addr} {H : Hp} {Q : VK}
theorem lk_tp {v : V} {t : Nat × Nat × Nat} (h : Tp K H v (lkD t)) : ∃ a, v = .ref a ∧ SqT K H a [vn t.1, vn t.2.1, vn t.2.2] := by
  obtain ⟨a, zx, rfl, ha, hz⟩ := Tp.tup_inv (show Tp K H v (.tuple [.int (t.1 : Int), .int (t.2.1 : Int), .int (t.2.2 : Int)]) from h)
  cases hz with
  | cons q1 q2 =>
    cases q2 with
    | cons q3 q4 =>
      cases q4 with
      | cons q5 q6 =>
        cases q6
        cases q1
        cases q3
        cases q5
        exact ⟨a, rfl, ha⟩
theorem g_word {CB CG : Addr} {r1 r2 : Str} {tl : V → XK → Hp → VK → Prop} {v : V} (h : tl v (fun cls _ H' => ∃ b, PySem.W.exmOne K cls (.ref CB) = some b ∧ (b = true → Q (.str r1) H') ∧ (b = false → ∃ b2, PySem.W.exmOne K cls (.ref CG) = some b2 ∧ (b2 = true → Q (.str r2) H') ∧ (b2 = false → False))) H (fun _ H' => Q .non H')) : TWord K CB CG r1 r2 tl v H Q := h
theorem g_catT2 {a b : Addr} {xs ys : List V} (h1 : H a = some (.tup xs)) (h2 : SqT K H b ys) (hx : xs ≠ []) (hz : xs.length + ys.length ≤ 1000) (h : ∀ c H', Same H H' → SqT K H' c (xs ++ ys) → Q (.ref c) H') : rCatT K (.ref a) (.ref b) H Q :=
  ⟨a, b, xs, ys, rfl, rfl, SqT.of h1, h2, hx, small hz, fun e => by subst e; exact h a H (.refl _) (by rw [List.append_nil]; exact SqT.of h1), fun _ p hp => h p _ (same_new hp _) (SqT.of upd_same)⟩
def spLBoxRight (K : PySem.W.Frag) (TL : List (Addr × Str)) : Sp := fun vs H Q _ => ∃ (a : Addr) (i : Nat) (bx : V) (en : Addr) (cs : List Nat) (bs : List Bo) (t : Nat × Nat × Nat), vs = [.ref a, vn i, bx, .ref en] ∧ SqT K H a (cs.map vn) ∧ (∀ c ∈ cs, c ≤ 99) ∧ Fl cs bs ∧ (lkL bs)[i]? = some t ∧ Tp K H bx (lkD t) ∧ H en = some (.lst ((ens cs (hsL bs)).map vn)) ∧ Tabs TL H ∧ ∀ H', ExtN H H' → Tabs TL H' → Q (.bl true) H'
theorem ok_lBoxRight {f c P1 fw : Addr} {fdw : FuncData} {TL : List (Addr × Str)} (F : DefC K mg "_law_box_right" sLBoxRight f c ["_law_cells", "_law_number_here", "_law_box", "_law_entries"]) (T : Txt mg) (FW : Def K mg "_law_word" sLWord fw fdw) (bW : Binds K fdw ["_law_function", "_law_things"] []) (gB : mg "BadBox" = some (.ref CB)) (gG : mg "BadGrowth" = some (.ref CG))
    (TB : TabB base mg c P1) (hmT : (P1, ("_law_box_right.<locals>.<lambda>" : Str)) ∈ TL) (hu : ∀ p ∈ TL, p.1 = P1 → p.2 = ("_law_box_right.<locals>.<lambda>" : Str)) (hex : PySem.W.exmOne K (.ref CG) (.ref CB) = some false) (hex2 : PySem.W.exmOne K (.ref CG) (.ref CG) = some true)
    (C_growths : CalX P w K mg base 36 "growths" (spGrowths K CB)) (C_grown : CalX P w K mg base 36 "grown" (spGrown K CB CG)) : Cal P w K mg base 39 "_law_box_right" (spLBoxRight K TL) [] := by
  refine calC F scLBoxRight (fun vs H Q E h => ?_) (fun A outer s H vs Q E hr h => ?_)
  · obtain ⟨a, i, bx, en, cs, bs, t, rfl, _⟩ := h
    rfl
  obtain ⟨a, i, bx, en, cs, bs, t, rfl, ha, hc99, hF, hi, hbx, hen, hTb, q⟩ := h
  have ht := List.mem_of_getElem? hi
  obtain ⟨h1, h2, h3⟩ := hF.at ht
  have h4 := hF.sp ht
  have hln := hF.ln
  have hC : ∀ {H'}, SqT K H' a (cs.map vn) → Cells K H' a cs := fun z => ⟨.inr z, hln, hc99⟩
  obtain ⟨bxa, rfl, hb⟩ := lk_tp hbx
  refine ⟨_, (pss_cons (ps_asg (pv 2) (pg_tup rfl (pgs_cons (pg_name (i := 4) scLBoxRight.nd rfl (.inr rfl)) (pgs_cons (pg_name (i := 5) scLBoxRight.nd rfl (.inr rfl)) (pgs_cons (pg_name (i := 6) scLBoxRight.nd rfl (.inr rfl)) pgs_nil)))))
    (pss_cons (ps_setLc (i := 8) (own := [("_law_more", 7)]) rfl scLBoxRight.nd rfl rfl (sw_true rfl rfl rfl (by decide +kernel)) (pi_range2 (by rfl) T.range (pa_cons (pe_un un_neg (pv 5)) (pa_cons (pe_op op_add (pv 6) pe_int) pa_nil))) (blkOk_by (own := [("_law_more", 7)]) (N := NLBoxRight) (sc := (fnScope sLBoxRight)) (by decide +kernel)) (fun _ _ _ _ _ => (pg_name (i := 7) scLBoxRight.nd rfl (.inl rfl))) (fun _ _ _ _ _ => (pts_one (PW.pt (pw_or (pt_cmpR op_eq (pe_op op_sub (pv 6) (pv 7)) pe_int (nomark _)) (pw_or1 (pt_cmpR op_ge (pe_op op_sub (pv 6) (pv 7)) pe_int (nomark _))))))) (fun _ _ _ _ _ => (pv 7)))
    (pss_cons (ps_if (pt_cmpR (op_neD hr.units) (pe_cN C_growths hr (by decide) rfl (pa_cons (pe_callTy call_list_of (by rfl) T.list b_list (pa_cons (pv 0) pa_nil)) (pa_cons (pv 1) pa_nil))) (pv 8) (nomark _)) 
      (pss_one (ps_ret pe_bl)) pss_nil)
    (pss_cons (ps_for PassesOwn.never rfl (pi_range2 (by rfl) T.range (pa_cons (pe_un un_neg (pv 5)) (pa_cons (pe_op op_add (pv 6) pe_int) pa_nil))) (pg_name (i := 7) scLBoxRight.nd rfl (.inr rfl)) 
      (pss_cons (ps_set (i := 10) scLBoxRight.nd rfl (Or.inl rfl) (pe_callTy call_tuple_of (by rfl) T.tuple b_tuple (pa_cons (pe_lc (own := [("_law_at", 9)]) rfl scLBoxRight.nd (pi_range1 (by rfl) T.range (pa_cons (pe_op op_add (pv 5) (pv 7)) pa_nil)) (blkOk_by (own := [("_law_at", 9)]) (N := NLBoxRight) (sc := (fnScope sLBoxRight)) (by decide +kernel)) (fun _ _ _ _ _ => (pg_name (i := 9) scLBoxRight.nd rfl (.inl rfl))) (fun _ _ _ _ _ => pts_nil) (fun _ _ _ _ _ => (pe_op op_mod (pe_callTy call_int1 (by rfl) T.int b_int (pa_cons (pe_op op_add (pe_op op_mul (pv 9) pe_int) (pv 1)) pa_nil)) pe_int))) pa_nil)))
      (pss_cons (ps_setLc (i := 11) (own := [("_law_entry", 15)]) rfl scLBoxRight.nd rfl rfl (sw_true rfl rfl rfl (by decide +kernel)) (pi_list (pv 3)) (blkOk_by (own := [("_law_entry", 15)]) (N := NLBoxRight) (sc := (fnScope sLBoxRight)) (by decide +kernel)) (fun _ _ _ _ _ => (pg_name (i := 15) scLBoxRight.nd rfl (.inl rfl))) (fun _ _ _ _ _ => (pts_one (pt_chain op_le op_lt (pe_op op_add (pe_op op_add (pe_op op_add (pv 4) pe_int) (pv 5)) (pv 7)) (pe_ix (ixt_k (K := K) rfl) (pv 0) (pv 15) (fun _ _ => rfl)) (pe_op op_add (pe_op op_add (pv 4) pe_int) (pv 5))))) (fun _ _ _ _ _ => (pv 15)))
      (pss_one (ps_if (PW.pt (pw_or (pt_cmpR op_notIn_seq (pv 7) (pv 8) (by rfl)) (pw_or1 (pt_cmpR (op_neD hr.units) (pv 11) (pe_lst pa_nil) (nomark _))))) 
        (pss_one (ps_if (pt_cmpR op_ne (pe_word (a := "_law_it") (CB := CB) (CG := CG) (TL := TL) (c := c) (PT := P1) (k := 36) (j := 10) (NL := ["_law_it", "_law_cells", "_law_number_here"]) (fr := ["_law_cells", "_law_number_here"]) (js := [0, 1]) FW bW gB gG rfl TB rfl hmT hu hr (nscope_by (by decide +kernel)) (frB_ok (sc := fnScope sLBoxRight) (by decide +kernel)) (by decide +kernel) rfl rfl (fun _ _ _ _ _ _ => rfl) (fun A' outer' s' H' E' f' c' hr' => (pe_cX C_grown hr' (Nat.le_refl _) rfl (takes_of rfl rfl rfl rfl) (pa_cons (pv 1) (pa_cons (pv 2) (pa_cons (pv 0) pa_nil))))) rfl rfl (by decide)) pe_str (nomark _)) 
          (pss_one (ps_ret pe_bl)) pss_nil)) 
        (pss_cons (ps_set (i := 12) scLBoxRight.nd rfl (Or.inl rfl) (pe_callTy call_list_of (by rfl) T.list b_list (pa_cons (pv 0) pa_nil)))
        (pss_cons (ps_for PassesOwn.never rfl (pi_enumT (by rfl) T.enumerate (pa_cons (pe_op op_catT (pe_tup (pa_cons pe_int (pa_cons (pe_op op_add (pe_op op_add pe_int (pv 5)) (pv 7)) pa_nil))) (pv 10)) pa_nil)) (pg_tup rfl (pgs_cons (pg_name (i := 9) scLBoxRight.nd rfl (.inl rfl)) (pgs_cons (pg_name (i := 13) scLBoxRight.nd rfl (.inl rfl)) pgs_nil))) 
          (pss_one (ps_asg (pv 13) (pg_sub (pv 12) (pe_op op_add (pv 4) (pv 9)) set_list))))
        (pss_cons (ps_set (i := 14) scLBoxRight.nd rfl (Or.inl rfl) (pe_op op_add (pe_op op_add (pe_op op_add (pv 4) pe_int) (pv 5)) (pv 7)))
        (pss_cons (ps_if (pt_cmpR op_gt (pe_op op_sub (pv 6) (pv 7)) pe_int (nomark _)) 
          (pss_cons (ps_asg pe_int (pg_sub (pv 12) (pv 14) set_list))
          (pss_one (ps_asg (pe_op op_sub (pv 6) (pv 7)) (pg_sub (pv 12) (pe_op op_add (pv 14) pe_int) set_list)))) pss_nil)
        (pss_one (ps_if (pt_cmpR (op_neD hr.units) (pe_cN C_grown hr (by decide) rfl (pa_cons (pe_callTy call_list_of (by rfl) T.list b_list (pa_cons (pv 0) pa_nil)) (pa_cons (pv 1) (pa_cons (pe_callTy call_list_of (by rfl) T.list b_list (pa_cons (pv 10) pa_nil)) pa_nil)))) (pe_callTy call_tuple_of (by rfl) T.tuple b_tuple (pa_cons (pv 12) pa_nil)) (nomark _)) 
          (pss_one (ps_ret pe_bl)) pss_nil)))))))))))
    (pss_one (ps_ret pe_bl)))))), ?_⟩
  walk_at "rd"
  refine g_tupT hb rfl ?_
  walk_at "rd"
  refine g_iR2 ?_
  walk_at "rd"
  refine ⟨_, rfl, _, rfl, ?_⟩
  walk_at "rd"
  refine ⟨_, _, rfl, ⟨by omega, by omega, by omega, by omega⟩, fun D hD => ?_⟩
  have hn : (((t.2.2 : Int) + 1) - (-(t.2.1 : Int))).toNat = t.2.1 + t.2.2 + 1 := by omega
  have hsp : t.2.2 ≤ 30 := by omega
  refine lc_it walk_range (fun j H' => Same H H' ∧ H' D = some (.lst (((((List.range j).filter fun i => isSz (t.2.1 + t.2.2 - i)).map fun (i : Nat) => (i : Int) - (t.2.1 : Int))).map .int))) ⟨same_new hD _, upd_same⟩ (fun _ _ _ _ => True.intro) ?_ ?_
  · rintro j x H2 H3 hj ⟨s2, e1⟩ ⟨rfl, rfl⟩
    have hj : j < t.2.1 + t.2.2 + 1 := by
      have : j < (((t.2.2 : Int) + 1) - (-(t.2.1 : Int))).toNat := hj
      omega
    walk_at "rd"
    refine ⟨rfl, ?_⟩
    have hel : ((((List.range j).filter fun i => isSz (t.2.1 + t.2.2 - i)).map fun (i : Nat) => (i : Int) - (t.2.1 : Int)).map V.int).length ≤ 1000 := by
      have := List.length_filter_le (fun i => isSz (t.2.1 + t.2.2 - i)) (List.range j)
      rw [List.length_range] at this
      rw [List.length_map, List.length_map]
      omega
    have yes : isSz (t.2.1 + t.2.2 - j) = true → ∀ z : Int, z = (j : Int) - (t.2.1 : Int) → ∃ acc, H3 D = some (HO.lst acc) ∧ acc.length < sizeLine ∧ Same H (upd H3 D (.lst (acc ++ [V.int z]))) ∧ (upd H3 D (.lst (acc ++ [V.int z]))) D = some (.lst (((((List.range (j + 1)).filter fun i => isSz (t.2.1 + t.2.2 - i)).map fun (i : Nat) => (i : Int) - (t.2.1 : Int))).map .int)) := by
      intro hz z ez
      refine ⟨_, e1, small1000 hel, Same.putNew s2 hD, ?_⟩
      rw [upd_same, List.range_succ, List.filter_append, List.filter_cons, if_pos hz, List.filter_nil, List.map_append, List.map_append, ez]
      rfl
    have no : isSz (t.2.1 + t.2.2 - j) = false → Same H H3 ∧ H3 D = some (.lst (((((List.range (j + 1)).filter fun i => isSz (t.2.1 + t.2.2 - i)).map fun (i : Nat) => (i : Int) - (t.2.1 : Int))).map .int)) := by
      intro hz
      refine ⟨s2, ?_⟩
      rw [e1, List.range_succ, List.filter_append, List.filter_cons, if_neg (by rw [hz]; exact Bool.false_ne_true), List.filter_nil, List.append_nil]
    walk_at "rd"
    refine g_ite (fun hz => ?_) (fun hz => ?_)
    · walk_at "rd"
      refine yes ?_ (-(t.2.1 : Int) + (j : Int)) (by omega)
      have := V.int.inj hz
      unfold isSz
      rw [decide_eq_true (show t.2.1 + t.2.2 - j = 0 by omega)]
      rfl
    · have hz : ¬ (t.2.2 : Int) - (-(t.2.1 : Int) + (j : Int)) = 0 := fun z => hz (congrArg V.int z)
      walk_at "rd"
      refine g_ite (fun hz2 => ?_) (fun hz2 => ?_)
      · walk_at "rd"
        refine yes ?_ (-(t.2.1 : Int) + (j : Int)) (by omega)
        unfold isSz
        rw [decide_eq_true (show 2 ≤ t.2.1 + t.2.2 - j by omega), decide_eq_true (show t.2.1 + t.2.2 - j ≤ 30 by omega)]
        exact Bool.or_true _
      · walk_at "rd"
        refine no ?_
        unfold isSz
        rw [decide_eq_false (show ¬ t.2.1 + t.2.2 - j = 0 by omega), decide_eq_false (show ¬ 2 ≤ t.2.1 + t.2.2 - j by omega)]
        rfl
  rintro H1 ⟨s1, e1⟩
  rw [hn] at e1
  have e1 : H1 D = some (.lst ((gw t.2.1 t.2.2).map .int)) := e1
  have ha1 := Same.sqt s1 ha
  walk_at "rd"
  refine ⟨a, _, rfl, .inr ha1, fun L hL => ?_⟩
  have s2 := same_new hL (.lst (cs.map vn))
  walk_at "rd"
  refine ⟨L, vn i, cs, bs, rfl, ⟨.inl (SqL.of upd_same), hln, hc99⟩, hF, .inl ⟨i, t, rfl, hi, fun G H3 s3 hn3 hG => ?_⟩⟩
  walk_at "rd"
  refine ⟨.list ((gw t.2.1 t.2.2).map PyData.int), .list ((gw t.2.1 t.2.2).map PyData.int), .lst (SqL.of hG) (dp_ints _ rfl), .lst (SqL.of ((s2.trans s3) _ _ e1)) (dp_ints _ rfl), shaped_ints _, shaped_ints _, ?_⟩
  have ee : PyData.eqv (.list ((gw t.2.1 t.2.2).map PyData.int)) (.list ((gw t.2.1 t.2.2).map PyData.int)) = true := PySem.SeqAt.eqv_refl_plain _ (PyData.plain_of_canLay0 _ (by rw [PyData.canLay0]; exact lay_ints _))
  rw [ee]
  walk_at "rd"
  have S3 := (s1.trans s2).trans s3
  refine g_iR2 ?_
  walk_at "rd"
  refine ⟨_, rfl, _, rfl, ?_⟩
  walk_at "rd"
  refine ⟨_, _, rfl, ⟨by omega, by omega, by omega, by omega⟩, for_it walk_range (fun j σ H' => ∃ x7 x9 x10 x11 x12 x13 x14 x15, σ = [some (.ref a), some (vn i), some (.ref bxa), some (.ref en), some (vn t.1), some (vn t.2.1), some (vn t.2.2), x7, some (.ref D), x9, x10, x11, x12, x13, x14, x15] ∧ ExtN H H' ∧ Tabs TL H' ∧ H' D = some (.lst ((gw t.2.1 t.2.2).map .int)))
    ⟨_, _, _, _, _, _, _, _, rfl, extN_same S3, hTb.ext S3, (s2.trans s3) _ _ e1⟩ (fun _ _ _ _ _ => True.intro) ?_ ?_⟩
  · rintro j x σ H4 H5 hj ⟨x7, x9, x10, x11, x12, x13, x14, x15, rfl, u1, u2, u3⟩ ⟨rfl, rfl⟩
    have hj : j < t.2.1 + t.2.2 + 3 := by
      have : j < (((t.2.2 : Int) + 3) - (-(t.2.1 : Int))).toNat := hj
      omega
    have ha5 := extN_sqt u1 ha
    have hen5 := extN_lst u1 hen
    walk_at "rd"
    refine ⟨(j : Int), congrArg (fun z => [V.int z]) (by omega), by omega, by omega, fun D2 hD2 => ?_⟩
    rw [Int.toNat_natCast]
    refine lc_it walk_range (fun k H' => Same H5 H' ∧ H' D2 = some (.lst ((ctO i k).map vn))) ⟨same_new hD2 _, upd_same⟩ (fun _ _ _ _ => True.intro) ?_ ?_
    · rintro k x H6 H7 hk ⟨s6, e6⟩ ⟨rfl, rfl⟩
      have hk : k < j := hk
      walk_at "rd"
      refine ⟨rfl, ?_⟩
      walk_at "rd"
      refine g_I (C := CMul) (.inr ⟨by decide, by decide⟩) ?_
      walk_at "rd"
      refine g_I (show (0 : Int) < _ by decide) ?_
      have ek : ((0 + (k : Int)) * 7 + (i : Int)) % 100 = (((k * 7 + i) % 100 : Nat) : Int) := by omega
      rw [ek]
      refine ⟨_, e6, small1000 (by rw [List.length_map, ctO_len]; omega), Same.putNew s6 hD2, ?_⟩
      rw [upd_same]
      unfold ctO
      rw [List.range_succ, List.map_append, List.map_append]
      rfl
    rintro H6 ⟨s6, e6⟩
    walk_at "rd"
    refine ⟨D2, _, rfl, .inl ⟨SqL.of e6, fun CT hCT => ?_⟩⟩
    have s7 := same_new hCT (.tup ((ctO i j).map vn))
    walk_at "rd"
    refine ⟨en, rfl, ⟨_, SqL.of ((s6.trans s7) _ _ hen5)⟩, fun D3 hD3 => ?_⟩
    obtain ⟨es, hes⟩ : ∃ es, es = ens cs (hsL bs) := ⟨_, rfl⟩
    have hel : es.length ≤ 30 := by
      have := lk_len bs _ _ hF.tl
      rw [en_ens bs _ _ hF.tl] at this
      rw [hes]
      omega
    have S7 := s6.trans s7
    rw [← hes] at hen5
    refine lc_it walk_list (fun k H' => Same (upd H6 CT (.tup ((ctO i j).map vn))) H' ∧ H' D3 = some (.lst (((es.take k).filter fun e => decide (t.1 + 2 + j ≤ cel cs e) && decide (cel cs e < t.1 + 2 + t.2.1)).map vn))) ⟨same_new hD3 _, upd_same⟩ (fun k H' _ z => SqL.of ((S7.trans z.1) _ _ hen5)) ?_ ?_
    · rintro k x H8 H9 hk ⟨s8, e8⟩ ⟨rfl, hx⟩
      obtain ⟨e, he, rfl⟩ := vn_get hx
      have hee : e < cs.length := by
        have hm := List.mem_of_getElem? he
        rw [hes] at hm
        obtain ⟨p, m1, m2, m3⟩ := ens_mem.mp hm
        exact ens_lt hF.pt m1 (by omega) m3
      have hel2 : ((((es.take k).filter fun e => decide (t.1 + 2 + j ≤ cel cs e) && decide (cel cs e < t.1 + 2 + t.2.1)).map vn)).length ≤ 1000 := by
        have := List.length_filter_le (fun e => decide (t.1 + 2 + j ≤ cel cs e) && decide (cel cs e < t.1 + 2 + t.2.1)) (es.take k)
        rw [List.length_take] at this
        rw [List.length_map]
        omega
      have no : (decide (t.1 + 2 + j ≤ cel cs e) && decide (cel cs e < t.1 + 2 + t.2.1)) = false → Same (upd H6 CT (.tup ((ctO i j).map vn))) H9 ∧ H9 D3 = some (.lst (((es.take (k + 1)).filter fun e => decide (t.1 + 2 + j ≤ cel cs e) && decide (cel cs e < t.1 + 2 + t.2.1)).map vn)) := by
        intro hz
        refine ⟨s8, ?_⟩
        rw [e8, take_snoc he, List.filter_append, List.filter_cons, if_neg (by rw [hz]; exact Bool.false_ne_true), List.filter_nil, List.append_nil]
      walk_at "rd"
      refine ⟨rfl, ?_⟩
      walk_at "rd"
      refine g_ixT e (Same.sqt (S7.trans s8) ha5) rfl (cel_some hee) ?_
      walk_at "rd"
      refine g_ite (fun c1 => ?_) (fun c1 => ?_)
      · walk_at "rd"
        refine g_ite (fun c2 => ?_) (fun c2 => ?_)
        · walk_at "rd"
          refine ⟨_, e8, small1000 hel2, Same.putNew s8 hD3, ?_⟩
          rw [upd_same, take_snoc he, List.filter_append, List.filter_cons, if_pos (by rw [decide_eq_true (show t.1 + 2 + j ≤ cel cs e by omega), decide_eq_true (show cel cs e < t.1 + 2 + t.2.1 by omega)]; rfl), List.filter_nil, List.map_append]
          rfl
        · walk_at "rd"
          exact no (by rw [decide_eq_false (show ¬ cel cs e < t.1 + 2 + t.2.1 by omega), Bool.and_false])
      · walk_at "rd"
        exact no (by rw [decide_eq_false (show ¬ t.1 + 2 + j ≤ cel cs e by omega), Bool.false_and])
    rintro H8 ⟨s8, e8⟩
    rw [List.length_map, List.take_length] at e8
    have e8 : H8 D3 = some (.lst ((gnO cs (hsL bs) t j).map vn)) := by
      rw [e8, hes]
      rfl
    have S8 := S7.trans s8
    walk_at "rd"
    have u38 := S8 _ _ u3
    refine rNotIn_ints (z := -(t.2.1 : Int) + (j : Int)) (.inl (SqL.of u38)) ?_
    have ez : -(t.2.1 : Int) + (j : Int) = (j : Int) - (t.2.1 : Int) := by omega
    have hcn := cnH_ct (bs := bs) h2 i j
    by_cases hm : -(t.2.1 : Int) + (j : Int) ∈ gw t.2.1 t.2.2
    · rw [decide_eq_true hm]
      walk_at "rd"
      refine ⟨Nat.zero_le _, fun l0 hl0 => ?_⟩
      have s9 := same_new hl0 (.lst [])
      have S9 := S8.trans s9
      walk_at "rd"
      refine ⟨.list ((gnO cs (hsL bs) t j).map pn), .list [], .lst (SqL.of (s9 _ _ e8)) (dp_vns _), .lst (SqL.of upd_same) .nil, shaped_vnL _, shaped_nil, ?_⟩
      rw [eqv_nil]
      by_cases hg : gnO cs (hsL bs) t j = []
      · rw [hg]
        walk_at "rd"
        refine g_ndF (p := List.map pn ([] : List Nat) = []) rfl ?_
        have hgood : cnH cs bs t ((ctO i j).map vn) = true := by
          rw [hcn, decide_eq_true (show (j : Int) - (t.2.1 : Int) ∈ gw t.2.1 t.2.2 by rw [← ez]; exact hm), decide_eq_true hg]
          rfl
        obtain ⟨b1, b2, b3⟩ := gw_mem hm
        obtain ⟨wl, hwl⟩ : ∃ wl, wl = 2 :: (2 + j) :: ctO i j := ⟨_, rfl⟩
        have hwll : wl.length = 2 + j := by
          rw [hwl]
          show (ctO i j).length + 1 + 1 = 2 + j
          rw [ctO_len]
          omega
        walk_at "rd"
        have ha9 := Same.sqt S9 ha5
        refine ⟨a, _, rfl, .inr ha9, fun LT hLT => ?_⟩
        have s10 := same_new hLT (.lst (cs.map vn))
        have hLT0 : (upd (upd H8 l0 (.lst [])) LT (.lst (cs.map vn))) LT = some (.lst (cs.map vn)) := upd_same
        walk_at "rd"
        refine ⟨_, rfl, ?_⟩
        walk_at "rd"
        refine ⟨(by show 2 ≤ sizeLine; decide), fun tp htp => ?_⟩
        have s11 := same_new htp (.tup [V.int 2, V.int (2 + (t.2.1 : Int) + (-(t.2.1 : Int) + (j : Int)))])
        walk_at "rd"
        refine g_catT2 (ys := (ctO i j).map vn) upd_same (SqT.of ((((s8.trans s9).trans s10).trans s11) _ _ upd_same)) (by simp) (by rw [List.length_map, ctO_len]; show 2 + j ≤ 1000; omega) fun WT H12 s12 hWT => ?_
        have eW : [V.int 2, V.int (2 + (t.2.1 : Int) + (-(t.2.1 : Int) + (j : Int)))] ++ (ctO i j).map vn = wl.map vn := by
          rw [hwl, show (2 + (t.2.1 : Int) + (-(t.2.1 : Int) + (j : Int))) = ((2 + j : Nat) : Int) by omega]
          rfl
        rw [eW] at hWT
        walk_at "rd"
        have hfit : t.1 + (2 + j) ≤ cs.length := by omega
        have hLT9 : (upd H8 l0 (.lst [])) LT = none := hLT
        refine ⟨WT, _, rfl, hWT, for_it walk_enumT (fun k σ H' => (∃ x9 x13, σ = [some (.ref a), some (vn i), some (.ref bxa), some (.ref en), some (vn t.1), some (vn t.2.1), some (vn t.2.2), some (.int (-(t.2.1 : Int) + (j : Int))), some (.ref D), x9, some (.ref CT), some (.ref D3), some (.ref LT), x13, x14, x15]) ∧ Same (upd H8 l0 (.lst [])) H' ∧ H' LT = some (.lst ((stR cs t.1 wl k).map vn)) ∧ SqT K H' WT (wl.map vn))
          ⟨⟨_, _, rfl⟩, (s10.trans s11).trans s12, by rw [stR_zero]; exact (s11.trans s12) _ _ hLT0, hWT⟩ (fun k σ H' _ z => z.2.2.2) ?_ ?_⟩
        · rintro k x σ H13 H14 hk ⟨⟨x9', x13', rfl⟩, v1, v2, v3⟩ ⟨T1, y1, y2, rfl, nT, rfl, g1, g2⟩
          cases Option.some.inj g1
          obtain ⟨y, hy, rfl⟩ := vn_get g2
          have hkl := (List.getElem?_eq_some_iff.mp hy).1
          have sT := same_new nT (.tup [V.int (k : Int), vn y])
          refine g_tupT (SqT.of upd_same) rfl ?_
          walk_at "rd"
          have v2' := sT _ _ v2
          have hsl := stR_len (cs := cs) (p := t.1) (k := k) (w := wl) (by omega) (by omega)
          refine g_setL (t.1 + k) v2' (by omega) (by rw [List.length_map, hsl]; omega) ?_
          refine ⟨⟨_, _, rfl⟩, Same.putNew (v1.trans sT) hLT9, ?_, sqt_upd (.inr (.inl ⟨_, v2'⟩)) (Same.sqt sT v3)⟩
          rw [upd_same, ← List.map_set, stR_succ (by omega) hy]
        · rintro σ H13 ⟨⟨x9', x13', rfl⟩, v1, v2, v3⟩
          rw [List.length_map] at v2
          obtain ⟨r1, hr1⟩ : ∃ r1, r1 = stR cs t.1 wl wl.length := ⟨_, rfl⟩
          have er1 : r1 = cs.take t.1 ++ (2 :: (2 + (ctO i j).length) :: ctO i j) ++ cs.drop (t.1 + (2 + (ctO i j).length)) := by
            rw [hr1, ctO_len]
            unfold stR
            rw [List.take_length, hwll, hwl]
          have hr1l : r1.length = cs.length := by rw [hr1, stR_len (by omega) (Nat.le_refl _)]
          rw [← hr1] at v2
          walk_at "rd"
          refine g_ite (fun hf => ?_) (fun hf => ?_)
          · have hf2 : 0 < t.2.2 + t.2.1 - (ctO i j).length := by
              rw [ctO_len]
              omega
            walk_at "rd"
            refine g_setL (t.1 + (2 + (ctO i j).length)) v2 (by rw [ctO_len]; omega) (by rw [List.length_map, ctO_len]; omega) ?_
            walk_at "rd"
            refine g_setL (t.1 + (2 + (ctO i j).length) + 1) upd_same (by rw [ctO_len]; omega) (by rw [List.length_set, List.length_map, ctO_len]; omega) ?_
            have er2 : ((r1.map vn).set (t.1 + (2 + (ctO i j).length)) (V.int 3)).set (t.1 + (2 + (ctO i j).length) + 1) (V.int ((t.2.2 : Int) - (-(t.2.1 : Int) + (j : Int)))) = (grR cs t (ctO i j)).map vn := by
              rw [show (t.2.2 : Int) - (-(t.2.1 : Int) + (j : Int)) = ((t.2.2 + t.2.1 - (ctO i j).length : Nat) : Int) by rw [ctO_len]; omega]
              unfold grR
              rw [if_pos hf2, ← er1, ← set_two (by rw [ctO_len]; omega), List.map_set, List.map_set]
              rfl
            rw [er2]
            have s14 := Same.putNew (o := .lst ((grR cs t (ctO i j)).map vn)) (Same.putNew (o := .lst ((r1.map vn).set (t.1 + (2 + (ctO i j).length)) (V.int 3))) v1 hLT9) hLT9
            walk_at "rd"
            refine ⟨a, _, rfl, .inr (Same.sqt (S9.trans s14) ha5), fun L5 hL5 => ?_⟩
            have s15 := same_new hL5 (.lst (cs.map vn))
            walk_at "rd"
            refine ⟨CT, _, rfl, .inr (SqT.of ((s14.trans s15) _ _ ((s8.trans s9) _ _ upd_same))), fun L6 hL6 => ?_⟩
            have s16 := same_new hL6 (.lst ((ctO i j).map vn))
            walk_at "rd"
            refine ⟨L5, vn i, .ref L6, cs, bs, rfl, ⟨.inl (SqL.of (s16 _ _ upd_same)), hln, hc99⟩, hF, .inr ⟨i, t, rfl, hi, .inr ⟨L6, (ctO i j).map vn, rfl, .inl (SqL.of upd_same), by rw [List.length_map, ctO_len]; omega, fun x hx => (List.mem_map.mp hx).elim fun n0 z => .inl ⟨_, z.2.symm⟩, .inr ⟨ctO i j, rfl, hgood, fun R HR sR hR => ?_⟩⟩⟩⟩
            walk_at "rd"
            refine ⟨LT, _, rfl, .inl ⟨SqL.of (((s15.trans s16).trans sR) _ _ upd_same), fun TT hTT => ?_⟩⟩
            have s17 := same_new hTT (.tup ((grR cs t (ctO i j)).map vn))
            walk_at "rd"
            refine g_neT (s17 _ _ hR) upd_same ?_
            walk_at "rd"
            have SS := S9.trans (s14.trans (s15.trans (s16.trans (sR.trans s17))))
            exact ⟨_, _, _, _, _, _, _, _, rfl, u1.trans (extN_same SS), u2.ext SS, SS _ _ u3⟩
          · have hf2 : ¬ 0 < t.2.2 + t.2.1 - (ctO i j).length := by
              rw [ctO_len]
              omega
            have v4 : H13 LT = some (.lst ((grR cs t (ctO i j)).map vn)) := by
              rw [v2]
              unfold grR
              rw [if_neg hf2, ← er1]
            walk_at "rd"
            refine ⟨a, _, rfl, .inr (Same.sqt (S9.trans v1) ha5), fun L5 hL5 => ?_⟩
            have s15 := same_new hL5 (.lst (cs.map vn))
            walk_at "rd"
            refine ⟨CT, _, rfl, .inr (SqT.of ((v1.trans s15) _ _ ((s8.trans s9) _ _ upd_same))), fun L6 hL6 => ?_⟩
            have s16 := same_new hL6 (.lst ((ctO i j).map vn))
            walk_at "rd"
            refine ⟨L5, vn i, .ref L6, cs, bs, rfl, ⟨.inl (SqL.of (s16 _ _ upd_same)), hln, hc99⟩, hF, .inr ⟨i, t, rfl, hi, .inr ⟨L6, (ctO i j).map vn, rfl, .inl (SqL.of upd_same), by rw [List.length_map, ctO_len]; omega, fun x hx => (List.mem_map.mp hx).elim fun n0 z => .inl ⟨_, z.2.symm⟩, .inr ⟨ctO i j, rfl, hgood, fun R HR sR hR => ?_⟩⟩⟩⟩
            walk_at "rd"
            refine ⟨LT, _, rfl, .inl ⟨SqL.of (((s15.trans s16).trans sR) _ _ v4), fun TT hTT => ?_⟩⟩
            have s17 := same_new hTT (.tup ((grR cs t (ctO i j)).map vn))
            walk_at "rd"
            refine g_neT (s17 _ _ hR) upd_same ?_
            walk_at "rd"
            have SS := S9.trans (v1.trans (s15.trans (s16.trans (sR.trans s17))))
            exact ⟨_, _, _, _, _, _, _, _, rfl, u1.trans (extN_same SS), u2.ext SS, SS _ _ u3⟩
      · rw [decide_eq_false (fun z => hg (List.map_eq_nil_iff.mp z))]
        have hbad : cnH cs bs t ((ctO i j).map vn) = false := by
          rw [hcn, decide_eq_false hg, Bool.and_false]
        walk_at "rd"
        have hext : ExtN H _ := u1.trans (extN_same S9)
        have hCT9 : SqT K _ CT ((ctO i j).map vn) := SqT.of ((s8.trans s9) _ _ upd_same)
        refine ⟨u2.ext S9, _, rfl, fun Ha eN hTa => ?_⟩
        refine g_word (g_callS ?_)
        walk_at "rd"
        refine ⟨a, vn i, .ref CT, cs, bs, rfl, hC (extN_sqt (hext.trans eN) ha), hF, .inr ⟨i, t, rfl, hi, .inr ⟨CT, (ctO i j).map vn, rfl, .inr (extN_sqt eN hCT9), by rw [List.length_map, ctO_len]; omega, fun x hx => ?_, .inl ⟨hbad, fun Hb sb => ⟨false, hex, fun z => (nomatch z), fun _ => ⟨true, hex2, fun _ => ?_, fun z => (nomatch z)⟩⟩⟩⟩⟩⟩
        · obtain ⟨n0, _, rfl⟩ := List.mem_map.mp hx
          exact .inl ⟨_, rfl⟩
        · walk_at "rd"
          refine g_ndF rfl ?_
          walk_at "rd"
          exact ⟨_, _, _, _, _, _, _, _, rfl, (hext.trans eN).trans (extN_same sb), hTa.ext sb, sb _ _ (extN_lst eN (S9 _ _ u3))⟩
    · rw [decide_eq_false hm]
      have hbad : cnH cs bs t ((ctO i j).map vn) = false := by
        rw [hcn, decide_eq_false (fun z => hm (by rw [ez]; exact z)), Bool.false_and]
      walk_at "rd"
      have hext : ExtN H _ := u1.trans (extN_same S8)
      have hCT9 : SqT K _ CT ((ctO i j).map vn) := SqT.of (s8 _ _ upd_same)
      refine ⟨u2.ext S8, _, rfl, fun Ha eN hTa => ?_⟩
      refine g_word (g_callS ?_)
      walk_at "rd"
      refine ⟨a, vn i, .ref CT, cs, bs, rfl, hC (extN_sqt (hext.trans eN) ha), hF, .inr ⟨i, t, rfl, hi, .inr ⟨CT, (ctO i j).map vn, rfl, .inr (extN_sqt eN hCT9), by rw [List.length_map, ctO_len]; omega, fun x hx => ?_, .inl ⟨hbad, fun Hb sb => ⟨false, hex, fun z => (nomatch z), fun _ => ⟨true, hex2, fun _ => ?_, fun z => (nomatch z)⟩⟩⟩⟩⟩⟩
      · obtain ⟨n0, _, rfl⟩ := List.mem_map.mp hx
        exact .inl ⟨_, rfl⟩
      · walk_at "rd"
        refine g_ndF rfl ?_
        walk_at "rd"
        exact ⟨_, _, _, _, _, _, _, _, rfl, (hext.trans eN).trans (extN_same sb), hTa.ext sb, sb _ _ (extN_lst eN (S8 _ _ u3))⟩
  · rintro σ H4 ⟨x7, x9, x10, x11, x12, x13, x14, x15, rfl, u1, u2, u3⟩
    walk_at "rd"
    exact q H4 u1 u2
end
end Bx

namespace Bx
open LamX NdefX
mutual
theorem lk_sp1 {cs : List Nat} : ∀ (x : Bo) (r : List Bo) (b e : Nat), tlB cs x b → tlL cs r (b + cel cs (b + 1)) e → ∀ t ∈ lk1 x r, t.2.2 = 0 ∨ 2 ≤ t.2.2
  | .bx k p l ks, r, b, e, h, hr, t, ht => by
    rw [tlB] at h
    obtain ⟨rfl, h2, h3, h4, h5, h6⟩ := h
    rw [lk1] at ht
    by_cases hk : k = 1
    · rw [if_pos hk] at ht
      exact lk_sp ks _ _ (h5 hk) t ht
    · rw [if_neg hk] at ht
      by_cases hk2 : k = 2
      · rw [if_pos hk2] at ht
        rw [List.mem_singleton.mp ht]
        show spr r = 0 ∨ 2 ≤ spr r
        cases r with
        | nil => exact .inl rfl
        | cons y r' =>
          cases y with
          | bx k' p' l' ks' =>
            rw [tlL, tlB] at hr
            rw [spr]
            split
            · exact .inr hr.1.2.1
            · exact .inl rfl
      · rw [if_neg hk2] at ht
        exact absurd ht List.not_mem_nil
theorem lk_sp {cs : List Nat} : ∀ (bs : List Bo) (b e : Nat), tlL cs bs b e → ∀ t ∈ lkL bs, t.2.2 = 0 ∨ 2 ≤ t.2.2
  | [], b, e, h, t, ht => absurd ht List.not_mem_nil
  | x :: r, b, e, h, t, ht => by
    rw [tlL] at h
    rw [lkL] at ht
    rcases List.mem_append.mp ht with ht | ht
    · exact lk_sp1 x r b e h.1 h.2 t ht
    · exact lk_sp r _ e h.2 t ht
end
/-- a drawn file is a file -/
theorem DrOk.file {s : Nat} {ss : List Sh} {gs bef : List Nat} (h : DrOk s ss gs bef) (hs : s < 6) : (∀ c ∈ flO bef ss gs, c ≤ 99) ∧ ∃ bs, Fl (flO bef ss gs) bs ∧ depL bs < 32 := by
  have hO := h.sh.ok
  have h24 := h.sh.ln
  have hsum := h.sum
  have et : gs.take (gpL ss) = gs := by rw [← h.len, List.take_length]
  have hpl : (puL ss gs 0).length = lnL ss + gs.sum := by rw [puL_len ss gs 0 (by rw [h.len]; exact Nat.le_refl _) h.zz, et]
  have hcl : (flO bef ss gs).length = lnL ss + gs.sum := by rw [flO_len, hpl]
  have hA := at_rows ss gs 0 0 (by rw [h.len]; exact Nat.le_refl _) h.zz (flO_row bef ss gs)
  obtain ⟨r1, bs, r2, _⟩ := read_of (st := stO ss gs) hO h.len hcl (by omega) hA fun i r hr => by
    unfold stO
    rw [List.getD_eq_getElem?_getD, hr]
    rfl
  refine ⟨fun c hc => ?_, bs, ⟨r1, prs_tl 31 _ _ _ _ _ r2 (by omega) (Nat.zero_le _), prs_pth 31 _ _ _ _ _ r2 (by omega) (Nat.zero_le _) (Nat.le_refl _), by omega⟩, Nat.lt_succ_of_le (prs_dep _ _ _ _ _ _ r2)⟩
  obtain ⟨i, hi⟩ := List.mem_iff_getElem?.mp hc
  have hil := (List.getElem?_eq_some_iff.mp hi).1
  rw [flO_len] at hil
  have hr := List.getElem?_eq_getElem hil
  rw [flO_get hr] at hi
  have hi := Option.some.inj hi
  have hrl := rle_L ss gs 0 h.zz h.sh.sm _ (List.mem_of_getElem? hr)
  rw [← hi]
  cases e : (puL ss gs 0)[i] with
  | non =>
    show bef.getD i 0 ≤ 99
    rw [List.getD_eq_getElem?_getD]
    cases eb : bef[i]? with
    | none => exact Nat.zero_le _
    | some b =>
      have := h.bf b (List.mem_of_getElem? eb)
      show b ≤ 99
      omega
  | num k =>
    rw [e] at hrl
    have : k ≤ max 4 (puL ss gs 0).length := hrl
    show k ≤ 99
    omega
  | is n a c =>
    rw [e] at hrl
    exact hrl
  | to n a =>
    obtain ⟨c', hc'⟩ := to_in h.sh.tg (by rw [h.len]; exact Nat.le_refl _) h.zz (hr.trans (by rw [e]))
    have := (List.getElem?_eq_some_iff.mp hc').1
    show stO ss gs n + a ≤ 99
    omega
section
variable {P : Program} {w : World} {K : PySem.W.Frag} {mg : Str → Option Value} {base : Heap} {C CB CG : Addr} {H : Hp} {Q : VK}
theorem extN_scr {H1 : Hp} {S : Addr} {ns : List Int} (e : ExtN H H1) (x : Scr K H S ns) : Scr K H1 S ns := ⟨extN_sql e x.sq, x.len⟩
/-- a content that no box can get -/
def OddC (K : PySem.W.Frag) (H : Hp) (x : V) : Prop := NoRow H x ∨ ∃ (p : Addr) (v : V), x = .ref p ∧ SqT K H p [v] ∧ isC v = false ∧ ((∃ n : Int, v = .int n) ∨ NoInt K H v)
theorem extN_odd {H1 : Hp} {x : V} (e : ExtN H H1) (h : OddC K H x) : OddC K H1 x := by
  rcases h with h | ⟨p, v, h1, h2, h3, h4⟩
  · exact .inl (extN_norow e h)
  · exact .inr ⟨p, v, h1, extN_sqt e h2, h3, h4.imp id fun z => extN_noint e z⟩
theorem lay_lk : ∀ l : List (Nat × Nat × Nat), PyData.canLayAll0 (l.map lkD) = true
  | [] => rfl
  | x :: r => by
    show (PyData.canLay0 (lkD x) && PyData.canLayAll0 (r.map lkD)) = true
    rw [lay_lk r]
    rfl
theorem dep_lk : ∀ l : List (Nat × Nat × Nat), PyData.depthAll (l.map lkD) ≤ 2
  | [] => Nat.zero_le _
  | x :: r => by
    show max (PyData.depth (lkD x)) (PyData.depthAll (r.map lkD)) ≤ 2
    have := dep_lk r
    have h : PyData.depth (lkD x) = 1 := rfl
    omega
theorem shaped_lk (l : List (Nat × Nat × Nat)) : SeqAt.shaped (.list (l.map lkD)) = true := by
  show (PyData.canLayAll0 (l.map lkD) && decide (PyData.depthAll (l.map lkD) + 1 ≤ 64)) = true
  have := dep_lk l
  rw [lay_lk, decide_eq_true (by omega)]
  rfl
def spLAllRight (K : PySem.W.Frag) (TL : List (Addr × Str)) : Sp := fun vs H Q _ => ∃ (S : Addr) (ns : List Int), vs = [.ref S] ∧ Scr K H S ns ∧ Tabs TL H ∧ ∀ H', Q (.bl true) H'
theorem ok_lAllRight {f c P1 fw : Addr} {fdw : FuncData} {TL : List (Addr × Str)} (F : DefC K mg "_law_all_right" sLAllRight f c ["_law_script"]) (T : Txt mg) (FW : Def K mg "_law_word" sLWord fw fdw) (bW : Binds K fdw ["_law_function", "_law_things"] []) (gB : mg "BadBox" = some (.ref CB)) (gG : mg "BadGrowth" = some (.ref CG))
    (TB : TabB base mg c P1) (hmT : (P1, ("_law_all_right.<locals>.<lambda>" : Str)) ∈ TL) (hu : ∀ p ∈ TL, p.1 = P1 → p.2 = ("_law_all_right.<locals>.<lambda>" : Str)) (hex : PySem.W.exmOne K (.ref CG) (.ref CB) = some false) (hex2 : PySem.W.exmOne K (.ref CG) (.ref CG) = some true) (hex3 : PySem.W.exmOne K (.ref CB) (.ref CB) = some true)
    (C_growths : CalX P w K mg base 36 "growths" (spGrowths K CB)) (C_grown : CalX P w K mg base 36 "grown" (spGrown K CB CG)) (C_tight : Cal P w K mg base 35 "tight" (spTight K) []) (C_lNumber : Cal P w K mg base 1 "_law_number" (spNum K) []) (C_lDrawn : Cal P w K mg base 8 "_law_drawn" (spLDrawn K) []) (C_lLooked : Cal P w K mg base 33 "_law_looked" (spLLooked K 32) []) (C_lBoxRight : Cal P w K mg base 39 "_law_box_right" (spLBoxRight K TL) []) : Cal P w K mg base 40 "_law_all_right" (spLAllRight K TL) [] := by
  refine calC F scLAllRight (fun vs H Q E h => ?_) (fun A outer s H vs Q E hr h => ?_)
  · obtain ⟨S, ns, rfl, _⟩ := h
    rfl
  obtain ⟨S, ns, rfl, hS, hTb, q⟩ := h
  refine ⟨_, (pss_cons (ps_for PassesOwn.never rfl (pi_range1 (by rfl) T.range (pa_cons pe_int pa_nil)) (pg_name (i := 1) scLAllRight.nd rfl (.inl rfl)) 
      (pss_cons (ps_set (i := 2) scLAllRight.nd rfl (Or.inl rfl) (pe_c C_lNumber hr (by decide) rfl (pa_cons (pv 0) (pa_cons (pe_op op_add pe_int (pv 1)) pa_nil))))
      (pss_cons (ps_asg (pe_c C_lDrawn hr (by decide) rfl (pa_cons (pv 0) (pa_cons (pe_op op_add pe_int (pe_op op_mul pe_int (pv 1))) (pa_cons (pe_op op_add pe_int (pe_op op_mod (pe_callTy call_int1 (by rfl) T.int b_int (pa_cons (pv 2) pa_nil)) pe_int)) (pa_cons pe_int pa_nil))))) (pg_tup rfl (pgs_cons (pg_name (i := 3) scLAllRight.nd rfl (.inl rfl)) (pgs_cons (pg_name (i := 9) scLAllRight.nd rfl (.inr rfl)) pgs_nil))))
      (pss_cons (ps_asg (pe_c C_lLooked hr (by decide) rfl (pa_cons (pv 9) (pa_cons pe_int (pa_cons (pe_callB call_len_seq (by rfl) T.len b_len (pa_cons (pv 9) pa_nil)) pa_nil)))) (pg_tup rfl (pgs_cons (pg_name (i := 4) scLAllRight.nd rfl (.inl rfl)) (pgs_cons (pg_name (i := 5) scLAllRight.nd rfl (.inl rfl)) pgs_nil))))
      (pss_cons (ps_for PassesOwn.never rfl (pi_enum (by rfl) T.enumerate (pa_cons (pv 4) pa_nil)) (pg_tup rfl (pgs_cons (pg_name (i := 6) scLAllRight.nd rfl (.inl rfl)) (pgs_cons (pg_name (i := 7) scLAllRight.nd rfl (.inl rfl)) pgs_nil))) 
        (pss_one (ps_if (pt_not (pt_val (pe_c C_lBoxRight hr (by decide) rfl (pa_cons (pv 9) (pa_cons (pv 6) (pa_cons (pv 7) (pa_cons (pv 5) pa_nil))))))) 
          (pss_one (ps_ret pe_bl)) pss_nil)))
      (pss_cons (ps_if (pt_cmpR (op_neD hr.units) (pe_c C_tight hr (by decide) rfl (pa_cons (pv 9) pa_nil)) (pe_lc (own := [("_law_at", 6), ("_law_box", 7)]) rfl scLAllRight.nd (pi_enum (by rfl) T.enumerate (pa_cons (pv 4) pa_nil)) (blkOk_by (own := [("_law_at", 6), ("_law_box", 7)]) (N := NLAllRight) (sc := (fnScope sLAllRight)) (by decide +kernel)) (fun _ _ _ _ _ => (pg_tup2 (K := K) rfl rfl (pgs_cons (pg_name (i := 6) scLAllRight.nd rfl (.inl rfl)) (pgs_cons (pg_name (i := 7) scLAllRight.nd rfl (.inl rfl)) pgs_nil)))) (fun _ _ _ _ _ => (pts_one (PW.pt (pw_or (pt_cmpR op_eq (pe_ix (ixt_k (K := K) rfl) (pv 7) pe_int (fun _ _ => rfl)) pe_int (nomark _)) (pw_or1 (pt_cmpR op_eq (pe_ix (ixt_k (K := K) rfl) (pv 7) pe_int (fun _ _ => rfl)) pe_int (nomark _))))))) (fun _ _ _ _ _ => (pv 6))) (nomark _)) 
        (pss_one (ps_ret pe_bl)) pss_nil)
      (pss_cons (ps_for PassesOwn.never rfl (pi_tup (pe_tup (pa_cons (pe_un un_neg pe_int) (pa_cons (pe_callB call_len_seq (by rfl) T.len b_len (pa_cons (pv 4) pa_nil)) (pa_cons pe_non (pa_cons pe_str (pa_cons pe_bl (pa_cons (pe_tup (pa_cons pe_int pa_nil)) pa_nil)))))))) (pg_name (i := 8) scLAllRight.nd rfl (.inl rfl)) 
        (pss_cons (ps_if (pt_cmpR op_ne (pe_word (a := "_law_it") (CB := CB) (CG := CG) (TL := TL) (c := c) (PT := P1) (k := 37) (j := 8) (NL := ["_law_it", "_law_cells"]) (fr := ["_law_cells"]) (js := [9]) FW bW gB gG rfl TB rfl hmT hu hr (nscope_by (by decide +kernel)) (frB_ok (sc := fnScope sLAllRight) (by decide +kernel)) (by decide +kernel) rfl rfl (fun _ _ _ _ _ _ => rfl) (fun A' outer' s' H' E' f' c' hr' => (pe_cX C_growths hr' (by decide) rfl (takes_of rfl rfl rfl rfl) (pa_cons (pv 1) (pa_cons (pv 0) pa_nil)))) rfl rfl (by decide)) pe_str (nomark _)) 
          (pss_one (ps_ret pe_bl)) pss_nil)
        (pss_one (ps_if (pt_cmpR op_ne (pe_word (a := "_law_it") (CB := CB) (CG := CG) (TL := TL) (c := c) (PT := P1) (k := 37) (j := 8) (NL := ["_law_it", "_law_cells"]) (fr := ["_law_cells"]) (js := [9]) FW bW gB gG rfl TB rfl hmT hu hr (nscope_by (by decide +kernel)) (frB_ok (sc := fnScope sLAllRight) (by decide +kernel)) (by decide +kernel) rfl rfl (fun _ _ _ _ _ _ => rfl) (fun A' outer' s' H' E' f' c' hr' => (pe_cX C_grown hr' (by decide) rfl (takes_of rfl rfl rfl rfl) (pa_cons (pv 1) (pa_cons (pv 0) (pa_cons (pe_tup pa_nil) pa_nil))))) rfl rfl (by decide)) pe_str (nomark _)) 
          (pss_one (ps_ret pe_bl)) pss_nil))))
      (pss_one (ps_for PassesOwn.never rfl (pi_tup (pe_tup (pa_cons pe_non (pa_cons pe_int (pa_cons pe_str (pa_cons (pe_tup (pa_cons pe_int pa_nil)) (pa_cons (pe_tup (pa_cons (pe_un un_neg pe_int) pa_nil)) (pa_cons (pe_tup (pa_cons pe_non pa_nil)) (pa_cons (pe_tup (pa_cons pe_str pa_nil)) (pa_cons (pe_tup (pa_cons pe_bl pa_nil)) (pa_cons (pe_disp (pps_cons pe_int pe_int pps_nil) (by rfl) (by rfl) (fun z => by cases z) (by decide)) pa_nil))))))))))) (pg_name (i := 8) scLAllRight.nd rfl (.inl rfl)) 
        (pss_one (ps_if (PW.pt (pw_and (pt_cmpR (op_neD hr.units) (pv 4) (pe_lst pa_nil) (nomark _)) (pw_and1 (pt_cmpR op_ne (pe_word (a := "_law_it") (CB := CB) (CG := CG) (TL := TL) (c := c) (PT := P1) (k := 37) (j := 8) (NL := ["_law_it", "_law_cells"]) (fr := ["_law_cells"]) (js := [9]) FW bW gB gG rfl TB rfl hmT hu hr (nscope_by (by decide +kernel)) (frB_ok (sc := fnScope sLAllRight) (by decide +kernel)) (by decide +kernel) rfl rfl (fun _ _ _ _ _ _ => rfl) (fun A' outer' s' H' E' f' c' hr' => (pe_cX C_grown hr' (by decide) rfl (takes_of rfl rfl rfl rfl) (pa_cons (pv 1) (pa_cons pe_int (pa_cons (pv 0) pa_nil))))) rfl rfl (by decide)) pe_str (nomark _))))) 
          (pss_one (ps_ret pe_bl)) pss_nil)))))))))))
    (pss_one (ps_ret pe_bl))), ?_⟩
  walk_at "rd"
  refine ⟨4, rfl, by decide, by decide, for_it walk_range (fun i σ H' => ∃ x1 x2 x3 x4 x5 x6 x7 x8 x9, σ = [some (.ref S), x1, x2, x3, x4, x5, x6, x7, x8, x9] ∧ ExtN H H' ∧ Tabs TL H')
    ⟨_, _, _, _, _, _, _, _, _, rfl, ExtN.refl H, hTb⟩ (fun _ _ _ _ _ => True.intro) ?_ ?_⟩
  · rintro i x σ H1 H2 hi ⟨x1, x2, x3, x4, x5, x6, x7, x8, x9, rfl, u1, u2⟩ ⟨rfl, rfl⟩
    have hi : i < 4 := hi
    have hS2 := extN_scr u1 hS
    walk_at "rd"
    refine ⟨S, ns, 3 + i, congrArg (fun z => [V.ref S, V.int z]) (by omega), hS2, by omega, fun z H3 hz s3 => ?_⟩
    walk_at "rd"
    refine g_I (C := CMul) (.inr ⟨by omega, by omega⟩) ?_
    walk_at "rd"
    refine g_I (show (0 : Int) < _ by decide) ?_
    have a1 := Int.emod_nonneg z (show (4 : Int) ≠ 0 by decide)
    have a2 := Int.emod_lt_of_pos z (show (0 : Int) < 4 by decide)
    obtain ⟨m, hm⟩ : ∃ m : Nat, (m : Int) = 1 + z % 4 := ⟨(1 + z % 4).toNat, Int.toNat_of_nonneg (by omega)⟩
    walk_at "rd"
    rw [← hm]
    refine ⟨S, ns, 100 + 100 * i, m, 5, congrArg (fun z => [V.ref S, V.int z, vn m, vn 5]) (by omega), hS2.same s3, by omega, by omega, by omega, by decide, fun ss gs bef sh fl t1 H4 hD s4 ht1 hsh hfl => ?_⟩
    obtain ⟨hc99, bs, hF, hdep⟩ := hD.file (by decide)
    obtain ⟨cs, hcs⟩ : ∃ cs, cs = flO bef ss gs := ⟨_, rfl⟩
    rw [← hcs] at hfl hc99 hF
    have hln := hF.ln
    have hC : ∀ {H'}, SqT K H' fl (cs.map vn) → Cells K H' fl cs := fun z => ⟨.inr z, hln, hc99⟩
    walk_at "rd"
    refine g_tupT (SqT.of ht1) rfl ?_
    walk_at "rd"
    refine ⟨fl, _, rfl, .inr (SqT.of hfl), ?_⟩
    rw [List.length_map]
    walk_at "rd"
    refine ⟨fl, cs, 0, cs.length, bs, rfl, hC (SqT.of hfl), Nat.le_refl _, hF.tl, hdep, fun t2 bl el fx H5 s5 ht2 hbl hfx hel => ?_⟩
    have hfl5 := s5 _ _ hfl
    have v1 : ExtN H H5 := u1.trans (extN_same ((s3.trans s4).trans s5))
    have v2 := u2.ext ((s3.trans s4).trans s5)
    have hfxl : fx.length = (lkL bs).length := by rw [hfx.length, List.length_map]
    rw [en_ens bs _ _ hF.tl] at hel
    walk_at "rd"
    refine g_tupT (SqT.of ht2) rfl ?_
    walk_at "rd"
    refine ⟨bl, _, rfl, SqL.of hbl, for_it walk_enum (fun k σ H' => (∃ x2 x6 x7 x8, σ = [some (.ref S), some (.int (0 + (i : Int))), x2, some (.ref sh), some (.ref bl), some (.ref el), x6, x7, x8, some (.ref fl)]) ∧ ExtN H5 H' ∧ Tabs TL H')
      ⟨⟨_, _, _, _, rfl⟩, ExtN.refl _, v2⟩ (fun k σ H' _ z => SqL.of (extN_lst z.2.1 hbl)) ?_ ?_⟩
    · rintro k x σ H6 H7 hk ⟨⟨y2, y6, y7, y8, rfl⟩, w1, w2⟩ ⟨T1, z1, z2, rfl, nT, rfl, g1, g2⟩
      cases Option.some.inj g1
      obtain ⟨dd, f1, f2⟩ := hfx.get g2
      rw [List.getElem?_map] at f1
      obtain ⟨t, ht, rfl⟩ := Option.map_eq_some_iff.mp f1
      have sT := same_new nT (.tup [V.int (k : Int), z2])
      have W := w1.trans (extN_same sT)
      refine g_tupT (SqT.of upd_same) rfl ?_
      walk_at "rd"
      refine ⟨fl, k, z2, el, cs, bs, t, rfl, extN_sqt W (SqT.of hfl5), hc99, hF, ht, extN_tp W f2, extN_lst W hel, w2.ext sT, fun H8 e8 T8 => ?_⟩
      walk_at "rd"
      exact ⟨⟨_, _, _, _, rfl⟩, W.trans e8, T8⟩
    · rintro σ H6 ⟨⟨y2, y6, y7, y8, rfl⟩, w1, w2⟩
      have hfl6 := extN_sqt w1 (SqT.of (K := K) hfl5)
      have hbl6 := extN_lst w1 hbl
      have hfx6 : TpAll K H6 fx ((lkL bs).map lkD) := TpAll.mono (extN_tk w1) _ _ hfx
      walk_at "rd"
      refine ⟨fl, cs, bs, rfl, hC hfl6, hF, fun tl H7 s7 hn7 htl => ?_⟩
      walk_at "rd"
      obtain ⟨qq, hqq⟩ : ∃ qq : Nat → Bool, qq = fun k => decide (((lkL bs).getD k (0, 0, 0)).2.2 = 0) || decide (((lkL bs).getD k (0, 0, 0)).2.2 = 2) := ⟨_, rfl⟩
      refine ⟨bl, _, rfl, SqL.of (s7 _ _ hbl6), fun D hD => ?_⟩
      refine lc_it walk_enum (fun k H' => Same H7 H' ∧ H' D = some (.lst (((List.range k).filter qq).map vn))) ⟨same_new hD _, upd_same⟩ (fun k H' _ z => SqL.of (z.1 _ _ (s7 _ _ hbl6))) ?_ ?_
      · rintro k x H8 H9 hk ⟨s8, e8⟩ ⟨T1, z1, z2, rfl, nT, rfl, g1, g2⟩
        cases Option.some.inj g1
        obtain ⟨dd, f1, f2⟩ := hfx6.get g2
        rw [List.getElem?_map] at f1
        obtain ⟨t, ht, rfl⟩ := Option.map_eq_some_iff.mp f1
        obtain ⟨ba, rfl, hba⟩ := lk_tp f2
        have sT := same_new nT (.tup [V.int (k : Int), V.ref ba])
        have hba9 := Same.sqt ((s7.trans s8).trans sT) hba
        have hqk : qq k = (decide (t.2.2 = 0) || decide (t.2.2 = 2)) := by
          rw [hqq]
          show (decide (((lkL bs).getD k (0, 0, 0)).2.2 = 0) || decide (((lkL bs).getD k (0, 0, 0)).2.2 = 2)) = _
          rw [List.getD_eq_getElem?_getD, ht]
          rfl
        have hel2 : (((List.range k).filter qq).map vn).length ≤ 1000 := by
          have := List.length_filter_le qq (List.range k)
          rw [List.length_range] at this
          have := lk_len bs _ _ hF.tl
          rw [List.length_map]
          omega
        have yes : qq k = true → ∃ acc, (upd H8 T1 (.tup [V.int (k : Int), V.ref ba])) D = some (HO.lst acc) ∧ acc.length < sizeLine ∧ Same H7 (upd (upd H8 T1 (.tup [V.int (k : Int), V.ref ba])) D (.lst (acc ++ [V.int (k : Int)]))) ∧ (upd (upd H8 T1 (.tup [V.int (k : Int), V.ref ba])) D (.lst (acc ++ [V.int (k : Int)]))) D = some (.lst (((List.range (k + 1)).filter qq).map vn)) := by
          intro hz
          refine ⟨_, sT _ _ e8, small1000 hel2, Same.putNew (s8.trans sT) hD, ?_⟩
          rw [upd_same, List.range_succ, List.filter_append, List.filter_cons, if_pos hz, List.filter_nil, List.map_append]
          rfl
        refine g_tupT (SqT.of upd_same) rfl ?_
        walk_at "rd"
        refine ⟨rfl, ?_⟩
        walk_at "rd"
        refine g_ixT 2 hba9 rfl rfl ?_
        walk_at "rd"
        refine g_ite (fun c0 => ?_) (fun c0 => ?_)
        · walk_at "rd"
          exact yes (by rw [hqk, decide_eq_true (show t.2.2 = 0 by have := V.int.inj c0; omega)]; rfl)
        · have c0 : ¬ t.2.2 = 0 := fun z => c0 (congrArg V.int (by omega))
          walk_at "rd"
          refine g_ixT 2 hba9 rfl rfl ?_
          walk_at "rd"
          refine g_ite (fun c2 => ?_) (fun c2 => ?_)
          · walk_at "rd"
            exact yes (by rw [hqk, decide_eq_true (show t.2.2 = 2 by have := V.int.inj c2; omega), Bool.or_true])
          · have c2 : ¬ t.2.2 = 2 := fun z => c2 (congrArg V.int (by omega))
            walk_at "rd"
            refine ⟨s8.trans sT, ?_⟩
            rw [List.range_succ, List.filter_append, List.filter_cons, if_neg (by rw [hqk, decide_eq_false c0, decide_eq_false c2]; exact Bool.false_ne_true), List.filter_nil, List.append_nil]
            exact sT _ _ e8
      rintro H8 ⟨s8, e8⟩
      have htg : tgtL (lkL bs) = (List.range (lkL bs).length).filter qq := by
        unfold tgtL
        refine List.filter_congr fun k hk => ?_
        have hk := List.mem_range.mp hk
        rw [hqq]
        have hmem : (lkL bs).getD k (0, 0, 0) ∈ lkL bs := by
          rw [List.getD_eq_getElem?_getD, List.getElem?_eq_getElem hk]
          exact List.getElem_mem hk
        have h1 := lk_sp bs _ _ hF.tl _ hmem
        have h2 := hF.sp hmem
        exact gw_one (by omega) (by omega)
      rw [hfxl, ← htg] at e8
      refine g_neL (s8 _ _ htl) e8 ?_
      have S8 := s7.trans s8
      have w18 := w1.trans (extN_same S8)
      have w28 := w2.ext S8
      have hfl8 := Same.sqt S8 hfl6
      have hbl8 := S8 _ _ hbl6
      have hfx8 := hfx6.same S8
      walk_at "rd"
      refine ⟨1, rfl, ?_⟩
      walk_at "rd"
      refine ⟨bl, _, rfl, .inl (SqL.of hbl8), ?_⟩
      rw [hfxl]
      walk_at "rd"
      refine ⟨(by show 1 ≤ sizeLine; decide), fun p0 hp0 => ?_⟩
      have s9 := same_new hp0 (.tup [V.int 0])
      walk_at "rd"
      refine ⟨(by show 6 ≤ sizeLine; decide), fun pt hpt => ?_⟩
      have s10 := same_new hpt (.tup [V.int (-1), vn (lkL bs).length, V.non, V.str "0", V.bl true, V.ref p0])
      have S10 := s9.trans s10
      have w110 := w18.trans (extN_same S10)
      have w210 := w28.ext S10
      have hfl10 := Same.sqt S10 hfl8
      have hbl10 := S10 _ _ hbl8
      have hfx10 := hfx8.same S10
      have bad10 : ∀ x ∈ [V.int (-1), vn (lkL bs).length, V.non, V.str "0", V.bl true, V.ref p0], BadN K (upd (upd H8 p0 (.tup [V.int 0])) pt (.tup [V.int (-1), vn (lkL bs).length, V.non, V.str "0", V.bl true, V.ref p0])) x (lkL bs).length := by
        intro x hx
        simp only [List.mem_cons, List.not_mem_nil, or_false] at hx
        rcases hx with rfl | rfl | rfl | rfl | rfl | rfl
        · exact .inr ⟨-1, rfl, by omega⟩
        · exact .inr ⟨_, rfl, by omega⟩
        · exact .inl (.inl rfl)
        · exact .inl (.inr (.inl ⟨_, rfl⟩))
        · exact .inl (.inr (.inr (.inl ⟨_, rfl⟩)))
        · exact .inl (.inr (.inr (.inr ⟨p0, _, rfl, SqT.of (s10 _ _ upd_same)⟩)))
      refine ⟨pt, rfl, ⟨_, SqT.of upd_same⟩, for_it walk_tup (fun k σ H' => (∃ x8, σ = [some (.ref S), some (.int (0 + (i : Int))), y2, some (.ref sh), some (.ref bl), some (.ref el), y6, y7, x8, some (.ref fl)]) ∧ ExtN (upd (upd H8 p0 (.tup [V.int 0])) pt (.tup [V.int (-1), vn (lkL bs).length, V.non, V.str "0", V.bl true, V.ref p0])) H' ∧ Tabs TL H')
        ⟨⟨_, rfl⟩, ExtN.refl _, w210⟩ (fun k σ H' _ z => extN_sqt z.2.1 (SqT.of upd_same)) ?_ ?_⟩
      · rintro k x σ H11 H12 hk ⟨⟨y8', rfl⟩, r1, r2⟩ ⟨rfl, hx⟩
        have bx := bad10 x (List.mem_of_getElem? hx)
        have fin : ∀ Hz, ExtN H12 Hz → Tabs TL Hz → (∃ x8, [some (.ref S), some (.int (0 + (i : Int))), y2, some (.ref sh), some (.ref bl), some (.ref el), y6, y7, some x, some (.ref fl)] = [some (.ref S), some (.int (0 + (i : Int))), y2, some (.ref sh), some (.ref bl), some (.ref el), y6, y7, x8, some (.ref fl)]) ∧ ExtN (upd (upd H8 p0 (.tup [V.int 0])) pt (.tup [V.int (-1), vn (lkL bs).length, V.non, V.str "0", V.bl true, V.ref p0])) Hz ∧ Tabs TL Hz := fun Hz e1 e2 => ⟨⟨_, rfl⟩, r1.trans e1, e2⟩
        walk_at "rd"
        refine ⟨r2, x, rfl, fun Ha eN hTa => ?_⟩
        refine g_word (g_callS ?_)
        walk_at "rd"
        refine ⟨fl, x, cs, bs, rfl, hC (extN_sqt (r1.trans eN) hfl10), hF, .inr ⟨extN_badn (r1.trans eN) bx, fun Hb sb => ⟨true, hex3, fun _ => ?_, fun z => (nomatch z)⟩⟩⟩
        have e1 := eN.trans (extN_same sb)
        have e2 := hTa.ext sb
        walk_at "rd"
        refine g_ndF rfl ?_
        walk_at "rd"
        refine ⟨e2, x, rfl, fun Hc eN2 hTc => ?_⟩
        refine g_word (g_callS ?_)
        walk_at "rd"
        refine ⟨Nat.zero_le _, fun et het => ?_⟩
        have se := same_new het (.tup [])
        walk_at "rd"
        have E2 := (e1.trans eN2).trans (extN_same se)
        refine ⟨fl, x, .ref et, cs, bs, rfl, hC (extN_sqt (r1.trans E2) hfl10), hF, .inl ⟨extN_badn (r1.trans E2) bx, fun Hd sd => ⟨true, hex3, fun _ => ?_, fun z => (nomatch z)⟩⟩⟩
        walk_at "rd"
        refine g_ndF rfl ?_
        walk_at "rd"
        exact fin _ (E2.trans (extN_same sd)) ((hTc.ext se).ext sd)
      · rintro σ H11 ⟨⟨y8', rfl⟩, r1, r2⟩
        have hfl11 := extN_sqt r1 hfl10
        have hbl11 := extN_lst r1 hbl10
        have hfx11 : TpAll K H11 fx ((lkL bs).map lkD) := TpAll.mono (extN_tk r1) _ _ hfx10
        walk_at "rd"
        refine ⟨(by show 1 ≤ sizeLine; decide), fun p1 hp1 => ?_⟩
        have t1' := same_new hp1 (.tup [V.int 100])
        walk_at "rd"
        refine ⟨1, rfl, ?_⟩
        walk_at "rd"
        refine ⟨(by show 1 ≤ sizeLine; decide), fun p2 hp2 => ?_⟩
        have t2' := same_new hp2 (.tup [V.int (-1)])
        walk_at "rd"
        refine ⟨(by show 1 ≤ sizeLine; decide), fun p3 hp3 => ?_⟩
        have t3' := same_new hp3 (.tup [V.non])
        walk_at "rd"
        refine ⟨(by show 1 ≤ sizeLine; decide), fun p4 hp4 => ?_⟩
        have t4' := same_new hp4 (.tup [V.str "1"])
        walk_at "rd"
        refine ⟨(by show 1 ≤ sizeLine; decide), fun p5 hp5 => ?_⟩
        have t5' := same_new hp5 (.tup [V.bl true])
        walk_at "rd"
        refine fun d hd => ⟨upd_same, [(Sum.inl 0, V.int 1)], rfl, by decide, ?_⟩
        have td' := Same.putNew (o := .dK (mergeK [] [((Sum.inl 0 : L2.Key), V.int 1)])) (same_new hd (.dK [])) hd
        walk_at "rd"
        refine ⟨(by show 9 ≤ sizeLine; decide), fun pt2 hpt2 => ?_⟩
        have tp' := same_new hpt2 (.tup [V.non, V.int 5, V.str "a", V.ref p1, V.ref p2, V.ref p3, V.ref p4, V.ref p5, V.ref d])
        have TD := td'.trans tp'
        have T5 := t5'.trans TD
        have T4 := t4'.trans T5
        have T3 := t3'.trans T4
        have T2 := t2'.trans T3
        have T1 := t1'.trans T2
        refine ⟨pt2, rfl, ⟨_, SqT.of upd_same⟩, for_it walk_tup (fun k σ H' => (∃ x8, σ = [some (.ref S), some (.int (0 + (i : Int))), y2, some (.ref sh), some (.ref bl), some (.ref el), y6, y7, x8, some (.ref fl)]) ∧ ExtN H11 H' ∧ Tabs TL H' ∧ SqT K H' pt2 [V.non, V.int 5, V.str "a", V.ref p1, V.ref p2, V.ref p3, V.ref p4, V.ref p5, V.ref d] ∧ ∀ x ∈ [V.non, V.int 5, V.str "a", V.ref p1, V.ref p2, V.ref p3, V.ref p4, V.ref p5, V.ref d], OddC K H' x)
          ⟨⟨_, rfl⟩, extN_same T1, r2.ext T1, SqT.of upd_same, ?_⟩ (fun k σ H' _ z => z.2.2.2.1) ?_ ?_⟩
        · intro x hx
          simp only [List.mem_cons, List.not_mem_nil, or_false] at hx
          rcases hx with rfl | rfl | rfl | rfl | rfl | rfl | rfl | rfl | rfl
          · exact .inl (.inl rfl)
          · exact .inl (.inr (.inl ⟨_, rfl⟩))
          · exact .inl (.inr (.inr (.inl ⟨_, rfl⟩)))
          · exact .inr ⟨p1, V.int 100, rfl, SqT.of (T2 _ _ upd_same), rfl, .inl ⟨_, rfl⟩⟩
          · exact .inr ⟨p2, V.int (-1), rfl, SqT.of (T3 _ _ upd_same), rfl, .inl ⟨_, rfl⟩⟩
          · exact .inr ⟨p3, V.non, rfl, SqT.of (T4 _ _ upd_same), rfl, .inr (.inl rfl)⟩
          · exact .inr ⟨p4, V.str "1", rfl, SqT.of (T5 _ _ upd_same), rfl, .inr (.inr (.inl ⟨_, rfl⟩))⟩
          · exact .inr ⟨p5, V.bl true, rfl, SqT.of (TD _ _ upd_same), rfl, .inr (.inr (.inr (.inl ⟨_, rfl⟩)))⟩
          · exact .inl (.inr (.inr (.inr ⟨d, _, rfl, tp' _ _ upd_same⟩)))
        · rintro k x σ H12 H13 hk ⟨⟨y8'', rfl⟩, e1, e2, e3, e4⟩ ⟨rfl, hx⟩
          have ox := e4 x (List.mem_of_getElem? hx)
          have hfl13 := extN_sqt e1 hfl11
          have hbl13 := extN_lst e1 hbl11
          have hfx13 : TpAll K H13 fx ((lkL bs).map lkD) := TpAll.mono (extN_tk e1) _ _ hfx11
          walk_at "rd"
          refine ⟨Nat.zero_le _, fun l0 hl0 => ?_⟩
          have s0 := same_new hl0 (.lst [])
          walk_at "rd"
          refine ⟨.list ((lkL bs).map lkD), .list [], .lst (SqL.of (s0 _ _ hbl13)) (TpAll.dp _ _ (hfx13.same s0)), .lst (SqL.of upd_same) .nil, shaped_lk _, shaped_nil, ?_⟩
          rw [eqv_nil]
          have fin : ∀ Hz, ExtN H13 Hz → Tabs TL Hz → (∃ x8, [some (.ref S), some (.int (0 + (i : Int))), y2, some (.ref sh), some (.ref bl), some (.ref el), y6, y7, some x, some (.ref fl)] = [some (.ref S), some (.int (0 + (i : Int))), y2, some (.ref sh), some (.ref bl), some (.ref el), y6, y7, x8, some (.ref fl)]) ∧ ExtN H11 Hz ∧ Tabs TL Hz ∧ SqT K Hz pt2 [V.non, V.int 5, V.str "a", V.ref p1, V.ref p2, V.ref p3, V.ref p4, V.ref p5, V.ref d] ∧ ∀ x ∈ [V.non, V.int 5, V.str "a", V.ref p1, V.ref p2, V.ref p3, V.ref p4, V.ref p5, V.ref d], OddC K Hz x := fun Hz f1 f2 => ⟨⟨_, rfl⟩, e1.trans f1, f2, extN_sqt f1 e3, fun x hx => extN_odd f1 (e4 x hx)⟩
          cases hb : lkL bs with
          | nil =>
            walk_at "rd"
            refine g_ndF (p := List.map lkD [] = []) rfl ?_
            walk_at "rd"
            exact fin _ (extN_same s0) (e2.ext s0)
          | cons t rest =>
            have ht0 : (lkL bs)[0]? = some t := by rw [hb]; rfl
            walk_at "rd"
            refine g_ndT (p := List.map lkD (t :: rest) = []) (fun z => nomatch z) ?_
            walk_at "rd"
            refine ⟨e2.ext s0, x, rfl, fun Ha eN hTa => ?_⟩
            refine g_word (g_callS ?_)
            walk_at "rd"
            have E2 := (extN_same s0).trans eN
            have ox2 := extN_odd E2 ox
            refine ⟨fl, V.int 0, x, cs, bs, rfl, hC (extN_sqt E2 hfl13), hF, .inr ⟨0, t, rfl, ht0, ?_⟩⟩
            have done : ∀ Hb, Same Ha Hb → (∃ x8, [some (.ref S), some (.int (0 + (i : Int))), y2, some (.ref sh), some (.ref bl), some (.ref el), y6, y7, some x, some (.ref fl)] = [some (.ref S), some (.int (0 + (i : Int))), y2, some (.ref sh), some (.ref bl), some (.ref el), y6, y7, x8, some (.ref fl)]) ∧ ExtN H11 Hb ∧ Tabs TL Hb ∧ SqT K Hb pt2 [V.non, V.int 5, V.str "a", V.ref p1, V.ref p2, V.ref p3, V.ref p4, V.ref p5, V.ref d] ∧ ∀ x ∈ [V.non, V.int 5, V.str "a", V.ref p1, V.ref p2, V.ref p3, V.ref p4, V.ref p5, V.ref d], OddC K Hb x := fun Hb sb => fin Hb (E2.trans (extN_same sb)) (hTa.ext sb)
            rcases ox2 with hn | ⟨pp, v, rfl, hp, hv, hk2⟩
            · refine .inl ⟨hn, fun Hb sb => ⟨false, hex, fun z => (nomatch z), fun _ => ⟨true, hex2, fun _ => ?_, fun z => (nomatch z)⟩⟩⟩
              walk_at "rd"
              refine g_ndF rfl ?_
              walk_at "rd"
              exact done Hb sb
            · refine .inr ⟨pp, [v], rfl, .inr hp, (by show 1 ≤ 100; omega), fun y hy => by rw [List.mem_singleton.mp hy]; exact hk2, .inl ⟨?_, fun Hb sb => ⟨false, hex, fun z => (nomatch z), fun _ => ⟨true, hex2, fun _ => ?_, fun z => (nomatch z)⟩⟩⟩⟩
              · unfold cnH
                rw [show [v].all isC = false by show (isC v && true) = false; rw [hv]; rfl, Bool.false_and, Bool.and_false]
              · walk_at "rd"
                refine g_ndF rfl ?_
                walk_at "rd"
                exact done Hb sb
        · rintro σ H12 ⟨⟨y8'', rfl⟩, e1, e2, e3, e4⟩
          exact ⟨_, _, _, _, _, _, _, _, _, rfl, ((v1.trans w1).trans (extN_same S8)).trans ((extN_same S10).trans (r1.trans e1)), e2⟩
  · rintro σ H1 ⟨x1, x2, x3, x4, x5, x6, x7, x8, x9, rfl, u1, u2⟩
    walk_at "rd"
    exact q H1
end
end Bx

namespace Bx
open LamX
section
variable {P : Program} {w : World} {K : PySem.W.Frag} {mg : Str → Option Value} {base : Heap}
def spLawT (K : PySem.W.Frag) (TL : List (Addr × Str)) : Sp := fun vs H Q _ => ∃ (S : Addr) (ns : List Int), vs = [.ref S] ∧ Scr K H S ns ∧ Tabs TL H ∧ ∀ H', Q (.bl true) H'
theorem ok_law {f : Addr} {fd : FuncData} {TL : List (Addr × Str)} (F : Def K mg "law" sLaw f fd) (b : Binds K fd ["_law_script"] []) (T : Txt mg) (C_lAllRight : Cal P w K mg base 40 "_law_all_right" (spLAllRight K TL) []) : FnOk P w K mg base C8.CX0 41 f fd ["_law_script"] (spLawT K TL) := by
  refine fn0 F.fn scLaw (fun vs H Q E h => ?_) (fun cdv A outer s H vs Q E hr h => ?_)
  · obtain ⟨S, ns, rfl, _⟩ := h
    rfl
  obtain ⟨S, ns, rfl, hS, hT, q⟩ := h
  refine ⟨_, (pss_one (ps_try_thru0 (pss_one (ps_ret (pe_c C_lAllRight hr (by decide) rfl (pa_cons (pv 0) pa_nil)))))), ?_⟩
  walk_at "rd"
  exact ⟨S, ns, rfl, hS, hT, q⟩
end
end Bx

namespace Bx
open LamX
theorem law_ok {l : PySem.W.OpenLaw} {w : World} {K : PySem.W.Frag} {h : Heap} {mg : Str → Option Value} {fa CB CG cB cA PB PA : Addr} (X : K.In h) (G : h.Ns mainGlobals mg) (hfa : mg "law" = some (.ref fa))
    {f1 f2 f3 f4 f5 f6 f7 f8 f9 f10 f11 f12 f13 f14 f15 f16 f17 f18 f19 f20 f21 f22 f23 f24 f25 f26 f27 f28 f29 f30 f31 f32 f33 f34 f35 f36 f37 f38 f39 : Addr} {od1 an1 od2 an2 od3 an3 od4 an4 od5 an5 od6 an6 od7 an7 od8 an8 od9 an9 od10 an10 od11 an11 od12 an12 od13 an13 od14 an14 od15 an15 od16 an16 od17 an17 od18 an18 od19 an19 od20 an20 od21 an21 od22 an22 od23 an23 od24 an24 od25 an25 od26 an26 od27 an27 od28 an28 od29 an29 od30 an30 od31 an31 od32 an32 od33 an33 od34 an34 od35 an35 od36 an36 od37 an37 od38 an38 od39 an39 : Option Addr} {sl1 sl2 sl3 sl4 sl5 sl6 sl7 sl8 sl9 sl10 sl11 sl12 sl13 sl14 sl15 sl16 sl17 sl18 sl19 sl20 sl21 sl22 sl23 sl24 sl25 sl26 sl27 sl28 sl29 sl30 sl31 sl32 sl33 sl34 sl35 sl36 sl37 sl38 sl39 : Array (Option Value)} {oc1 kV1 dc1 pm1 cd1 ct1 oc2 kV2 dc2 pm2 cd2 ct2 oc3 kV3 dc3 pm3 cd3 ct3 oc4 kV4 dc4 pm4 cd4 ct4 oc5 kV5 dc5 pm5 cd5 ct5 oc6 kV6 dc6 pm6 cd6 ct6 oc7 kV7 dc7 pm7 cd7 ct7 oc8 kV8 dc8 pm8 cd8 ct8 oc9 kV9 dc9 pm9 cd9 ct9 oc10 kV10 dc10 pm10 cd10 ct10 oc11 kV11 dc11 pm11 cd11 ct11 oc12 kV12 dc12 pm12 cd12 ct12 oc13 kV13 dc13 pm13 cd13 ct13 oc14 kV14 dc14 pm14 cd14 ct14 oc15 kV15 dc15 pm15 cd15 ct15 oc16 kV16 dc16 pm16 cd16 ct16 oc17 kV17 dc17 pm17 cd17 ct17 oc18 kV18 dc18 pm18 cd18 ct18 oc19 kV19 dc19 pm19 cd19 ct19 oc20 kV20 dc20 pm20 cd20 ct20 oc21 kV21 dc21 pm21 cd21 ct21 oc22 kV22 dc22 pm22 cd22 ct22 oc23 kV23 dc23 pm23 cd23 ct23 oc24 kV24 dc24 pm24 cd24 ct24 oc25 kV25 dc25 pm25 cd25 ct25 oc26 kV26 dc26 pm26 cd26 ct26 oc27 kV27 dc27 pm27 cd27 ct27 oc28 kV28 dc28 pm28 cd28 ct28 oc29 kV29 dc29 pm29 cd29 ct29 oc30 kV30 dc30 pm30 cd30 ct30 oc31 kV31 dc31 pm31 cd31 ct31 oc32 kV32 dc32 pm32 cd32 ct32 oc33 kV33 dc33 pm33 cd33 ct33 oc34 kV34 dc34 pm34 cd34 ct34 oc35 kV35 dc35 pm35 cd35 ct35 oc36 kV36 dc36 pm36 cd36 ct36 oc37 kV37 dc37 pm37 ct37 oc38 kV38 dc38 pm38 ct38 oc39 kV39 dc39 pm39 cd39 ct39 : Value} {tGROUP tDATA tFREE tTABLE tHEAD tMOST_CELLS tLARGEST_CELL tMOST_GROUPS_AROUND : PySem.Tok}
    (a1 : PySem.W.nsIn K mainGlobals "is_between" = some (some (.ref f1))) (l1 : K.lookup f1 = some ⟨oc1, od1, .func (PySem.W.fnOf "is_between" "is_between" (fnArgs sIsBetween) (fnBody sIsBetween) (fnScope sIsBetween) .none kV1 dc1 pm1 an1 cd1 ct1), sl1⟩) (c1 : PySem.W.codeIn K cd1 "is_between" = true) (k1 : PySem.W.keepIn K (.ref f1) = true)
    (a2 : PySem.W.nsIn K mainGlobals "first_wrong" = some (some (.ref f2))) (l2 : K.lookup f2 = some ⟨oc2, od2, .func (PySem.W.fnOf "first_wrong" "first_wrong" (fnArgs sFirstWrong) (fnBody sFirstWrong) (fnScope sFirstWrong) .none kV2 dc2 pm2 an2 cd2 ct2), sl2⟩) (c2 : PySem.W.codeIn K cd2 "first_wrong" = true) (k2 : PySem.W.keepIn K (.ref f2) = true)
    (a3 : PySem.W.nsIn K mainGlobals "check_file" = some (some (.ref f3))) (l3 : K.lookup f3 = some ⟨oc3, od3, .func (PySem.W.fnOf "check_file" "check_file" (fnArgs sCheckFile) (fnBody sCheckFile) (fnScope sCheckFile) .none kV3 dc3 pm3 an3 cd3 ct3), sl3⟩) (c3 : PySem.W.codeIn K cd3 "check_file" = true) (k3 : PySem.W.keepIn K (.ref f3) = true)
    (a4 : PySem.W.nsIn K mainGlobals "check_cells" = some (some (.ref f4))) (l4 : K.lookup f4 = some ⟨oc4, od4, .func (PySem.W.fnOf "check_cells" "check_cells" (fnArgs sCheckCells) (fnBody sCheckCells) (fnScope sCheckCells) .none kV4 dc4 pm4 an4 cd4 ct4), sl4⟩) (c4 : PySem.W.codeIn K cd4 "check_cells" = true) (k4 : PySem.W.keepIn K (.ref f4) = true)
    (a5 : PySem.W.nsIn K mainGlobals "is_cell" = some (some (.ref f5))) (l5 : K.lookup f5 = some ⟨oc5, od5, .func (PySem.W.fnOf "is_cell" "is_cell" (fnArgs sIsCell) (fnBody sIsCell) (fnScope sIsCell) .none kV5 dc5 pm5 an5 cd5 ct5), sl5⟩) (c5 : PySem.W.codeIn K cd5 "is_cell" = true) (k5 : PySem.W.keepIn K (.ref f5) = true)
    (a6 : PySem.W.nsIn K mainGlobals "wrong_box" = some (some (.ref f6))) (l6 : K.lookup f6 = some ⟨oc6, od6, .func (PySem.W.fnOf "wrong_box" "wrong_box" (fnArgs sWrongBox) (fnBody sWrongBox) (fnScope sWrongBox) .none kV6 dc6 pm6 an6 cd6 ct6), sl6⟩) (c6 : PySem.W.codeIn K cd6 "wrong_box" = true) (k6 : PySem.W.keepIn K (.ref f6) = true)
    (a7 : PySem.W.nsIn K mainGlobals "wrong_head" = some (some (.ref f7))) (l7 : K.lookup f7 = some ⟨oc7, od7, .func (PySem.W.fnOf "wrong_head" "wrong_head" (fnArgs sWrongHead) (fnBody sWrongHead) (fnScope sWrongHead) .none kV7 dc7 pm7 an7 cd7 ct7), sl7⟩) (c7 : PySem.W.codeIn K cd7 "wrong_head" = true) (k7 : PySem.W.keepIn K (.ref f7) = true)
    (a8 : PySem.W.nsIn K mainGlobals "wrong_entry" = some (some (.ref f8))) (l8 : K.lookup f8 = some ⟨oc8, od8, .func (PySem.W.fnOf "wrong_entry" "wrong_entry" (fnArgs sWrongEntry) (fnBody sWrongEntry) (fnScope sWrongEntry) .none kV8 dc8 pm8 an8 cd8 ct8), sl8⟩) (c8 : PySem.W.codeIn K cd8 "wrong_entry" = true) (k8 : PySem.W.keepIn K (.ref f8) = true)
    (a9 : PySem.W.nsIn K mainGlobals "box_places" = some (some (.ref f9))) (l9 : K.lookup f9 = some ⟨oc9, od9, .func (PySem.W.fnOf "box_places" "box_places" (fnArgs sBoxPlaces) (fnBody sBoxPlaces) (fnScope sBoxPlaces) .none kV9 dc9 pm9 an9 cd9 ct9), sl9⟩) (c9 : PySem.W.codeIn K cd9 "box_places" = true) (k9 : PySem.W.keepIn K (.ref f9) = true)
    (a10 : PySem.W.nsIn K mainGlobals "content_places" = some (some (.ref f10))) (l10 : K.lookup f10 = some ⟨oc10, od10, .func (PySem.W.fnOf "content_places" "content_places" (fnArgs sContentPlaces) (fnBody sContentPlaces) (fnScope sContentPlaces) .none kV10 dc10 pm10 an10 cd10 ct10), sl10⟩) (c10 : PySem.W.codeIn K cd10 "content_places" = true) (k10 : PySem.W.keepIn K (.ref f10) = true)
    (a11 : PySem.W.nsIn K mainGlobals "data_targets" = some (some (.ref f11))) (l11 : K.lookup f11 = some ⟨oc11, od11, .func (PySem.W.fnOf "data_targets" "data_targets" (fnArgs sDataTargets) (fnBody sDataTargets) (fnScope sDataTargets) .none kV11 dc11 pm11 an11 cd11 ct11), sl11⟩) (c11 : PySem.W.codeIn K cd11 "data_targets" = true) (k11 : PySem.W.keepIn K (.ref f11) = true)
    (a12 : PySem.W.nsIn K mainGlobals "is_size" = some (some (.ref f12))) (l12 : K.lookup f12 = some ⟨oc12, od12, .func (PySem.W.fnOf "is_size" "is_size" (fnArgs sIsSize) (fnBody sIsSize) (fnScope sIsSize) .none kV12 dc12 pm12 an12 cd12 ct12), sl12⟩) (c12 : PySem.W.codeIn K cd12 "is_size" = true) (k12 : PySem.W.keepIn K (.ref f12) = true)
    (a13 : PySem.W.nsIn K mainGlobals "growths" = some (some (.ref f13))) (l13 : K.lookup f13 = some ⟨oc13, od13, .func (PySem.W.fnOf "growths" "growths" (fnArgs sGrowths) (fnBody sGrowths) (fnScope sGrowths) .none kV13 dc13 pm13 an13 cd13 ct13), sl13⟩) (c13 : PySem.W.codeIn K cd13 "growths" = true) (k13 : PySem.W.keepIn K (.ref f13) = true)
    (a14 : PySem.W.nsIn K mainGlobals "grown" = some (some (.ref f14))) (l14 : K.lookup f14 = some ⟨oc14, od14, .func (PySem.W.fnOf "grown" "grown" (fnArgs sGrown) (fnBody sGrown) (fnScope sGrown) .none kV14 dc14 pm14 an14 cd14 ct14), sl14⟩) (c14 : PySem.W.codeIn K cd14 "grown" = true) (k14 : PySem.W.keepIn K (.ref f14) = true)
    (a15 : PySem.W.nsIn K mainGlobals "tight" = some (some (.ref f15))) (l15 : K.lookup f15 = some ⟨oc15, od15, .func (PySem.W.fnOf "tight" "tight" (fnArgs sTight) (fnBody sTight) (fnScope sTight) .none kV15 dc15 pm15 an15 cd15 ct15), sl15⟩) (c15 : PySem.W.codeIn K cd15 "tight" = true) (k15 : PySem.W.keepIn K (.ref f15) = true)
    (a16 : PySem.W.nsIn K mainGlobals "data_at" = some (some (.ref f16))) (l16 : K.lookup f16 = some ⟨oc16, od16, .func (PySem.W.fnOf "data_at" "data_at" (fnArgs sDataAt) (fnBody sDataAt) (fnScope sDataAt) .none kV16 dc16 pm16 an16 cd16 ct16), sl16⟩) (c16 : PySem.W.codeIn K cd16 "data_at" = true) (k16 : PySem.W.keepIn K (.ref f16) = true)
    (a17 : PySem.W.nsIn K mainGlobals "growths_at" = some (some (.ref f17))) (l17 : K.lookup f17 = some ⟨oc17, od17, .func (PySem.W.fnOf "growths_at" "growths_at" (fnArgs sGrowthsAt) (fnBody sGrowthsAt) (fnScope sGrowthsAt) .none kV17 dc17 pm17 an17 cd17 ct17), sl17⟩) (c17 : PySem.W.codeIn K cd17 "growths_at" = true) (k17 : PySem.W.keepIn K (.ref f17) = true)
    (a18 : PySem.W.nsIn K mainGlobals "free_after" = some (some (.ref f18))) (l18 : K.lookup f18 = some ⟨oc18, od18, .func (PySem.W.fnOf "free_after" "free_after" (fnArgs sFreeAfter) (fnBody sFreeAfter) (fnScope sFreeAfter) .none kV18 dc18 pm18 an18 cd18 ct18), sl18⟩) (c18 : PySem.W.codeIn K cd18 "free_after" = true) (k18 : PySem.W.keepIn K (.ref f18) = true)
    (a19 : PySem.W.nsIn K mainGlobals "can_hold" = some (some (.ref f19))) (l19 : K.lookup f19 = some ⟨oc19, od19, .func (PySem.W.fnOf "can_hold" "can_hold" (fnArgs sCanHold) (fnBody sCanHold) (fnScope sCanHold) .none kV19 dc19 pm19 an19 cd19 ct19), sl19⟩) (c19 : PySem.W.codeIn K cd19 "can_hold" = true) (k19 : PySem.W.keepIn K (.ref f19) = true)
    (a20 : PySem.W.nsIn K mainGlobals "entries_of" = some (some (.ref f20))) (l20 : K.lookup f20 = some ⟨oc20, od20, .func (PySem.W.fnOf "entries_of" "entries_of" (fnArgs sEntriesOf) (fnBody sEntriesOf) (fnScope sEntriesOf) .none kV20 dc20 pm20 an20 cd20 ct20), sl20⟩) (c20 : PySem.W.codeIn K cd20 "entries_of" = true) (k20 : PySem.W.keepIn K (.ref f20) = true)
    (a21 : PySem.W.nsIn K mainGlobals "_law_number" = some (some (.ref f21))) (l21 : K.lookup f21 = some ⟨oc21, od21, .func (PySem.W.fnOf "_law_number" "_law_number" (fnArgs sLNumber) (fnBody sLNumber) (fnScope sLNumber) .none kV21 dc21 pm21 an21 cd21 ct21), sl21⟩) (c21 : PySem.W.codeIn K cd21 "_law_number" = true) (k21 : PySem.W.keepIn K (.ref f21) = true)
    (a22 : PySem.W.nsIn K mainGlobals "_law_data" = some (some (.ref f22))) (l22 : K.lookup f22 = some ⟨oc22, od22, .func (PySem.W.fnOf "_law_data" "_law_data" (fnArgs sLData) (fnBody sLData) (fnScope sLData) .none kV22 dc22 pm22 an22 cd22 ct22), sl22⟩) (c22 : PySem.W.codeIn K cd22 "_law_data" = true) (k22 : PySem.W.keepIn K (.ref f22) = true)
    (a23 : PySem.W.nsIn K mainGlobals "_law_boxes" = some (some (.ref f23))) (l23 : K.lookup f23 = some ⟨oc23, od23, .func (PySem.W.fnOf "_law_boxes" "_law_boxes" (fnArgs sLBoxes) (fnBody sLBoxes) (fnScope sLBoxes) .none kV23 dc23 pm23 an23 cd23 ct23), sl23⟩) (c23 : PySem.W.codeIn K cd23 "_law_boxes" = true) (k23 : PySem.W.keepIn K (.ref f23) = true)
    (a24 : PySem.W.nsIn K mainGlobals "_law_flat" = some (some (.ref f24))) (l24 : K.lookup f24 = some ⟨oc24, od24, .func (PySem.W.fnOf "_law_flat" "_law_flat" (fnArgs sLFlat) (fnBody sLFlat) (fnScope sLFlat) .none kV24 dc24 pm24 an24 cd24 ct24), sl24⟩) (c24 : PySem.W.codeIn K cd24 "_law_flat" = true) (k24 : PySem.W.keepIn K (.ref f24) = true)
    (a25 : PySem.W.nsIn K mainGlobals "_law_pointed" = some (some (.ref f25))) (l25 : K.lookup f25 = some ⟨oc25, od25, .func (PySem.W.fnOf "_law_pointed" "_law_pointed" (fnArgs sLPointed) (fnBody sLPointed) (fnScope sLPointed) .none kV25 dc25 pm25 an25 cd25 ct25), sl25⟩) (c25 : PySem.W.codeIn K cd25 "_law_pointed" = true) (k25 : PySem.W.keepIn K (.ref f25) = true)
    (a26 : PySem.W.nsIn K mainGlobals "_law_targets" = some (some (.ref f26))) (l26 : K.lookup f26 = some ⟨oc26, od26, .func (PySem.W.fnOf "_law_targets" "_law_targets" (fnArgs sLTargets) (fnBody sLTargets) (fnScope sLTargets) .none kV26 dc26 pm26 an26 cd26 ct26), sl26⟩) (c26 : PySem.W.codeIn K cd26 "_law_targets" = true) (k26 : PySem.W.keepIn K (.ref f26) = true)
    (a27 : PySem.W.nsIn K mainGlobals "_law_shape" = some (some (.ref f27))) (l27 : K.lookup f27 = some ⟨oc27, od27, .func (PySem.W.fnOf "_law_shape" "_law_shape" (fnArgs sLShape) (fnBody sLShape) (fnScope sLShape) .none kV27 dc27 pm27 an27 cd27 ct27), sl27⟩) (c27 : PySem.W.codeIn K cd27 "_law_shape" = true) (k27 : PySem.W.keepIn K (.ref f27) = true)
    (a28 : PySem.W.nsIn K mainGlobals "_law_free" = some (some (.ref f28))) (l28 : K.lookup f28 = some ⟨oc28, od28, .func (PySem.W.fnOf "_law_free" "_law_free" (fnArgs sLFree) (fnBody sLFree) (fnScope sLFree) .none kV28 dc28 pm28 an28 cd28 ct28), sl28⟩) (c28 : PySem.W.codeIn K cd28 "_law_free" = true) (k28 : PySem.W.keepIn K (.ref f28) = true)
    (a29 : PySem.W.nsIn K mainGlobals "_law_put" = some (some (.ref f29))) (l29 : K.lookup f29 = some ⟨oc29, od29, .func (PySem.W.fnOf "_law_put" "_law_put" (fnArgs sLPut) (fnBody sLPut) (fnScope sLPut) .none kV29 dc29 pm29 an29 cd29 ct29), sl29⟩) (c29 : PySem.W.codeIn K cd29 "_law_put" = true) (k29 : PySem.W.keepIn K (.ref f29) = true)
    (a30 : PySem.W.nsIn K mainGlobals "_law_file" = some (some (.ref f30))) (l30 : K.lookup f30 = some ⟨oc30, od30, .func (PySem.W.fnOf "_law_file" "_law_file" (fnArgs sLFile) (fnBody sLFile) (fnScope sLFile) .none kV30 dc30 pm30 an30 cd30 ct30), sl30⟩) (c30 : PySem.W.codeIn K cd30 "_law_file" = true) (k30 : PySem.W.keepIn K (.ref f30) = true)
    (a31 : PySem.W.nsIn K mainGlobals "_law_many" = some (some (.ref f31))) (l31 : K.lookup f31 = some ⟨oc31, od31, .func (PySem.W.fnOf "_law_many" "_law_many" (fnArgs sLMany) (fnBody sLMany) (fnScope sLMany) .none kV31 dc31 pm31 an31 cd31 ct31), sl31⟩) (c31 : PySem.W.codeIn K cd31 "_law_many" = true) (k31 : PySem.W.keepIn K (.ref f31) = true)
    (a32 : PySem.W.nsIn K mainGlobals "_law_sizes" = some (some (.ref f32))) (l32 : K.lookup f32 = some ⟨oc32, od32, .func (PySem.W.fnOf "_law_sizes" "_law_sizes" (fnArgs sLSizes) (fnBody sLSizes) (fnScope sLSizes) .none kV32 dc32 pm32 an32 cd32 ct32), sl32⟩) (c32 : PySem.W.codeIn K cd32 "_law_sizes" = true) (k32 : PySem.W.keepIn K (.ref f32) = true)
    (a33 : PySem.W.nsIn K mainGlobals "_law_length" = some (some (.ref f33))) (l33 : K.lookup f33 = some ⟨oc33, od33, .func (PySem.W.fnOf "_law_length" "_law_length" (fnArgs sLLength) (fnBody sLLength) (fnScope sLLength) .none kV33 dc33 pm33 an33 cd33 ct33), sl33⟩) (c33 : PySem.W.codeIn K cd33 "_law_length" = true) (k33 : PySem.W.keepIn K (.ref f33) = true)
    (a34 : PySem.W.nsIn K mainGlobals "_law_drawn" = some (some (.ref f34))) (l34 : K.lookup f34 = some ⟨oc34, od34, .func (PySem.W.fnOf "_law_drawn" "_law_drawn" (fnArgs sLDrawn) (fnBody sLDrawn) (fnScope sLDrawn) .none kV34 dc34 pm34 an34 cd34 ct34), sl34⟩) (c34 : PySem.W.codeIn K cd34 "_law_drawn" = true) (k34 : PySem.W.keepIn K (.ref f34) = true)
    (a35 : PySem.W.nsIn K mainGlobals "_law_looked" = some (some (.ref f35))) (l35 : K.lookup f35 = some ⟨oc35, od35, .func (PySem.W.fnOf "_law_looked" "_law_looked" (fnArgs sLLooked) (fnBody sLLooked) (fnScope sLLooked) .none kV35 dc35 pm35 an35 cd35 ct35), sl35⟩) (c35 : PySem.W.codeIn K cd35 "_law_looked" = true) (k35 : PySem.W.keepIn K (.ref f35) = true)
    (a36 : PySem.W.nsIn K mainGlobals "_law_word" = some (some (.ref f36))) (l36 : K.lookup f36 = some ⟨oc36, od36, .func (PySem.W.fnOf "_law_word" "_law_word" (fnArgs sLWord) (fnBody sLWord) (fnScope sLWord) .none kV36 dc36 pm36 an36 cd36 ct36), sl36⟩) (c36 : PySem.W.codeIn K cd36 "_law_word" = true) (k36 : PySem.W.keepIn K (.ref f36) = true)
    (a37 : PySem.W.nsIn K mainGlobals "_law_box_right" = some (some (.ref f37))) (l37 : K.lookup f37 = some ⟨oc37, od37, .func (PySem.W.fnOf "_law_box_right" "_law_box_right" (fnArgs sLBoxRight) (fnBody sLBoxRight) (fnScope sLBoxRight) .none kV37 dc37 pm37 an37 (.ref cB) ct37), sl37⟩) (c37 : PySem.W.codeIn K (.ref cB) "_law_box_right" = true) (k37 : PySem.W.keepIn K (.ref f37) = true)
    (a38 : PySem.W.nsIn K mainGlobals "_law_all_right" = some (some (.ref f38))) (l38 : K.lookup f38 = some ⟨oc38, od38, .func (PySem.W.fnOf "_law_all_right" "_law_all_right" (fnArgs sLAllRight) (fnBody sLAllRight) (fnScope sLAllRight) .none kV38 dc38 pm38 an38 (.ref cA) ct38), sl38⟩) (c38 : PySem.W.codeIn K (.ref cA) "_law_all_right" = true) (k38 : PySem.W.keepIn K (.ref f38) = true)
    (a39 : PySem.W.nsIn K mainGlobals "law" = some (some (.ref f39))) (l39 : K.lookup f39 = some ⟨oc39, od39, .func (PySem.W.fnOf "law" "law" (fnArgs sLaw) (fnBody sLaw) (fnScope sLaw) .none kV39 dc39 pm39 an39 cd39 ct39), sl39⟩) (c39 : PySem.W.codeIn K cd39 "law" = true) (k39 : PySem.W.keepIn K (.ref f39) = true)
    (gGROUP : PySem.W.nsIn K mainGlobals "GROUP" = some (some (.int 1 tGROUP)))
    (gDATA : PySem.W.nsIn K mainGlobals "DATA" = some (some (.int 2 tDATA)))
    (gFREE : PySem.W.nsIn K mainGlobals "FREE" = some (some (.int 3 tFREE)))
    (gTABLE : PySem.W.nsIn K mainGlobals "TABLE" = some (some (.int 4 tTABLE)))
    (gHEAD : PySem.W.nsIn K mainGlobals "HEAD" = some (some (.int 2 tHEAD)))
    (gMOST_CELLS : PySem.W.nsIn K mainGlobals "MOST_CELLS" = some (some (.int 30 tMOST_CELLS)))
    (gLARGEST_CELL : PySem.W.nsIn K mainGlobals "LARGEST_CELL" = some (some (.int 99 tLARGEST_CELL)))
    (gMOST_GROUPS_AROUND : PySem.W.nsIn K mainGlobals "MOST_GROUPS_AROUND" = some (some (.int 1 tMOST_GROUPS_AROUND)))
    (z_len : PySem.W.nsIn K mainGlobals "len" = some none)
    (z_isinstance : PySem.W.nsIn K mainGlobals "isinstance" = some none)
    (z_sum : PySem.W.nsIn K mainGlobals "sum" = some none)
    (z_int : PySem.W.nsIn K mainGlobals "int" = some none)
    (z_bool : PySem.W.nsIn K mainGlobals "bool" = some none)
    (z_list : PySem.W.nsIn K mainGlobals "list" = some none)
    (z_tuple : PySem.W.nsIn K mainGlobals "tuple" = some none)
    (z_range : PySem.W.nsIn K mainGlobals "range" = some none)
    (z_enumerate : PySem.W.nsIn K mainGlobals "enumerate" = some none)
    (z_all : PySem.W.nsIn K mainGlobals "all" = some none)
    (z_any : PySem.W.nsIn K mainGlobals "any" = some none)
    (aXB : PySem.W.nsIn K mainGlobals "BadBox" = some (some (.ref CB))) (kXB : PySem.W.keepIn K (.ref CB) = true) (sXB : PySem.W.subIn K (.ref CB) (.type "BaseException") = some true) (yXB : PySem.W.typeIn K (.ref CB) = some (.type "type")) (xXB : PySem.W.excIn K CB [.type "ValueError", .type "Exception", .type "BaseException", .type "object"] "ValueError.__new__" = true)
    (aXG : PySem.W.nsIn K mainGlobals "BadGrowth" = some (some (.ref CG))) (kXG : PySem.W.keepIn K (.ref CG) = true) (sXG : PySem.W.subIn K (.ref CG) (.type "BaseException") = some true) (yXG : PySem.W.typeIn K (.ref CG) = some (.type "type")) (xXG : PySem.W.excIn K CG [.type "ValueError", .type "Exception", .type "BaseException", .type "object"] "ValueError.__new__" = true)
    (eGB : PySem.W.exmOne K (.ref CG) (.ref CB) = some false) (eGG : PySem.W.exmOne K (.ref CG) (.ref CG) = some true) (eBB : PySem.W.exmOne K (.ref CB) (.ref CB) = some true)
    (hdB : PySem.W.codeHdIn K cB PB = true) (noB : K.lookup PB = none) (emB : h.get? PB = some { cls := .none, data := .fields #[] })
    (hdA : PySem.W.codeHdIn K cA PA = true) (noA : K.lookup PA = none) (emA : h.get? PA = some { cls := .none, data := .fields #[] })
    (neq : PA ≠ PB) :
    LawAtS l w K C8.CX0 41 63 "_law_script" mg fa h := by
  have e := hfa.symm.trans (PySem.W.mg_of X G a39)
  cases e
  have F1 : Def K mg "is_between" sIsBetween _ _ := ⟨⟨_, _, _, _, _, _, _, _, _, _, rfl, l1, c1⟩, PySem.W.mg_of X G a1, k1⟩
  have b1 : Binds K _ ["value", "least", "most"] [] := F1.fn.binds rfl fun _ _ _ _ _ _ us hl => match us, hl with | [_, _, _], _ => rfl
  have F2 : Def K mg "first_wrong" sFirstWrong _ _ := ⟨⟨_, _, _, _, _, _, _, _, _, _, rfl, l2, c2⟩, PySem.W.mg_of X G a2, k2⟩
  have b2 : Binds K _ ["cells"] [] := F2.fn.binds rfl fun _ _ _ _ _ _ us hl => match us, hl with | [_], _ => rfl
  have F3 : Def K mg "check_file" sCheckFile _ _ := ⟨⟨_, _, _, _, _, _, _, _, _, _, rfl, l3, c3⟩, PySem.W.mg_of X G a3, k3⟩
  have b3 : Binds K _ ["cells"] [] := F3.fn.binds rfl fun _ _ _ _ _ _ us hl => match us, hl with | [_], _ => rfl
  have F4 : Def K mg "check_cells" sCheckCells _ _ := ⟨⟨_, _, _, _, _, _, _, _, _, _, rfl, l4, c4⟩, PySem.W.mg_of X G a4, k4⟩
  have b4 : Binds K _ ["cells"] [] := F4.fn.binds rfl fun _ _ _ _ _ _ us hl => match us, hl with | [_], _ => rfl
  have F5 : Def K mg "is_cell" sIsCell _ _ := ⟨⟨_, _, _, _, _, _, _, _, _, _, rfl, l5, c5⟩, PySem.W.mg_of X G a5, k5⟩
  have b5 : Binds K _ ["value"] [] := F5.fn.binds rfl fun _ _ _ _ _ _ us hl => match us, hl with | [_], _ => rfl
  have F6 : Def K mg "wrong_box" sWrongBox _ _ := ⟨⟨_, _, _, _, _, _, _, _, _, _, rfl, l6, c6⟩, PySem.W.mg_of X G a6, k6⟩
  have b6 : Binds K _ ["cells", "begin", "end", "around"] [] := F6.fn.binds rfl fun _ _ _ _ _ _ us hl => match us, hl with | [_, _, _, _], _ => rfl
  have F7 : Def K mg "wrong_head" sWrongHead _ _ := ⟨⟨_, _, _, _, _, _, _, _, _, _, rfl, l7, c7⟩, PySem.W.mg_of X G a7, k7⟩
  have b7 : Binds K _ ["cells", "at", "end", "around"] [] := F7.fn.binds rfl fun _ _ _ _ _ _ us hl => match us, hl with | [_, _, _, _], _ => rfl
  have F8 : Def K mg "wrong_entry" sWrongEntry _ _ := ⟨⟨_, _, _, _, _, _, _, _, _, _, rfl, l8, c8⟩, PySem.W.mg_of X G a8, k8⟩
  have b8 : Binds K _ ["cells"] [] := F8.fn.binds rfl fun _ _ _ _ _ _ us hl => match us, hl with | [_], _ => rfl
  have F9 : Def K mg "box_places" sBoxPlaces _ _ := ⟨⟨_, _, _, _, _, _, _, _, _, _, rfl, l9, c9⟩, PySem.W.mg_of X G a9, k9⟩
  have b9 : Binds K _ ["cells", "kind"] [] := F9.fn.binds rfl fun _ _ _ _ _ _ us hl => match us, hl with | [_, _], _ => rfl
  have F10 : Def K mg "content_places" sContentPlaces _ _ := ⟨⟨_, _, _, _, _, _, _, _, _, _, rfl, l10, c10⟩, PySem.W.mg_of X G a10, k10⟩
  have b10 : Binds K _ ["cells", "at"] [] := F10.fn.binds rfl fun _ _ _ _ _ _ us hl => match us, hl with | [_, _], _ => rfl
  have F11 : Def K mg "data_targets" sDataTargets _ _ := ⟨⟨_, _, _, _, _, _, _, _, _, _, rfl, l11, c11⟩, PySem.W.mg_of X G a11, k11⟩
  have b11 : Binds K _ ["cells"] [] := F11.fn.binds rfl fun _ _ _ _ _ _ us hl => match us, hl with | [_], _ => rfl
  have F12 : Def K mg "is_size" sIsSize _ _ := ⟨⟨_, _, _, _, _, _, _, _, _, _, rfl, l12, c12⟩, PySem.W.mg_of X G a12, k12⟩
  have b12 : Binds K _ ["value"] [] := F12.fn.binds rfl fun _ _ _ _ _ _ us hl => match us, hl with | [_], _ => rfl
  have F13 : Def K mg "growths" sGrowths _ _ := ⟨⟨_, _, _, _, _, _, _, _, _, _, rfl, l13, c13⟩, PySem.W.mg_of X G a13, k13⟩
  have b13 : Binds K _ ["cells", "number"] [] := F13.fn.binds rfl fun _ _ _ _ _ _ us hl => match us, hl with | [_, _], _ => rfl
  have F14 : Def K mg "grown" sGrown _ _ := ⟨⟨_, _, _, _, _, _, _, _, _, _, rfl, l14, c14⟩, PySem.W.mg_of X G a14, k14⟩
  have b14 : Binds K _ ["cells", "number", "content"] [] := F14.fn.binds rfl fun _ _ _ _ _ _ us hl => match us, hl with | [_, _, _], _ => rfl
  have F15 : Def K mg "tight" sTight _ _ := ⟨⟨_, _, _, _, _, _, _, _, _, _, rfl, l15, c15⟩, PySem.W.mg_of X G a15, k15⟩
  have b15 : Binds K _ ["cells"] [] := F15.fn.binds rfl fun _ _ _ _ _ _ us hl => match us, hl with | [_], _ => rfl
  have F16 : Def K mg "data_at" sDataAt _ _ := ⟨⟨_, _, _, _, _, _, _, _, _, _, rfl, l16, c16⟩, PySem.W.mg_of X G a16, k16⟩
  have b16 : Binds K _ ["cells", "number"] [] := F16.fn.binds rfl fun _ _ _ _ _ _ us hl => match us, hl with | [_, _], _ => rfl
  have F17 : Def K mg "growths_at" sGrowthsAt _ _ := ⟨⟨_, _, _, _, _, _, _, _, _, _, rfl, l17, c17⟩, PySem.W.mg_of X G a17, k17⟩
  have b17 : Binds K _ ["cells", "at"] [] := F17.fn.binds rfl fun _ _ _ _ _ _ us hl => match us, hl with | [_, _], _ => rfl
  have F18 : Def K mg "free_after" sFreeAfter _ _ := ⟨⟨_, _, _, _, _, _, _, _, _, _, rfl, l18, c18⟩, PySem.W.mg_of X G a18, k18⟩
  have b18 : Binds K _ ["cells", "at"] [] := F18.fn.binds rfl fun _ _ _ _ _ _ us hl => match us, hl with | [_, _], _ => rfl
  have F19 : Def K mg "can_hold" sCanHold _ _ := ⟨⟨_, _, _, _, _, _, _, _, _, _, rfl, l19, c19⟩, PySem.W.mg_of X G a19, k19⟩
  have b19 : Binds K _ ["cells", "at", "content"] [] := F19.fn.binds rfl fun _ _ _ _ _ _ us hl => match us, hl with | [_, _, _], _ => rfl
  have F20 : Def K mg "entries_of" sEntriesOf _ _ := ⟨⟨_, _, _, _, _, _, _, _, _, _, rfl, l20, c20⟩, PySem.W.mg_of X G a20, k20⟩
  have b20 : Binds K _ ["cells"] [] := F20.fn.binds rfl fun _ _ _ _ _ _ us hl => match us, hl with | [_], _ => rfl
  have F21 : Def K mg "_law_number" sLNumber _ _ := ⟨⟨_, _, _, _, _, _, _, _, _, _, rfl, l21, c21⟩, PySem.W.mg_of X G a21, k21⟩
  have b21 : Binds K _ ["_law_script", "_law_index"] [] := F21.fn.binds rfl fun _ _ _ _ _ _ us hl => match us, hl with | [_, _], _ => rfl
  have F22 : Def K mg "_law_data" sLData _ _ := ⟨⟨_, _, _, _, _, _, _, _, _, _, rfl, l22, c22⟩, PySem.W.mg_of X G a22, k22⟩
  have b22 : Binds K _ ["_law_seed"] [] := F22.fn.binds rfl fun _ _ _ _ _ _ us hl => match us, hl with | [_], _ => rfl
  have F23 : Def K mg "_law_boxes" sLBoxes _ _ := ⟨⟨_, _, _, _, _, _, _, _, _, _, rfl, l23, c23⟩, PySem.W.mg_of X G a23, k23⟩
  have b23 : Binds K _ ["_law_script", "_law_index", "_law_many_here"] [] := F23.fn.binds rfl fun _ _ _ _ _ _ us hl => match us, hl with | [_, _, _], _ => rfl
  have F24 : Def K mg "_law_flat" sLFlat _ _ := ⟨⟨_, _, _, _, _, _, _, _, _, _, rfl, l24, c24⟩, PySem.W.mg_of X G a24, k24⟩
  have b24 : Binds K _ ["_law_boxes_here"] [] := F24.fn.binds rfl fun _ _ _ _ _ _ us hl => match us, hl with | [_], _ => rfl
  have F25 : Def K mg "_law_pointed" sLPointed _ _ := ⟨⟨_, _, _, _, _, _, _, _, _, _, rfl, l25, c25⟩, PySem.W.mg_of X G a25, k25⟩
  have b25 : Binds K _ ["_law_boxes_here", "_law_script", "_law_index", "_law_targets_here"] [] := F25.fn.binds rfl fun _ _ _ _ _ _ us hl => match us, hl with | [_, _, _, _], _ => rfl
  have F26 : Def K mg "_law_targets" sLTargets _ _ := ⟨⟨_, _, _, _, _, _, _, _, _, _, rfl, l26, c26⟩, PySem.W.mg_of X G a26, k26⟩
  have b26 : Binds K _ ["_law_shape_here"] [] := F26.fn.binds rfl fun _ _ _ _ _ _ us hl => match us, hl with | [_], _ => rfl
  have F27 : Def K mg "_law_shape" sLShape _ _ := ⟨⟨_, _, _, _, _, _, _, _, _, _, rfl, l27, c27⟩, PySem.W.mg_of X G a27, k27⟩
  have b27 : Binds K _ ["_law_script", "_law_index", "_law_many_here"] [] := F27.fn.binds rfl fun _ _ _ _ _ _ us hl => match us, hl with | [_, _, _], _ => rfl
  have F28 : Def K mg "_law_free" sLFree _ _ := ⟨⟨_, _, _, _, _, _, _, _, _, _, rfl, l28, c28⟩, PySem.W.mg_of X G a28, k28⟩
  have b28 : Binds K _ ["_law_gap"] [] := F28.fn.binds rfl fun _ _ _ _ _ _ us hl => match us, hl with | [_], _ => rfl
  have F29 : Def K mg "_law_put" sLPut _ _ := ⟨⟨_, _, _, _, _, _, _, _, _, _, rfl, l29, c29⟩, PySem.W.mg_of X G a29, k29⟩
  have b29 : Binds K _ ["_law_boxes_here", "_law_gaps", "_law_number_here"] [] := F29.fn.binds rfl fun _ _ _ _ _ _ us hl => match us, hl with | [_, _, _], _ => rfl
  have F30 : Def K mg "_law_file" sLFile _ _ := ⟨⟨_, _, _, _, _, _, _, _, _, _, rfl, l30, c30⟩, PySem.W.mg_of X G a30, k30⟩
  have b30 : Binds K _ ["_law_shape_here", "_law_gaps", "_law_before"] [] := F30.fn.binds rfl fun _ _ _ _ _ _ us hl => match us, hl with | [_, _, _], _ => rfl
  have F31 : Def K mg "_law_many" sLMany _ _ := ⟨⟨_, _, _, _, _, _, _, _, _, _, rfl, l31, c31⟩, PySem.W.mg_of X G a31, k31⟩
  have b31 : Binds K _ ["_law_boxes_here"] [] := F31.fn.binds rfl fun _ _ _ _ _ _ us hl => match us, hl with | [_], _ => rfl
  have F32 : Def K mg "_law_sizes" sLSizes _ _ := ⟨⟨_, _, _, _, _, _, _, _, _, _, rfl, l32, c32⟩, PySem.W.mg_of X G a32, k32⟩
  have b32 : Binds K _ ["_law_shape_here", "_law_spare"] [] := F32.fn.binds rfl fun _ _ _ _ _ _ us hl => match us, hl with | [_, _], _ => rfl
  have F33 : Def K mg "_law_length" sLLength _ _ := ⟨⟨_, _, _, _, _, _, _, _, _, _, rfl, l33, c33⟩, PySem.W.mg_of X G a33, k33⟩
  have b33 : Binds K _ ["_law_shape_here"] [] := F33.fn.binds rfl fun _ _ _ _ _ _ us hl => match us, hl with | [_], _ => rfl
  have F34 : Def K mg "_law_drawn" sLDrawn _ _ := ⟨⟨_, _, _, _, _, _, _, _, _, _, rfl, l34, c34⟩, PySem.W.mg_of X G a34, k34⟩
  have b34 : Binds K _ ["_law_script", "_law_index", "_law_many_here", "_law_spare"] [] := F34.fn.binds rfl fun _ _ _ _ _ _ us hl => match us, hl with | [_, _, _, _], _ => rfl
  have F35 : Def K mg "_law_looked" sLLooked _ _ := ⟨⟨_, _, _, _, _, _, _, _, _, _, rfl, l35, c35⟩, PySem.W.mg_of X G a35, k35⟩
  have b35 : Binds K _ ["_law_cells", "_law_begin", "_law_end"] [] := F35.fn.binds rfl fun _ _ _ _ _ _ us hl => match us, hl with | [_, _, _], _ => rfl
  have F36 : Def K mg "_law_word" sLWord _ _ := ⟨⟨_, _, _, _, _, _, _, _, _, _, rfl, l36, c36⟩, PySem.W.mg_of X G a36, k36⟩
  have b36 : Binds K _ ["_law_function", "_law_things"] [] := F36.fn.binds rfl fun _ _ _ _ _ _ us hl => match us, hl with | [_, _], _ => rfl
  have F37 : DefC K mg "_law_box_right" sLBoxRight f37 cB ["_law_cells", "_law_number_here", "_law_box", "_law_entries"] := ⟨⟨_, _, _, _, _, _, _, _, _, l37, c37, .all fun us hl => match us, hl with | [_, _, _, _], _ => rfl⟩, PySem.W.mg_of X G a37, k37⟩
  have F38 : DefC K mg "_law_all_right" sLAllRight f38 cA ["_law_script"] := ⟨⟨_, _, _, _, _, _, _, _, _, l38, c38, .all fun us hl => match us, hl with | [_], _ => rfl⟩, PySem.W.mg_of X G a38, k38⟩
  have F39 : Def K mg "law" sLaw _ _ := ⟨⟨_, _, _, _, _, _, _, _, _, _, rfl, l39, c39⟩, PySem.W.mg_of X G a39, k39⟩
  have b39 : Binds K _ ["_law_script"] [] := F39.fn.binds rfl fun _ _ _ _ _ _ us hl => match us, hl with | [_], _ => rfl
  have T : Txt mg := ⟨PySem.W.mg_none_of X G z_len, PySem.W.mg_none_of X G z_isinstance, PySem.W.mg_none_of X G z_sum, PySem.W.mg_none_of X G z_int, PySem.W.mg_none_of X G z_bool, PySem.W.mg_none_of X G z_list, PySem.W.mg_none_of X G z_tuple, PySem.W.mg_none_of X G z_range, PySem.W.mg_none_of X G z_enumerate, PySem.W.mg_none_of X G z_all, PySem.W.mg_none_of X G z_any, ⟨_, PySem.W.mg_of X G gGROUP, _, rfl⟩, ⟨_, PySem.W.mg_of X G gDATA, _, rfl⟩, ⟨_, PySem.W.mg_of X G gFREE, _, rfl⟩, ⟨_, PySem.W.mg_of X G gTABLE, _, rfl⟩, ⟨_, PySem.W.mg_of X G gHEAD, _, rfl⟩, ⟨_, PySem.W.mg_of X G gMOST_CELLS, _, rfl⟩, ⟨_, PySem.W.mg_of X G gLARGEST_CELL, _, rfl⟩, ⟨_, PySem.W.mg_of X G gMOST_GROUPS_AROUND, _, rfl⟩⟩
  have OB : OwX K mg "BadBox" CB := ⟨PySem.W.mg_of X G aXB, kXB, sXB, yXB, ⟨_, _, _, _, PySem.F.excBase_ValueError, xXB⟩⟩
  have OG : OwX K mg "BadGrowth" CG := ⟨PySem.W.mg_of X G aXG, kXG, sXG, yXG, ⟨_, _, _, _, PySem.F.excBase_ValueError, xXG⟩⟩
  refine ⟨PySem.W.fnOf "law" "law" (fnArgs sLaw) (fnBody sLaw) (fnScope sLaw) .none kV39 dc39 pm39 an39 cd39 ct39, [(cB, PB), (cA, PA)], spLawT K [(PB, ("_law_box_right.<locals>.<lambda>" : Str)), (PA, ("_law_all_right.<locals>.<lambda>" : Str))], fun p hp => ?_, fun p hp => ?_, fun p hp => ?_, fun s u => .of_eq rfl, fun H a ns hl _ hT hS => ⟨a, ns, rfl, ⟨hS, hl⟩, fun p hp => ?_, fun _ => rfl⟩, fun base _ _ TB => ?_⟩
  · rcases List.mem_cons.mp hp with rfl | hp
    · exact emB
    · rw [List.mem_singleton.mp hp]
      exact emA
  · rcases List.mem_cons.mp hp with rfl | hp
    · exact noB
    · rw [List.mem_singleton.mp hp]
      exact noA
  · rcases List.mem_cons.mp hp with rfl | hp
    · exact PySem.W.codeHd_of_K X hdB
    · rw [List.mem_singleton.mp hp]
      exact PySem.W.codeHd_of_K X hdA
  · rcases List.mem_cons.mp hp with rfl | hp
    · exact TabS.nil (hT (cB, PB) List.mem_cons_self)
    · rw [List.mem_singleton.mp hp]
      exact TabS.nil (hT (cA, PA) (List.mem_cons_of_mem _ List.mem_cons_self))
  have TBB := TB (cB, PB) List.mem_cons_self
  have TBA := TB (cA, PA) (List.mem_cons_of_mem _ List.mem_cons_self)
  obtain ⟨TL, hTL⟩ : ∃ TL : List (Addr × Str), TL = [(PB, ("_law_box_right.<locals>.<lambda>" : Str)), (PA, ("_law_all_right.<locals>.<lambda>" : Str))] := ⟨_, rfl⟩
  have mB : (PB, ("_law_box_right.<locals>.<lambda>" : Str)) ∈ TL := by rw [hTL]; exact List.mem_cons_self
  have mA : (PA, ("_law_all_right.<locals>.<lambda>" : Str)) ∈ TL := by rw [hTL]; exact List.mem_cons_of_mem _ List.mem_cons_self
  have uB : ∀ p ∈ TL, p.1 = PB → p.2 = ("_law_box_right.<locals>.<lambda>" : Str) := by
    rw [hTL]
    intro p hp e
    rcases List.mem_cons.mp hp with rfl | hp
    · rfl
    · rw [List.mem_singleton.mp hp] at e
      exact absurd e neq
  have uA : ∀ p ∈ TL, p.1 = PA → p.2 = ("_law_all_right.<locals>.<lambda>" : Str) := by
    rw [hTL]
    intro p hp e
    rcases List.mem_cons.mp hp with rfl | hp
    · exact absurd e.symm neq
    · rw [List.mem_singleton.mp hp]
  rw [← hTL]
  have C_isBetweenO := ok_isBetween (P := l.prog) (w := w) (K := K) (mg := mg) (base := base) F1 b1 T  
  have C_isBetween := ok_isBetweenA (P := l.prog) (w := w) (K := K) (mg := mg) (base := base) F1 b1 T  
  have C_isCellO := ok_isCell (P := l.prog) (w := w) (K := K) (mg := mg) (base := base) F5 b5 T C_isBetweenO 
  have C_isCell := ok_isCellA (P := l.prog) (w := w) (K := K) (mg := mg) (base := base) F5 b5 T C_isBetween 
  have C_checkCells := ok_checkCells (P := l.prog) (w := w) (K := K) (mg := mg) (base := base) F4 b4 T C_isCellO 
  have C_wrongHead := ok_wrongHead (P := l.prog) (w := w) (K := K) (mg := mg) (base := base) F7 b7 T  
  have C_wrongBox := ok_wrongBox (P := l.prog) (w := w) (K := K) (mg := mg) (base := base) F6 b6 T C_wrongHead 31
  have C_boxPlaces := ok_boxPlaces (P := l.prog) (w := w) (K := K) (mg := mg) (base := base) F9 b9 T  
  have C_contentPlaces := ok_contentPlaces (P := l.prog) (w := w) (K := K) (mg := mg) (base := base) F10 b10 T  
  have C_dataTargets := ok_dataTargets (P := l.prog) (w := w) (K := K) (mg := mg) (base := base) F11 b11 T C_boxPlaces C_contentPlaces 
  have C_wrongEntry := ok_wrongEntry (P := l.prog) (w := w) (K := K) (mg := mg) (base := base) F8 b8 T C_dataTargets C_boxPlaces C_contentPlaces 
  have C_firstWrong := ok_firstWrong (P := l.prog) (w := w) (K := K) (mg := mg) (base := base) F2 b2 T C_checkCells C_wrongBox C_wrongEntry 
  have C_checkFile := ok_checkFileV (P := l.prog) (w := w) (K := K) (mg := mg) (base := base) F3 b3 T C_firstWrong 
  have C_isSize := ok_isSize (P := l.prog) (w := w) (K := K) (mg := mg) (base := base) F12 b12 T C_isBetweenO 
  have C_freeAfter := ok_freeAfter (P := l.prog) (w := w) (K := K) (mg := mg) (base := base) F18 b18 T C_boxPlaces 
  have C_growthsAt := ok_growthsAt (P := l.prog) (w := w) (K := K) (mg := mg) (base := base) F17 b17 T C_freeAfter C_isSize 
  have C_dataAt := ok_dataAt (P := l.prog) (w := w) (K := K) (mg := mg) (base := base) F16 b16 T OB C_checkFile C_boxPlaces C_isBetween 
  have C_growths := ok_growths (P := l.prog) (w := w) (K := K) (mg := mg) (base := base) F13 b13 T C_dataAt C_growthsAt 
  have C_entriesOf := ok_entriesOf (P := l.prog) (w := w) (K := K) (mg := mg) (base := base) F20 b20 T C_boxPlaces C_contentPlaces 
  have C_tight := ok_tight (P := l.prog) (w := w) (K := K) (mg := mg) (base := base) F15 b15 T C_checkFile C_boxPlaces C_growthsAt 
  have C_canHold := ok_canHold (P := l.prog) (w := w) (K := K) (mg := mg) (base := base) F19 b19 T C_growthsAt C_isCell C_contentPlaces C_entriesOf 
  have C_grown := ok_grown (P := l.prog) (w := w) (K := K) (mg := mg) (base := base) F14 b14 T OG C_dataAt C_canHold C_freeAfter 
  have C_lNumber := ok_lNumber (P := l.prog) (w := w) (K := K) (mg := mg) (base := base) F21 b21 T  
  have C_lData := ok_lData (P := l.prog) (w := w) (K := K) (mg := mg) (base := base) F22 b22 T  
  have C_lBoxes := ok_lBoxes (P := l.prog) (w := w) (K := K) (mg := mg) (base := base) F23 b23 T C_lNumber C_lData 
  have C_lFlat := ok_lFlat (P := l.prog) (w := w) (K := K) (mg := mg) (base := base) F24 b24 T  4
  have C_lTargets := ok_lTargets (P := l.prog) (w := w) (K := K) (mg := mg) (base := base) F26 b26 T C_lFlat 
  have C_lPointed := ok_lPointed (P := l.prog) (w := w) (K := K) (mg := mg) (base := base) F25 b25 T C_lNumber 3
  have C_lShape := ok_lShape (P := l.prog) (w := w) (K := K) (mg := mg) (base := base) F27 b27 T C_lBoxes C_lPointed C_lTargets 
  have C_lFree := ok_lFree (P := l.prog) (w := w) (K := K) (mg := mg) (base := base) F28 b28 T  
  have C_lMany := ok_lMany (P := l.prog) (w := w) (K := K) (mg := mg) (base := base) F31 b31 T  4
  have C_lLength := ok_lLength (P := l.prog) (w := w) (K := K) (mg := mg) (base := base) F33 b33 T C_lFlat 
  have C_lSizes := ok_lSizes (P := l.prog) (w := w) (K := K) (mg := mg) (base := base) F32 b32 T C_lMany 
  have C_lPut := ok_lPut (P := l.prog) (w := w) (K := K) (mg := mg) (base := base) F29 b29 T C_lFree 3
  have C_lFile := ok_lFile (P := l.prog) (w := w) (K := K) (mg := mg) (base := base) F30 b30 T C_lPut 
  have C_lDrawn := ok_lDrawn (P := l.prog) (w := w) (K := K) (mg := mg) (base := base) F34 b34 T C_lNumber C_lShape C_lFlat C_lLength C_lSizes C_lFile 
  have C_lLooked := ok_lLooked (P := l.prog) (w := w) (K := K) (mg := mg) (base := base) F35 b35 T  32
  have C_lBoxRight := ok_lBoxRight (P := l.prog) (w := w) (K := K) (mg := mg) (base := base) F37 T F36 b36 OB.gC OG.gC TBB mB uB eGB eGG C_growths C_grown
  have C_lAllRight := ok_lAllRight (P := l.prog) (w := w) (K := K) (mg := mg) (base := base) F38 T F36 b36 OB.gC OG.gC TBA mA uA eGB eGG eBB C_growths C_grown C_tight C_lNumber C_lDrawn C_lLooked C_lBoxRight
  exact ok_law F39 b39 T C_lAllRight
theorem law_walk {l : PySem.W.OpenLaw} {q : Program} {loose : List Str} {XP : (Str → Option Value) → Heap → Prop} {YP : World → Heap → Prop} {d : DefRec} {K : Params → PySem.W.Frag} (hn : l.most = some 63) (hdf : d.params.defaults = [])
    (hY : ∀ (w : World) (h : Heap), YP w h → (K w.params).In h)
    (F : ∀ (w : World) (mg : Str → Option Value) (fa : Addr) (h : Heap), YP w h → (K w.params).In h → h.Ns mainGlobals mg → mg d.name = some (.ref fa) → LawAtS l w (K w.params) C8.CX0 41 63 "_law_script" mg fa h) :
    PySem.W.WalkO q loose XP YP l.row.toRowW d [] (fun f vs => PySem.call f vs) :=
  LamX.walk_ofTs (CX := fun _ => C8.CX0) hn (by decide) hdf ⟨rfl, by decide, by decide⟩ hY F fun _ _ _ _ _ z => z
end Bx


end
open PySem PySem.W PyProof.Rows
set_option maxRecDepth 100000 in
set_option maxHeartbeats 0 in
theorem PySem.Challenge.cw_boxshift_k33_whole_growing_holds : PySem.Challenge.rw_boxshift_k33_whole_growing.Holds := by
  w_on; o_law; km_head; (case hw => w_witness2)
  k_fill
  refine Bx.law_walk (l := PySem.Challenge.rw_boxshift_k33_whole_growing) rfl rfl (fun w h Y => PySem.W.km_in_of Y) ?F
  case F =>
    intro w mg fa h Y KX G hmg
    have hT8 := PySem.W.km_tabs_of Y
    refine' Bx.law_ok (PB := 300) (PA := 305) KX G hmg ?a1 ?l1 ?c1 ?k1 ?a2 ?l2 ?c2 ?k2 ?a3 ?l3 ?c3 ?k3 ?a4 ?l4 ?c4 ?k4 ?a5 ?l5 ?c5 ?k5 ?a6 ?l6 ?c6 ?k6 ?a7 ?l7 ?c7 ?k7 ?a8 ?l8 ?c8 ?k8 ?a9 ?l9 ?c9 ?k9 ?a10 ?l10 ?c10 ?k10 ?a11 ?l11 ?c11 ?k11 ?a12 ?l12 ?c12 ?k12 ?a13 ?l13 ?c13 ?k13 ?a14 ?l14 ?c14 ?k14 ?a15 ?l15 ?c15 ?k15 ?a16 ?l16 ?c16 ?k16 ?a17 ?l17 ?c17 ?k17 ?a18 ?l18 ?c18 ?k18 ?a19 ?l19 ?c19 ?k19 ?a20 ?l20 ?c20 ?k20 ?a21 ?l21 ?c21 ?k21 ?a22 ?l22 ?c22 ?k22 ?a23 ?l23 ?c23 ?k23 ?a24 ?l24 ?c24 ?k24 ?a25 ?l25 ?c25 ?k25 ?a26 ?l26 ?c26 ?k26 ?a27 ?l27 ?c27 ?k27 ?a28 ?l28 ?c28 ?k28 ?a29 ?l29 ?c29 ?k29 ?a30 ?l30 ?c30 ?k30 ?a31 ?l31 ?c31 ?k31 ?a32 ?l32 ?c32 ?k32 ?a33 ?l33 ?c33 ?k33 ?a34 ?l34 ?c34 ?k34 ?a35 ?l35 ?c35 ?k35 ?a36 ?l36 ?c36 ?k36 ?a37 ?l37 ?c37 ?k37 ?a38 ?l38 ?c38 ?k38 ?a39 ?l39 ?c39 ?k39 ?gGROUP ?gDATA ?gFREE ?gTABLE ?gHEAD ?gMOST_CELLS ?gLARGEST_CELL ?gMOST_GROUPS_AROUND ?z_len ?z_isinstance ?z_sum ?z_int ?z_bool ?z_list ?z_tuple ?z_range ?z_enumerate ?z_all ?z_any ?aXB ?kXB ?sXB ?yXB ?xXB ?aXG ?kXG ?sXG ?yXG ?xXG ?eGB ?eGG ?eBB ?hdB ?noB ?emB ?hdA ?noA ?emA ?neq
    (case a1 => k_is)
    (case l1 => k_is)
    (case c1 => k_is)
    (case k1 => k_is)
    (case a2 => k_is)
    (case l2 => k_is)
    (case c2 => k_is)
    (case k2 => k_is)
    (case a3 => k_is)
    (case l3 => k_is)
    (case c3 => k_is)
    (case k3 => k_is)
    (case a4 => k_is)
    (case l4 => k_is)
    (case c4 => k_is)
    (case k4 => k_is)
    (case a5 => k_is)
    (case l5 => k_is)
    (case c5 => k_is)
    (case k5 => k_is)
    (case a6 => k_is)
    (case l6 => k_is)
    (case c6 => k_is)
    (case k6 => k_is)
    (case a7 => k_is)
    (case l7 => k_is)
    (case c7 => k_is)
    (case k7 => k_is)
    (case a8 => k_is)
    (case l8 => k_is)
    (case c8 => k_is)
    (case k8 => k_is)
    (case a9 => k_is)
    (case l9 => k_is)
    (case c9 => k_is)
    (case k9 => k_is)
    (case a10 => k_is)
    (case l10 => k_is)
    (case c10 => k_is)
    (case k10 => k_is)
    (case a11 => k_is)
    (case l11 => k_is)
    (case c11 => k_is)
    (case k11 => k_is)
    (case a12 => k_is)
    (case l12 => k_is)
    (case c12 => k_is)
    (case k12 => k_is)
    (case a13 => k_is)
    (case l13 => k_is)
    (case c13 => k_is)
    (case k13 => k_is)
    (case a14 => k_is)
    (case l14 => k_is)
    (case c14 => k_is)
    (case k14 => k_is)
    (case a15 => k_is)
    (case l15 => k_is)
    (case c15 => k_is)
    (case k15 => k_is)
    (case a16 => k_is)
    (case l16 => k_is)
    (case c16 => k_is)
    (case k16 => k_is)
    (case a17 => k_is)
    (case l17 => k_is)
    (case c17 => k_is)
    (case k17 => k_is)
    (case a18 => k_is)
    (case l18 => k_is)
    (case c18 => k_is)
    (case k18 => k_is)
    (case a19 => k_is)
    (case l19 => k_is)
    (case c19 => k_is)
    (case k19 => k_is)
    (case a20 => k_is)
    (case l20 => k_is)
    (case c20 => k_is)
    (case k20 => k_is)
    (case a21 => k_is)
    (case l21 => k_is)
    (case c21 => k_is)
    (case k21 => k_is)
    (case a22 => k_is)
    (case l22 => k_is)
    (case c22 => k_is)
    (case k22 => k_is)
    (case a23 => k_is)
    (case l23 => k_is)
    (case c23 => k_is)
    (case k23 => k_is)
    (case a24 => k_is)
    (case l24 => k_is)
    (case c24 => k_is)
    (case k24 => k_is)
    (case a25 => k_is)
    (case l25 => k_is)
    (case c25 => k_is)
    (case k25 => k_is)
    (case a26 => k_is)
    (case l26 => k_is)
    (case c26 => k_is)
    (case k26 => k_is)
    (case a27 => k_is)
    (case l27 => k_is)
    (case c27 => k_is)
    (case k27 => k_is)
    (case a28 => k_is)
    (case l28 => k_is)
    (case c28 => k_is)
    (case k28 => k_is)
    (case a29 => k_is)
    (case l29 => k_is)
    (case c29 => k_is)
    (case k29 => k_is)
    (case a30 => k_is)
    (case l30 => k_is)
    (case c30 => k_is)
    (case k30 => k_is)
    (case a31 => k_is)
    (case l31 => k_is)
    (case c31 => k_is)
    (case k31 => k_is)
    (case a32 => k_is)
    (case l32 => k_is)
    (case c32 => k_is)
    (case k32 => k_is)
    (case a33 => k_is)
    (case l33 => k_is)
    (case c33 => k_is)
    (case k33 => k_is)
    (case a34 => k_is)
    (case l34 => k_is)
    (case c34 => k_is)
    (case k34 => k_is)
    (case a35 => k_is)
    (case l35 => k_is)
    (case c35 => k_is)
    (case k35 => k_is)
    (case a36 => k_is)
    (case l36 => k_is)
    (case c36 => k_is)
    (case k36 => k_is)
    (case a37 => k_is)
    (case l37 => k_is)
    (case c37 => k_is)
    (case k37 => k_is)
    (case a38 => k_is)
    (case l38 => k_is)
    (case c38 => k_is)
    (case k38 => k_is)
    (case a39 => k_is)
    (case l39 => k_is)
    (case c39 => k_is)
    (case k39 => k_is)
    (case gGROUP => k_is)
    (case gDATA => k_is)
    (case gFREE => k_is)
    (case gTABLE => k_is)
    (case gHEAD => k_is)
    (case gMOST_CELLS => k_is)
    (case gLARGEST_CELL => k_is)
    (case gMOST_GROUPS_AROUND => k_is)
    (case z_len => k_is)
    (case z_isinstance => k_is)
    (case z_sum => k_is)
    (case z_int => k_is)
    (case z_bool => k_is)
    (case z_list => k_is)
    (case z_tuple => k_is)
    (case z_range => k_is)
    (case z_enumerate => k_is)
    (case z_all => k_is)
    (case z_any => k_is)
    (case aXB => k_is)
    (case kXB => k_is)
    (case sXB => k_is)
    (case yXB => k_is)
    (case xXB => first | kernel_rfl | rfl | decide +kernel)
    (case aXG => k_is)
    (case kXG => k_is)
    (case sXG => k_is)
    (case yXG => k_is)
    (case xXG => first | kernel_rfl | rfl | decide +kernel)
    (case eGB => first | k_is | rfl | decide +kernel)
    (case eGG => first | k_is | rfl | decide +kernel)
    (case eBB => first | k_is | rfl | decide +kernel)
    (case hdB => first | kernel_rfl | rfl | decide +kernel)
    (case noB => first | kernel_rfl | rfl | decide +kernel)
    (case emB => exact hT8 _ (by first | decide | simp))
    (case hdA => first | kernel_rfl | rfl | decide +kernel)
    (case noA => first | kernel_rfl | rfl | decide +kernel)
    (case emA => exact hT8 _ (by first | decide | simp))
    (case neq => decide)
#print axioms PySem.Challenge.cw_boxshift_k33_whole_growing_holds

