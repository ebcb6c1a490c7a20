import PyProof.Rows.All
import Wide.All
import OpenK.AllK
import Wide.FinOn
import HandS.ForMost
import HandS.ForExc
import HandS.IsInst
import HandS.Codes
import HandS.Walk
import HandS.Conv
import HandS.Deep
import HandS.TupAny
import PySem.Challenge.RW_boxshift_k01_whole_reading
import HandS.ExcInit
import HandS.FStr
import KE.KExcSuper
import KE.DataEq
import KE.RegKSuper
set_option Elab.async false
set_option linter.all false
set_option maxRecDepth 100000
set_option maxHeartbeats 4000000
namespace Bx
open PySem PySem.Spec PyProof.Rows L2 C8

theorem b_len : bootBuiltins "len" = some (.builtin "len") := by decide +kernel
theorem b_isinstance : bootBuiltins "isinstance" = some (.builtin "isinstance") := by decide +kernel
theorem b_sum : bootBuiltins "sum" = some (.builtin "sum") := by decide +kernel
theorem b_int : bootBuiltins "int" = some (.type "int") := by decide +kernel
theorem b_bool : bootBuiltins "bool" = some (.type "bool") := by decide +kernel
theorem b_list : bootBuiltins "list" = some (.type "list") := by decide +kernel
theorem b_tuple : bootBuiltins "tuple" = some (.type "tuple") := by decide +kernel

theorem same_new {H : Hp} {p : Addr} (h : H p = none) (o : HO) : Same H (upd H p o) := fun b u q => by
  rw [upd_ne (ne_of_none q h)]
  exact q
/-- all but the objects of S is as it was -/
def SameX (S : List Addr) (H H' : Hp) : Prop := ∀ b o, b ∉ S → H b = some o → H' b = some o
theorem SameX.refl (S : List Addr) (H : Hp) : SameX S H H := fun _ _ _ h => h
theorem SameX.trans {S : List Addr} {H H1 H2 : Hp} (a : SameX S H H1) (b : SameX S H1 H2) : SameX S H H2 := fun c o n h => b c o n (a c o n h)
theorem SameX.of {S : List Addr} {H H' : Hp} (a : Same H H') : SameX S H H' := fun b o _ h => a b o h
theorem SameX.put {S : List Addr} {H H' : Hp} {p : Addr} {o : HO} (a : SameX S H H') (hp : p ∈ S) : SameX S H (upd H' p o) := fun b u n h => by
  rw [upd_ne (show b ≠ p from fun e => n (by rw [e]; exact hp))]
  exact a b u n h
theorem SameX.putNew {S : List Addr} {H H' : Hp} {p : Addr} {o : HO} (a : SameX S H H') (hp : H p = none) : SameX S H (L2.upd H' p o) := fun b u n h => by
  rw [upd_ne (ne_of_none h hp)]
  exact a b u n h
theorem SameX.mono {S T : List Addr} {H H' : Hp} (a : SameX S H H') (h : ∀ x ∈ S, x ∈ T) : SameX T H H' := fun b o n q => a b o (fun z => n (h b z)) q
/-- Same out of a walk that changed only what was new -/
theorem Same.putNew {H H' : Hp} {p : Addr} {o : HO} (a : Same H H') (hp : H p = none) : Same H (upd H' p o) := fun b u h => by
  rw [upd_ne (ne_of_none h hp)]
  exact a b u h
theorem Same.sqt {K : PySem.W.Frag} {H H' : Hp} {a : Addr} {xs : List V} (e : Same H H') (h : SqT K H a xs) : SqT K H' a xs := by
  rcases h with (h | ⟨o, h⟩) | h
  · exact .inl (.inl (e _ _ h))
  · exact .inl (.inr ⟨o, e _ _ h⟩)
  · exact .inr h
theorem SameX.seq {S : List Addr} {K : PySem.W.Frag} {H H' : Hp} {a : Addr} {xs : List V} (e : SameX S H H') (n : a ∉ S) (h : SqL K H a xs) : SqL K H' a xs := by
  rcases h with (h | ⟨o, h⟩) | h
  · exact .inl (.inl (e _ _ n h))
  · exact .inl (.inr ⟨o, e _ _ n h⟩)
  · exact .inr h
theorem SameX.sqt {S : List Addr} {K : PySem.W.Frag} {H H' : Hp} {a : Addr} {xs : List V} (e : SameX S H H') (n : a ∉ S) (h : SqT K H a xs) : SqT K H' a xs := by
  rcases h with (h | ⟨o, h⟩) | h
  · exact .inl (.inl (e _ _ n h))
  · exact .inl (.inr ⟨o, e _ _ n h⟩)
  · exact .inr h
theorem small {n : Nat} (h : n ≤ 1000) : n ≤ sizeLine := Nat.le_of_lt (small1000 h)

theorem tyL {K : PySem.W.Frag} {H : Hp} {a : Addr} {xs : List V} (h : SqL K H a xs) : TyX K H (.ref a) (.type "list") := by
  rcases h with (h | ⟨o, h⟩) | ⟨o, its, n, h, c, _⟩
  · exact .base (.lst h)
  · exact .base (.frz h)
  · exact .kList h c
theorem tyT {K : PySem.W.Frag} {H : Hp} {a : Addr} {xs : List V} (h : SqT K H a xs) : TyX K H (.ref a) (.type "tuple") := by
  rcases h with (h | ⟨o, h⟩) | ⟨o, its, n, h, c, _⟩
  · exact .base (.tup h)
  · exact .fTuple h
  · exact .kTuple h c
theorem k_int_int {K : PySem.W.Frag} : PySem.W.kitOne K (.type "int") (.type "int") = some true := kit_ty (by decide +kernel)
theorem k_int_bool {K : PySem.W.Frag} : PySem.W.kitOne K (.type "int") (.type "bool") = some false := kit_ty (by decide +kernel)
theorem k_int_tuple {K : PySem.W.Frag} : PySem.W.kitOne K (.type "int") (.type "tuple") = some false := kit_ty (by decide +kernel)
theorem k_tuple_int {K : PySem.W.Frag} : PySem.W.kitOne K (.type "tuple") (.type "int") = some false := kit_ty (by decide +kernel)
theorem k_tuple_tuple {K : PySem.W.Frag} : PySem.W.kitOne K (.type "tuple") (.type "tuple") = some true := kit_ty (by decide +kernel)
theorem k_str_tuple {K : PySem.W.Frag} : PySem.W.kitOne K (.type "str") (.type "tuple") = some false := kit_ty (by decide +kernel)
theorem k_list_lt {K : PySem.W.Frag} : PySem.W.kitAny K (.type "list") [.type "list", .type "tuple"] = some true :=
  kitAny_cons (b := true) (kit_ty (by decide +kernel)) (fun h => by cases h) (fun _ => rfl)
theorem k_tuple_lt {K : PySem.W.Frag} : PySem.W.kitAny K (.type "tuple") [.type "list", .type "tuple"] = some true :=
  kitAny_cons (b := false) (kit_ty (by decide +kernel)) (fun _ => kitAny_cons (b := true) (kit_ty (by decide +kernel)) (fun h => by cases h) (fun _ => rfl)) (fun h => by cases h)
theorem cls_lt : Paired ClsV [V.ty "list", V.ty "tuple"] [Value.type "list", Value.type "tuple"] := .cons (.ty _) (.cons (.ty _) .nil)

abbrev vn (n : Nat) : V := .int (n : Int)
structure Cells (K : PySem.W.Frag) (H : Hp) (a : Addr) (cs : List Nat) : Prop where
  sq : SqL K H a (cs.map vn) ∨ SqT K H a (cs.map vn)
  len : cs.length ≤ 30
  top : ∀ n ∈ cs, n ≤ 99
theorem Cells.same {K : PySem.W.Frag} {H H' : Hp} {a : Addr} {cs : List Nat} (e : Same H H') (h : Cells K H a cs) : Cells K H' a cs :=
  ⟨h.sq.elim (fun z => .inl (e.seq z)) (fun z => .inr (Same.sqt e z)), h.len, h.top⟩
theorem Cells.samex {S : List Addr} {K : PySem.W.Frag} {H H' : Hp} {a : Addr} {cs : List Nat} (e : SameX S H H') (n : a ∉ S) (h : Cells K H a cs) : Cells K H' a cs :=
  ⟨h.sq.elim (fun z => .inl (e.seq n z)) (fun z => .inr (e.sqt n z)), h.len, h.top⟩
/-- the cell at a place -/
def cel (cs : List Nat) (i : Nat) : Nat := cs.getD i 0
theorem cel_some {cs : List Nat} {i : Nat} (h : i < cs.length) : (cs.map vn)[i]? = some (vn (cel cs i)) := by
  rw [List.getElem?_map, List.getElem?_eq_getElem h, cel, List.getD_eq_getElem?_getD, List.getElem?_eq_getElem h]
  rfl
theorem cel_top {K : PySem.W.Frag} {H : Hp} {a : Addr} {cs : List Nat} (h : Cells K H a cs) (i : Nat) : cel cs i ≤ 99 := by
  rw [cel, List.getD_eq_getElem?_getD]
  cases e : cs[i]? with
  | none => exact Nat.zero_le _
  | some n => exact h.top n (List.mem_of_getElem? e)
/-- cells[i] -/
theorem Cells.ix {K : PySem.W.Frag} {H : Hp} {a : Addr} {cs : List Nat} {Q : VK} {i : Int} (j : Nat) (h : Cells K H a cs) (e : i = (j : Int)) (hj : j < cs.length) (q : Q (vn (cel cs j)) H) : rIx K (.ref a) (.int i) H Q := by
  subst e
  rcases h.sq with z | z
  · exact .inl ⟨a, _, _, _, rfl, rfl, z, atI_nat (cel_some hj), q⟩
  · exact .inr (.inl ⟨a, _, _, _, rfl, rfl, z, atI_nat (cel_some hj), q⟩)
end Bx

namespace Bx
open PySem PySem.Spec PyProof.Rows L2 C8
section
variable {K : PySem.W.Frag} {σ : L2.St} {H : Hp} {Q : VK} {D : Ends} {t u : TS} {ta tb tc : TE} {tt tu : TT} {v x y : V} {r : R2} {g : TG} {i : Nat} {QB : Bool → Hp → Prop}
theorem g_seq (h : t { D with nx := u D } σ H) : tSeq t u D σ H := h
theorem g_next (h : D.nx σ H) : tNext D σ H := h
theorem g_asg (h : ta σ H fun x H1 => g x σ H1 D.nx) : tAsg ta g D σ H := h
theorem g_name {N : L2.St → Hp → Prop} (h : N (σ.set i (some v)) H) : gName i v σ H N := h
theorem g_var (e : σ[i]? = some (some v)) (h : Q v H) : tVar i σ H Q := ⟨v, e, h⟩
theorem g_c (h : Q v H) : tC v σ H Q := h
theorem g_op (h : ta σ H fun x H1 => tb σ H1 fun y H2 => r x y H2 Q) : tOp r ta tb σ H Q := h
theorem g_test (h : ta σ H fun x H' => ∃ k, x = .bl k ∧ QB k H') : tTest ta σ H QB := h
theorem g_B (h : ta σ H fun x H' => ∃ k, x = .bl k ∧ QB k H') : tB ta σ H QB := h
theorem g_ifS {c : TT} (h : c σ H fun b H1 => if b = true then t D σ H1 else u D σ H1) : tIfS c t u D σ H := h
theorem g_ret (h : ta σ H D.rt) : tRet ta D σ H := h
theorem g_retN (h : D.rt .non H) : tRetN D σ H := h
theorem g_drop (h : ta σ H fun _ H1 => D.nx σ H1) : tDrop ta D σ H := h
theorem g_nil {QA : List V → Hp → Prop} (h : QA [] H) : tNil σ H QA := h
theorem g_cons {tr : TA} {QA : List V → Hp → Prop} (h : ta σ H fun x H1 => tr σ H1 fun xs H2 => QA (x :: xs) H2) : tCons ta tr σ H QA := h
theorem g_cb {rc : List V → Hp → VK → Prop} {tr : TA} (h : tr σ H fun xs H1 => rc xs H1 Q) : tCB rc tr σ H Q := h
theorem g_call {sp : Sp} {dvs : List V} {E : XK} {tr : TA} (h : tr σ H fun vs H1 => sp (vs ++ dvs) H1 Q E) : tCall sp dvs E tr σ H Q := h
theorem g_not (h : tt σ H fun c H1 => QB (!c) H1) : tNot tt σ H QB := h
theorem g_and (h : tt σ H fun c H1 => if c = true then tu σ H1 QB else QB false H1) : tAnd tt tu σ H QB := h
theorem g_or (h : tt σ H fun c H1 => if c = true then QB true H1 else tu σ H1 QB) : tOr tt tu σ H QB := h
theorem g_if {c : TT} (h : c σ H fun b H1 => if b = true then ta σ H1 Q else tb σ H1 Q) : tIf c ta tb σ H Q := h
theorem g_I0 {f : Int → Int → V} {a b : Int} (h : Q (f a b) H) : rI0 f (.int a) (.int b) H Q := ⟨a, b, rfl, rfl, h⟩
theorem g_eq (e : scal x y = true) (h : Q (.bl (decide (x = y))) H) : rEq x y H Q := ⟨e, h⟩
theorem g_ne (e : scal x y = true) (h : Q (.bl (!decide (x = y))) H) : rNe x y H Q := ⟨e, h⟩
theorem g_chain {r r' : R2} (h : ta σ H fun x H1 => tb σ H1 fun y H2 => r x y H2 fun z H3 => ∃ k, z = .bl k ∧ (if k = true then tc σ H3 fun w' H4 => r' y w' H4 Q else Q (.bl false) H3)) : tChain r r' ta tb tc σ H Q := h
theorem g_tup {tr : TA} (h : tr σ H fun xs H1 => xs.length ≤ sizeLine ∧ ∀ p, H1 p = none → Q (.ref p) (upd H1 p (.tup xs))) : tTup tr σ H Q := h
theorem g_lst {tr : TA} (h : tr σ H fun xs H1 => xs.length ≤ sizeLine ∧ ∀ p, H1 p = none → Q (.ref p) (upd H1 p (.lst xs))) : tLst tr σ H Q := h
theorem g_bm {T : String} {m : V → List V → Hp → VK → Prop} {tr : TA} (h : ta σ H fun x H1 => tyV K T x H1 ∧ tr σ H1 fun xs H2 => m x xs H2 Q) : tBM K T m ta tr σ H Q := h
theorem g_isN (h : Q (.bl (decide (x = .non))) H) : (fun (x y : V) (H : Hp) (Q : VK) => y = .non ∧ Q (.bl (decide (x = .non))) H) x .non H Q := ⟨rfl, h⟩
theorem g_bl {b : Bool} {R : Bool → Prop} (h : R b) : ∃ k, V.bl b = .bl k ∧ R k := ⟨b, rfl, h⟩
theorem g_aug {ti : TIp} (e : σ[i]? = some (some x)) (h : ta σ H fun y H1 => ti x y H1 fun z H2 => D.nx (σ.set i (some z)) H2) : tAug i ta ti D σ H := ⟨x, e, h⟩
theorem g_ipI {f : Int → Int → Int} {a b : Int} (h : Q (.int (f a b)) H) : ipI f (.int a) (.int b) H Q := ⟨a, b, rfl, rfl, h⟩
/-- a test's two ways, by a proposition -/
theorem g_ite {p : Prop} [Decidable p] {A B : Prop} (h1 : p → A) (h2 : ¬ p → B) : if decide p = true then A else B := by
  by_cases h : p
  · rw [decide_eq_true h]
    exact iteT (h1 h)
  · rw [decide_eq_false h]
    exact iteF (h2 h)
theorem g_iteN {p : Prop} [Decidable p] {A B : Prop} (h1 : ¬ p → A) (h2 : p → B) : if (!decide p) = true then A else B := by
  by_cases h : p
  · rw [decide_eq_true h]
    exact iteF (h2 h)
  · rw [decide_eq_false h]
    exact iteT (h1 h)
end
end Bx

namespace Bx
open PySem PySem.Spec PyProof.Rows L2 C8
section
variable {K : PySem.W.Frag} {σ : L2.St} {H : Hp} {Q : VK}
theorem isi_ii {v : Int} (h : Q (.bl true) H) : rIsi K [.int v, .ty "int"] H Q := ⟨_, _, _, _, _, rfl, .ty _, .base (.int v), k_int_int, h⟩
theorem isi_ib {v : Int} (h : Q (.bl false) H) : rIsi K [.int v, .ty "bool"] H Q := ⟨_, _, _, _, _, rfl, .ty _, .base (.int v), k_int_bool, h⟩
theorem isi_it {v : Int} (h : Q (.bl false) H) : rIsi K [.int v, .ty "tuple"] H Q := ⟨_, _, _, _, _, rfl, .ty _, .base (.int v), k_int_tuple, h⟩
theorem isi_st {v : Str} (h : Q (.bl false) H) : rIsi K [.str v, .ty "tuple"] H Q := ⟨_, _, _, _, _, rfl, .ty _, .base (.str v), k_str_tuple, h⟩
theorem isi_tt {a : Addr} {xs : List V} (t : SqT K H a xs) (h : Q (.bl true) H) : rIsi K [.ref a, .ty "tuple"] H Q := ⟨_, _, _, _, _, rfl, .ty _, tyT t, k_tuple_tuple, h⟩
theorem isi_ti {a : Addr} {xs : List V} (t : SqT K H a xs) (h : Q (.bl false) H) : rIsi K [.ref a, .ty "int"] H Q := ⟨_, _, _, _, _, rfl, .ty _, tyT t, k_tuple_int, h⟩
theorem g_nT {A B : Prop} (h : B) : if (!true) = true then A else B := iteF h
theorem g_nF {A B : Prop} (h : A) : if (!false) = true then A else B := iteT h
theorem sl_seq {X : Cx} : SlR X (fun x lo hi H Q => rSlL X.K x lo hi H Q ∨ rSlA X.K x lo hi H Q) := by
  intro pins s σ H x v vl vu lo hi sl Q I rx hs pl pu h
  exact h.elim (sl_list pins s σ H x v vl vu lo hi sl Q I rx hs pl pu) (sl_tupA pins s σ H x v vl vu lo hi sl Q I rx hs pl pu)
end
end Bx

namespace Bx
open PySem PySem.Spec PyProof.Rows L2 C8
section
variable {p A B : Prop} [Decidable p]
theorem g_dT (hp : p) (h : A) : if decide p = true then A else B := by
  rw [decide_eq_true hp]
  exact iteT h
theorem g_dF (hp : ¬ p) (h : B) : if decide p = true then A else B := by
  rw [decide_eq_false hp]
  exact iteF h
theorem g_ndT (hp : ¬ p) (h : A) : if (!decide p) = true then A else B := by
  rw [decide_eq_false hp]
  exact iteT h
theorem g_ndF (hp : p) (h : B) : if (!decide p) = true then A else B := by
  rw [decide_eq_true hp]
  exact iteF h
theorem int_non {i : Int} : ¬ (V.int i = .non) := fun h => nomatch h
end
end Bx
theorem Bx.g_nn {B : Prop} (h : B) : L2.V.non = L2.V.non ∧ B := ⟨rfl, h⟩

namespace Bx
open PySem PySem.Spec PyProof.Rows L2 C8
section
variable {K : PySem.W.Frag} {H : Hp} {Q : VK} {l : Addr} {xs : List V} {v : V}
theorem ty_l (h : SqL K H l xs) : tyV K "list" (.ref l) H := .inl ⟨rfl, _, h⟩
theorem g_app (hl : H l = some (.lst xs)) (hz : xs.length ≤ 1000) (k : Q .non (upd H l (.lst (xs ++ [v])))) : rAppend (.ref l) [v] H Q := ⟨l, xs, v, rfl, rfl, hl, small1000 hz, k⟩
theorem while_v {c : TT} {tb : TS} {D : Ends} {σ : L2.St} {H : Hp} (W : Nat → L2.St → Hp → Prop) (m : Nat) (w0 : W m σ H)
    (hs : ∀ m σ H, W m σ H → c σ H fun b H1 => if b = true then ∃ N : L2.St → Hp → Prop, (∀ σ' H', N σ' H' → ∃ m', m' < m ∧ W m' σ' H') ∧ tb { D with nx := N, ct := N, bk := D.nx } σ H1 else D.nx σ H1) : tWhile c tb D σ H := ⟨W, ⟨m, w0⟩, hs⟩
theorem g_len {a : Addr} (h : SqL K H a xs ∨ SqT K H a xs) (k : Q (.int (xs.length : Int)) H) : (fun (xs : List V) (H : Hp) (Q : VK) => ∃ p ys, xs = [V.ref p] ∧ (SqL K H p ys ∨ SqT K H p ys) ∧ Q (.int (ys.length : Int)) H) [.ref a] H Q := ⟨a, xs, rfl, h, k⟩
theorem rg_nat (a b : Nat) : rgV (a : Int) (b : Int) = ((List.range (b - a)).map fun i => a + i).map vn := by
  unfold rgV
  rw [List.map_map, show ((b : Int) - (a : Int)).toNat = b - a by omega]
  refine List.map_congr_left fun i _ => ?_
  show V.int ((a : Int) + (i : Nat)) = V.int (((a + i : Nat) : Nat) : Int)
  rw [Int.natCast_add]
end
end Bx

namespace Bx
open PySem PySem.Spec PyProof.Rows L2 C8
section
variable {K : PySem.W.Frag} {σ : L2.St} {H : Hp} {Q : VK} {D : Ends} {ta tb tc : TE}
theorem g_lstRg {te : L2.St → Hp → (Int → Int → Hp → Prop) → Prop} (h : te σ H fun a b H1 => RgOk a b ∧ ∀ q, H1 q = none → Q (.ref q) (upd H1 q (.lst (rgV a b)))) : tLstRg te σ H Q := h
theorem g_rg2 {QI : Int → Int → Hp → Prop} (h : ta σ H fun x H1 => tb σ H1 fun y H2 => ∃ i j, x = .int i ∧ y = .int j ∧ QI i j H2) : tRg2 ta tb σ H QI := h
theorem g_rg1 {QI : Int → Int → Hp → Prop} (h : ta σ H fun x H1 => ∃ n, x = .int n ∧ QI 0 n H1) : tRg1 ta σ H QI := h
theorem g_dnewK (h : ∀ p, H p = none → Q (.ref p) (upd H p (.dK []))) : tDNewK σ H Q := h
theorem g_dnewT (h : ∀ p, H p = none → Q (.ref p) (upd H p (.dT []))) : tDNewT σ H Q := h
theorem g_dput (h : tc σ H fun v H1 => ta σ H1 fun x H2 => tb σ H2 fun y H3 => ∃ a H4, x = .ref a ∧ DPut H3 a y v H4 ∧ D.nx σ H4) : sDPut ta tb tc D σ H := h
theorem g_dnotin (h : tb σ H fun y H1 => ta σ H1 fun x H2 => ∃ a o, x = .ref a ∧ DGet H2 a y o ∧ Q (.bl (!o.isSome)) H2) : tDNotIn tb ta σ H Q := h
theorem g_din (h : tb σ H fun y H1 => ta σ H1 fun x H2 => ∃ a o, x = .ref a ∧ DGet H2 a y o ∧ Q (.bl o.isSome) H2) : tDIn tb ta σ H Q := h
theorem g_dget (h : ta σ H fun x H1 => tb σ H1 fun y H2 => ∃ a v, x = .ref a ∧ DGet H2 a y (some v) ∧ Q v H2) : tDGet ta tb σ H Q := h
theorem g_tupT {n : Nat} {t : TGs} {a : Addr} {xs : List V} {N : L2.St → Hp → Prop} (hs : SqT K H a xs) (hn : xs.length = n) (h : t xs σ H N) : gTup K n t (.ref a) σ H N := ⟨a, xs, rfl, hs, hn, h⟩
theorem g_gcons {t : TG} {u : TGs} {v : V} {r : List V} {N : L2.St → Hp → Prop} (h : t v σ H fun σ' H' => u r σ' H' N) : gCons t u (v :: r) σ H N := ⟨v, r, rfl, h⟩
theorem g_gnil {N : L2.St → Hp → Prop} (h : N σ H) : gNil [] σ H N := ⟨rfl, h⟩
end
end Bx

namespace Bx
open PySem PySem.Spec PyProof.Rows L2 C8
section
variable {K : PySem.W.Frag} {σ : L2.St} {H : Hp} {D : Ends} {ta tb tc : TE} {R : It → Hp → Prop}
theorem g_for {wi : TI} {g : TG} {tb : TS} (h : wi σ H fun J H1 => ∃ W : Nat → Nat → L2.St → Hp → Prop, (∃ m, W 0 m σ H1) ∧ ∀ i m σ H, W i m σ H →
  (J.stop i H ∧ D.nx σ H) ∨ (J.go i H ∧ ∃ N : L2.St → Hp → Prop, (∀ σ' H', N σ' H' → ∃ m', m' < m ∧ W (i + 1) m' σ' H') ∧ ∀ x H', J.yld i H x H' → g x σ H' fun σ2 H2 => tb { D with nx := N, ct := N, bk := D.nx } σ2 H2)) : tFor wi g tb D σ H := h
theorem g_iList (h : ta σ H fun x H1 => ∃ a, x = .ref a ∧ (∃ xs, SqL K H1 a xs) ∧ R (Itl K a) H1) : iList K ta σ H R := h
theorem g_iTup (h : ta σ H fun x H1 => ∃ a, x = .ref a ∧ (∃ xs, SqT K H1 a xs) ∧ R (Itt K a) H1) : iTup K ta σ H R := h
theorem g_iEnum {t : TA} (h : t σ H fun vs H1 => ∃ a xs, vs = [.ref a] ∧ SqL K H1 a xs ∧ R (Ite K a) H1) : iEnum K t σ H R := h
theorem g_iR1 {t : TA} (h : t σ H fun vs H1 => ∃ j : Int, vs = [.int j] ∧ -(2 ^ 62) ≤ j ∧ j < 2 ^ 62 ∧ R (Itr 0 j.toNat) H1) : iRng1 t σ H R := h
theorem g_lc {wi : TI} {g : TG} {tt : TT} {te : TE} {vs : List Nat} {Q : VK} (h : wi σ H fun J H1 => ∀ D, H1 D = none → ∃ W : Nat → Nat → Hp → Prop, (∃ m, W 0 m (upd H1 D (.lst []))) ∧ ∀ i m H, W i m H → (J.stop i H ∧ Q (.ref D) H) ∨
  (J.go i H ∧ ∃ Nx : Hp → Prop, (∀ H', Nx H' → ∃ m', m' < m ∧ W (i + 1) m' H') ∧ ∀ x H', J.yld i H x H' → g x (wipe σ vs) H' fun σ2 H2 => wipe σ2 vs = wipe σ vs ∧ tt σ2 H2 fun b H3 => if b = true then te σ2 H3 fun y H4 => ∃ acc, H4 D = some (.lst acc) ∧ acc.length < sizeLine ∧ Nx (upd H4 D (.lst (acc ++ [y]))) else Nx H3)) : tLc wi g tt te vs σ H Q := h
theorem Same.get {H H' : Hp} {a : Addr} {o : HO} (e : Same H H') (h : H a = some o) : H' a = some o := e a o h
end
end Bx

namespace Bx
open PySem PySem.Spec PyProof.Rows L2 C8
def iSeq (K : PySem.W.Frag) (te : TE) : TI := fun σ H R => te σ H fun v G => ∃ b, v = .ref b ∧ (((∃ ys, SqL K G b ys) ∧ R (Itl K b) G) ∨ ((∃ ys, SqT K G b ys) ∧ R (Itt K b) G))
theorem pi_seq {X : Cx} {tg l : Expr} {te : TE} (he : PE X l te) : PI X tg l (iSeq X.K te) := by
  refine ⟨fun pins s0 σ G0 R J hw => thn (he.run pins s0 σ G0 _ J hw) fun u st ⟨v, G, J1, rel, b, ev, q⟩ => ?_⟩
  subst ev
  cases rel
  have newest : ∀ c ∈ [st.heap.objs.size], FpOk X pins G c := fun c hc => by
    obtain rfl : c = st.heap.objs.size := List.mem_singleton.mp hc
    exact J1.fpOk (Nat.le_refl _) (J1.hok.fresh (Nat.le_refl _))
  have grown := fun (o : Obj) => J1.kept (t' := st.toks) (h' := st.heap.push o) fun c u e => Heap.get?_push_of_some _ e
  rcases q with ⟨⟨ys, hs⟩, q⟩ | ⟨⟨ys, hs⟩, q⟩
  · obtain ⟨vs, _, pl, _⟩ := J1.list hs
    exact wpAny_pyIter_list pl.isList ⟨_, [st.heap.objs.size], _, _, G, rfl, grown _, turn_list b _, ⟨_, Heap.get?_push_size _ rfl, rfl, rfl⟩, newest, q⟩
  · obtain ⟨vs, _, pl, _⟩ := J1.tuple hs
    exact wpAny_pyIter_tuple (s := st) (id pl) ⟨_, [st.heap.objs.size], _, _, G, rfl, grown _, turn_tuple b _, ⟨_, Heap.get?_push_size _ rfl, rfl, rfl⟩, newest, q⟩
section
variable {K : PySem.W.Frag} {σ : L2.St} {H : Hp} {Q : VK} {D : Ends} {ta tb tc : TE} {R : It → Hp → Prop}
theorem g_iSeq (h : ta σ H fun x H1 => ∃ a, x = .ref a ∧ (((∃ xs, SqL K H1 a xs) ∧ R (Itl K a) H1) ∨ ((∃ xs, SqT K H1 a xs) ∧ R (Itt K a) H1))) : iSeq K ta σ H R := h
theorem g_sl {r : V → Option Int → Option Int → Hp → VK → Prop} {tl th : TO} (h : ta σ H fun x H1 => tl σ H1 fun l H2 => th σ H2 fun u H3 => r x l u H3 Q) : L2.tSl r ta tl th σ H Q := h
theorem g_part {QO : Option Int → Hp → Prop} (h : ta σ H fun x H1 => ∃ i, x = .int i ∧ QO (some i) H1) : tPart ta σ H QO := h
theorem g_nopart {QO : Option Int → Hp → Prop} (h : QO none H) : tNoPart σ H QO := h
theorem g_in {i : Int} {R : Int → Prop} (h : R i) : ∃ j, V.int i = .int j ∧ R j := ⟨i, rfl, h⟩
theorem g_yes {QB : Bool → Hp → Prop} (h : QB true H) : tYes σ H QB := h
end
end Bx

namespace Bx
open PySem PySem.Spec PyProof.Rows L2 C8
section
variable {K : PySem.W.Frag} {σ : L2.St} {H : Hp} {Q : VK} {D : Ends}
theorem g_int {i : Int} {R : Int → Prop} {B : Prop} (h : R i) : (∃ j, [V.int i] = [V.int j] ∧ R j) ∨ B := .inl ⟨i, rfl, h⟩
theorem g_intB {b : Bool} {A : Prop} {R : Bool → Prop} (h : R b) : A ∨ ∃ k, [V.bl b] = [V.bl k] ∧ R k := .inr ⟨b, rfl, h⟩
theorem g_I {C : Int → Int → Prop} {f : Int → Int → V} {a b : Int} (hc : C a b) (h : Q (f a b) H) : rI C f (.int a) (.int b) H Q := ⟨a, b, rfl, rfl, hc, h⟩
theorem g_ixL {p : Addr} {xs : List V} {i : Int} {v : V} (j : Nat) (hl : SqL K H p xs) (e : i = (j : Int)) (hv : xs[j]? = some v) (h : Q v H) : rIxL K (.ref p) (.int i) H Q := by
  subst e
  exact ⟨p, xs, _, v, rfl, rfl, hl, atI_nat hv, h⟩
theorem g_cat {l b : Addr} {xs ys : List V} (h1 : H l = some (.lst xs)) (h2 : H b = some (.lst ys)) (hz : xs.length + ys.length ≤ 1000) (h : ∀ p, H p = none → Q (.ref p) (upd H p (.lst (xs ++ ys)))) : rCat (.ref l) (.ref b) H Q := ⟨l, b, xs, ys, rfl, rfl, h1, h2, small hz, h⟩
/-- a list of ints compared with the empty one -/
theorem dp_ints (ns : List Int) : ∀ {xs : List V}, xs = ns.map V.int → DpAll K H xs (ns.map PyData.int) := by
  induction ns with
  | nil =>
    rintro xs rfl
    exact .nil
  | cons n r ih =>
    rintro xs rfl
    exact .cons (.int n) (ih rfl)
theorem lay_ints : ∀ ns : List Int, PyData.canLayAll0 (ns.map PyData.int) = true
  | [] => rfl
  | n :: r => by
    rw [List.map_cons, PyData.canLayAll0, lay_ints r]
    rfl
theorem depth_ints : ∀ ns : List Int, PyData.depthAll (ns.map PyData.int) = 0
  | [] => rfl
  | n :: r => by
    rw [List.map_cons, PyData.depthAll, depth_ints r]
    rfl
theorem shaped_ints (ns : List Int) : SeqAt.shaped (.list (ns.map PyData.int)) = true := by
  unfold SeqAt.shaped
  have h1 : PyData.canLay0 (.list (ns.map PyData.int)) = true := by rw [PyData.canLay0]; exact lay_ints ns
  have h2 : PyData.depth (.list (ns.map PyData.int)) ≤ 64 := by rw [PyData.depth, depth_ints]; decide
  rw [h1, decide_eq_true h2]
  rfl
theorem shaped_nil : SeqAt.shaped (.list []) = true := shaped_ints []
theorem eqv_nil (ds : List PyData) : PyData.eqv (.list ds) (.list []) = decide (ds = []) := by
  cases ds with
  | nil => decide
  | cons d r => rfl
end
end Bx

namespace Bx
open PySem PySem.Spec PyProof.Rows L2 C8
section
variable {X : Cx} {K : PySem.W.Frag}
theorem isi_k (e : X.K = K) : CallR X (.builtin "isinstance") (rIsi K) := by
  subst e
  exact call_isi
theorem seq_k (e : X.K = K) : IxR X (rIx K) := by
  subst e
  exact ix_seq
theorem ixl_k (e : X.K = K) : IxR X (rIxL K) := by
  subst e
  exact ix_list
theorem ixt_k (e : X.K = K) : IxR X (rIxT K) := by
  subst e
  exact ix_tup
def rLen (K : PySem.W.Frag) : List V → Hp → VK → Prop := fun xs H Q => ∃ p ys, xs = [.ref p] ∧ (SqL K H p ys ∨ SqT K H p ys) ∧ Q (.int (ys.length : Int)) H
theorem len_k (e : X.K = K) : CallR X (.builtin "len") (rLen K) := by
  subst e
  exact call_len_seq
theorem in_k (e : X.K = K) : OpR X (compareOp .In) (rIn K false) := by
  subst e
  exact op_in_seq
theorem notin_k (e : X.K = K) : OpR X (compareOp .NotIn) (rIn K true) := by
  subst e
  exact op_notIn_seq
end
end Bx

namespace Bx
open PySem PySem.Spec PyProof.Rows L2 C8
section
variable {K : PySem.W.Frag} {σ : L2.St} {H : Hp} {Q : VK} {D : Ends} {to ti : TE}
theorem g_sub {v : V} {t : TSet} {N : L2.St → Hp → Prop} (h : to σ H fun o H1 => ti σ H1 fun i H2 => t o i v H2 fun H3 => N σ H3) : gSub to ti t v σ H N := h
theorem g_setL {l : Addr} {xs : List V} {v : V} {R : Hp → Prop} {i : Int} (j : Nat) (h : H l = some (.lst xs)) (e : i = (j : Int)) (hj : j < xs.length) (k : R (upd H l (.lst (xs.set j v)))) : rSetL (.ref l) (.int i) v H R := by
  subst e
  refine ⟨l, xs, _, j, rfl, rfl, h, ?_, k⟩
  unfold ixN
  rw [if_pos (by omega), if_pos (by omega), Int.toNat_natCast]
theorem SameX.upd1 {H' : Hp} {a : Addr} {o : HO} (e : SameX [a] H H') : SameX [a] H (upd H' a o) := e.put (List.mem_singleton.mpr rfl)
theorem SameX.get {S : List Addr} {H' : Hp} {a : Addr} {o : HO} (e : SameX S H H') (n : a ∉ S) (h : H a = some o) : H' a = some o := e a o n h
theorem nin {a b : Addr} (h : a ≠ b) : a ∉ [b] := fun z => h (List.mem_singleton.mp z)
end
end Bx

namespace Bx
open PySem PySem.Spec PyProof.Rows L2 C8
theorem pg_tup2 {X : Cx} {K : PySem.W.Frag} {es : List Expr} {k : Nat} {t : TGs} {pos : Pos} (e : X.K = K) (hc : X.calm = true) (h : PGs X es t) (hn : (assignEach es X.env).length = 2 := by rfl) (hst : (assignEach es X.env).findIdx? (·.1) = none := by rfl) : PG X (.Tuple es k pos) (gTup K 2 t) := by
  subst e
  exact pg_tup hc h hn hst
end Bx

namespace Bx
open PySem PySem.Spec PyProof.Rows L2 C8
section
variable {K : PySem.W.Frag} {σ : L2.St} {H : Hp} {Q : VK} {D : Ends} {ta : TE} {t u : TS}
theorem g_break (h : D.bk σ H) : tBreak D σ H := h
theorem g_par {i j : Nat} {tr : TA} (h : tr σ H fun vs H1 => ∃ v w, vs = [v, w] ∧ D.nx ((σ.set i (some v)).set j (some w)) H1) : tPar i j tr D σ H := h
theorem g_bm0 {T : String} {m : V → List V → Hp → VK → Prop} (h : ta σ H fun x H1 => tyV K T x H1 ∧ m x [] H1 Q) : tBM0 K T m ta σ H Q := h
theorem g_pop {l : Addr} {xs : List V} {y : V} (h : H l = some (.lst xs)) (hy : xs[xs.length - 1]? = some y) (k : Q y (upd H l (.lst xs.dropLast))) : rPop (.ref l) [] H Q := ⟨l, xs, y, rfl, rfl, h, hy, k⟩
theorem sne (a b : String) (h : Str.ofString a ≠ Str.ofString b := by decide +kernel) : ¬ V.str (Str.ofString a) = V.str (Str.ofString b) := fun z => h (V.str.inj z)
theorem shaped_nats (l : List Nat) : SeqAt.shaped (.list (l.map fun n => PyData.int (n : Nat))) = true := by
  have := shaped_ints (l.map fun (n : Nat) => (n : Int))
  rw [List.map_map] at this
  exact this
theorem cut1 (xs : List V) : cutV xs (some 1) none = xs.drop 1 := by
  unfold cutV
  rw [show HT.sIx xs.length 0 (some 1) = min 1 xs.length from HT.sIx_nat xs.length 0 1, HT.sIx_none]
  cases xs with
  | nil => rfl
  | cons x r =>
    rw [List.length_cons, show min 1 (r.length + 1) = 1 by omega]
    exact List.take_of_length_le (by rw [List.length_drop, List.length_cons]; exact Nat.le_refl _)
end
end Bx

namespace Bx
open PySem PySem.Spec PyProof.Rows L2 C8
theorem g_appB {H : Hp} {Q : VK} {l : Addr} {xs : List V} {v : V} (hl : H l = some (.lst xs)) (hz : xs.length ≤ 100000) (k : Q .non (upd H l (.lst (xs ++ [v])))) : rAppend (.ref l) [v] H Q := ⟨l, xs, v, rfl, rfl, hl, Nat.lt_of_le_of_lt hz (by decide), k⟩
end Bx

namespace Bx
open PySem PySem.Spec PyProof.Rows L2 C8
theorem g_ixT {K : PySem.W.Frag} {H : Hp} {Q : VK} {p : Addr} {xs : List V} {i : Int} {v : V} (j : Nat) (hl : SqT K H p xs) (e : i = (j : Int)) (hv : xs[j]? = some v) (h : Q v H) : rIxT K (.ref p) (.int i) H Q := by
  subst e
  exact ⟨p, xs, _, v, rfl, rfl, hl, atI_nat hv, h⟩
end Bx

namespace Bx
open PySem PySem.Spec PyProof.Rows L2 C8

/-- a box: its kind, its place, its length, the boxes in it -/
inductive Bo where
  | bx (kd p n : Nat) (ks : List Bo)

def hd (cs : List Nat) (a e dp : Nat) : Option Nat :=
  if e - a = 1 ∨ ¬ (1 ≤ cel cs a ∧ cel cs a ≤ 4) then some a
  else if cel cs a = 1 ∧ 1 < dp then some a
  else if ¬ (2 ≤ cel cs (a + 1) ∧ cel cs (a + 1) ≤ e - a) then some (a + 1) else none
theorem hd_none {cs : List Nat} {a e dp : Nat} (h : hd cs a e dp = none) : e - a ≠ 1 ∧ 1 ≤ cel cs a ∧ cel cs a ≤ 4 ∧ ¬ (cel cs a = 1 ∧ 1 < dp) ∧ 2 ≤ cel cs (a + 1) ∧ cel cs (a + 1) ≤ e - a := by
  unfold hd at h
  split at h
  · cases h
  · split at h
    · cases h
    · split at h
      · cases h
      · omega

def prs : Nat → List Nat → Nat → Nat → Nat → Except Nat (List Bo)
  | 0, _, _, _, _ => .ok []
  | f + 1, cs, a, e, dp =>
    if a < e then
      match hd cs a e dp with
      | some p => .error p
      | none =>
        match (if cel cs a = 1 then prs f cs (a + 2) (a + cel cs (a + 1)) (dp + 1) else .ok []) with
        | .error p => .error p
        | .ok ks =>
          match prs f cs (a + cel cs (a + 1)) e dp with
          | .error p => .error p
          | .ok bs => .ok (.bx (cel cs a) a (cel cs (a + 1)) ks :: bs)
    else .ok []
/-- where it is wrong -/
def err {α : Type} : Except Nat α → Option Nat
  | .error p => some p
  | .ok _ => none
section
variable {f : Nat} {cs : List Nat} {a e dp p : Nat} {ks bs : List Bo}
theorem prs_stop (h : ¬ a < e) : prs (f + 1) cs a e dp = .ok [] := by
  unfold prs
  rw [if_neg h]
theorem prs_bad (h : a < e) (q : hd cs a e dp = some p) : prs (f + 1) cs a e dp = .error p := by
  unfold prs
  rw [if_pos h, q]
theorem prs_in (h : a < e) (q : hd cs a e dp = none) (g : cel cs a = 1) (i : prs f cs (a + 2) (a + cel cs (a + 1)) (dp + 1) = .error p) : prs (f + 1) cs a e dp = .error p := by
  unfold prs
  rw [if_pos h, q]
  simp only [if_pos g, i]
theorem prs_go (h : a < e) (q : hd cs a e dp = none) (i : (if cel cs a = 1 then prs f cs (a + 2) (a + cel cs (a + 1)) (dp + 1) else .ok []) = .ok ks) :
    prs (f + 1) cs a e dp = (match prs f cs (a + cel cs (a + 1)) e dp with
      | .error p => .error p
      | .ok bs => .ok (.bx (cel cs a) a (cel cs (a + 1)) ks :: bs)) := by
  rw [prs, if_pos h, q]
  simp only [i]
theorem prs_err (h : a < e) (q : hd cs a e dp = none) (i : (if cel cs a = 1 then prs f cs (a + 2) (a + cel cs (a + 1)) (dp + 1) else .ok []) = .ok ks) :
    err (prs (f + 1) cs a e dp) = err (prs f cs (a + cel cs (a + 1)) e dp) := by
  rw [prs_go h q i]
  cases prs f cs (a + cel cs (a + 1)) e dp <;> rfl
/-- a success, seen from its first box -/
theorem prs_ok (h : prs (f + 1) cs a e dp = .ok bs) : (¬ a < e ∧ bs = []) ∨ (a < e ∧ hd cs a e dp = none ∧ ∃ ks r, (if cel cs a = 1 then prs f cs (a + 2) (a + cel cs (a + 1)) (dp + 1) else .ok []) = .ok ks ∧
    prs f cs (a + cel cs (a + 1)) e dp = .ok r ∧ bs = .bx (cel cs a) a (cel cs (a + 1)) ks :: r) := by
  by_cases hl : a < e
  · right
    cases q : hd cs a e dp with
    | some p =>
      rw [prs_bad hl q] at h
      cases h
    | none =>
      cases i : (if cel cs a = 1 then prs f cs (a + 2) (a + cel cs (a + 1)) (dp + 1) else .ok []) with
      | error p =>
        exfalso
        by_cases g : cel cs a = 1
        · rw [if_pos g] at i
          rw [prs_in hl q g i] at h
          cases h
        · rw [if_neg g] at i
          cases i
      | ok ks =>
        rw [prs_go hl q i] at h
        cases j : prs f cs (a + cel cs (a + 1)) e dp with
        | error p =>
          rw [j] at h
          cases h
        | ok r =>
          rw [j] at h
          exact ⟨hl, rfl, ks, r, rfl, rfl, (Except.ok.inj h).symm⟩
  · left
    rw [prs_stop hl] at h
    exact ⟨hl, (Except.ok.inj h).symm⟩
end

mutual
def hsB : Bo → List Nat
  | .bx _ p _ ks => p :: hsL ks
def hsL : List Bo → List Nat
  | [] => []
  | b :: r => hsB b ++ hsL r
end
def stp (cs : List Nat) (a : Nat) : Nat := if cel cs a = 1 then 2 else cel cs (a + 1)
inductive Pth (cs : List Nat) : Nat → Nat → List Nat → Prop
  | nil (a : Nat) : Pth cs a a []
  | cons {a e : Nat} {hs : List Nat} : a + 1 < cs.length → 2 ≤ stp cs a → Pth cs (a + stp cs a) e hs → Pth cs a e (a :: hs)
theorem Pth.append {cs : List Nat} {a b c : Nat} {h1 h2 : List Nat} (x : Pth cs a b h1) (y : Pth cs b c h2) : Pth cs a c (h1 ++ h2) := by
  induction x with
  | nil _ => exact y
  | cons q z _ ih => exact .cons q z (ih y)
theorem prs_pth : ∀ (f : Nat) (cs : List Nat) (a e dp : Nat) (bs : List Bo), prs f cs a e dp = .ok bs → e - a < f → a ≤ e → e ≤ cs.length → Pth cs a e (hsL bs)
  | 0, _, _, _, _, _, _, h, _, _ => absurd h (Nat.not_lt_zero _)
  | f + 1, cs, a, e, dp, bs, h, hf, hae, he => by
    rcases prs_ok h with ⟨hl, rfl⟩ | ⟨hl, q, ks, r, i, j, rfl⟩
    · have : a = e := by omega
      subst this
      rw [hsL]
      exact .nil _
    · obtain ⟨q1, q2, q3, q4, q5, q6⟩ := hd_none q
      have hr := prs_pth f cs _ e dp r j (by omega) (by omega) he
      rw [hsL, hsB]
      by_cases g : cel cs a = 1
      · rw [if_pos g] at i
        have hk := prs_pth f cs _ _ _ ks i (by omega) (by omega) (by omega)
        have es : stp cs a = 2 := if_pos g
        refine .cons (by omega) (by omega) ?_
        rw [es]
        exact hk.append hr
      · rw [if_neg g] at i
        cases i
        have es : stp cs a = cel cs (a + 1) := if_neg g
        refine .cons (by omega) (by omega) ?_
        rw [es, hsL]
        exact hr
theorem Pth.le {cs : List Nat} {a e : Nat} {hs : List Nat} (x : Pth cs a e hs) : a ≤ e ∧ ∀ h ∈ hs, a ≤ h := by
  induction x with
  | nil a => exact ⟨Nat.le_refl _, fun h z => by cases z⟩
  | @cons a e hs q z _ ih =>
    refine ⟨by omega, fun h y => ?_⟩
    rcases List.mem_cons.mp y with y | y
    · omega
    · have := ih.2 h y
      omega
/-- a head in the cells: it begins in them, and its own cells end in them (if it is no group) -/
theorem Pth.mem {cs : List Nat} {a e : Nat} {hs : List Nat} (x : Pth cs a e hs) : ∀ h ∈ hs, h + 1 < cs.length ∧ 2 ≤ stp cs h ∧ h + stp cs h ≤ e := by
  induction x with
  | nil a => exact fun h z => by cases z
  | @cons a e hs q z x ih =>
    intro h y
    rcases List.mem_cons.mp y with y | y
    · subst y
      exact ⟨q, z, x.le.1⟩
    · exact ih h y
theorem Pth.pair {cs : List Nat} {a e : Nat} {hs : List Nat} (x : Pth cs a e hs) : hs.Pairwise fun p q => p + stp cs p ≤ q := by
  induction x with
  | nil a => exact .nil
  | @cons a e hs q z x ih => exact .cons (fun h y => x.le.2 h y) ih

def isK (cs : List Nat) (k : Nat) (p : Nat) : Bool := decide (cel cs p = k)
def row (cs : List Nat) (p : Nat) : Nat × Nat := (p + 2, cel cs (p + 1) - 2)
def rws (cs hs : List Nat) : List (Nat × Nat) := (hs.filter (isK cs 2)).map (row cs)
def has (n : Nat) (r : Nat × Nat) : Bool := decide (r.1 ≤ n) && decide (n < r.1 + r.2)
def plc (r : Nat × Nat) : List Nat := (List.range r.2).map fun i => r.1 + i
def ens (cs hs : List Nat) : List Nat := ((hs.filter (isK cs 4)).map (fun p => plc (row cs p))).flatten
def fre (cs hs : List Nat) : Nat := ((hs.filter (isK cs 3)).map fun p => cel cs (p + 1)).sum
def own (rs : List (Nat × Nat)) (n : Nat) : Bool := rs.any (has n)
def Own (rs : List (Nat × Nat)) (n i j : Nat) : Prop := ∃ r, rs[i]? = some r ∧ r.1 ≤ n ∧ n < r.1 + r.2 ∧ j = n - r.1
def Apart (rs : List (Nat × Nat)) : Prop := rs.Pairwise fun r s => r.1 + r.2 ≤ s.1
theorem Pth.apart {cs : List Nat} {a e : Nat} {hs : List Nat} (x : Pth cs a e hs) : Apart (rws cs hs) := by
  unfold Apart rws
  rw [List.pairwise_map]
  refine List.Pairwise.imp_of_mem ?_ (x.pair.filter (isK cs 2))
  intro p q hp hq z
  have kp : cel cs p = 2 := of_decide_eq_true (List.mem_filter.mp hp).2
  obtain ⟨m1, m2, _⟩ := x.mem p (List.mem_filter.mp hp).1
  have es : stp cs p = cel cs (p + 1) := if_neg (by omega)
  rw [es] at z m2
  show p + 2 + (cel cs (p + 1) - 2) ≤ q + 2
  omega
theorem Apart.at {rs : List (Nat × Nat)} (x : Apart rs) {i k : Nat} {r s : Nat × Nat} (h : i < k) (hr : rs[i]? = some r) (hs : rs[k]? = some s) : r.1 + r.2 ≤ s.1 := by
  obtain ⟨h1, e1⟩ := List.getElem?_eq_some_iff.mp hr
  obtain ⟨h2, e2⟩ := List.getElem?_eq_some_iff.mp hs
  have := List.pairwise_iff_getElem.mp x i k h1 h2 h
  rw [e1, e2] at this
  exact this
theorem Apart.one {rs : List (Nat × Nat)} (x : Apart rs) {n i j k l : Nat} (h1 : Own rs n i j) (h2 : Own rs n k l) : i = k ∧ j = l := by
  obtain ⟨r, hr, a1, a2, rfl⟩ := h1
  obtain ⟨s, hs, b1, b2, rfl⟩ := h2
  have e : i = k := by
    rcases Nat.lt_trichotomy i k with h | h | h
    · have := x.at h hr hs
      omega
    · exact h
    · have := x.at h hs hr
      omega
  subst e
  rw [hr] at hs
  cases hs
  exact ⟨rfl, rfl⟩
theorem own_iff {rs : List (Nat × Nat)} {n : Nat} : own rs n = true ↔ ∃ i j, Own rs n i j := by
  unfold own
  rw [List.any_eq_true]
  constructor
  · rintro ⟨r, hr, h⟩
    obtain ⟨i, hi, e⟩ := List.mem_iff_getElem.mp hr
    unfold has at h
    rw [Bool.and_eq_true, decide_eq_true_eq, decide_eq_true_eq] at h
    exact ⟨i, n - r.1, r, by rw [List.getElem?_eq_getElem hi, e], h.1, h.2, rfl⟩
  · rintro ⟨i, j, r, hr, h1, h2, _⟩
    refine ⟨r, List.mem_of_getElem? hr, ?_⟩
    unfold has
    rw [Bool.and_eq_true, decide_eq_true_eq, decide_eq_true_eq]
    exact ⟨h1, h2⟩
/-- the target of a place -/
def tgt (rs : List (Nat × Nat)) (n : Nat) : Option (Nat × Nat) := (rs.findIdx? (has n)).bind fun i => (rs[i]?).map fun r => (i, n - r.1)
theorem tgt_own {rs : List (Nat × Nat)} {n i j : Nat} (x : Apart rs) (h : Own rs n i j) : tgt rs n = some (i, j) := by
  obtain ⟨r, hr, h1, h2, rfl⟩ := id h
  have hh : has n r = true := by
    unfold has
    rw [Bool.and_eq_true, decide_eq_true_eq, decide_eq_true_eq]
    exact ⟨h1, h2⟩
  unfold tgt
  cases e : rs.findIdx? (has n) with
  | none =>
    have := List.findIdx?_eq_none_iff.mp e r (List.mem_of_getElem? hr)
    rw [hh] at this
    cases this
  | some k =>
    obtain ⟨hk, q1, _⟩ := List.findIdx?_eq_some_iff_getElem.mp e
    unfold has at q1
    rw [Bool.and_eq_true, decide_eq_true_eq, decide_eq_true_eq] at q1
    have hk' : rs[k]? = some rs[k] := List.getElem?_eq_getElem hk
    obtain ⟨e1, e2⟩ := x.one h ⟨rs[k], hk', q1.1, q1.2, rfl⟩
    show (rs[k]?).map (fun r => (k, n - r.1)) = _
    rw [hk', Option.map_some, ← e2, e1]
theorem tgt_none {rs : List (Nat × Nat)} {n : Nat} (h : own rs n = false) : tgt rs n = none := by
  unfold tgt
  have : rs.findIdx? (has n) = none := List.findIdx?_eq_none_iff.mpr fun r hr => by
    unfold own at h
    have := List.any_eq_false.mp h r hr
    simpa using this
  rw [this]
  rfl

theorem Pth.len {cs : List Nat} {a e : Nat} {hs : List Nat} (x : Pth cs a e hs) : a + 2 * hs.length ≤ e := by
  induction x with
  | nil a => simp
  | @cons a e hs q z _ ih =>
    rw [List.length_cons]
    omega

theorem putK_len {κ : Type} [DecidableEq κ] (kvs : List (κ × V)) (k : κ) (v : V) : (putK kvs k v).length ≤ kvs.length + 1 := by
  unfold putK
  split
  · rw [List.length_map]
    omega
  · rw [List.length_append, List.length_singleton]
    omega
structure TgD (H : Hp) (d : Addr) (R : Nat → Nat → Nat → Prop) (m : Nat) : Prop where
  ex : ∃ kvs : List (Key × V), H d = some (.dK kvs) ∧ kvs.length ≤ m ∧ (∀ n i j, R n i j → ∃ t, valV kvs (Sum.inl (n : Int)) = some (.ref t) ∧ H t = some (.tup [.int (i : Int), .int (j : Int)])) ∧
    (∀ n : Nat, (∀ i j, ¬ R n i j) → valV kvs (Sum.inl (n : Int)) = none)
section
variable {H H' : Hp} {d : Addr} {R R' : Nat → Nat → Nat → Prop} {m m' : Nat}
theorem TgD.same (x : TgD H d R m) (e : Same H H') : TgD H' d R m := by
  obtain ⟨kvs, h1, h2, h3, h4⟩ := x.ex
  exact ⟨kvs, e _ _ h1, h2, fun n i j r => (h3 n i j r).imp fun t z => ⟨z.1, e _ _ z.2⟩, h4⟩
theorem TgD.iff (x : TgD H d R m) (h : ∀ n i j, R n i j ↔ R' n i j) (hm : m ≤ m') : TgD H d R' m' := by
  obtain ⟨kvs, h1, h2, h3, h4⟩ := x.ex
  exact ⟨kvs, h1, Nat.le_trans h2 hm, fun n i j r => h3 n i j ((h n i j).mpr r), fun n z => h4 n fun i j r => z i j ((h n i j).mp r)⟩
theorem TgD.nil (h : H d = some (.dK [])) (hR : ∀ n i j, ¬ R n i j) : TgD H d R m := ⟨[], h, Nat.zero_le _, fun n i j r => absurd r (hR n i j), fun _ _ => rfl⟩
/-- one more place -/
theorem TgD.put (x : TgD H d R m) {t : Addr} {n0 i0 j0 : Nat} (ht : H t = some (.tup [.int (i0 : Int), .int (j0 : Int)])) (hm : m ≤ 100000) {D : Hp → Prop}
    (h : ∀ H', (∀ b o, b ≠ d → H b = some o → H' b = some o) → (∀ b, b ≠ d → H' b = H b) → TgD H' d (fun n i j => (n = n0 ∧ i = i0 ∧ j = j0) ∨ (n ≠ n0 ∧ R n i j)) (m + 1) → D H') : ∃ a H', V.ref d = .ref a ∧ DPut H a (.int (n0 : Int)) (.ref t) H' ∧ D H' := by
  obtain ⟨kvs, h1, h2, h3, h4⟩ := x.ex
  have hl : kvs.length < sizeLine := Nat.lt_of_le_of_lt (Nat.le_trans h2 hm) (by decide)
  refine ⟨d, _, rfl, DPut.k (k := Sum.inl (n0 : Int)) h1 hl, h _ (fun b o n q => by rw [upd_ne n]; exact q) (fun b n => upd_ne n) ⟨putK kvs (Sum.inl (n0 : Int)) (.ref t), upd_same, Nat.le_trans (putK_len _ _ _) (Nat.succ_le_succ h2), fun n i j r => ?_, fun n z => ?_⟩⟩
  · rw [valV_put]
    rcases r with ⟨rfl, rfl, rfl⟩ | ⟨hn, r⟩
    · refine ⟨t, if_pos rfl, ?_⟩
      rw [upd_ne (ne_of ht h1 (by intro z; cases z))]
      exact ht
    · obtain ⟨u, e1, e2⟩ := h3 n i j r
      refine ⟨u, ?_, ?_⟩
      · rw [if_neg (fun z => hn (by have := Sum.inl.inj z; omega))]
        exact e1
      · rw [upd_ne (ne_of e2 h1 (by intro z; cases z))]
        exact e2
  · rw [valV_put]
    have hn : n ≠ n0 := fun e => z i0 j0 (.inl ⟨e, rfl, rfl⟩)
    rw [if_neg (fun z => hn (by have := Sum.inl.inj z; omega))]
    exact h4 n fun i j r => z i j (.inr ⟨hn, r⟩)
/-- d.get, d[k] -/
theorem TgD.get (x : TgD H d R m) {n i j : Nat} (r : R n i j) : ∃ t, DGet H d (.int (n : Int)) (some (.ref t)) ∧ H t = some (.tup [.int (i : Int), .int (j : Int)]) := by
  obtain ⟨kvs, h1, h2, h3, h4⟩ := x.ex
  obtain ⟨t, e1, e2⟩ := h3 n i j r
  refine ⟨t, ?_, e2⟩
  have := DGet.k (k := Sum.inl (n : Int)) h1
  rw [e1] at this
  exact this
theorem TgD.none (x : TgD H d R m) {n : Nat} (r : ∀ i j, ¬ R n i j) : DGet H d (.int (n : Int)) none := by
  obtain ⟨kvs, h1, h2, h3, h4⟩ := x.ex
  have := DGet.k (k := Sum.inl (n : Int)) h1
  rw [h4 n r] at this
  exact this
end
theorem rws_get {cs hs : List Nat} {i : Nat} {r : Nat × Nat} (h : (rws cs hs)[i]? = some r) : ∃ p, (hs.filter (isK cs 2))[i]? = some p ∧ r = row cs p := by
  unfold rws at h
  rw [List.getElem?_map] at h
  cases e : (hs.filter (isK cs 2))[i]? with
  | none =>
    rw [e] at h
    cases h
  | some p =>
    rw [e] at h
    exact ⟨p, rfl, (Option.some.inj h).symm⟩
theorem plc_get {r : Nat × Nat} {j n : Nat} (h : (plc r)[j]? = some n) : j < r.2 ∧ n = r.1 + j := by
  unfold plc at h
  rw [List.getElem?_map] at h
  obtain ⟨h1, h2⟩ : j < r.2 ∧ (List.range r.2)[j]? = some j := by
    by_cases hj : j < r.2
    · exact ⟨hj, List.getElem?_range hj⟩
    · rw [List.getElem?_eq_none (by rw [List.length_range]; omega)] at h
      cases h
  rw [h2] at h
  exact ⟨h1, (Option.some.inj h).symm⟩
theorem plc_len (r : Nat × Nat) : (plc r).length = r.2 := by unfold plc; rw [List.length_map, List.length_range]
theorem vn_get {l : List Nat} {i : Nat} {x : V} (h : (l.map vn)[i]? = some x) : ∃ n, l[i]? = some n ∧ x = vn n := by
  rw [List.getElem?_map] at h
  cases e : l[i]? with
  | none =>
    rw [e] at h
    cases h
  | some p =>
    rw [e] at h
    exact ⟨p, rfl, (Option.some.inj h).symm⟩
end Bx

namespace Bx
open PySem PySem.Spec PyProof.Rows L2 C8
/-- a number as data -/
abbrev pn (n : Nat) : PyData := .int (n : Int)
mutual
inductive Tp (K : PySem.W.Frag) (H : Hp) : V → PyData → Prop
  | non : Tp K H .non .none
  | bl (b : Bool) : Tp K H (.bl b) (.bool b)
  | int (i : Int) : Tp K H (.int i) (.int i)
  | str (x : Str) : Tp K H (.str x) (.str x)
  | tup {a : Addr} {xs : List V} {ds : List PyData} : H a = some (.tup xs) → TpAll K H xs ds → Tp K H (.ref a) (.tuple ds)
inductive TpAll (K : PySem.W.Frag) (H : Hp) : List V → List PyData → Prop
  | nil : TpAll K H [] []
  | cons {v : V} {vs : List V} {d : PyData} {ds : List PyData} : Tp K H v d → TpAll K H vs ds → TpAll K H (v :: vs) (d :: ds)
end
section
variable {K : PySem.W.Frag} {H H' : Hp}
/-- the tuples stand as they stood -/
def TK (K : PySem.W.Frag) (H H' : Hp) : Prop := ∀ (a : Addr) (xs : List V), H a = some (.tup xs) → H' a = some (.tup xs)
theorem Same.tk (e : Same H H') : TK K H H' := fun _ _ h => e _ _ h
theorem SameX.tk {S : List Addr} (e : SameX S H H') (hm : ∀ x ∈ S, ∀ xs, H x ≠ some (.tup xs)) : TK K H H' := fun a xs h => e _ _ (fun z => hm a z xs h) h
mutual
theorem Tp.mono (e : TK K H H') : ∀ (d : PyData) (v : V), Tp K H v d → Tp K H' v d
  | .none, _, h => by cases h; exact .non
  | .bool b, _, h => by cases h; exact .bl b
  | .int i, _, h => by cases h; exact .int i
  | .str x, _, h => by cases h; exact .str x
  | .list _, _, h => by cases h
  | .dict _, _, h => by cases h
  | .tuple ds, _, h => by
    cases h with
    | tup hs ha => exact .tup (e _ _ hs) (TpAll.mono e ds _ ha)
theorem TpAll.mono (e : TK K H H') : ∀ (ds : List PyData) (vs : List V), TpAll K H vs ds → TpAll K H' vs ds
  | [], _, h => by cases h; exact .nil
  | d :: ds, _, h => by
    cases h with
    | cons h1 h2 => exact .cons (Tp.mono e d _ h1) (TpAll.mono e ds _ h2)
end
mutual
theorem Tp.dp : ∀ (d : PyData) (v : V), Tp K H v d → Dp K H v d
  | .none, _, h => by cases h; exact .non
  | .bool b, _, h => by cases h; exact .bl b
  | .int i, _, h => by cases h; exact .int i
  | .str x, _, h => by cases h; exact .str x
  | .list _, _, h => by cases h
  | .dict _, _, h => by cases h
  | .tuple ds, _, h => by
    cases h with
    | tup hs ha => exact .tup (SqT.of hs) (TpAll.dp ds _ ha)
theorem TpAll.dp : ∀ (ds : List PyData) (vs : List V), TpAll K H vs ds → DpAll K H vs ds
  | [], _, h => by cases h; exact .nil
  | d :: ds, _, h => by
    cases h with
    | cons h1 h2 => exact .cons (Tp.dp d _ h1) (TpAll.dp ds _ h2)
end
theorem Tp.same {d : PyData} {v : V} (h : Tp K H v d) (e : Same H H') : Tp K H' v d := Tp.mono (Same.tk e) d v h
theorem TpAll.same {ds : List PyData} {vs : List V} (h : TpAll K H vs ds) (e : Same H H') : TpAll K H' vs ds := TpAll.mono (Same.tk e) ds vs h
theorem TpAll.append : ∀ {vs ws : List V} {ds es : List PyData}, TpAll K H vs ds → TpAll K H ws es → TpAll K H (vs ++ ws) (ds ++ es)
  | _, _, _, _, .nil, h => h
  | _, _, _, _, .cons a b, h => .cons a (TpAll.append b h)
theorem TpAll.snoc {vs : List V} {ds : List PyData} {v : V} {d : PyData} (h : TpAll K H vs ds) (hd : Tp K H v d) : TpAll K H (vs ++ [v]) (ds ++ [d]) := h.append (.cons hd .nil)
theorem TpAll.length : ∀ {vs : List V} {ds : List PyData}, TpAll K H vs ds → vs.length = ds.length
  | _, _, .nil => rfl
  | _, _, .cons _ b => by rw [List.length_cons, List.length_cons, TpAll.length b]
theorem TpAll.get : ∀ {vs : List V} {ds : List PyData} {i : Nat} {v : V}, TpAll K H vs ds → vs[i]? = some v → ∃ d, ds[i]? = some d ∧ Tp K H v d
  | _, _, i, _, .nil, e => by simp at e
  | _, _, 0, _, .cons a _, e => by
    simp at e
    subst e
    exact ⟨_, rfl, a⟩
  | _, _, i + 1, v, .cons _ b, e => by
    obtain ⟨d, h1, h2⟩ := TpAll.get (i := i) (v := v) b (by simpa using e)
    exact ⟨d, by simpa using h1, h2⟩
theorem TpAll.ints : ∀ (l : List Nat), TpAll K H (l.map vn) (l.map pn)
  | [] => .nil
  | n :: r => .cons (.int _) (TpAll.ints r)
/-- a pair of a text and a thing -/
theorem Tp.pair {a : Addr} {x : Str} {v : V} {d : PyData} (h : H a = some (.tup [.str x, v])) (hd : Tp K H v d) : Tp K H (.ref a) (.tuple [.str x, d]) := .tup h (.cons (.str x) (.cons hd .nil))
theorem Tp.pair_inv {v : V} {x : Str} {d : PyData} (h : Tp K H v (.tuple [.str x, d])) : ∃ a y, v = .ref a ∧ SqT K H a [.str x, y] ∧ Tp K H y d := by
  cases h with
  | tup hs ha =>
    cases ha with
    | cons h1 h2 =>
      cases h1
      cases h2 with
      | cons h3 h4 =>
        cases h4
        exact ⟨_, _, rfl, SqT.of hs, h3⟩
theorem Tp.tup_inv {v : V} {ds : List PyData} (h : Tp K H v (.tuple ds)) : ∃ a xs, v = .ref a ∧ SqT K H a xs ∧ TpAll K H xs ds := by
  cases h with
  | tup hs ha => exact ⟨_, _, rfl, SqT.of hs, ha⟩
theorem Tp.tup_get {v : V} {ds : List PyData} (h : Tp K H v (.tuple ds)) : ∃ a xs, v = .ref a ∧ H a = some (.tup xs) ∧ TpAll K H xs ds := by
  cases h with
  | tup hs ha => exact ⟨_, _, rfl, hs, ha⟩
end

/-- a list, a dict may change: the tuples stand -/
theorem tk_of {K : PySem.W.Frag} {H : Hp} {l : Addr} {o u : HO} (h : H l = some o) (h1 : ∀ xs, o ≠ .tup xs) : TK K H (upd H l u) := fun a xs z => by
  rw [upd_ne (ne_of z h (fun e => h1 xs e.symm))]
  exact z
theorem tk_lst {K : PySem.W.Frag} {H : Hp} {l : Addr} {ys : List V} {u : HO} (h : H l = some (.lst ys)) : TK K H (upd H l u) := tk_of h (fun _ z => nomatch z)
theorem tk_dK {K : PySem.W.Frag} {H : Hp} {l : Addr} {ys : List (Key × V)} {u : HO} (h : H l = some (.dK ys)) : TK K H (upd H l u) := tk_of h (fun _ z => nomatch z)
theorem SameX.tkl {K : PySem.W.Frag} {H H' : Hp} {a : Addr} {ys : List V} (e : SameX [a] H H') (h : H a = some (.lst ys)) : TK K H H' := SameX.tk e fun x hx => by
  obtain rfl := List.mem_singleton.mp hx
  exact fun xs z => by (rw [h] at z; cases z)
theorem TK.trans {K : PySem.W.Frag} {H H1 H2 : Hp} (a : TK K H H1) (b : TK K H1 H2) : TK K H H2 := fun c xs h => b c xs (a c xs h)

def ctn (cs : List Nat) (p : Nat) : List Nat := (plc (row cs p)).map (cel cs)
def tgd (rs : List (Nat × Nat)) (c : Nat) : PyData := match tgt rs c with
  | some (i, j) => .tuple [.int (i : Int), .int (j : Int)]
  | none => .none
def isF (cs : List Nat) : Bo → Bool
  | .bx _ p _ _ => decide (cel cs p = 3)
mutual
def da1 (fr : Bool) (cs : List Nat) (rs : List (Nat × Nat)) : Bo → PyData
  | .bx _ p _ ks =>
    if cel cs p = 1 then .tuple [.str "group", .tuple (daL fr cs rs ks)]
    else if cel cs p = 2 then .tuple [.str "data", .tuple ((ctn cs p).map pn)]
    else if cel cs p = 3 then .tuple [.str "free", .int ((cel cs (p + 1) : Int) - 2)]
    else .tuple [.str "table", .tuple ((ctn cs p).map (tgd rs))]
def daL (fr : Bool) (cs : List Nat) (rs : List (Nat × Nat)) : List Bo → List PyData
  | [] => []
  | b :: r => if fr = false ∧ isF cs b = true then daL fr cs rs r else da1 fr cs rs b :: daL fr cs rs r
end
theorem cut_ctn {cs : List Nat} {p : Nat} (h2 : 2 ≤ cel cs (p + 1)) (h : p + cel cs (p + 1) ≤ cs.length) : cutV (cs.map vn) (some ((p : Int) + 2)) (some ((p : Int) + (cel cs (p + 1) : Int))) = (ctn cs p).map vn := by
  unfold cutV
  rw [show ((p : Int) + 2) = ((p + 2 : Nat) : Int) by omega, show ((p : Int) + (cel cs (p + 1) : Int)) = ((p + cel cs (p + 1) : Nat) : Int) by omega, HT.sIx_nat, HT.sIx_nat, List.length_map]
  rw [show min (p + 2) cs.length = p + 2 by omega, show min (p + cel cs (p + 1)) cs.length = p + cel cs (p + 1) by omega]
  rw [show p + cel cs (p + 1) - (p + 2) = cel cs (p + 1) - 2 by omega]
  refine List.ext_getElem? fun i => ?_
  unfold ctn plc row
  rw [List.getElem?_take, List.getElem?_drop, List.map_map, List.map_map, List.getElem?_map, List.getElem?_map]
  show (if i < cel cs (p + 1) - 2 then (cs[p + 2 + i]?).map vn else none) = ((List.range (cel cs (p + 1) - 2))[i]?).map fun i => vn (cel cs (p + 2 + i))
  by_cases hi : i < cel cs (p + 1) - 2
  · have hl : p + 2 + i < cs.length := by omega
    rw [if_pos hi, List.getElem?_range hi, Option.map_some, ← List.getElem?_map, cel_some hl]
  · rw [if_neg hi, List.getElem?_eq_none (by rw [List.length_range]; omega)]
    rfl
/-- all its entries are places of cells in data -/
def Good (cs : List Nat) (rs : List (Nat × Nat)) (hs : List Nat) : Prop := ∀ p ∈ hs, cel cs p = 4 → ∀ c ∈ ctn cs p, own rs c = true
end Bx

namespace Bx
open PySem PySem.Spec PyProof.Rows L2 C8
-- the places of the text
def top (i : Nat) : Stmt := PySem.Challenge.pw_boxshift_k01_whole_reading.main.body.getD i (.Pass ⟨0, 0, 0, 0⟩)
abbrev sIsBetween : Stmt := top 4
abbrev NIsBetween : List Str := ["value", "least", "most"]
theorem scIsBetween : FnScope NIsBetween ["value", "least", "most"] (fnScope sIsBetween) := fnScope_by (by decide +kernel)
abbrev sRead : Stmt := top 14
abbrev NRead : List Str := ["cells"]
theorem scRead : FnScope NRead ["cells"] (fnScope sRead) := fnScope_by (by decide +kernel)
abbrev sShapeOf : Stmt := top 15
abbrev NShapeOf : List Str := ["cells"]
theorem scShapeOf : FnScope NShapeOf ["cells"] (fnScope sShapeOf) := fnScope_by (by decide +kernel)
abbrev sFreeCells : Stmt := top 16
abbrev NFreeCells : List Str := ["cells", "at"]
theorem scFreeCells : FnScope NFreeCells ["cells"] (fnScope sFreeCells) := fnScope_by (by decide +kernel)
abbrev sFirstWrong : Stmt := top 17
abbrev NFirstWrong : List Str := ["cells", "wrong"]
theorem scFirstWrong : FnScope NFirstWrong ["cells"] (fnScope sFirstWrong) := fnScope_by (by decide +kernel)
abbrev sCheckFile : Stmt := top 18
abbrev NCheckFile : List Str := ["cells", "wrong"]
theorem scCheckFile : FnScope NCheckFile ["cells"] (fnScope sCheckFile) := fnScope_by (by decide +kernel)
abbrev sCheckCells : Stmt := top 19
abbrev NCheckCells : List Str := ["cells", "cell"]
theorem scCheckCells : FnScope NCheckCells ["cells"] (fnScope sCheckCells) := fnScope_by (by decide +kernel)
abbrev sIsCell : Stmt := top 20
abbrev NIsCell : List Str := ["value"]
theorem scIsCell : FnScope NIsCell ["value"] (fnScope sIsCell) := fnScope_by (by decide +kernel)
abbrev sWrongBox : Stmt := top 21
abbrev NWrongBox : List Str := ["cells", "begin", "end", "around", "at", "wrong"]
theorem scWrongBox : FnScope NWrongBox ["cells", "begin", "end", "around"] (fnScope sWrongBox) := fnScope_by (by decide +kernel)
abbrev sWrongHead : Stmt := top 22
abbrev NWrongHead : List Str := ["cells", "at", "end", "around", "left"]
theorem scWrongHead : FnScope NWrongHead ["cells", "at", "end", "around"] (fnScope sWrongHead) := fnScope_by (by decide +kernel)
abbrev sWrongEntry : Stmt := top 23
abbrev NWrongEntry : List Str := ["cells", "targets", "at", "place"]
theorem scWrongEntry : FnScope NWrongEntry ["cells"] (fnScope sWrongEntry) := fnScope_by (by decide +kernel)
abbrev sBoxPlaces : Stmt := top 24
abbrev NBoxPlaces : List Str := ["cells", "kind", "found", "at"]
theorem scBoxPlaces : FnScope NBoxPlaces ["cells", "kind"] (fnScope sBoxPlaces) := fnScope_by (by decide +kernel)
abbrev sContentPlaces : Stmt := top 25
abbrev NContentPlaces : List Str := ["cells", "at"]
theorem scContentPlaces : FnScope NContentPlaces ["cells", "at"] (fnScope sContentPlaces) := fnScope_by (by decide +kernel)
abbrev sDataTargets : Stmt := top 26
abbrev NDataTargets : List Str := ["cells", "targets", "number", "at", "index", "place"]
theorem scDataTargets : FnScope NDataTargets ["cells"] (fnScope sDataTargets) := fnScope_by (by decide +kernel)
abbrev sBoxesBetween : Stmt := top 27
abbrev NBoxesBetween : List Str := ["cells", "begin", "end", "targets", "boxes", "at"]
theorem scBoxesBetween : FnScope NBoxesBetween ["cells", "begin", "end", "targets"] (fnScope sBoxesBetween) := fnScope_by (by decide +kernel)
abbrev sBoxAt : Stmt := top 28
abbrev NBoxAt : List Str := ["cells", "at", "targets", "begin", "end", "entry"]
theorem scBoxAt : FnScope NBoxAt ["cells", "at", "targets"] (fnScope sBoxAt) := fnScope_by (by decide +kernel)
abbrev sWithoutFree : Stmt := top 29
abbrev NWithoutFree : List Str := ["boxes", "kept", "kind", "content"]
theorem scWithoutFree : FnScope NWithoutFree ["boxes"] (fnScope sWithoutFree) := fnScope_by (by decide +kernel)
abbrev sLCellAt : Stmt := top 31
abbrev NLCellAt : List Str := ["_law_script", "_law_k"]
theorem scLCellAt : FnScope NLCellAt ["_law_script", "_law_k"] (fnScope sLCellAt) := fnScope_by (by decide +kernel)
abbrev sLPick : Stmt := top 32
abbrev NLPick : List Str := ["_law_script", "_law_at", "_law_row"]
theorem scLPick : FnScope NLPick ["_law_script", "_law_at", "_law_row"] (fnScope sLPick) := fnScope_by (by decide +kernel)
abbrev sLKinds : Stmt := top 33
abbrev NLKinds : List Str := ["_law_found"]
theorem scLKinds : FnScope NLKinds [] (fnScope sLKinds) := fnScope_by (by decide +kernel)
abbrev sLCount : Stmt := top 34
abbrev NLCount : List Str := ["_law_kinds_here", "_law_one"]
theorem scLCount : FnScope NLCount ["_law_kinds_here"] (fnScope sLCount) := fnScope_by (by decide +kernel)
abbrev sLMade : Stmt := top 35
abbrev NLMade : List Str := ["_law_script", "_law_at", "_law_kinds_here", "_law_sizes", "_law_taken", "_law_found", "_law_one", "_law_size", "_law_cells", "_law_targets", "_law_place_here", "_law_many", "_law_rows", "_law_turn", "_law_offset"]
theorem scLMade : FnScope NLMade ["_law_script", "_law_at", "_law_kinds_here", "_law_sizes", "_law_taken"] (fnScope sLMade) := fnScope_by (by decide +kernel)
abbrev sLShape : Stmt := top 36
abbrev NLShape : List Str := ["_law_script", "_law_at", "_law_kinds_here", "_law_sizes", "_law_turn"]
theorem scLShape : FnScope NLShape ["_law_script", "_law_at", "_law_kinds_here"] (fnScope sLShape) := fnScope_by (by decide +kernel)
abbrev sLGapsIn : Stmt := top 37
abbrev NLGapsIn : List Str := ["_law_boxes", "_law_word", "_law_content"]
theorem scLGapsIn : FnScope NLGapsIn ["_law_boxes"] (fnScope sLGapsIn) := fnScope_by (by decide +kernel)
abbrev sLLength : Stmt := top 38
abbrev NLLength : List Str := ["_law_boxes", "_law_word", "_law_content"]
theorem scLLength : FnScope NLLength ["_law_boxes"] (fnScope sLLength) := fnScope_by (by decide +kernel)
abbrev sLGaps : Stmt := top 39
abbrev NLGaps : List Str := ["_law_script", "_law_at", "_law_many", "_law_spare", "_law_found", "_law_turn", "_law_size"]
theorem scLGaps : FnScope NLGaps ["_law_script", "_law_at", "_law_many", "_law_spare"] (fnScope sLGaps) := fnScope_by (by decide +kernel)
abbrev sLTokens : Stmt := top 40
abbrev NLTokens : List Str := ["_law_boxes", "_law_found", "_law_word", "_law_content", "_law_one"]
theorem scLTokens : FnScope NLTokens ["_law_boxes"] (fnScope sLTokens) := fnScope_by (by decide +kernel)
abbrev sLKnown : Stmt := top 41
abbrev NLKnown : List Str := ["_law_before", "_law_shape_here", "_law_gaps_here", "_law_cells", "_law_place_here", "_law_rest", "_law_opened", "_law_entries", "_law_targets", "_law_number", "_law_offset", "_law_word", "_law_value", "_law_size", "_law_index", "_law_old", "_law_begin", "_law_where", "_law_target"]
theorem scLKnown : FnScope NLKnown ["_law_before", "_law_shape_here", "_law_gaps_here"] (fnScope sLKnown) := fnScope_by (by decide +kernel)
abbrev sLCost : Stmt := top 42
abbrev NLCost : List Str := ["_law_before", "_law_cells", "_law_place_here"]
theorem scLCost : FnScope NLCost ["_law_before", "_law_cells"] (fnScope sLCost) := fnScope_by (by decide +kernel)
abbrev sLFile : Stmt := top 43
abbrev NLFile : List Str := ["_law_before", "_law_shape_here", "_law_gaps_here", "_law_cells", "_law_many", "_law_place_here"]
theorem scLFile : FnScope NLFile ["_law_before", "_law_shape_here", "_law_gaps_here"] (fnScope sLFile) := fnScope_by (by decide +kernel)
abbrev sLWalk : Stmt := top 44
abbrev NLWalk : List Str := ["_law_cells", "_law_begin", "_law_end", "_law_depth", "_law_notes", "_law_found", "_law_kind", "_law_size", "_law_inside", "_law_boxes", "_law_place_here"]
theorem scLWalk : FnScope NLWalk ["_law_cells", "_law_begin", "_law_end", "_law_depth", "_law_notes"] (fnScope sLWalk) := fnScope_by (by decide +kernel)
abbrev sLTold : Stmt := top 45
abbrev NLTold : List Str := ["_law_boxes", "_law_cells", "_law_notes", "_law_with_free", "_law_found", "_law_word", "_law_content", "_law_targets", "_law_place_here", "_law_row", "_law_inside"]
theorem scLTold : FnScope NLTold ["_law_boxes", "_law_cells", "_law_notes", "_law_with_free"] (fnScope sLTold) := fnScope_by (by decide +kernel)
abbrev sLCellsRight : Stmt := top 46
abbrev NLCellsRight : List Str := ["_law_cells", "_law_notes", "_law_found", "_law_good", "_law_inside", "_law_bad", "_law_call", "_law_place_here"]
theorem scLCellsRight : FnScope NLCellsRight ["_law_cells"] (fnScope sLCellsRight) := fnScope_by (by decide +kernel)
abbrev sLPlace : Stmt := top 47
abbrev NLPlace : List Str := ["_law_call", "_law_cells", "error"]
theorem scLPlace : FnScope NLPlace ["_law_call", "_law_cells"] (fnScope sLPlace) := fnScope_by (by decide +kernel)
abbrev sLaw : Stmt := top 48
abbrev NLaw : List Str := ["_law_script", "_law_shape_here", "_law_cells", "_law_turn", "_law_bent", "_law_draw", "_law_place_here"]
theorem scLaw : FnScope NLaw ["_law_script"] (fnScope sLaw) := fnScope_by (by decide +kernel)
/-- what the top holds under the names that the defs read -/
structure Txt (mg : Str → Option Value) : Prop where
  len : mg "len" = none
  isinstance : mg "isinstance" = none
  sum : mg "sum" = none
  int : mg "int" = none
  bool : mg "bool" = none
  list : mg "list" = none
  tuple : mg "tuple" = none
  range : mg "range" = none
  enumerate : mg "enumerate" = none
  cGROUP : ∃ u, mg "GROUP" = some u ∧ RelV (.int 1) u
  cDATA : ∃ u, mg "DATA" = some u ∧ RelV (.int 2) u
  cFREE : ∃ u, mg "FREE" = some u ∧ RelV (.int 3) u
  cTABLE : ∃ u, mg "TABLE" = some u ∧ RelV (.int 4) u
  cHEAD : ∃ u, mg "HEAD" = some u ∧ RelV (.int 2) u
  cMOST_CELLS : ∃ u, mg "MOST_CELLS" = some u ∧ RelV (.int 30) u
  cLARGEST_CELL : ∃ u, mg "LARGEST_CELL" = some u ∧ RelV (.int 99) u
  cMOST_GROUPS_AROUND : ∃ u, mg "MOST_GROUPS_AROUND" = some u ∧ RelV (.int 1) u
end Bx

namespace Bx
open PySem PySem.Spec PyProof.Rows L2 C8

/-- its __init__'s text -/
def supB (txt p : Str) (q0 q1 q2 q3 q4 q5 q6 q7 q8 r0 r1 r2 r3 : Pos) : List Stmt :=
  [.Expr (.Call (.Attribute (.Call (.Name "super" q0) [] [] q1) "__init__" q2) [.JoinedStr [.Constant (.str txt) 0 q3, .FormattedValue (.Name p q4) (-1) none q5] q6] [] q7) q8,
    .Assign [.Attribute (.Name "self" r0) p r1] (.Name p r2) r3]
structure SupI (p : Str) (sc : Scope) : Prop where
  kind : sc.kind = .function
  co : sc.isCoroutine = false
  gen : sc.isGenerator = false
  s1 : sc.names.lookup ("self" : Str) = some .local
  s2 : sc.names.lookup p = some .local
  s3 : sc.names.lookup ("__class__" : Str) = some .free
  s4 : sc.names.lookup ("super" : Str) = some .globalImplicit
  ne : ("self" : Str) ≠ p
  fr : ∀ y ∈ sc.names, y.2 = .free → y.1 = "__class__"
  nc : ∀ y ∈ sc.names, y.2 ≠ .cell
  d1 : (p == ("__debug__" : Str)) = false
  d2 : (p == ("__classdict__" : Str)) = false

/-- {x}, x None or an int -/
def tFmtN (te : TE) : TE := fun σ H Q => te σ H fun x H1 => (x = .non ∧ Q (.str "None") H1) ∨ ∃ i : Int, x = .int i ∧ i.natAbs.log2 < 1920 ∧ Q (.str (toString i)) H1
theorem pe_fmtN {X : Cx} {e : Expr} {te : TE} {pos : Pos} (he : PE X e te) : PE X (.FormattedValue e (-1) none pos) (tFmtN te) := by
  refine ⟨fun pins s σ H Q I h => ?_⟩
  refine wpAny_FormattedValue_plain (thn (he.run pins s σ H _ I h) fun v s1 hv => ?_)
  obtain ⟨x, H1, I1, r1, q⟩ := hv
  rcases q with ⟨rfl, q⟩ | ⟨i, rfl, hz, q⟩
  · cases r1
    exact wpAny_formatField_none ⟨.str "None", H1, I1.tok _, ⟨_, rfl⟩, q⟩
  · obtain ⟨t, rfl⟩ := r1
    exact wpAny_formatField_int hz ⟨.str (toString i), H1, I1.tok _, ⟨_, rfl⟩, q⟩

abbrev envS (qual : Str) (scope : Scope) (L f : Addr) (cd : Value) (cc : Addr) : Env := PySem.W.ksEnv qual scope L f cd cc
/-- the context of such an __init__'s body -/
def cxS (CX : CXT) (P : Program) (w : World) (K : PySem.W.Frag) (mg : Str → Option Value) (base : Heap) (N : List Str) (qual : Str) (scope : Scope) (f : Addr) (cd : Value) (cc : Addr) (A : Around) (outer : List Env) (s : Shared) (H : Hp) (E : XK) : Cx where
  prog := P
  w := w
  K := K
  mg := mg
  base := base
  A := A.deeper (envS qual scope s.heap.objs.size f cd cc)
  N := N
  s_0 := s
  H_0 := H
  env := envS qual scope s.heap.objs.size f cd cc
  outer := outer
  stack := envS qual scope s.heap.objs.size f cd cc :: outer
  ex := []
  calm := true
  fn := fun x => x != "__class__"
  pn := []
  xe := fun e s' => wpAny (model P w) (A.deeper (envS qual scope s.heap.objs.size f cd cc)) (leaving (envS qual scope s.heap.objs.size f cd cc) e) (fun _ s'' => CX outer H s E e s'') (fun e' s'' => CX outer H s E e' s'') s'

section
variable {CX : CXT} {P : Program} {w : World} {K : PySem.W.Frag} {mg : Str → Option Value} {base : Heap} {p qual : Str} {scope : Scope} {f cc D : Addr} {cd : Value} {A : Around} {outer : List Env} {s : Shared} {H : Hp} {E : XK} {u0 u1 : Value} {v0 v1 : V}
theorem inv_sup {cl : Value} {cld : Option Addr} {csl : Array (Option Value)} {h1 : Heap} {tk : Nat} (S : SupI p scope) (hd : A.handled = none) (e0 : Env0 P w K mg base A outer s H) (hcell : K.lookup cc = some ⟨cl, cld, .cell (some (.ref D)), csl⟩)
    (hns : h1.Ns s.heap.objs.size (fun x => ([("self", u0), (p, u1)] : List (Str × Value)).reverse.lookup x)) (hk : ∀ b o, s.heap.get? b = some o → h1.get? b = some o) (r0 : RelV v0 u0) (r1 : RelV v1 u1) :
    Inv (cxS CX P w K mg base ["self", p] qual scope f cd cc A outer s H E) [] [some v0, some v1] H { s with heap := h1, toks := tk } := by
  have noA : ∀ b : Addr, b ∉ (cxS CX P w K mg base ["self", p] qual scope f cd cc A outer s H E).ex := fun b z => absurd (show b ∈ ([] : List Addr) from z) (by simp)
  have hb : base.get? cc = some ⟨cl, cld, .cell (some (.ref D)), csl⟩ := e0.mod.kin _ _ hcell
  have cells : ∀ x c, (cxS CX P w K mg base ["self", p] qual scope f cd cc A outer s H E).env.cells.lookup x = some c → x = "__class__" ∧ c = cc := fun x c h => by
    have h : ([("__class__", cc)] : List (Str × Addr)).lookup x = some c := h
    by_cases e : x = "__class__"
    · subst e
      simp [List.lookup] at h
      exact ⟨rfl, h.symm⟩
    · have e' : (x == ("__class__" : Str)) = false := by simpa using e
      simp [List.lookup, e'] at h
  refine ⟨⟨e0.mod, S.kind, rfl, rfl, Nat.le_refl _, fun y z c a b => ((cells y c a).1).trans ((cells z c b).1).symm, fun y hy => ?_, fun y c hf h => ?_, fun _ => hd, Around.frames_deeper e0.frames, .inr ⟨rfl, rfl⟩, fun b z => absurd z (noA b), e0.bs, e0.bsz, fun b _ _ => noA b, fun b z => absurd z (noA b), e0.funs, e0.frf⟩,
    rfl, e0.bare, Un.kept hk, ⟨_, hns, fun i y v a b c => ?_⟩, fun y c h => ?_, e0.hok.fresh (Nat.le_refl _), fun y c h => ?_, fun p hp => absurd (show p ∈ ([] : List (Addr × Obj)) from hp) (by simp), e0.hok.kept hk, rfl⟩
  · have hy : scope.names.lookup y = some .cell ∨ scope.names.lookup y = some .free := hy
    rcases hy with hy | hy
    · exact absurd rfl (S.nc _ (PySem.mem_of_lookup hy))
    · have z := S.fr _ (PySem.mem_of_lookup hy) rfl
      dsimp only at z
      exact ⟨cc, by show ([("__class__", cc)] : List (Str × Addr)).lookup y = some cc; rw [z]; rfl⟩
  · have hf : (y != ("__class__" : Str)) = true := hf
    rw [(cells y c h).1] at hf
    exact absurd hf (by decide)
  · match i, a, b with
    | 0, a, b =>
      cases a
      cases b
      refine ⟨u0, r0, .inl ⟨S.s1, ?_⟩⟩
      have e' : (("self" : Str) == p) = false := by simpa using S.ne
      show ([(p, u1), ("self", u0)] : List (Str × Value)).lookup ("self" : Str) = some u0
      simp [List.lookup, e']
    | 1, a, b =>
      cases a
      cases b
      refine ⟨u1, r1, .inl ⟨S.s2, ?_⟩⟩
      show ([(p, u1), ("self", u0)] : List (Str × Value)).lookup p = some u1
      simp [List.lookup]
    | i + 2, a, b => exact absurd a (by simp [cxS])
  · rw [(cells y c h).2]
    exact ⟨_, _, hk _ _ (e0.bs _ _ hb).1, rfl⟩
  · rw [(cells y c h).2]
    exact (e0.bs _ _ hb).2
end
end Bx

namespace Bx
open PySem PySem.Spec PyProof.Rows L2 C8

/-- what the written part says of the class at D and of its __init__ -/
structure SupT (P : Program) (K : PySem.W.Frag) (mg : Str → Option Value) (p txt qual : Str) (scope : Scope) (params : Arguments) (D cc : Addr) (cdv : Value) : Prop where
  S : SupI p scope
  ps : ∃ ar, (params.posonlyargs ++ params.args).head? = some ar ∧ ar.arg = "self"
  code : ∃ cda ccl cdd vs ccs file tf, cdv = .ref cda ∧ K.lookup cda = some ⟨ccl, cdd, .fields vs, ccs⟩ ∧ vs[2]? = some (.str file tf) ∧ ((P.main.file : Str) == file) = true
  cell : ∃ cl cld csl, K.lookup cc = some ⟨cl, cld, .cell (some (.ref D)), csl⟩
  T : OexC K D
  sub : PySem.W.mroIn K D (.ref D) = some true
  sup : PySem.W.ks_superIn K D D "__init__" = some (some (.builtin "ValueError.__init__"))
  ve : PySem.W.subIn K (.ref D) (.type "ValueError") = some true
  opq : PySem.W.nsIn K cStatics "thirdparty.any" = some none
  noS : mg "super" = none
  top : (P.main.scope.names.lookup ("super" : Str)).isSome = false
  no : PySem.W.findIn K (.ref D) p = some none

section
variable {prog : Program} {w : World} {M : Model} {A : Around} {E : Value → Shared → Prop}
theorem cw1 {pos : Pos} {env : Env} {e : Expr} {rest : List Expr} {s : Shared} {u x : Addr} {i : String} {Q : Value → Shared → Prop}
    (h : wpAny M A (spliced (backTo pos (starEach (e :: rest) env))) (fun vs s₁ => PySem.W.KxsAt i u x s₁.heap ∧ wpAny M A (call (.ref u) vs) Q E s₁) E s)
    (he : starEach (e :: rest) env = (false, eval e env) :: starEach rest env := by rfl) (hplain : (backTo pos (starEach rest env)).any (·.1) = false := by rfl) :
    wpAny M A (callWith pos (.ref u) [] (backTo pos (starEach (e :: rest) env)) []) Q E s := by
  rw [he] at h ⊢
  refine PySem.W.kxs_callWith (i := i) (x := x) (by show (false || (backTo pos (starEach rest env)).any (·.1)) = false; rw [hplain]; rfl) ?_
  exact PySem.Calls.evalArgs_plain h
end

/-- the method-wrapper of super().__init__, called -/
theorem sup_call {X : Cx} {pins : List (Addr × Obj)} {σ : L2.St} {H : Hp} {s : Shared} {a D u : Addr} {us : List Value} {Q : Value → Shared → Prop} {E : Value → Shared → Prop} {A : Around} (T : OexC X.K D) (I : Inv X pins σ H s) (e : H a = some (exo a D none))
    (hu : s.heap.get? u = some (PySem.W.kxs_mw "ValueError.__init__" a)) (hl : us.length ≤ sizeLine) (h : ∀ s', Inv X pins σ H s' → Q .none s') : wpAny (model X.prog X.w) A (call (.ref u) us) Q E s := by
  obtain ⟨nm, q, N, bs, bm, sn, sub, ab, col, dd, k0, k1, k2, k3, k5, hC, hbm⟩ := T.cls
  obtain ⟨t1, ho⟩ := exo_at I.hok e
  obtain ⟨hp, g, d, t, os⟩ := s
  refine wpAny_call (codeAny_of_tree ?_)
  show wpAny _ A.in1 (callAny (.ref u) ⟨us, []⟩) _ _ _
  simp only [callAny]
  refine wpAny_bind (wpAny_load hu ?_)
  simp only [PySem.W.kxs_mw, show (Value.type "method-wrapper" == Value.type "method" || Value.type "method-wrapper" == Value.type "builtin_function_or_method" || Value.type "method-wrapper" == Value.type "method-wrapper") = true by decide, if_true]
  refine PySem.W.KFB.if_so (by decide) ?_
  refine wpAny_bind (PySem.W.check_bound_init F.excBase_ValueError.toExcCallFacts (I.kIn _ _ hC) ho rfl ?_)
  refine wpAny_bind (wpAny_pure (wpAny_pure ?_))
  refine ⟨plainId_quiet F.excBase_ValueError.init.plain _, codeAny_builtin F.excBase_ValueError.initEntry ?_⟩
  refine PySem.W.exc_init_tree (cls := .ref D) (t0 := t1) (dv := none) (c2 := .none) (c3 := .none) (b4 := .bool false) ho hl fun h' k hx _ => ?_
  have J := I.write (t' := t) (x := a) (e := a) (o := exo a D none) (by rw [e]; exact True.intro) (.inl rfl) k ⟨_, hx⟩ (exo_ok hx)
  have eu : upd H a (exo a D none) = H := by
    funext b
    by_cases hb : b = a
    · rw [hb, upd_same, e]
    · rw [upd_ne hb]
  rw [eu] at J
  exact h _ J
end Bx

namespace Bx
open PySem PySem.Spec PyProof.Rows L2 C8

def spSup (D : Addr) (p txt : Str) : Sp := fun vs H Q _ => ∃ (a : Addr) (y : V), vs = [.ref a, y] ∧ (y = .non ∨ ∃ i : Int, y = .int i ∧ i.natAbs.log2 < 1920 ∧ (txt ++ toString i : Str).length ≤ sizeLine) ∧ H a = some (exo a D none) ∧
  ∀ dx, H dx = none → dx ≠ a → Q .non (upd (upd H dx (exd dx [(p, y)])) a (exo a D (some dx)))

theorem b_super : bootBuiltins "super" = some (.type "super") := by decide +kernel
theorem he_of {o : Expr} {name : Str} {q2 q7 : Pos} {e : Expr} {env : Env} (hq : (q2.endLine == q7.line) = true) (hs : starEach [e] env = [(false, eval e env)]) :
    eval (.Call (.Attribute o name q2) [e] [] q7) env = (do
      let ov ← attributeBase o name env (eval o env)
      standAt q2.atName
      let (f, first) ← holding [ov] (getMethod ov name (do return (← importBound o env).getD true))
      callWith q7 f first (backTo q7 (starEach [e] env)) []) := by
  have e1 : ∀ few, methodCallPos few o env q2 q7 = pure q7 := fun few => by
    unfold methodCallPos
    rw [hq, Bool.or_true, if_pos rfl]
  rw [arm_eval_Call]
  simp only [methodCall, e1]
  rw [hs]
  rfl
section
variable {P : Program} {w : World} {K : PySem.W.Frag} {mg : Str → Option Value} {base : Heap} {CX : CXT} {k : Nat} {f cc D cda a : Addr} {name qual p txt : Str} {params : Arguments} {scope : Scope} {dV kV doc pm cdv ct oc : Value} {an od : Option Addr} {osl : Array (Option Value)}
  {q0 q1 q2 q3 q4 q5 q6 q7 q8 r0 r1 r2 r3 : Pos} {A : Around} {outer : List Env} {s s1 : Shared} {H : Hp} {E : XK} {y : V} {Q : VK}
theorem sup_body (hq : (q2.endLine == q7.line) = true) (lk : K.lookup f = some ⟨oc, od, .func (PySem.W.ksFn name qual params (supB txt p q0 q1 q2 q3 q4 q5 q6 q7 q8 r0 r1 r2 r3) scope dV kV doc pm an (Value.ref cda) ct cc), osl⟩) (Z : SupT P K mg p txt qual scope params D cc (.ref cda)) (ht : (txt ++ "None" : Str).length ≤ sizeLine) (ht0 : txt.length ≤ sizeLine)
    (hy : y = .non ∨ ∃ i : Int, y = .int i ∧ i.natAbs.log2 < 1920 ∧ (txt ++ toString i : Str).length ≤ sizeLine) (ea : H a = some (exo a D none)) (q : ∀ dx, H dx = none → dx ≠ a → Q .non (upd (upd H dx (exd dx [(p, y)])) a (exo a D (some dx))))
    (I : Inv (cxS CX P w K mg base ["self", p] qual scope f (Value.ref cda) cc A outer s H E) [] [some (V.ref a), some y] H s1) :
    _root_.PySem.wpAt (model P w) (cxS CX P w K mg base ["self", p] qual scope f (Value.ref cda) cc A outer s H E).A (.func (supB txt p q0 q1 q2 q3 q4 q5 q6 q7 q8 r0 r1 r2 r3) (cxS CX P w K mg base ["self", p] qual scope f (Value.ref cda) cc A outer s H E).env) (execs (supB txt p q0 q1 q2 q3 q4 q5 q6 q7 q8 r0 r1 r2 r3) (cxS CX P w K mg base ["self", p] qual scope f (Value.ref cda) cc A outer s H E).env) (SP (cxS CX P w K mg base ["self", p] qual scope f (Value.ref cda) cc A outer s H E) [] { nx := fun _ H' => Q .non H', rt := Q }) (cxS CX P w K mg base ["self", p] qual scope f (Value.ref cda) cc A outer s H E).xe s1 := by
  have gS : Gl (cxS CX P w K mg base ["self", p] qual scope f (Value.ref cda) cc A outer s H E) "super" := Z.S.s4
  have kC : (cxS CX P w K mg base ["self", p] qual scope f (Value.ref cda) cc A outer s H E).env.kindOf "__class__" = some .free := Z.S.s3
  have kS : (cxS CX P w K mg base ["self", p] qual scope f (Value.ref cda) cc A outer s H E).env.kindOf "self" = some .local := Z.S.s1
  have kP : (cxS CX P w K mg base ["self", p] qual scope f (Value.ref cda) cc A outer s H E).env.kindOf p = some .local := Z.S.s2
  have hKin : K.In s1.heap := I.kIn
  obtain ⟨cl, cld, csl, hcell⟩ := Z.cell
  obtain ⟨ar, har, hare⟩ := Z.ps
  obtain ⟨cda', ccl, cdd, cvs, ccs, file, tf, ez, hcode, hvs, hfile⟩ := Z.code
  cases ez
  obtain ⟨nm, qq, N, bs, bm, sn, sub, ab, col, dd, k0, k1, k2, k3, k5, hC, hbm⟩ := Z.T.cls
  have hcl : PySem.W.clsIn K D = some { name := nm, bases := bs, mro := .ref D :: bm, ns := N, qualname := qq, hasDict := true, slotNames := sn, subclasses := sub, abstract := ab, collection := col, hasDel := false } := by unfold PySem.W.clsIn; rw [hC] <;> rfl
  obtain ⟨t1, ho⟩ := exo_at I.hok ea
  have hDs : (PySem.W.Looks (model P w) s1.heap (isSubtype (.ref D) (.ref D)) true) := PySem.W.looks_mroIn hKin Z.sub
  have hveI : PySem.W.InstAt s1.heap a ({ cls := .ref D, dict := none, data := .fields #[.ref t1, .none, .none, .none, .bool false, .none] } : Obj) D none := ⟨ho, rfl, rfl, trivial⟩
  -- the tail: self.p = p
  have tail : ∀ s2, Inv (cxS CX P w K mg base ["self", p] qual scope f (Value.ref cda) cc A outer s H E) [] [some (V.ref a), some y] H s2 → wpAny (model P w) (cxS CX P w K mg base ["self", p] qual scope f (Value.ref cda) cc A outer s H E).A (execs [.Assign [.Attribute (.Name "self" r0) p r1] (.Name p r2) r3] (cxS CX P w K mg base ["self", p] qual scope f (Value.ref cda) cc A outer s H E).env) (SP (cxS CX P w K mg base ["self", p] qual scope f (Value.ref cda) cc A outer s H E) [] { nx := fun _ H' => Q .non H', rt := Q }) (cxS CX P w K mg base ["self", p] qual scope f (Value.ref cda) cc A outer s H E).xe s2 := by
    intro s2 I2
    refine (pss_one (ps_ost (f := p) (pe_var (i := 0) rfl (.inl kS)) (pe_var (i := 1) rfl (.inl kP) Z.S.d1 Z.S.d2))).run [] s2 _ H _ I2 ?_
    exact ⟨y, rfl, .ref a, rfl, a, D, rfl, Z.T, Z.no, .inl ⟨ea, fun dx hn hne => q dx hn hne⟩⟩
  refine ks_wpAt_execs_cons (ks_wpAt_Expr_any (hi := by unfold interactive; rw [show (cxS CX P w K mg base ["self", p] qual scope f (Value.ref cda) cc A outer s H E).env.scope.kind = .function from Z.S.kind]; rfl) (ks_wpAt_MethodCall (he := he_of hq rfl) ?_))
  refine ks_wpAt_super_base gS kC rfl rfl (hKin _ _ lk) rfl har rfl (hKin _ _ hcode) rfl hvs hfile Z.top ?_
  obtain ⟨mb, hb1, hb2⟩ := I.mod.blt
  refine PySem.W.ks_loadName_global Z.S.kind gS (PySem.Calls.loadGlobal_builtin (by rw [I.ok.glob]; exact I.mod.glob.keeps I.bk) Z.noS (by rw [I.ok.blt]; exact hb1.keeps I.bk) ((hb2 "super" (by decide)).trans b_super) ⟨rfl, ?_⟩)
  refine wpAny_loadName_free Z.S.kind kC rfl ⟨_, hKin _ _ hcell, rfl⟩ ?_
  have ldS : ∀ {s2 : Shared} {Q' : Value → Shared → Prop} {E' : Value → Shared → Prop}, Inv (cxS CX P w K mg base ["self", p] qual scope f (Value.ref cda) cc A outer s H E) [] [some (V.ref a), some y] H s2 → Q' (.ref a) s2 → wpAny (model P w) (cxS CX P w K mg base ["self", p] qual scope f (Value.ref cda) cc A outer s H E).A (loadName (cxS CX P w K mg base ["self", p] qual scope f (Value.ref cda) cc A outer s H E).env "self") Q' E' s2 := by
    intro s2 Q' E' I2 hq'
    obtain ⟨m, hn, hlk⟩ := id I2.loc
    obtain ⟨u, ru, lu⟩ := hlk 0 "self" (.ref a) rfl rfl (.inl Z.S.s1)
    obtain rfl : u = Value.ref a := ru
    rcases lu with ⟨_, hm⟩ | ⟨hz, _⟩
    · exact wpAny_loadName_local Z.S.kind kS hn hm hq'
    · rcases hz with hz | hz
      · rw [kS] at hz
        cases hz
      · rw [kS] at hz
        cases hz
  rw [hare]
  refine ldS I ?_
  have hDo := hKin _ _ hC
  obtain ⟨hp, g, d, t, os⟩ := s1
  refine ks_wpAny_isType_cls hDo rfl ⟨rfl, ?_⟩
  refine ks_wpAny_call_super hDo rfl ho rfl (fun c z => by cases z) hDs (fun h' e1 k1 => ?_)
  have I1 : Inv (cxS CX P w K mg base ["self", p] qual scope f (Value.ref cda) cc A outer s H E) [] [some (V.ref a), some y] H ⟨h', g, d, t, os⟩ := I.kept k1
  have hKin1 : K.In h' := I1.kIn
  have hDa : a ≠ D := fun z => by
    rw [z, hDo] at ho
    cases ho
  refine PySem.W.kxs_getMethod (l₀ := .ref D :: bm) PySem.W.kxs_ValueError e1 (PySem.W.looks_opaque hKin1 Z.opq) ((PySem.W.looks_clsIn hKin1 hcl).andThen .now) rfl hKin1 ?_ ?_ hDa rfl ?_
  · have z := Z.sup
    unfold PySem.W.ks_superIn at z
    rw [hcl] at z
    exact z
  · exact (PySem.W.InstAt.type (M := model P w) (⟨k1 _ _ ho, rfl, rfl, trivial⟩ : PySem.W.InstAt h' a ({ cls := .ref D, dict := none, data := .fields #[.ref t1, .none, .none, .none, .bool false, .none] } : Obj) D none)).andThen (PySem.W.looks_subIn hKin1 Z.ve)
  have I2 : Inv (cxS CX P w K mg base ["self", p] qual scope f (Value.ref cda) cc A outer s H E) [] [some (V.ref a), some y] H ⟨h'.push (PySem.W.kxs_mw "ValueError.__init__" a), g, d, t + 1, os⟩ := I1.kept (t' := t + 1) fun b o z => Heap.get?_push_of_some _ z
  have hq2 : (h'.push (PySem.W.kxs_mw "ValueError.__init__" a)).get? h'.objs.size = some (PySem.W.kxs_mw "ValueError.__init__" a) := Heap.get?_push_at rfl rfl
  have I3 : Inv (cxS CX P w K mg base ["self", p] qual scope f (Value.ref cda) cc A outer s H E) [(h'.objs.size, PySem.W.kxs_mw "ValueError.__init__" a)] [some (V.ref a), some y] H ⟨h'.push (PySem.W.kxs_mw "ValueError.__init__" a), g, d, t + 1, os⟩ := I2.pins_of fun p hp => by
    rcases List.mem_cons.mp hp with rfl | hp
    · exact ⟨hq2, I1.hok.fresh (Nat.le_refl _), Nat.ne_of_gt I1.lt, I1.nofs (Nat.le_refl _), fun v z => by cases z⟩
    · exact absurd hp (by simp)
  have PAj : PA (cxS CX P w K mg base ["self", p] qual scope f (Value.ref cda) cc A outer s H E) [.JoinedStr [.Constant (.str txt) 0 q3, .FormattedValue (.Name p q4) (-1) none q5] q6] _ :=
    pa_cons (pe_joined (PJ.cons pe_str (PJ.cons (pe_fmtN (pe_var (i := 1) rfl (.inl kP) Z.S.d1 Z.S.d2)) PJ.nil))) pa_nil
  refine cw1 (i := "ValueError.__init__") (x := a) (thn (PAj.run q7 _ _ _ H (fun vs H' => vs.length = 1 ∧ H' = H) I3 ?_) fun us s3 ⟨vs, H3, I4, r4, h4, e4⟩ => ?_)
  · have e0 : Str.empty ++ txt = txt := by first | rfl | exact Str.empty_append _ | simp
    refine ⟨txt, rfl, by rw [e0]; exact ht0, ?_⟩
    rw [e0]
    refine ⟨y, rfl, ?_⟩
    rcases hy with rfl | ⟨i, rfl, hi, hz⟩
    · refine .inl ⟨rfl, "None", rfl, ht, ?_⟩
      exact ⟨rfl, rfl⟩
    · refine .inr ⟨i, rfl, hi, _, rfl, hz, ?_⟩
      exact ⟨rfl, rfl⟩
  · subst e4
    have hu := (I4.pin (h'.objs.size, PySem.W.kxs_mw "ValueError.__init__" a) (List.mem_append_right _ List.mem_cons_self)).1
    refine ⟨hu, sup_call Z.T I4 ea hu (by rw [← r4.length, h4, sizeLine_eq]; decide) fun s4 I5 => ?_⟩
    exact PySem.wpAt_of_wpAny (tail s4 (I5.pins_of fun p hp => absurd hp (by simp)))
end
section
variable {P : Program} {w : World} {K : PySem.W.Frag} {mg : Str → Option Value} {base : Heap} {CX : CXT} {k : Nat} {f cc D : Addr} {name qual p txt : Str} {params : Arguments} {scope : Scope} {dV kV doc pm cdv ct oc : Value} {an od : Option Addr} {osl : Array (Option Value)}
  {q0 q1 q2 q3 q4 q5 q6 q7 q8 r0 r1 r2 r3 : Pos}
theorem fn_sup (hq : (q2.endLine == q7.line) = true) (lk : K.lookup f = some ⟨oc, od, .func (PySem.W.ksFn name qual params (supB txt p q0 q1 q2 q3 q4 q5 q6 q7 q8 r0 r1 r2 r3) scope dV kV doc pm an cdv ct cc), osl⟩) (hcd : PySem.W.codeIn K cdv qual = true)
    (Z : SupT P K mg p txt qual scope params D cc cdv) (ht : (txt ++ "None" : Str).length ≤ sizeLine) (ht0 : txt.length ≤ sizeLine) :
    FnOk P w K mg base CX (k + 1) f (PySem.W.ksFn name qual params (supB txt p q0 q1 q2 q3 q4 q5 q6 q7 q8 r0 r1 r2 r3) scope dV kV doc pm an cdv ct cc) ["self", p] (spSup D p txt) := by
  have len : ∀ vs H Q E, spSup D p txt vs H Q E → vs.length = (["self", p] : List Str).length := fun vs H Q E h => by
    obtain ⟨a, y, rfl, _⟩ := h
    rfl
  refine ⟨len, fun A outer s H args us vs Q E hr e0 hb r hsp => ?_⟩
  obtain ⟨a, y, rfl, hy, ea, q⟩ := hsp
  obtain ⟨u0, u1, rfl, ru0, ru1⟩ : ∃ u0 u1, us = [u0, u1] ∧ RelV (.ref a) u0 ∧ RelV y u1 := by
    cases r with
    | cons x r' =>
      cases r' with
      | cons x' r'' =>
        cases r''
        exact ⟨_, _, rfl, x, x'⟩
  obtain rfl : u0 = Value.ref a := ru0
  have KX : K.In s.heap := e0.mod.kin.keeps fun b o e => (e0.bs b o e).1
  have lim : s.heap.NoLimit := e0.mod.nolimit.keeps fun b o e => (e0.bs b o e).1
  have hroom : A.depth < recursionLimit := hr.depth
  obtain ⟨cl, cld, csl, hcell⟩ := Z.cell
  obtain ⟨cda, ccl, cdd, cvs, ccs, file, tf, rfl, hcode, hvs, hfile⟩ := Z.code
  obtain ⟨nm, qq, N, bs, bm, sn, sub, ab, col, dd, k0, k1, k2, k3, k5, hC, hbm⟩ := Z.T.cls
  have hcl : PySem.W.clsIn K D = some { name := nm, bases := bs, mro := .ref D :: bm, ns := N, qualname := qq, hasDict := true, slotNames := sn, subclasses := sub, abstract := ab, collection := col, hasDel := false } := by unfold PySem.W.clsIn; rw [hC] <;> rfl
  refine ks_codeAny_call_defAt (binds := [("self", .ref a), (p, u1)]) hroom (KX _ _ lk) rfl lim (PySem.W.codeRec_of KX hcd) rfl hb Z.S.nc (fun x hx => ?_) (fun h1 hns hk => ?_) Z.S.co Z.S.gen Z.S.kind
  · rcases List.mem_cons.mp hx with rfl | hx
    · exact Z.S.s1
    · rcases List.mem_cons.mp hx with rfl | hx
      · exact Z.S.s2
      · exact absurd hx (by simp)
  have I : Inv (cxS CX P w K mg base ["self", p] qual scope f (.ref cda) cc A outer s H E) [] [some (V.ref a), some y] H { s with heap := h1, toks := s.toks + 2 } :=
    inv_sup (u0 := .ref a) (u1 := u1) (v0 := .ref a) (v1 := y) Z.S hr.hd e0 hcell hns hk rfl ru1
  refine ks_wpAt_mono (sup_body (Q := Q) hq lk Z ht ht0 hy ea q I) (fun fl s' hs => ?_) fun e s' x => x
  have fin0 : ∀ {σ' : L2.St} {H' : Hp} {v : V} {u : Value}, Inv (cxS CX P w K mg base ["self", p] qual scope f (.ref cda) cc A outer s H E) [] σ' H' s' → RelV v u → Q v H' → CE outer P w H s Q u s' :=
    fun {σ' H' v u} J rv q => ⟨v, H', J.os, J.bare, J.base, J.hok, rv, q⟩
  cases fl with
  | ret u =>
    obtain ⟨v, σ', H', J, rv, q⟩ := hs
    exact fin0 J rv q
  | next =>
    obtain ⟨σ', H', J, q⟩ := hs
    exact fin0 (v := V.non) (u := Value.none) J rfl q
  | brk =>
    obtain ⟨_, _, _, q⟩ := hs
    exact False.elim q
  | cont =>
    obtain ⟨_, _, _, q⟩ := hs
    exact False.elim q
end
end Bx

section
open PySem PySem.Spec PyProof.Rows L2 C8 Bx
local macro_rules | `(tactic| walk_at "rd") => `(tactic| repeat (first
  | with_reducible refine g_seq ?_ | with_reducible refine g_asg ?_ | with_reducible refine g_name ?_
  | ((with_reducible show tVar _ _ _ _); refine ⟨_, rfl, ?_⟩) | with_reducible refine g_c ?_ | with_reducible refine g_op ?_ | with_reducible refine g_test ?_ | with_reducible refine g_B ?_
  | with_reducible refine g_ifS ?_ | with_reducible refine g_ret ?_ | with_reducible refine g_retN ?_ | with_reducible refine g_drop ?_ | with_reducible refine g_nil ?_ | with_reducible refine g_cons ?_
  | with_reducible refine g_cb ?_ | with_reducible refine g_call ?_ | with_reducible refine g_not ?_ | with_reducible refine g_and ?_ | with_reducible refine g_or ?_ | with_reducible refine g_if ?_
  | with_reducible refine g_I0 ?_ | ((with_reducible refine g_eq ?_ ?_); exact rfl) | ((with_reducible refine g_ne ?_ ?_); exact rfl) | with_reducible refine g_chain ?_ | with_reducible refine g_tup ?_ | with_reducible refine g_lst ?_ | with_reducible refine g_bm ?_
  | with_reducible refine g_bl ?_ | ((with_reducible show tAug _ _ _ _ _ _); refine ⟨_, rfl, ?_⟩) | with_reducible refine g_ipI ?_ | with_reducible refine g_next ?_ | with_reducible refine g_break ?_ | with_reducible refine g_par ?_ | with_reducible refine g_bm0 ?_ | with_reducible refine g_sub ?_ | with_reducible refine g_int ?_ | with_reducible refine g_intB ?_ | with_reducible refine g_iSeq ?_ | with_reducible refine g_sl ?_ | with_reducible refine g_part ?_ | with_reducible refine g_nopart ?_ | with_reducible refine g_in ?_ | with_reducible refine g_yes ?_ | with_reducible refine g_for ?_ | with_reducible refine g_iList ?_ | with_reducible refine g_iTup ?_ | with_reducible refine g_iEnum ?_ | with_reducible refine g_iR1 ?_ | with_reducible refine g_lc ?_ | with_reducible refine g_lstRg ?_ | with_reducible refine g_rg2 ?_ | with_reducible refine g_rg1 ?_ | with_reducible refine g_dput ?_ | with_reducible refine g_dnotin ?_ | with_reducible refine g_din ?_ | with_reducible refine g_dget ?_ | with_reducible refine g_gcons ?_ | with_reducible refine g_gnil ?_ | with_reducible refine g_nn ?_
  | with_reducible refine iteT ?_ | with_reducible refine iteF ?_ | with_reducible refine g_nT ?_ | with_reducible refine g_nF ?_ | with_reducible refine isi_ii ?_ | with_reducible refine isi_ib ?_ | with_reducible refine isi_it ?_ | with_reducible refine isi_st ?_))
local macro_rules | `(tactic| walk_at "rd1") => `(tactic| repeat (first
  | with_reducible refine g_seq ?_ | with_reducible refine g_asg ?_ | with_reducible refine g_name ?_
  | ((with_reducible show tVar _ _ _ _); refine ⟨_, rfl, ?_⟩) | with_reducible refine g_c ?_ | with_reducible refine g_op ?_ | with_reducible refine g_test ?_ | with_reducible refine g_B ?_
  | with_reducible refine g_ifS ?_ | with_reducible refine g_ret ?_ | with_reducible refine g_retN ?_ | with_reducible refine g_drop ?_ | with_reducible refine g_nil ?_ | with_reducible refine g_cons ?_
  | with_reducible refine g_cb ?_ | with_reducible refine g_call ?_ | with_reducible refine g_not ?_ | with_reducible refine g_and ?_ | with_reducible refine g_or ?_ | with_reducible refine g_if ?_
  | with_reducible refine g_I0 ?_ | ((with_reducible refine g_eq ?_ ?_); exact rfl) | ((with_reducible refine g_ne ?_ ?_); exact rfl) | with_reducible refine g_chain ?_ | with_reducible refine g_tup ?_ | with_reducible refine g_bm ?_
  | with_reducible refine g_bl ?_ | ((with_reducible show tAug _ _ _ _ _ _); refine ⟨_, rfl, ?_⟩) | with_reducible refine g_ipI ?_ | with_reducible refine g_next ?_ | with_reducible refine g_break ?_ | with_reducible refine g_par ?_ | with_reducible refine g_bm0 ?_ | with_reducible refine g_sub ?_ | with_reducible refine g_int ?_ | with_reducible refine g_intB ?_ | with_reducible refine g_iSeq ?_ | with_reducible refine g_sl ?_ | with_reducible refine g_part ?_ | with_reducible refine g_nopart ?_ | with_reducible refine g_in ?_ | with_reducible refine g_yes ?_ | with_reducible refine g_for ?_ | with_reducible refine g_iList ?_ | with_reducible refine g_iTup ?_ | with_reducible refine g_iEnum ?_ | with_reducible refine g_iR1 ?_ | with_reducible refine g_lc ?_ | with_reducible refine g_lstRg ?_ | with_reducible refine g_rg2 ?_ | with_reducible refine g_rg1 ?_ | with_reducible refine g_dput ?_ | with_reducible refine g_dnotin ?_ | with_reducible refine g_din ?_ | with_reducible refine g_dget ?_ | with_reducible refine g_gcons ?_ | with_reducible refine g_gnil ?_ | with_reducible refine g_nn ?_
  | with_reducible refine iteT ?_ | with_reducible refine iteF ?_ | with_reducible refine g_nT ?_ | with_reducible refine g_nF ?_ | with_reducible refine isi_ii ?_ | with_reducible refine isi_ib ?_ | with_reducible refine isi_it ?_ | with_reducible refine isi_st ?_))

namespace Bx
/-- None or a place -/
def oV : Option Nat → V
  | none => .non
  | some n => .int (n : Int)
section
variable {P : Program} {w : World} {K : PySem.W.Frag} {mg : Str → Option Value} {base : Heap}
def spBetween : Sp := fun vs H Q _ => ∃ v l m : Int, vs = [.int v, .int l, .int m] ∧ Q (.bl (decide (l ≤ v ∧ v ≤ m))) H
theorem ok_isBetween {f : Addr} {fd : FuncData} (F : Def K mg "is_between" sIsBetween f fd) (b : Binds K fd ["value", "least", "most"] []) (T : Txt mg) : Cal P w K mg base 1 "is_between" spBetween [] := by
  refine cal0 F b .nil scIsBetween (fun vs H Q E h => ?_) (fun cdv A outer s H vs Q E hr h => ?_)
  · obtain ⟨v, l, m, rfl, _⟩ := h
    rfl
  obtain ⟨v, l, m, rfl, q⟩ := h
  refine ⟨_, (pss_cons (ps_if (PW.pt (pw_or (pt_not (pt_val (pe_callB call_isi (by rfl) T.isinstance b_isinstance (pa_cons (pv 0) (pa_cons (pe_bltn (v := .ty "int") (by rfl) T.int b_int rfl) pa_nil))))) (pw_or1 (pt_val (pe_callB call_isi (by rfl) T.isinstance b_isinstance (pa_cons (pv 0) (pa_cons (pe_bltn (v := .ty "bool") (by rfl) T.bool b_bool rfl) pa_nil)))))))
      (pss_one (ps_ret pe_bl)) pss_nil)
    (pss_one (ps_ret (pe_chain op_le op_le (pv 1) (pv 0) (pv 2))))), ?_⟩
  walk_at "rd"
  refine g_ite (fun h1 => ?_) (fun h1 => ?_)
  · walk_at "rd"
    have e : decide (v ≤ m) = decide (l ≤ v ∧ v ≤ m) := decide_eq_decide.mpr ⟨fun z => ⟨h1, z⟩, fun z => z.2⟩
    show Q (V.bl (decide (v ≤ m))) H
    rw [e]
    exact q
  · have e : false = decide (l ≤ v ∧ v ≤ m) := (decide_eq_false fun z => h1 z.1).symm
    show Q (V.bl false) H
    rw [e]
    exact q
def spIsCell : Sp := fun vs H Q _ => ∃ v : Int, vs = [.int v] ∧ Q (.bl (decide (0 ≤ v ∧ v ≤ 99))) H
theorem ok_isCell {f : Addr} {fd : FuncData} (F : Def K mg "is_cell" sIsCell f fd) (b : Binds K fd ["value"] []) (T : Txt mg) (C_isBetween : Cal P w K mg base 1 "is_between" spBetween []) : Cal P w K mg base 2 "is_cell" spIsCell [] := by
  refine cal0 F b .nil scIsCell (fun vs H Q E h => ?_) (fun cdv A outer s H vs Q E hr h => ?_)
  · obtain ⟨v, rfl, _⟩ := h
    rfl
  obtain ⟨v, rfl, q⟩ := h
  refine ⟨_, (pss_one (ps_ret (pe_c C_isBetween hr (by decide) rfl (pa_cons (pv 0) (pa_cons pe_int (pa_cons (pe_gc rfl T.cLARGEST_CELL) pa_nil)))))), ?_⟩
  walk_at "rd"
  exact ⟨v, 0, 99, rfl, q⟩
def spCheckCells (K : PySem.W.Frag) : Sp := fun vs H Q _ => ∃ (a : Addr) (cs : List Nat), vs = [.ref a] ∧ Cells K H a cs ∧ ∀ H', Same H H' → Q .non H'
theorem ok_checkCells {f : Addr} {fd : FuncData} (F : Def K mg "check_cells" sCheckCells f fd) (b : Binds K fd ["cells"] []) (T : Txt mg) (C_isCell : Cal P w K mg base 2 "is_cell" spIsCell []) : Cal P w K mg base 3 "check_cells" (spCheckCells K) [] := by
  refine cal0 F b .nil scCheckCells (fun vs H Q E h => ?_) (fun cdv A outer s H vs Q E hr h => ?_)
  · obtain ⟨a, cs, rfl, _⟩ := h
    rfl
  obtain ⟨a, cs, rfl, hC, q⟩ := h
  have turn : ∀ (i : Nat) (x : V) (σ : L2.St) (H1 : Hp), (cs.map vn)[i]? = some x → (∃ n : Nat, x = .int n ∧ n ≤ 99) := fun i x σ H1 hi => by
    rw [List.getElem?_map] at hi
    cases e : cs[i]? with
    | none =>
      rw [e] at hi
      cases hi
    | some n =>
      rw [e] at hi
      exact ⟨n, (Option.some.inj hi).symm, hC.top n (List.mem_of_getElem? e)⟩
  have hlen : ((cs.map vn).length : Int) ≤ 30 := by
    have := hC.len
    rw [List.length_map]
    omega
  rcases hC.sq with z | z
  · refine ⟨_, (pss_cons (ps_if (PW.pt (pw_or (pt_not (pt_val (pe_callB call_isiT (by rfl) T.isinstance b_isinstance (pa_cons (pv 0) (pa_cons (pe_tup (pa_cons (pe_bltn (v := .ty "list") (by rfl) T.list b_list rfl) (pa_cons (pe_bltn (v := .ty "tuple") (by rfl) T.tuple b_tuple rfl) pa_nil))) pa_nil))))) (pw_or1 (pt_cmpR op_gt (pe_callB call_len_seq (by rfl) T.len b_len (pa_cons (pv 0) pa_nil)) (pe_gc rfl T.cMOST_CELLS) (nomark _)))))
      (pss_one ps_never) pss_nil)
    (pss_one (ps_for PassesOwn.never rfl (pi_list (pv 0)) (pg_name (i := 1) scCheckCells.nd rfl (.inl rfl))
      (pss_one (ps_if (pt_not (pt_val (pe_c C_isCell hr (by decide) rfl (pa_cons (pv 1) pa_nil))))
        (pss_one ps_never) pss_nil))))), ?_⟩
    walk_at "rd"
    refine ⟨by decide, fun p hp => ?_⟩
    have s1 : Same H (upd H p (.tup [V.ty "list", V.ty "tuple"])) := same_new hp _
    refine ⟨_, _, _, _, _, _, rfl, upd_same, cls_lt, tyL (s1.seq z), k_list_lt, ?_⟩
    walk_at "rd"
    refine ⟨_, _, rfl, .inl (s1.seq z), ?_⟩
    walk_at "rd"
    refine g_ite (fun h1 => absurd h1 (by show ¬ ((30 : Int) < _); omega)) (fun _ => ?_)
    walk_at "rd"
    refine ⟨a, rfl, ⟨_, s1.seq z⟩, for_list (K := K) (a := a) (xs := cs.map vn) (fun i σ H' => (∃ v, σ = [some (.ref a), v]) ∧ Same H H') ⟨⟨none, rfl⟩, s1⟩ (fun i σ H' _ ⟨_, e⟩ => e.seq z) ?_ ?_⟩
    · rintro i x σ H' hi ⟨⟨v, rfl⟩, e⟩
      obtain ⟨n, rfl, hn⟩ := turn i x [] H' hi
      walk_at "rd"
      refine ⟨_, rfl, ?_⟩
      rw [decide_eq_true (show (0 : Int) ≤ (n : Int) ∧ (n : Int) ≤ 99 by omega)]
      walk_at "rd"
      exact ⟨⟨_, rfl⟩, e⟩
    · rintro σ H' ⟨_, e⟩
      exact q _ e
  · refine ⟨_, (pss_cons (ps_if (PW.pt (pw_or (pt_not (pt_val (pe_callB call_isiT (by rfl) T.isinstance b_isinstance (pa_cons (pv 0) (pa_cons (pe_tup (pa_cons (pe_bltn (v := .ty "list") (by rfl) T.list b_list rfl) (pa_cons (pe_bltn (v := .ty "tuple") (by rfl) T.tuple b_tuple rfl) pa_nil))) pa_nil))))) (pw_or1 (pt_cmpR op_gt (pe_callB call_len_seq (by rfl) T.len b_len (pa_cons (pv 0) pa_nil)) (pe_gc rfl T.cMOST_CELLS) (nomark _)))))
      (pss_one ps_never) pss_nil)
    (pss_one (ps_for PassesOwn.never rfl (pi_tup (pv 0)) (pg_name (i := 1) scCheckCells.nd rfl (.inl rfl))
      (pss_one (ps_if (pt_not (pt_val (pe_c C_isCell hr (by decide) rfl (pa_cons (pv 1) pa_nil))))
        (pss_one ps_never) pss_nil))))), ?_⟩
    walk_at "rd"
    refine ⟨by decide, fun p hp => ?_⟩
    have s1 : Same H (upd H p (.tup [V.ty "list", V.ty "tuple"])) := same_new hp _
    refine ⟨_, _, _, _, _, _, rfl, upd_same, cls_lt, tyT (Same.sqt s1 z), k_tuple_lt, ?_⟩
    walk_at "rd"
    refine ⟨_, _, rfl, .inr (Same.sqt s1 z), ?_⟩
    walk_at "rd"
    refine g_ite (fun h1 => absurd h1 (by show ¬ ((30 : Int) < _); omega)) (fun _ => ?_)
    walk_at "rd"
    refine ⟨a, rfl, ⟨_, Same.sqt s1 z⟩, for_tup (K := K) (a := a) (xs := cs.map vn) (fun i σ H' => (∃ v, σ = [some (.ref a), v]) ∧ Same H H') ⟨⟨none, rfl⟩, s1⟩ (fun i σ H' _ ⟨_, e⟩ => Same.sqt e z) ?_ ?_⟩
    · rintro i x σ H' hi ⟨⟨v, rfl⟩, e⟩
      obtain ⟨n, rfl, hn⟩ := turn i x [] H' hi
      walk_at "rd"
      refine ⟨_, rfl, ?_⟩
      rw [decide_eq_true (show (0 : Int) ≤ (n : Int) ∧ (n : Int) ≤ 99 by omega)]
      walk_at "rd"
      exact ⟨⟨_, rfl⟩, e⟩
    · rintro σ H' ⟨_, e⟩
      exact q _ e
end
end Bx

namespace Bx
section
variable {P : Program} {w : World} {K : PySem.W.Frag} {mg : Str → Option Value} {base : Heap}
def spWrongHead (K : PySem.W.Frag) : Sp := fun vs H Q _ => ∃ (a : Addr) (cs : List Nat) (p e dp : Nat), vs = [.ref a, .int p, .int e, .int dp] ∧ Cells K H a cs ∧ p < e ∧ e ≤ cs.length ∧ Q (oV (hd cs p e dp)) H
theorem ok_wrongHead {f : Addr} {fd : FuncData} (F : Def K mg "wrong_head" sWrongHead f fd) (b : Binds K fd ["cells", "at", "end", "around"] []) (T : Txt mg) : Cal P w K mg base 1 "wrong_head" (spWrongHead K) [] := by
  refine cal0 F b .nil scWrongHead (fun vs H Q E h => ?_) (fun cdv A outer s H vs Q E hr h => ?_)
  · obtain ⟨a, cs, p, e, dp, rfl, _⟩ := h
    rfl
  obtain ⟨a, cs, p, e, dp, rfl, hC, hp, he, q⟩ := h
  refine ⟨_, (pss_cons (ps_set (i := 4) scWrongHead.nd rfl (Or.inl rfl) (pe_op op_sub (pv 2) (pv 1)))
    (pss_cons (ps_if (PW.pt (pw_or (pt_cmpR op_eq (pv 4) pe_int (nomark _)) (pw_or1 (pt_not (pt_chain op_le op_le (pe_gc rfl T.cGROUP) (pe_ix ix_seq (pv 0) (pv 1) (fun _ _ => rfl)) (pe_gc rfl T.cTABLE)))))) 
      (pss_one (ps_ret (pv 1))) pss_nil)
    (pss_cons (ps_if (PW.pt (pw_and (pt_cmpR op_eq (pe_ix ix_seq (pv 0) (pv 1) (fun _ _ => rfl)) (pe_gc rfl T.cGROUP) (nomark _)) (pw_and1 (pt_cmpR op_gt (pv 3) (pe_gc rfl T.cMOST_GROUPS_AROUND) (nomark _))))) 
      (pss_one (ps_ret (pv 1))) pss_nil)
    (pss_cons (ps_if (pt_not (pt_chain op_le op_le (pe_gc rfl T.cHEAD) (pe_ix ix_seq (pv 0) (pe_op op_add (pv 1) pe_int) (fun _ _ => rfl)) (pv 4))) 
      (pss_one (ps_ret (pe_op op_add (pv 1) pe_int))) pss_nil)
    (pss_one (ps_ret pe_non)))))), ?_⟩
  have bad1 : (e - p = 1 ∨ ¬ (1 ≤ cel cs p ∧ cel cs p ≤ 4)) → Q (.int p) H := fun z => by
    have := q
    rw [hd, if_pos z] at this
    exact this
  walk_at "rd"
  refine g_ite (fun h1 => ?_) (fun h1 => ?_)
  · walk_at "rd"
    have := V.int.inj h1
    exact bad1 (.inl (by omega))
  have h1' : e - p ≠ 1 := fun z => h1 (congrArg V.int (by omega))
  walk_at "rd"
  refine hC.ix p rfl (by omega) ?_
  walk_at "rd"
  have three : (¬ (1 ≤ cel cs p ∧ cel cs p ≤ 4) → Q (.int p) H) := fun z => bad1 (.inr z)
  refine g_ite (fun h2 => ?_) (fun h2 => ?_)
  rotate_left
  · walk_at "rd"
    exact three (by omega)
  walk_at "rd"
  refine g_iteN (fun h3 => ?_) (fun h3 => ?_)
  · walk_at "rd"
    exact three (by omega)
  have g1 : ¬ (e - p = 1 ∨ ¬ (1 ≤ cel cs p ∧ cel cs p ≤ 4)) := by omega
  have bad2 : (cel cs p = 1 ∧ 1 < dp) → Q (.int p) H := fun z => by
    have := q
    rw [hd, if_neg g1, if_pos z] at this
    exact this
  have last : ¬ (cel cs p = 1 ∧ 1 < dp) → tIfS (tNot (tTest (tChain (rI0 fun i j => V.bl (decide (i ≤ j))) (rI0 fun i j => V.bl (decide (i ≤ j))) (tC (.int 2)) (tOp (rIx K) (tVar 0) (tOp (rI0 fun i j => V.int (i + j)) (tVar 1) (tC (.int 1)))) (tVar 4))))
      (tRet (tOp (rI0 fun i j => V.int (i + j)) (tVar 1) (tC (.int 1)))) tNext { nx := tRet (tC .non) { nx := fun _ H' => Q V.non H', rt := Q }, rt := Q }
      ((L2.start NWrongHead [V.ref a, V.int p, V.int e, V.int dp]).set 4 (some (V.int ((e : Int) - p)))) H := fun z => by
    have rest := q
    rw [hd, if_neg g1, if_neg z] at rest
    walk_at "rd"
    refine hC.ix (p + 1) (by omega) (by omega) ?_
    walk_at "rd"
    refine g_ite (fun h4 => ?_) (fun h4 => ?_)
    · walk_at "rd"
      refine g_iteN (fun h5 => ?_) (fun h5 => ?_)
      · walk_at "rd"
        rw [if_pos (by omega)] at rest
        exact rest
      · walk_at "rd"
        rw [if_neg (by omega)] at rest
        exact rest
    · walk_at "rd"
      rw [if_pos (by omega)] at rest
      exact rest
  walk_at "rd"
  refine hC.ix p rfl (by omega) ?_
  walk_at "rd"
  refine g_ite (fun h4 => ?_) (fun h4 => ?_)
  · have h4' := V.int.inj h4
    walk_at "rd"
    refine g_ite (fun h5 => ?_) (fun h5 => ?_)
    · walk_at "rd"
      exact bad2 (by omega)
    · exact last (by omega)
  · have h4' : cel cs p ≠ 1 := fun z => h4 (congrArg V.int (by omega))
    exact last (by omega)
/-- a while, by a word and a measure: W turn by turn -/
theorem while_w {c : TT} {tb : TS} {D : Ends} {σ : L2.St} {H : Hp} (W : Nat → L2.St → Hp → Prop) (m : Nat) (w0 : W m σ H)
    (hs : ∀ m σ H, W m σ H → c σ H fun b H1 => if b = true then tb { D with nx := fun σ' H' => ∃ m', m' < m ∧ W m' σ' H', ct := fun σ' H' => ∃ m', m' < m ∧ W m' σ' H', bk := D.nx } σ H1 else D.nx σ H1)
    (mono : ∀ σ H (Q Q' : Bool → Hp → Prop), (∀ b H1, Q b H1 → Q' b H1) → c σ H Q → c σ H Q') : tWhile c tb D σ H := by
  refine ⟨W, ⟨m, w0⟩, fun m σ H w => ?_⟩
  refine mono σ H _ _ (fun b H1 q => ?_) (hs m σ H w)
  cases b with
  | true => exact ⟨_, fun σ' H' z => z, q⟩
  | false => exact q
/-- the test at < end -/
theorem mono_lt {i j : Nat} (σ : L2.St) (H : Hp) (Q Q' : Bool → Hp → Prop) (h : ∀ b H1, Q b H1 → Q' b H1) (q : (tTest (tOp (rI0 fun i j => V.bl (decide (i < j))) (tVar i) (tVar j))) σ H Q) : (tTest (tOp (rI0 fun i j => V.bl (decide (i < j))) (tVar i) (tVar j))) σ H Q' := by
  obtain ⟨v, e1, u, e2, x, y, rfl, rfl, k, e3, z⟩ := q
  exact ⟨_, e1, _, e2, x, y, rfl, rfl, k, e3, h _ _ z⟩
def spWrongBox (K : PySem.W.Frag) (n : Nat) : Sp := fun vs H Q _ => ∃ (a : Addr) (cs : List Nat) (p e dp f : Nat), vs = [.ref a, .int p, .int e, .int dp] ∧ Cells K H a cs ∧ e ≤ cs.length ∧ e - p < f ∧ f ≤ n ∧ Q (oV (err (prs f cs p e dp))) H
theorem ok_wrongBox {f : Addr} {fd : FuncData} (F : Def K mg "wrong_box" sWrongBox f fd) (b : Binds K fd ["cells", "begin", "end", "around"] []) (T : Txt mg) (C_wrongHead : Cal P w K mg base 1 "wrong_head" (spWrongHead K) []) :
    ∀ n : Nat, Cal P w K mg base (n + 1) "wrong_box" (spWrongBox K n) []
  | 0 => by
    refine cal0 F b .nil scWrongBox (fun vs H Q E h => ?_) (fun cdv A outer s H vs Q E hr h => ?_)
    · obtain ⟨a, cs, p, e, dp, f, rfl, _⟩ := h
      rfl
    · obtain ⟨a, cs, p, e, dp, f, rfl, _, _, h1, h2, _⟩ := h
      omega
  | n + 1 => by
    have C_wrongBox := ok_wrongBox F b T C_wrongHead n
    refine cal0 F b .nil scWrongBox (fun vs H Q E h => ?_) (fun cdv A outer s H vs Q E hr h => ?_)
    · obtain ⟨a, cs, p, e, dp, f, rfl, _⟩ := h
      rfl
    obtain ⟨a, cs, p, e, dp, f, rfl, hC, he, hf, hn, q⟩ := h
    refine ⟨_, (pss_cons (ps_set (i := 4) scWrongBox.nd rfl (Or.inl rfl) (pv 1))
    (pss_cons (ps_while PassesOwn.never (pt_cmpR op_lt (pv 4) (pv 2) (nomark _)) 
      (pss_cons (ps_set (i := 5) scWrongBox.nd rfl (Or.inl rfl) (pe_c C_wrongHead hr (by omega) rfl (pa_cons (pv 0) (pa_cons (pv 4) (pa_cons (pv 2) (pa_cons (pv 3) pa_nil))))))
      (pss_cons (ps_if (PW.pt (pw_and (pt_cmpR op_isN (pv 5) pe_non (nomark _)) (pw_and1 (pt_cmpR op_eq (pe_ix ix_seq (pv 0) (pv 4) (fun _ _ => rfl)) (pe_gc rfl T.cGROUP) (nomark _))))) 
        (pss_one (ps_set (i := 5) scWrongBox.nd rfl (Or.inl rfl) (pe_c C_wrongBox hr (by omega) rfl (pa_cons (pv 0) (pa_cons (pe_op op_add (pv 4) (pe_gc rfl T.cHEAD)) (pa_cons (pe_op op_add (pv 4) (pe_ix ix_seq (pv 0) (pe_op op_add (pv 4) pe_int) (fun _ _ => rfl))) (pa_cons (pe_op op_add (pv 3) pe_int) pa_nil))))))) pss_nil)
      (pss_cons (ps_if (pt_cmpR op_notN (pv 5) pe_non (nomark _)) 
        (pss_one (ps_ret (pv 5))) pss_nil)
      (pss_one (ps_aug (i := 4) scWrongBox.nd rfl (.inl rfl) (pe_ix ix_seq (pv 0) (pe_op op_add (pv 4) pe_int) (fun _ _ => rfl)) ip_add))))))
    (pss_one (ps_ret pe_non)))), ?_⟩
    walk_at "rd"
    refine while_w (fun m σ H' => ∃ (p' f' : Nat) (v : Option V), m = f' ∧ σ = [some (.ref a), some (.int p), some (.int e), some (.int dp), some (.int p'), v] ∧ H' = H ∧ e - p' < f' ∧ f' ≤ n + 1 ∧ err (prs f' cs p' e dp) = err (prs f cs p e dp))
      f ⟨p, f, none, rfl, rfl, rfl, hf, hn, rfl⟩ ?_ mono_lt
    rintro m σ H' ⟨p', f', v, rfl, rfl, rfl, g1, g2, g3⟩
    obtain ⟨f', rfl⟩ : ∃ g, m = g + 1 := ⟨m - 1, by omega⟩
    walk_at "rd"
    refine g_ite (fun h1 => ?_) (fun h1 => ?_)
    · have h1' : p' < e := by omega
      walk_at "rd"
      refine ⟨a, cs, p', e, dp, rfl, hC, h1', he, ?_⟩
      have fin : ∀ σ, err (prs (f' + 1) cs p' e dp) = σ → Q (oV σ) H' := fun σ z => by rw [← z, g3]; exact q
      cases q1 : hd cs p' e dp with
      | some z =>
        have q2 := fin (some z) (by rw [prs_bad h1' q1] <;> rfl)
        walk_at "rd"
        refine g_dF int_non ?_
        walk_at "rd"
        refine g_ndT int_non ?_
        walk_at "rd"
        exact q2
      | none =>
        obtain ⟨i1, i2, i3, i4, i5, i6⟩ := hd_none q1
        have tail : ∀ ks, (if cel cs p' = 1 then prs f' cs (p' + 2) (p' + cel cs (p' + 1)) (dp + 1) else .ok []) = .ok ks → err (prs f' cs (p' + cel cs (p' + 1)) e dp) = err (prs f cs p e dp) := fun ks z => by
          rw [← g3, prs_err h1' q1 z]
        walk_at "rd"
        refine g_dT rfl ?_
        walk_at "rd"
        refine hC.ix p' rfl (by omega) ?_
        walk_at "rd"
        refine g_ite (fun h2 => ?_) (fun h2 => ?_)
        · have h2' : cel cs p' = 1 := by
            have := V.int.inj h2
            omega
          walk_at "rd"
          refine hC.ix (p' + 1) (by omega) (by omega) ?_
          walk_at "rd"
          refine ⟨a, cs, p' + 2, p' + cel cs (p' + 1), dp + 1, f', rfl, hC, by omega, by omega, by omega, ?_⟩
          cases q2 : prs f' cs (p' + 2) (p' + cel cs (p' + 1)) (dp + 1) with
          | error z =>
            have q3 := fin (some z) (by rw [prs_in h1' q1 h2' q2] <;> rfl)
            walk_at "rd"
            refine g_ndT int_non ?_
            walk_at "rd"
            exact q3
          | ok ks =>
            walk_at "rd"
            refine g_ndF rfl ?_
            walk_at "rd"
            refine hC.ix (p' + 1) (by omega) (by omega) ?_
            walk_at "rd"
            exact ⟨f', Nat.lt_succ_self _, p' + cel cs (p' + 1), f', _, rfl, rfl, rfl, by omega, by omega, tail ks ((if_pos h2').trans q2)⟩
        · have h2' : cel cs p' ≠ 1 := fun z => h2 (congrArg V.int (by omega))
          walk_at "rd"
          refine g_ndF rfl ?_
          walk_at "rd"
          refine hC.ix (p' + 1) (by omega) (by omega) ?_
          walk_at "rd"
          exact ⟨f', Nat.lt_succ_self _, p' + cel cs (p' + 1), f', _, rfl, rfl, rfl, by omega, by omega, tail [] (if_neg h2')⟩
    · walk_at "rd"
      rw [prs_stop (by omega)] at g3
      rw [← g3] at q
      exact q
end
end Bx

namespace Bx
section
variable {P : Program} {w : World} {K : PySem.W.Frag} {mg : Str → Option Value} {base : Heap}
def spBoxPlaces (K : PySem.W.Frag) : Sp := fun vs H Q _ => ∃ (a : Addr) (cs hs : List Nat) (k : Nat), vs = [.ref a, .int k] ∧ Cells K H a cs ∧ Pth cs 0 cs.length hs ∧ hs.length ≤ 100 ∧
  ∀ (p : Addr) (H' : Hp), Same H H' → H p = none → H' p = some (.lst ((hs.filter (isK cs k)).map vn)) → Q (.ref p) H'
theorem ok_boxPlaces {f : Addr} {fd : FuncData} (F : Def K mg "box_places" sBoxPlaces f fd) (b : Binds K fd ["cells", "kind"] []) (T : Txt mg) : Cal P w K mg base 1 "box_places" (spBoxPlaces K) [] := by
  refine cal0 F b .nil scBoxPlaces (fun vs H Q E h => ?_) (fun cdv A outer s H vs Q E hr h => ?_)
  · obtain ⟨a, cs, hs, k, rfl, _⟩ := h
    rfl
  obtain ⟨a, cs, hs, k, rfl, hC, hP, hL, q⟩ := h
  refine ⟨_, (pss_cons (ps_set (i := 2) scBoxPlaces.nd rfl (Or.inl rfl) (pe_lst pa_nil))
    (pss_cons (ps_set (i := 3) scBoxPlaces.nd rfl (Or.inl rfl) pe_int)
    (pss_cons (ps_while PassesOwn.never (pt_cmpR op_lt (pv 3) (pe_callB call_len_seq (by rfl) T.len b_len (pa_cons (pv 0) pa_nil)) (nomark _)) 
      (pss_cons (ps_if (pt_cmpR op_eq (pe_ix ix_seq (pv 0) (pv 3) (fun _ _ => rfl)) (pv 1) (nomark _)) 
        (pss_one (ps_expr (pe_bm PySem.F.plainAttrs_list PySem.F.slot_list_append PySem.F.type_list_append mt_append (pv 2) (pa_cons (pv 3) pa_nil)))) pss_nil)
      (pss_one (ps_aug (i := 3) scBoxPlaces.nd rfl (.inl rfl) (pe_ifExp (pt_cmpR op_eq (pe_ix ix_seq (pv 0) (pv 3) (fun _ _ => rfl)) (pe_gc rfl T.cGROUP) (nomark _)) (pe_gc rfl T.cHEAD) (pe_ix ix_seq (pv 0) (pe_op op_add (pv 3) pe_int) (fun _ _ => rfl))) ip_add))))
    (pss_one (ps_ret (pv 2)))))), ?_⟩
  walk_at "rd"
  refine ⟨Nat.zero_le _, fun p hp => ?_⟩
  walk_at "rd"
  refine while_v (fun m σ H' => ∃ (pos : Nat) (rest done : List Nat), σ = [some (.ref a), some (.int k), some (.ref p), some (.int pos)] ∧ Pth cs pos cs.length rest ∧ m = rest.length ∧ hs = done ++ rest ∧ Same H H' ∧ H' p = some (.lst ((done.filter (isK cs k)).map vn)))
    hs.length ⟨0, hs, [], rfl, hP, rfl, rfl, same_new hp _, upd_same⟩ ?_
  rintro m σ H' ⟨pos, rest, done, rfl, hp1, rfl, e1, e2, e3⟩
  have hC' := hC.same e2
  walk_at "rd"
  refine ⟨_, _, rfl, hC'.sq, ?_⟩
  rw [List.length_map]
  walk_at "rd"
  cases hp1 with
  | nil =>
    refine g_dF (by omega) ?_
    walk_at "rd"
    rw [List.append_nil] at e1
    subst e1
    exact q p H' e2 hp e3
  | @cons _ _ rest' l1 l2 hr1 =>
    refine g_dT (by omega) ⟨_, fun _ _ z => z, ?_⟩
    have hz : ((done.filter (isK cs k)).map vn).length ≤ 1000 := by
      have := List.length_filter_le (isK cs k) done
      have : hs.length = done.length + (pos :: rest').length := by rw [e1, List.length_append]
      rw [List.length_map]
      omega
    have last : ∀ H'', Same H H'' → H'' p = some (.lst (((done ++ [pos]).filter (isK cs k)).map vn)) → ∀ (X : Nat), X = stp cs pos →
        ∃ m', m' < (pos :: rest').length ∧ ∃ (pos' : Nat) (rest done : List Nat), [some (V.ref a), some (V.int k), some (V.ref p), some (V.int ((pos : Int) + X))] = [some (V.ref a), some (V.int k), some (V.ref p), some (V.int pos')] ∧ Pth cs pos' cs.length rest ∧ m' = rest.length ∧ hs = done ++ rest ∧ Same H H'' ∧ H'' p = some (.lst ((done.filter (isK cs k)).map vn)) :=
      fun H'' s1 s2 X hX => ⟨rest'.length, Nat.lt_succ_self _, pos + stp cs pos, rest', done ++ [pos], by rw [hX, Int.natCast_add], hr1, rfl, by rw [e1, List.append_assoc] <;> rfl, s1, s2⟩
    walk_at "rd"
    refine hC'.ix pos rfl (by omega) ?_
    walk_at "rd"
    have aug : ∀ H'', Same H H'' → H'' p = some (.lst (((done ++ [pos]).filter (isK cs k)).map vn)) → tAug 3 (tIf (tTest (tOp rEq (tOp (rIx K) (tVar 0) (tVar 3)) (tC (.int 1)))) (tC (.int 2)) (tOp (rIx K) (tVar 0) (tOp (rI0 fun i j => V.int (i + j)) (tVar 3) (tC (.int 1))))) (ipI fun i j => i + j)
        { nx := fun σ' H'' => ∃ m', m' < (pos :: rest').length ∧ ∃ (pos' : Nat) (rest done : List Nat), σ' = [some (V.ref a), some (V.int k), some (V.ref p), some (V.int pos')] ∧ Pth cs pos' cs.length rest ∧ m' = rest.length ∧ hs = done ++ rest ∧ Same H H'' ∧ H'' p = some (.lst ((done.filter (isK cs k)).map vn)), rt := Q }
        [some (V.ref a), some (V.int k), some (V.ref p), some (V.int pos)] H'' := fun H'' s1 s2 => by
      have hC'' := hC.same s1
      walk_at "rd"
      refine hC''.ix pos rfl (by omega) ?_
      walk_at "rd"
      refine g_ite (fun h => ?_) (fun h => ?_)
      · walk_at "rd"
        have h' : cel cs pos = 1 := by
          have := V.int.inj h
          omega
        exact last H'' s1 s2 2 (if_pos h').symm
      · have h' : cel cs pos ≠ 1 := fun z => h (congrArg V.int (by omega))
        walk_at "rd"
        refine hC''.ix (pos + 1) (by omega) (by omega) ?_
        walk_at "rd"
        exact last H'' s1 s2 _ (if_neg h').symm
    refine g_ite (fun h => ?_) (fun h => ?_)
    · have h' : isK cs k pos = true := decide_eq_true (by have := V.int.inj h; omega)
      walk_at "rd"
      refine ⟨ty_l (SqL.of e3), ?_⟩
      walk_at "rd"
      refine g_app e3 hz ?_
      exact aug _ (Same.putNew e2 hp) (by rw [upd_same, List.filter_append, List.map_append, List.filter_cons_of_pos h'] <;> rfl)
    · have h' : isK cs k pos = false := decide_eq_false fun z => h (congrArg V.int (by omega))
      exact aug _ e2 (by rw [e3, List.filter_append, List.filter_cons_of_neg (by rw [h']; exact Bool.false_ne_true), List.filter_nil, List.append_nil])
def spContentPlaces (K : PySem.W.Frag) : Sp := fun vs H Q _ => ∃ (a : Addr) (cs : List Nat) (h : Nat), vs = [.ref a, .int h] ∧ Cells K H a cs ∧ h + 1 < cs.length ∧ 2 ≤ cel cs (h + 1) ∧
  ∀ (p : Addr) (H' : Hp), Same H H' → H p = none → H' p = some (.lst ((plc (row cs h)).map vn)) → Q (.ref p) H'
theorem ok_contentPlaces {f : Addr} {fd : FuncData} (F : Def K mg "content_places" sContentPlaces f fd) (b : Binds K fd ["cells", "at"] []) (T : Txt mg) : Cal P w K mg base 1 "content_places" (spContentPlaces K) [] := by
  refine cal0 F b .nil scContentPlaces (fun vs H Q E h => ?_) (fun cdv A outer s H vs Q E hr h => ?_)
  · obtain ⟨a, cs, h, rfl, _⟩ := h
    rfl
  obtain ⟨a, cs, h, rfl, hC, h1, h2, q⟩ := h
  refine ⟨_, (pss_one (ps_ret (pe_listRg rfl (by rfl) T.list (prg_2 (by rfl) T.range (pe_op op_add (pv 1) (pe_gc rfl T.cHEAD)) (pe_op op_add (pv 1) (pe_ix ix_seq (pv 0) (pe_op op_add (pv 1) pe_int) (fun _ _ => rfl))))))), ?_⟩
  walk_at "rd"
  refine hC.ix (h + 1) (by omega) h1 ?_
  walk_at "rd"
  have t2 := cel_top hC (h + 1)
  have t3 := hC.len
  refine ⟨_, _, rfl, rfl, .of_le (by omega) (by omega) (by omega) (by omega), fun p hp => ?_⟩
  refine q p _ (same_new hp _) hp ?_
  rw [upd_same]
  have e : rgV ((h : Int) + 2) ((h : Int) + (cel cs (h + 1) : Int)) = (plc (row cs h)).map vn := by
    rw [show (h : Int) + 2 = ((h + 2 : Nat) : Int) by omega, show (h : Int) + (cel cs (h + 1) : Int) = ((h + cel cs (h + 1) : Nat) : Int) by omega, rg_nat]
    rw [show h + cel cs (h + 1) - (h + 2) = cel cs (h + 1) - 2 by omega]
    rfl
  rw [e]
end
end Bx

namespace Bx
section
variable {P : Program} {w : World} {K : PySem.W.Frag} {mg : Str → Option Value} {base : Heap}
def spDataTargets (K : PySem.W.Frag) : Sp := fun vs H Q _ => ∃ (a : Addr) (cs hs : List Nat), vs = [.ref a] ∧ Cells K H a cs ∧ Pth cs 0 cs.length hs ∧
  ∀ (d : Addr) (H' : Hp), Same H H' → H d = none → TgD H' d (Own (rws cs hs)) 100000 → Q (.ref d) H'
theorem ok_dataTargets {f : Addr} {fd : FuncData} (F : Def K mg "data_targets" sDataTargets f fd) (b : Binds K fd ["cells"] []) (T : Txt mg) (C_boxPlaces : Cal P w K mg base 1 "box_places" (spBoxPlaces K) [])
    (C_contentPlaces : Cal P w K mg base 1 "content_places" (spContentPlaces K) []) : Cal P w K mg base 2 "data_targets" (spDataTargets K) [] := by
  refine cal0 F b .nil scDataTargets (fun vs H Q E h => ?_) (fun cdv A outer s H vs Q E hr h => ?_)
  · obtain ⟨a, cs, hs, rfl, _⟩ := h
    rfl
  obtain ⟨a, cs, hs, rfl, hC, hP, q⟩ := h
  have h30 := hC.len
  have hLs := hP.len
  refine ⟨_, (pss_cons (ps_set (i := 1) scDataTargets.nd rfl (Or.inl rfl) pe_dnewK)
    (pss_cons (ps_for PassesOwn.never rfl (pi_enum (by rfl) T.enumerate (pa_cons (pe_c C_boxPlaces hr (by decide) rfl (pa_cons (pv 0) (pa_cons (pe_gc rfl T.cDATA) pa_nil))) pa_nil)) (pg_tup rfl (pgs_cons (pg_name (i := 2) scDataTargets.nd rfl (.inl rfl)) (pgs_cons (pg_name (i := 3) scDataTargets.nd rfl (.inl rfl)) pgs_nil))) 
      (pss_one (ps_for PassesOwn.never rfl (pi_enum (by rfl) T.enumerate (pa_cons (pe_c C_contentPlaces hr (by decide) rfl (pa_cons (pv 0) (pa_cons (pv 3) pa_nil))) pa_nil)) (pg_tup rfl (pgs_cons (pg_name (i := 4) scDataTargets.nd rfl (.inl rfl)) (pgs_cons (pg_name (i := 5) scDataTargets.nd rfl (.inl rfl)) pgs_nil))) 
        (pss_one (ps_dput (hu_of hr) (pv 1) (pv 5) (pe_tup (pa_cons (pv 2) (pa_cons (pv 4) pa_nil))) rfl)))))
    (pss_one (ps_ret (pv 1))))), ?_⟩
  walk_at "rd"
  refine g_dnewK fun d hd => ?_
  have s0 : Same H (upd H d (.dK [])) := same_new hd _
  walk_at "rd"
  refine ⟨a, cs, hs, 2, rfl, hC.same s0, hP, by omega, fun l H1 s1 hl hl1 => ?_⟩
  have hld : l ≠ d := (ne_of_none upd_same hl).symm
  have hlH : H l = none := by
    rw [upd_ne hld] at hl
    exact hl
  walk_at "rd"
  have eHl := hl1
  refine ⟨l, _, rfl, SqL.of hl1, for_it (walk_enum) (fun i σ H' => (∃ v2 v3 v4 v5, σ = [some (.ref a), some (.ref d), v2, v3, v4, v5]) ∧ Same H H' ∧ H' l = some (.lst ((hs.filter (isK cs 2)).map vn)) ∧ TgD H' d (fun n k j => Own (rws cs hs) n k j ∧ k < i) (100 * i))
    ⟨⟨_, _, _, _, rfl⟩, s0.trans s1, hl1, (TgD.nil (s1 _ _ upd_same) (fun _ _ _ z => Nat.not_lt_zero _ z.2))⟩ (fun i σ H' _ z => SqL.of z.2.2.1) ?_ ?_⟩
  · rintro i x σ H2 H3 hi ⟨⟨v2, v3, v4, v5, rfl⟩, t1, t2, t3⟩ ⟨T1, x1, x2, rfl, nT, rfl, e1, e2⟩
    cases Option.some.inj e1
    obtain ⟨p, hp, rfl⟩ := vn_get e2
    have nTd : T1 ≠ d := fun z => by
      obtain ⟨_, z2, _⟩ := t3.ex
      rw [← z, nT] at z2
      cases z2
    have nTl : T1 ≠ l := fun z => by
      rw [z, t2] at nT
      cases nT
    have nTH : H T1 = none := t1.free nT
    have sT : Same H2 (upd H2 T1 (.tup [.int (i : Int), vn p])) := same_new nT _
    refine g_tupT (SqT.of upd_same) rfl ?_
    walk_at "rd"
    -- the cells of this box
    have hpm : p ∈ hs := (List.mem_filter.mp (List.mem_of_getElem? hp)).1
    have kp : cel cs p = 2 := of_decide_eq_true (List.mem_filter.mp (List.mem_of_getElem? hp)).2
    obtain ⟨m1, m2, m3⟩ := hP.mem p hpm
    have es : stp cs p = cel cs (p + 1) := if_neg (by omega)
    rw [es] at m2
    have hrow : (rws cs hs)[i]? = some (row cs p) := by
      unfold rws
      rw [List.getElem?_map, hp]
      rfl
    have hiL : i < hs.length := by
      have h1 := List.length_filter_le (isK cs 2) hs
      rw [List.length_map] at hi
      omega
    refine ⟨a, cs, p, rfl, (hC.same t1).same sT, m1, m2, fun l2 H4 s4 hl2 hl4 => ?_⟩
    walk_at "rd"
    have hl2d : l2 ≠ d := fun z => by
      have := (t3.same sT).ex
      obtain ⟨_, z2, _⟩ := this
      rw [z] at hl2
      rw [hl2] at z2
      cases z2
    have hl2l : l2 ≠ l := fun z => by
      have := sT _ _ t2
      rw [z] at hl2
      rw [hl2] at this
      cases this
    refine ⟨l2, _, rfl, SqL.of hl4, for_it (walk_enum) (fun j σ H' => (∃ v4 v5, σ = [some (.ref a), some (.ref d), some (.int (i : Int)), some (vn p), v4, v5]) ∧ Same H H' ∧ H' l = some (.lst ((hs.filter (isK cs 2)).map vn)) ∧ H' l2 = some (.lst ((plc (row cs p)).map vn)) ∧
      TgD H' d (fun n k jj => Own (rws cs hs) n k jj ∧ (k < i ∨ (k = i ∧ jj < j))) (100 * i + j))
      ⟨⟨_, _, rfl⟩, (t1.trans sT).trans s4, s4 _ _ (sT _ _ t2), hl4, ((t3.same sT).same s4).iff (fun n k j => ⟨fun z => ⟨z.1, .inl z.2⟩, fun z => ⟨z.1, z.2.elim id fun y => absurd y.2 (Nat.not_lt_zero _)⟩⟩) (Nat.le_refl _)⟩ (fun j σ H' _ z => SqL.of z.2.2.2.1) ?_ ?_⟩
    · rintro j y σ H5 H6 hj ⟨⟨v4', v5', rfl⟩, u1, u2, u3, u4⟩ ⟨T2, y1, y2, rfl, nT2, rfl, f1, f2⟩
      cases Option.some.inj f1
      obtain ⟨n, hn, rfl⟩ := vn_get f2
      obtain ⟨j1, j2⟩ := plc_get hn
      have sT2 : Same H5 (upd H5 T2 (.tup [.int (j : Int), vn n])) := same_new nT2 _
      refine g_tupT (SqT.of upd_same) rfl ?_
      walk_at "rd"
      refine ⟨(by show 2 ≤ sizeLine; decide), fun t ht => ?_⟩
      have sT3 : Same (upd H5 T2 (.tup [.int (j : Int), vn n])) (upd (upd H5 T2 (.tup [.int (j : Int), vn n])) t (.tup [.int (i : Int), .int (j : Int)])) := same_new ht _
      walk_at "rd"
      have tm := cel_top hC (p + 1)
      have hj100 : j < 100 := by
        have : (row cs p).2 = cel cs (p + 1) - 2 := rfl
        omega
      refine ((u4.same sT2).same sT3).put (n0 := n) (i0 := i) (j0 := j) upd_same (by omega) fun H7 k1 k2 k3 => ?_
      have hlk : ∀ {q : Addr} {o : HO}, q ≠ d → H5 q = some o → H7 q = some o := fun {q o} nq hq => k1 _ _ nq (sT3 _ _ (sT2 _ _ hq))
      refine ⟨⟨_, _, rfl⟩, fun b o hb => ?_, hlk hld u2, hlk hl2d u3, k3.iff (fun n' k' j' => ?_) (by omega)⟩
      · exact hlk (ne_of_none hb hd) (u1 _ _ hb)
      · have hOwn : Own (rws cs hs) n i j := ⟨row cs p, hrow, by omega, by omega, by omega⟩
        constructor
        · rintro (⟨rfl, rfl, rfl⟩ | ⟨z1, z2, z3⟩)
          · exact ⟨hOwn, .inr ⟨rfl, Nat.lt_succ_self _⟩⟩
          · exact ⟨z2, z3.imp id fun y => ⟨y.1, by omega⟩⟩
        · rintro ⟨z1, z2⟩
          by_cases hn' : n' = n
          · subst hn'
            obtain ⟨rfl, rfl⟩ := hP.apart.one z1 hOwn
            exact .inl ⟨rfl, rfl, rfl⟩
          · refine .inr ⟨hn', z1, z2.imp id fun y => ⟨y.1, ?_⟩⟩
            rcases Nat.lt_or_eq_of_le (Nat.lt_succ_iff.mp y.2) with y2 | y2
            · exact y2
            · exfalso
              obtain ⟨r, hr1, hr2, hr3, hr4⟩ := z1
              rw [y.1, hrow] at hr1
              cases hr1
              omega
    · rintro σ H5 ⟨⟨v4', v5', rfl⟩, u1, u2, u3, u4⟩
      refine ⟨⟨_, _, _, _, rfl⟩, u1, u2, u4.iff (fun n k j => ?_) ?_⟩
      · rw [List.length_map, plc_len]
        constructor
        · rintro ⟨z1, z2⟩
          exact ⟨z1, by omega⟩
        · rintro ⟨z1, z2⟩
          refine ⟨z1, ?_⟩
          by_cases hk : k < i
          · exact .inl hk
          · obtain rfl : k = i := by omega
            obtain ⟨r, hr1, hr2, hr3, rfl⟩ := z1
            rw [hrow] at hr1
            cases hr1
            exact .inr ⟨rfl, by omega⟩
      · rw [List.length_map, plc_len]
        have tm := cel_top hC (p + 1)
        have : (row cs p).2 = cel cs (p + 1) - 2 := rfl
        omega
  · rintro σ H' ⟨⟨v2, v3, v4, v5, rfl⟩, t1, t2, t3⟩
    walk_at "rd"
    refine q d H' t1 hd (t3.iff (fun n k j => ⟨fun z => z.1, fun z => ⟨z, ?_⟩⟩) ?_)
    · obtain ⟨r, hr1, _⟩ := z
      rw [List.length_map]
      have := (List.getElem?_eq_some_iff.mp hr1).1
      unfold rws at this
      rw [List.length_map] at this
      exact this
    · rw [List.length_map]
      have h1 := List.length_filter_le (isK cs 2) hs
      omega
end
end Bx

namespace Bx
/-- the first entry that is no place of a cell in data -/
def bad (cs hs : List Nat) (p : Nat) : Bool := !own (rws cs hs) (cel cs p)
def wre (cs hs : List Nat) : Option Nat := (ens cs hs).find? (bad cs hs)
/-- the first wrong place -/
def fwr (cs : List Nat) : Option Nat := match prs 31 cs 0 cs.length 0 with
  | .error p => some p
  | .ok bs => wre cs (hsL bs)
theorem plc_mem {r : Nat × Nat} {n : Nat} (h : n ∈ plc r) : r.1 ≤ n ∧ n < r.1 + r.2 := by
  obtain ⟨j, hj, e⟩ := List.mem_iff_getElem.mp h
  obtain ⟨h1, h2⟩ := plc_get (List.getElem?_eq_getElem hj)
  omega
/-- an entry's place lies in the cells -/
theorem ens_lt {cs hs : List Nat} (x : Pth cs 0 cs.length hs) {p n : Nat} (hp : p ∈ hs) (hk : cel cs p ≠ 1) (hn : n ∈ plc (row cs p)) : n < cs.length := by
  obtain ⟨m1, m2, m3⟩ := x.mem p hp
  have es : stp cs p = cel cs (p + 1) := if_neg hk
  have := plc_mem hn
  have : (row cs p).1 = p + 2 := rfl
  have : (row cs p).2 = cel cs (p + 1) - 2 := rfl
  omega
section
variable {P : Program} {w : World} {K : PySem.W.Frag} {mg : Str → Option Value} {base : Heap}
def spWrongEntry (K : PySem.W.Frag) : Sp := fun vs H Q _ => ∃ (a : Addr) (cs hs : List Nat), vs = [.ref a] ∧ Cells K H a cs ∧ Pth cs 0 cs.length hs ∧ ∀ H', Same H H' → Q (oV (wre cs hs)) H'
theorem ok_wrongEntry {f : Addr} {fd : FuncData} (F : Def K mg "wrong_entry" sWrongEntry f fd) (b : Binds K fd ["cells"] []) (T : Txt mg) (C_dataTargets : Cal P w K mg base 2 "data_targets" (spDataTargets K) []) (C_boxPlaces : Cal P w K mg base 1 "box_places" (spBoxPlaces K) [])
    (C_contentPlaces : Cal P w K mg base 1 "content_places" (spContentPlaces K) []) : Cal P w K mg base 3 "wrong_entry" (spWrongEntry K) [] := by
  refine cal0 F b .nil scWrongEntry (fun vs H Q E h => ?_) (fun cdv A outer s H vs Q E hr h => ?_)
  · obtain ⟨a, cs, hs, rfl, _⟩ := h
    rfl
  obtain ⟨a, cs, hs, rfl, hC, hP, q⟩ := h
  have h30 := hC.len
  have hLs := hP.len
  refine ⟨_, (pss_cons (ps_set (i := 1) scWrongEntry.nd rfl (Or.inl rfl) (pe_c C_dataTargets hr (by decide) rfl (pa_cons (pv 0) pa_nil)))
    (pss_cons (ps_for PassesOwn.never rfl (pi_list (pe_c C_boxPlaces hr (by decide) rfl (pa_cons (pv 0) (pa_cons (pe_gc rfl T.cTABLE) pa_nil)))) (pg_name (i := 2) scWrongEntry.nd rfl (.inl rfl)) 
      (pss_one (ps_for PassesOwn.never rfl (pi_list (pe_c C_contentPlaces hr (by decide) rfl (pa_cons (pv 0) (pa_cons (pv 2) pa_nil)))) (pg_name (i := 3) scWrongEntry.nd rfl (.inl rfl)) 
        (pss_one (ps_if (pt_cmp (pc_dnotin (hu_of hr) (pe_ix ix_seq (pv 0) (pv 3) (fun _ _ => rfl)) (pv 1))) 
          (pss_one (ps_ret (pv 3))) pss_nil)))))
    (pss_one (ps_ret pe_non)))), ?_⟩
  walk_at "rd"
  refine ⟨a, cs, hs, rfl, hC, hP, fun d H1 s1 hd hD => ?_⟩
  walk_at "rd"
  refine ⟨a, cs, hs, 4, rfl, hC.same s1, hP, by omega, fun l H2 s2 hl hl2 => ?_⟩
  have S2 : Same H H2 := s1.trans s2
  walk_at "rd"
  refine ⟨l, rfl, ⟨_, SqL.of hl2⟩, for_it walk_list (fun i σ H' => (∃ v2 v3, σ = [some (.ref a), some (.ref d), v2, v3]) ∧ Same H2 H' ∧ wre cs hs = ((((hs.filter (isK cs 4)).drop i).map fun p => plc (row cs p)).flatten).find? (bad cs hs))
    ⟨⟨_, _, rfl⟩, Same.refl _, rfl⟩ (fun i σ H' _ z => z.2.1.seq (SqL.of hl2)) ?_ ?_⟩
  · rintro i x σ H3 H4 hi ⟨⟨v2, v3, rfl⟩, t1, t2⟩ ⟨rfl, hx⟩
    obtain ⟨p, hp, rfl⟩ := vn_get hx
    walk_at "rd"
    have hpm : p ∈ hs := (List.mem_filter.mp (List.mem_of_getElem? hp)).1
    have kp : cel cs p = 4 := of_decide_eq_true (List.mem_filter.mp (List.mem_of_getElem? hp)).2
    obtain ⟨m1, m2, m3⟩ := hP.mem p hpm
    have es : stp cs p = cel cs (p + 1) := if_neg (by omega)
    rw [es] at m2
    have hiL : i < (hs.filter (isK cs 4)).length := by
      rw [List.length_map] at hi
      exact hi
    have edrop : (hs.filter (isK cs 4)).drop i = p :: (hs.filter (isK cs 4)).drop (i + 1) := by
      rw [List.drop_eq_getElem_cons hiL]
      rw [List.getElem?_eq_getElem hiL] at hp
      rw [Option.some.inj hp]
    rw [edrop, List.map_cons, List.flatten_cons] at t2
    refine ⟨a, cs, p, rfl, hC.same (S2.trans t1), m1, m2, fun l2 H5 s5 hl5 hl25 => ?_⟩
    walk_at "rd"
    refine ⟨l2, rfl, ⟨_, SqL.of hl25⟩, for_it walk_list (fun j σ H' => (∃ v3, σ = [some (.ref a), some (.ref d), some (vn p), v3]) ∧ Same H5 H' ∧ wre cs hs = ((plc (row cs p)).drop j ++ (((hs.filter (isK cs 4)).drop (i + 1)).map fun p => plc (row cs p)).flatten).find? (bad cs hs))
      ⟨⟨_, rfl⟩, Same.refl _, t2⟩ (fun i σ H' _ z => z.2.1.seq (SqL.of hl25)) ?_ ?_⟩
    · rintro j y σ H6 H7 hj ⟨⟨v3', rfl⟩, u1, u2⟩ ⟨rfl, hy⟩
      obtain ⟨n, hn, rfl⟩ := vn_get hy
      have S7 : Same H H7 := ((S2.trans t1).trans s5).trans u1
      have S1 : Same H1 H7 := ((s2.trans t1).trans s5).trans u1
      have hjL : j < (plc (row cs p)).length := by
        rw [List.length_map] at hj
        exact hj
      have edj : (plc (row cs p)).drop j = n :: (plc (row cs p)).drop (j + 1) := by
        rw [List.drop_eq_getElem_cons hjL]
        rw [List.getElem?_eq_getElem hjL] at hn
        rw [Option.some.inj hn]
      rw [edj, List.cons_append, List.find?_cons] at u2
      have hnl : n < cs.length := ens_lt hP hpm (by omega) (List.mem_of_getElem? hn)
      walk_at "rd"
      refine (hC.same S7).ix n rfl hnl ?_
      walk_at "rd"
      cases ho : own (rws cs hs) (cel cs n) with
      | true =>
        obtain ⟨i', j', hO⟩ := own_iff.mp ho
        obtain ⟨t, g1, g2⟩ := (hD.same S1).get hO
        refine ⟨d, _, rfl, g1, ?_⟩
        have hb : bad cs hs n = false := by
          unfold bad
          rw [ho]
          rfl
        rw [hb] at u2
        walk_at "rd"
        exact ⟨⟨_, rfl⟩, u1, u2⟩
      | false =>
        have hno : ∀ i j, ¬ Own (rws cs hs) (cel cs n) i j := fun i j z => by
          rw [own_iff.mpr ⟨i, j, z⟩] at ho
          cases ho
        refine ⟨d, _, rfl, (hD.same S1).none hno, ?_⟩
        have hb : bad cs hs n = true := by
          unfold bad
          rw [ho]
          rfl
        rw [hb] at u2
        walk_at "rd"
        refine iteT ?_
        walk_at "rd"
        have := q H7 S7
        rw [u2] at this
        exact this
    · rintro σ H6 ⟨⟨v3', rfl⟩, u1, u2⟩
      refine ⟨⟨_, _, rfl⟩, (t1.trans s5).trans u1, ?_⟩
      rw [u2, List.length_map, List.drop_length, List.nil_append]
  · rintro σ H3 ⟨⟨v2, v3, rfl⟩, t1, t2⟩
    walk_at "rd"
    have := q H3 (S2.trans t1)
    rw [t2, List.length_map, List.drop_length] at this
    exact this
def spFirstWrong (K : PySem.W.Frag) : Sp := fun vs H Q _ => ∃ (a : Addr) (cs : List Nat), vs = [.ref a] ∧ Cells K H a cs ∧ ∀ H', Same H H' → Q (oV (fwr cs)) H'
theorem ok_firstWrong {f : Addr} {fd : FuncData} (F : Def K mg "first_wrong" sFirstWrong f fd) (b : Binds K fd ["cells"] []) (T : Txt mg) (C_checkCells : Cal P w K mg base 3 "check_cells" (spCheckCells K) []) (C_wrongBox : Cal P w K mg base 32 "wrong_box" (spWrongBox K 31) [])
    (C_wrongEntry : Cal P w K mg base 3 "wrong_entry" (spWrongEntry K) []) : Cal P w K mg base 33 "first_wrong" (spFirstWrong K) [] := by
  refine cal0 F b .nil scFirstWrong (fun vs H Q E h => ?_) (fun cdv A outer s H vs Q E hr h => ?_)
  · obtain ⟨a, cs, rfl, _⟩ := h
    rfl
  obtain ⟨a, cs, rfl, hC, q⟩ := h
  have h30 := hC.len
  refine ⟨_, (pss_cons (ps_expr (pe_c C_checkCells hr (by decide) rfl (pa_cons (pv 0) pa_nil)))
    (pss_cons (ps_set (i := 1) scFirstWrong.nd rfl (Or.inl rfl) (pe_c C_wrongBox hr (by decide) rfl (pa_cons (pv 0) (pa_cons pe_int (pa_cons (pe_callB call_len_seq (by rfl) T.len b_len (pa_cons (pv 0) pa_nil)) (pa_cons pe_int pa_nil))))))
    (pss_cons (ps_if (pt_cmpR op_isN (pv 1) pe_non (nomark _)) 
      (pss_one (ps_set (i := 1) scFirstWrong.nd rfl (Or.inl rfl) (pe_c C_wrongEntry hr (by decide) rfl (pa_cons (pv 0) pa_nil)))) pss_nil)
    (pss_one (ps_ret (pv 1)))))), ?_⟩
  walk_at "rd"
  refine ⟨a, cs, rfl, hC, fun H1 s1 => ?_⟩
  walk_at "rd"
  refine ⟨_, _, rfl, (hC.same s1).sq, ?_⟩
  rw [List.length_map]
  walk_at "rd"
  refine ⟨a, cs, 0, cs.length, 0, 31, rfl, hC.same s1, Nat.le_refl _, by omega, Nat.le_refl _, ?_⟩
  cases e : prs 31 cs 0 cs.length 0 with
  | error p =>
    walk_at "rd"
    refine g_dF int_non ?_
    walk_at "rd"
    have := q H1 s1
    unfold fwr at this
    rw [e] at this
    exact this
  | ok bs =>
    walk_at "rd"
    refine g_dT rfl ?_
    walk_at "rd"
    refine ⟨a, cs, hsL bs, rfl, hC.same s1, prs_pth 31 cs 0 cs.length 0 bs e (by omega) (Nat.zero_le _) (Nat.le_refl _), fun H2 s2 => ?_⟩
    walk_at "rd"
    have := q H2 (s1.trans s2)
    unfold fwr at this
    rw [e] at this
    exact this
end
end Bx

namespace Bx
section
variable {P : Program} {w : World} {K : PySem.W.Frag} {mg : Str → Option Value} {base : Heap}
def spBoxesBetween (K : PySem.W.Frag) (n : Nat) : Sp := fun vs H Q _ => ∃ (a d : Addr) (cs : List Nat) (rs : List (Nat × Nat)) (b e f dp m : Nat) (bs : List Bo), vs = [.ref a, .int b, .int e, .ref d] ∧ Cells K H a cs ∧ TgD H d (Own rs) m ∧ Apart rs ∧
  prs f cs b e dp = .ok bs ∧ e - b < f ∧ f ≤ n ∧ b ≤ e ∧ e ≤ cs.length ∧ Good cs rs (hsL bs) ∧ ∀ v H', Same H H' → Tp K H' v (.tuple (daL true cs rs bs)) → Q v H'
def spBoxAt (K : PySem.W.Frag) (n : Nat) : Sp := fun vs H Q _ => ∃ (a d : Addr) (cs : List Nat) (rs : List (Nat × Nat)) (p e f dp m : Nat) (ks : List Bo), vs = [.ref a, .int p, .ref d] ∧ Cells K H a cs ∧ TgD H d (Own rs) m ∧ Apart rs ∧
  hd cs p e dp = none ∧ p < e ∧ e ≤ cs.length ∧ (if cel cs p = 1 then prs f cs (p + 2) (p + cel cs (p + 1)) (dp + 1) else .ok []) = .ok ks ∧ e - p < f + 1 ∧ f ≤ n ∧ Good cs rs (p :: hsL ks) ∧
  ∀ v H', Same H H' → Tp K H' v (da1 true cs rs (.bx (cel cs p) p (cel cs (p + 1)) ks)) → Q v H'
theorem ok_boxAt {n k : Nat} {f : Addr} {fd : FuncData} (F : Def K mg "box_at" sBoxAt f fd) (b : Binds K fd ["cells", "at", "targets"] []) (T : Txt mg) (C_boxesBetween : Cal P w K mg base k "boxes_between" (spBoxesBetween K n) []) :
    Cal P w K mg base (k + 1) "box_at" (spBoxAt K n) [] := by
  refine cal0 F b .nil scBoxAt (fun vs H Q E h => ?_) (fun cdv A outer s H vs Q E hr h => ?_)
  · obtain ⟨a, d, cs, rs, p, e, f, dp, m, ks, rfl, _⟩ := h
    rfl
  obtain ⟨a, d, cs, rs, p, e, f, dp, m, ks, rfl, hC, hD, hA, hh, hpe, he, hks, hef, hfn, hG, q⟩ := h
  obtain ⟨i1, i2, i3, i4, i5, i6⟩ := hd_none hh
  refine ⟨_, (pss_cons (ps_set (i := 3) scBoxAt.nd rfl (Or.inl rfl) (pe_op op_add (pv 1) (pe_gc rfl T.cHEAD)))
      (pss_cons (ps_set (i := 4) scBoxAt.nd rfl (Or.inl rfl) (pe_op op_add (pv 1) (pe_ix ix_seq (pv 0) (pe_op op_add (pv 1) pe_int) (fun _ _ => rfl))))
      (pss_cons (ps_if (pt_cmpR op_eq (pe_ix ix_seq (pv 0) (pv 1) (fun _ _ => rfl)) (pe_gc rfl T.cGROUP) (nomark _)) 
        (pss_one (ps_ret (pe_tup (pa_cons pe_str (pa_cons (pe_c C_boxesBetween hr (Nat.le_refl _) rfl (pa_cons (pv 0) (pa_cons (pv 3) (pa_cons (pv 4) (pa_cons (pv 2) pa_nil))))) pa_nil))))) pss_nil)
      (pss_cons (ps_if (pt_cmpR op_eq (pe_ix ix_seq (pv 0) (pv 1) (fun _ _ => rfl)) (pe_gc rfl T.cDATA) (nomark _)) 
        (pss_one (ps_ret (pe_tup (pa_cons pe_str (pa_cons (pe_callTy call_tuple_of (by rfl) T.tuple b_tuple (pa_cons (pe_slice sl_seq (pv 0) (po_some (pv 3)) (po_some (pv 4))) pa_nil)) pa_nil))))) pss_nil)
      (pss_cons (ps_if (pt_cmpR op_eq (pe_ix ix_seq (pv 0) (pv 1) (fun _ _ => rfl)) (pe_gc rfl T.cFREE) (nomark _)) 
        (pss_one (ps_ret (pe_tup (pa_cons pe_str (pa_cons (pe_op op_sub (pv 4) (pv 3)) pa_nil))))) pss_nil)
      (pss_one (ps_ret (pe_tup (pa_cons pe_str (pa_cons (pe_callTy call_tuple_of (by rfl) T.tuple b_tuple (pa_cons (pe_lc (own := [("entry", 5)]) rfl scBoxAt.nd (pi_seq (pe_slice sl_seq (pv 0) (po_some (pv 3)) (po_some (pv 4)))) (blkOk_by (own := [("entry", 5)]) (N := NBoxAt) (sc := (fnScope sBoxAt)) (by decide +kernel)) (fun _ _ _ _ _ => (pg_name (i := 5) scBoxAt.nd rfl (.inl rfl))) (fun _ _ _ _ _ => pts_nil) (fun _ _ _ _ _ => (pe_dget (hu_of hr) (pv 2) (pv 5) (fun _ _ => rfl)))) pa_nil)) pa_nil)))))))))), ?_⟩
  walk_at "rd"
  refine hC.ix (p + 1) (by omega) (by omega) ?_
  walk_at "rd"
  refine hC.ix p rfl (by omega) ?_
  walk_at "rd"
  refine g_ite (fun h => ?_) (fun h => ?_)
  · have h' : cel cs p = 1 := by
      have := V.int.inj h
      omega
    rw [if_pos h'] at hks
    walk_at "rd"
    refine ⟨a, d, cs, rs, p + 2, p + cel cs (p + 1), f, dp + 1, m, ks, by first | rfl | (simp only [List.append_nil]; rfl), hC, hD, hA, hks, by omega, hfn, by omega, by omega, fun p' hp' => hG p' (List.mem_cons_of_mem _ hp'), fun v H1 s1 t1 => ?_⟩
    refine ⟨(by show 2 ≤ sizeLine; decide), fun t ht => ?_⟩
    have s2 := same_new ht (.tup [V.str "group", v])
    refine q _ _ (s1.trans s2) ?_
    rw [da1, if_pos h']
    exact .pair upd_same (t1.same s2)
  have h1 : cel cs p ≠ 1 := fun z => h (congrArg V.int (by omega))
  walk_at "rd"
  have hcut := cut_ctn (cs := cs) (p := p) i5 (by omega)
  have ct30 : (ctn cs p).length ≤ 100 := by
    have := hC.len
    show ((plc (row cs p)).map (cel cs)).length ≤ 100
    rw [List.length_map, plc_len]
    have : (row cs p).2 = cel cs (p + 1) - 2 := rfl
    omega
  -- the cells of its content, as a new list or tuple
  have part : ∀ (Q' : VK), (∀ c H', Same H H' → (SqL K H' c ((ctn cs p).map vn) ∨ H' c = some (.tup ((ctn cs p).map vn))) → Q' (.ref c) H') →
      rSlL K (.ref a) (some ((p : Int) + 2)) (some ((p : Int) + (cel cs (p + 1) : Int))) H Q' ∨ rSlA K (.ref a) (some ((p : Int) + 2)) (some ((p : Int) + (cel cs (p + 1) : Int))) H Q' := fun Q' k' => by
    rcases hC.sq with z | z
    · refine .inl ⟨a, _, rfl, z, fun c hc => ?_⟩
      rw [hcut]
      exact k' c _ (same_new hc _) (.inl (SqL.of upd_same))
    · refine .inr ⟨a, _, rfl, z, fun w => ?_, fun _ c hc => ?_⟩
      · exfalso
        have w1 := w.1
        rw [show ((p : Int) + 2) = ((p + 2 : Nat) : Int) by omega, HT.sIx_nat, List.length_map] at w1
        omega
      · rw [hcut]
        exact k' c _ (same_new hc _) (.inr upd_same)
  refine hC.ix p rfl (by omega) ?_
  walk_at "rd"
  refine g_ite (fun h => ?_) (fun h => ?_)
  · have h2 : cel cs p = 2 := by
      have := V.int.inj h
      omega
    walk_at "rd"
    refine part _ fun c H1 s1 hc => ?_
    walk_at "rd"
    have fin : ∀ (v : V) (H2 : Hp), Same H H2 → Tp K H2 v (.tuple ((ctn cs p).map pn)) → ([V.str "data", v] : List V).length ≤ sizeLine ∧ ∀ t, H2 t = none → Q (.ref t) (upd H2 t (.tup [V.str "data", v])) := fun v H2 s2 t2 => by
      refine ⟨(by show 2 ≤ sizeLine; decide), fun t ht => ?_⟩
      have s3 := same_new ht (.tup [V.str "data", v])
      refine q _ _ (s2.trans s3) ?_
      rw [da1, if_neg h1, if_pos h2]
      exact .pair upd_same (t2.same s3)
    rcases hc with hc | hc
    · refine ⟨c, _, rfl, .inl ⟨hc, fun l hl => ?_⟩⟩
      have s2 := same_new hl (.tup ((ctn cs p).map vn))
      exact fin _ _ (s1.trans s2) (.tup upd_same (TpAll.ints _))
    · refine ⟨c, _, rfl, .inr ⟨SqT.of hc, ?_⟩⟩
      exact fin _ _ s1 (.tup hc (TpAll.ints _))
  have h2 : cel cs p ≠ 2 := fun z => h (congrArg V.int (by omega))
  walk_at "rd"
  refine hC.ix p rfl (by omega) ?_
  walk_at "rd"
  refine g_ite (fun h => ?_) (fun h => ?_)
  · have h3 : cel cs p = 3 := by
      have := V.int.inj h
      omega
    walk_at "rd"
    refine ⟨(by show 2 ≤ sizeLine; decide), fun t ht => ?_⟩
    have s3 := same_new ht (.tup [V.str "free", V.int ((p : Int) + (cel cs (p + 1) : Int) - ((p : Int) + 2))])
    refine q _ _ s3 ?_
    rw [da1, if_neg h1, if_neg h2, if_pos h3]
    rw [show ((cel cs (p + 1) : Int) - 2) = (p : Int) + (cel cs (p + 1) : Int) - ((p : Int) + 2) by omega]
    exact .pair upd_same (.int _)
  have h3 : cel cs p ≠ 3 := fun z => h (congrArg V.int (by omega))
  have h4 : cel cs p = 4 := by omega
  have hown := hG p (List.mem_cons_self) h4
  walk_at "rd"
  refine part _ fun c H1 s1 hc => ⟨c, rfl, ?_⟩
  have tail : ∀ (l : Addr) (xs : List V) (H2 : Hp), Same H H2 → H2 l = some (.lst xs) → TpAll K H2 xs ((ctn cs p).map (tgd rs)) → tCB (fun xs H Q => ∃ p ys, xs = [V.ref p] ∧ ((SqL K H p ys ∧ ∀ l, H l = none → Q (V.ref l) (upd H l (.tup ys))) ∨ (SqT K H p ys ∧ Q (V.ref p) H))) (fun σ H Q' => Q' [V.ref l] H) [] H2
      fun v H3 => ([V.str "table", v] : List V).length ≤ sizeLine ∧ ∀ t, H3 t = none → Q (.ref t) (upd H3 t (.tup [V.str "table", v])) := fun l xs H2 s2 hl ht => by
    refine ⟨l, _, rfl, .inl ⟨SqL.of hl, fun u hu => ⟨(by show 2 ≤ sizeLine; decide), fun t htt => ?_⟩⟩⟩
    have s3 := same_new hu (.tup xs)
    have s4 := same_new htt (.tup [V.str "table", V.ref u])
    refine q _ _ ((s2.trans s3).trans s4) ?_
    rw [da1, if_neg h1, if_neg h2, if_neg h3]
    exact .pair upd_same (.tup (s4 _ _ upd_same) ((ht.same s3).same s4))
  have turn : ∀ (D : Addr) (hD0 : H1 D = none) (i : Nat) (x : V) (H2 : Hp) (acc : List V), ((ctn cs p).map vn)[i]? = some x → Same H1 H2 → H2 D = some (.lst acc) → TpAll K H2 acc (((ctn cs p).map (tgd rs)).take i) → acc.length = i →
      ∃ t, (∃ n : Nat, x = vn n ∧ DGet H2 d (.int (n : Int)) (some (.ref t))) ∧ TpAll K (upd H2 D (.lst (acc ++ [.ref t]))) (acc ++ [.ref t]) (((ctn cs p).map (tgd rs)).take (i + 1)) := fun D hD0 i x H2 acc hx s2 hDD ht hl => by
    obtain ⟨n, hn, rfl⟩ := vn_get hx
    obtain ⟨i', j', hO⟩ := own_iff.mp (hown n (List.mem_of_getElem? hn))
    obtain ⟨t, g1, g2⟩ := (hD.same (s1.trans s2)).get hO
    refine ⟨t, ⟨n, rfl, g1⟩, ?_⟩
    have hiL : i < (ctn cs p).length := (List.getElem?_eq_some_iff.mp hn).1
    have etk : ((ctn cs p).map (tgd rs)).take (i + 1) = ((ctn cs p).map (tgd rs)).take i ++ [tgd rs n] := by
      rw [List.take_add_one, List.getElem?_map, hn]
      rfl
    have htk : TK K H2 (upd H2 D (.lst (acc ++ [.ref t]))) := tk_lst (K := K) hDD
    rw [etk]
    refine TpAll.mono htk _ _ (ht.snoc ?_)
    have etg : tgd rs n = .tuple [.int (i' : Int), .int (j' : Int)] := by
      unfold tgd
      rw [tgt_own hA hO]
    rw [etg]
    exact .tup g2 (.cons (.int _) (.cons (.int _) .nil))
  rcases hc with hc | hc
  · refine .inl ⟨⟨_, hc⟩, fun D hD0 => ?_⟩
    refine lc_it walk_list (fun i H2 => ∃ acc, Same H1 H2 ∧ H2 D = some (.lst acc) ∧ acc.length = i ∧ TpAll K H2 acc (((ctn cs p).map (tgd rs)).take i)) ⟨[], same_new hD0 _, upd_same, rfl, .nil⟩ (fun i H2 _ ⟨_, z, _⟩ => z.seq hc) ?_ ?_
    · rintro i x H2 H3 hi ⟨acc, u1, u2, u3, u4⟩ ⟨rfl, hx⟩
      obtain ⟨t, ⟨n, rfl, g1⟩, g2⟩ := turn D hD0 i x H3 acc hx u1 u2 u4 u3
      walk_at "rd"
      refine ⟨rfl, ?_⟩
      walk_at "rd"
      refine ⟨d, _, rfl, g1, acc, u2, small1000 (by rw [List.length_map] at hi; omega), acc ++ [.ref t], Same.putNew u1 hD0, upd_same, by rw [List.length_append, u3] <;> rfl, g2⟩
    · rintro H2 ⟨acc, u1, u2, u3, u4⟩
      rw [List.length_map] at u4
      rw [List.take_of_length_le (by rw [List.length_map]; exact Nat.le_refl _)] at u4
      exact tail D acc H2 (s1.trans u1) u2 u4
  · refine .inr ⟨⟨_, SqT.of hc⟩, fun D hD0 => ?_⟩
    refine lc_it walk_tup (fun i H2 => ∃ acc, Same H1 H2 ∧ H2 D = some (.lst acc) ∧ acc.length = i ∧ TpAll K H2 acc (((ctn cs p).map (tgd rs)).take i)) ⟨[], same_new hD0 _, upd_same, rfl, .nil⟩ (fun i H2 _ ⟨_, z, _⟩ => Same.sqt z (SqT.of hc)) ?_ ?_
    · rintro i x H2 H3 hi ⟨acc, u1, u2, u3, u4⟩ ⟨rfl, hx⟩
      obtain ⟨t, ⟨n, rfl, g1⟩, g2⟩ := turn D hD0 i x H3 acc hx u1 u2 u4 u3
      walk_at "rd"
      refine ⟨rfl, ?_⟩
      walk_at "rd"
      refine ⟨d, _, rfl, g1, acc, u2, small1000 (by rw [List.length_map] at hi; omega), acc ++ [.ref t], Same.putNew u1 hD0, upd_same, by rw [List.length_append, u3] <;> rfl, g2⟩
    · rintro H2 ⟨acc, u1, u2, u3, u4⟩
      rw [List.length_map] at u4
      rw [List.take_of_length_le (by rw [List.length_map]; exact Nat.le_refl _)] at u4
      exact tail D acc H2 (s1.trans u1) u2 u4
end
end Bx

namespace Bx
theorem hsL_cons (b : Bo) (r : List Bo) : hsL (b :: r) = hsB b ++ hsL r := by rw [hsL]
theorem daL_true (cs : List Nat) (rs : List (Nat × Nat)) (b : Bo) (r : List Bo) : daL true cs rs (b :: r) = da1 true cs rs b :: daL true cs rs r := by
  rw [daL, if_neg (fun z => Bool.noConfusion z.1)]
section
variable {P : Program} {w : World} {K : PySem.W.Frag} {mg : Str → Option Value} {base : Heap}
theorem ok_boxesBetween {n k : Nat} {f : Addr} {fd : FuncData} (F : Def K mg "boxes_between" sBoxesBetween f fd) (b : Binds K fd ["cells", "begin", "end", "targets"] []) (T : Txt mg) (C_boxAt : Cal P w K mg base k "box_at" (spBoxAt K n) []) :
    Cal P w K mg base (k + 1) "boxes_between" (spBoxesBetween K (n + 1)) [] := by
  refine cal0 F b .nil scBoxesBetween (fun vs H Q E h => ?_) (fun cdv A outer s H vs Q E hr h => ?_)
  · obtain ⟨a, d, cs, rs, p, e, f, dp, m, bs, rfl, _⟩ := h
    rfl
  obtain ⟨a, d, cs, rs, p, e, f, dp, m, bs, rfl, hC, hD, hA, hp, hf, hn, hpe, he, hG, q⟩ := h
  have h30 := hC.len
  refine ⟨_, (pss_cons (ps_set (i := 4) scBoxesBetween.nd rfl (Or.inl rfl) (pe_lst pa_nil))
      (pss_cons (ps_set (i := 5) scBoxesBetween.nd rfl (Or.inl rfl) (pv 1))
      (pss_cons (ps_while PassesOwn.never (pt_cmpR op_lt (pv 5) (pv 2) (nomark _)) 
        (pss_cons (ps_expr (pe_bm PySem.F.plainAttrs_list PySem.F.slot_list_append PySem.F.type_list_append mt_append (pv 4) (pa_cons (pe_c C_boxAt hr (Nat.le_refl _) rfl (pa_cons (pv 0) (pa_cons (pv 5) (pa_cons (pv 3) pa_nil)))) pa_nil)))
        (pss_one (ps_aug (i := 5) scBoxesBetween.nd rfl (.inl rfl) (pe_ix ix_seq (pv 0) (pe_op op_add (pv 5) pe_int) (fun _ _ => rfl)) ip_add))))
      (pss_one (ps_ret (pe_callTy call_tuple_of (by rfl) T.tuple b_tuple (pa_cons (pv 4) pa_nil))))))), ?_⟩
  walk_at "rd"
  refine ⟨Nat.zero_le _, fun l hl => ?_⟩
  walk_at "rd"
  refine while_v (fun g σ H' => ∃ (p' : Nat) (acc : List V) (bs' : List Bo) (done : List PyData), σ = [some (.ref a), some (.int p), some (.int e), some (.ref d), some (.ref l), some (.int p')] ∧ Same H H' ∧ H' l = some (.lst acc) ∧ TpAll K H' acc done ∧ prs g cs p' e dp = .ok bs' ∧
      daL true cs rs bs = done ++ daL true cs rs bs' ∧ Good cs rs (hsL bs') ∧ e - p' < g ∧ g ≤ n + 1 ∧ p' ≤ e ∧ acc.length ≤ p') f
    ⟨p, [], bs, [], rfl, same_new hl _, upd_same, .nil, hp, rfl, hG, hf, hn, hpe, Nat.zero_le _⟩ ?_
  rintro g σ H' ⟨p', acc, bs', done, rfl, s1, s2, s3, s4, s5, s6, s7, s8, s9, s10⟩
  obtain ⟨g, rfl⟩ : ∃ g', g = g' + 1 := ⟨g - 1, by omega⟩
  walk_at "rd"
  rcases prs_ok s4 with ⟨hl', rfl⟩ | ⟨hl', q1, ks, r, i1, i2, rfl⟩
  · refine g_dF (by omega) ?_
    walk_at "rd"
    refine ⟨l, acc, rfl, .inl ⟨SqL.of s2, fun t ht => ?_⟩⟩
    refine q _ _ (s1.trans (same_new ht _)) (.tup upd_same ?_)
    rw [s5, daL, List.append_nil]
    exact s3.same (same_new ht _)
  · obtain ⟨j1, j2, j3, j4, j5, j6⟩ := hd_none q1
    refine g_dT (by omega) ⟨_, fun _ _ z => z, ?_⟩
    walk_at "rd"
    refine ⟨ty_l (SqL.of s2), ?_⟩
    walk_at "rd"
    refine ⟨a, d, cs, rs, p', e, g, dp, m, ks, rfl, hC.same s1, hD.same s1, hA, q1, hl', he, i1, by omega, by omega, fun y hy => s6 y ?_, fun v H2 t1 t2 => ?_⟩
    · rw [hsL_cons, hsB]
      exact List.mem_append_left _ hy
    walk_at "rd"
    have t3 := t1 _ _ s2
    refine g_app t3 (by omega) ?_
    walk_at "rd"
    have tS : Same H (upd H2 l (.lst (acc ++ [v]))) := Same.putNew (s1.trans t1) hl
    refine (hC.same tS).ix (p' + 1) (by omega) (by omega) ?_
    walk_at "rd"
    refine ⟨g, Nat.lt_succ_self _, p' + cel cs (p' + 1), acc ++ [v], r, done ++ [da1 true cs rs (.bx (cel cs p') p' (cel cs (p' + 1)) ks)], ?_, tS, upd_same, TpAll.mono (tk_lst t3) _ _ ((s3.same t1).snoc t2), i2, ?_, fun y hy => s6 y ?_, by omega, by omega, by omega, ?_⟩
    · rw [Int.natCast_add]
      rfl
    · rw [s5, daL_true, List.append_assoc]
      rfl
    · rw [hsL_cons]
      exact List.mem_append_right _ hy
    · rw [List.length_append, List.length_singleton]
      omega
theorem ok_bb {f f' : Addr} {fd fd' : FuncData} (F : Def K mg "boxes_between" sBoxesBetween f fd) (b : Binds K fd ["cells", "begin", "end", "targets"] []) (F' : Def K mg "box_at" sBoxAt f' fd') (b' : Binds K fd' ["cells", "at", "targets"] []) (T : Txt mg) :
    ∀ n : Nat, Cal P w K mg base (2 * n + 1) "boxes_between" (spBoxesBetween K n) []
  | 0 => by
    refine cal0 F b .nil scBoxesBetween (fun vs H Q E h => ?_) (fun cdv A outer s H vs Q E hr h => ?_)
    · obtain ⟨a, d, cs, rs, p, e, f, dp, m, bs, rfl, _⟩ := h
      rfl
    · obtain ⟨a, d, cs, rs, p, e, f, dp, m, bs, rfl, hC, hD, hA, hp, hf, hn, _⟩ := h
      omega
  | n + 1 => ok_boxesBetween F b T (ok_boxAt F' b' T (ok_bb F b F' b' T n))
end
end Bx

namespace Bx
mutual
def depB : Bo → Nat
  | .bx _ _ _ ks => depL ks + 1
def depL : List Bo → Nat
  | [] => 0
  | b :: r => max (depB b) (depL r)
end
theorem prs_dep : ∀ (f : Nat) (cs : List Nat) (a e dp : Nat) (bs : List Bo), prs f cs a e dp = .ok bs → depL bs ≤ f
  | 0, _, _, _, _, _, h => by
    rw [prs] at h
    cases h
    exact Nat.le_refl _
  | f + 1, cs, a, e, dp, bs, h => by
    rcases prs_ok h with ⟨_, rfl⟩ | ⟨_, _, ks, r, i, j, rfl⟩
    · exact Nat.zero_le _
    · have hr := prs_dep f _ _ _ _ _ j
      rw [depL, depB]
      by_cases g : cel cs a = 1
      · rw [if_pos g] at i
        have hk := prs_dep f _ _ _ _ _ i
        omega
      · rw [if_neg g] at i
        cases i
        have : depL ([] : List Bo) = 0 := rfl
        omega
theorem ne_dg : ¬ V.str (Str.ofString "data") = V.str (Str.ofString "group") := fun h => absurd (V.str.inj h) (by decide +kernel)
theorem ne_fg : ¬ V.str (Str.ofString "free") = V.str (Str.ofString "group") := fun h => absurd (V.str.inj h) (by decide +kernel)
theorem ne_tg : ¬ V.str (Str.ofString "table") = V.str (Str.ofString "group") := fun h => absurd (V.str.inj h) (by decide +kernel)
theorem ne_df : ¬ V.str (Str.ofString "data") = V.str (Str.ofString "free") := fun h => absurd (V.str.inj h) (by decide +kernel)
theorem ne_tf : ¬ V.str (Str.ofString "table") = V.str (Str.ofString "free") := fun h => absurd (V.str.inj h) (by decide +kernel)
theorem ne_dt : ¬ V.str (Str.ofString "data") = V.str (Str.ofString "table") := fun h => absurd (V.str.inj h) (by decide +kernel)
theorem ne_ft : ¬ V.str (Str.ofString "free") = V.str (Str.ofString "table") := fun h => absurd (V.str.inj h) (by decide +kernel)
theorem ne_fd : ¬ V.str (Str.ofString "free") = V.str (Str.ofString "data") := fun h => absurd (V.str.inj h) (by decide +kernel)
theorem ne_td : ¬ V.str (Str.ofString "table") = V.str (Str.ofString "data") := fun h => absurd (V.str.inj h) (by decide +kernel)
theorem daL_false (cs : List Nat) (rs : List (Nat × Nat)) (b : Bo) (r : List Bo) : daL false cs rs (b :: r) = if isF cs b = true then daL false cs rs r else da1 false cs rs b :: daL false cs rs r := by
  rw [daL]
  by_cases h : isF cs b = true
  · rw [if_pos ⟨rfl, h⟩, if_pos h]
  · rw [if_neg (fun z => h z.2), if_neg h]
theorem daL_snoc (cs : List Nat) (rs : List (Nat × Nat)) : ∀ (l : List Bo) (b : Bo), daL false cs rs (l ++ [b]) = daL false cs rs l ++ (if isF cs b = true then [] else [da1 false cs rs b])
  | [], b => by
    rw [List.nil_append, daL_false, daL]
    rfl
  | c :: r, b => by
    rw [List.cons_append, daL_false, daL_false, daL_snoc cs rs r b]
    by_cases h : isF cs c = true
    · rw [if_pos h, if_pos h]
    · rw [if_neg h, if_neg h]
      rfl
theorem daL_get (cs : List Nat) (rs : List (Nat × Nat)) : ∀ (l : List Bo) (i : Nat), (daL true cs rs l)[i]? = (l[i]?).map (da1 true cs rs)
  | [], i => by
    rw [daL]
    rfl
  | b :: r, 0 => by
    rw [daL_true]
    rfl
  | b :: r, i + 1 => by
    rw [daL_true]
    exact daL_get cs rs r i
theorem dep_mem : ∀ (l : List Bo) (b : Bo), b ∈ l → depB b ≤ depL l
  | c :: r, b, h => by
    rw [depL]
    rcases List.mem_cons.mp h with h | h
    · subst h
      omega
    · have := dep_mem r b h
      omega
theorem len_hsL : ∀ bs : List Bo, bs.length ≤ (hsL bs).length
  | [] => Nat.zero_le _
  | .bx _ _ _ _ :: r => by
    have := len_hsL r
    rw [hsL_cons, hsB, List.length_append, List.length_cons, List.length_cons]
    omega
theorem mem_hsL : ∀ (bs : List Bo) (b : Bo), b ∈ bs → (hsB b).length ≤ (hsL bs).length
  | c :: r, b, h => by
    rw [hsL_cons, List.length_append]
    rcases List.mem_cons.mp h with h | h
    · subst h
      omega
    · have := mem_hsL r b h
      omega
section
variable {P : Program} {w : World} {K : PySem.W.Frag} {mg : Str → Option Value} {base : Heap}
def spWithoutFree (K : PySem.W.Frag) (n : Nat) : Sp := fun vs H Q _ => ∃ (v : V) (cs : List Nat) (rs : List (Nat × Nat)) (bs : List Bo), vs = [v] ∧ Tp K H v (.tuple (daL true cs rs bs)) ∧ depL bs < n ∧ (hsL bs).length ≤ 1000 ∧
  (∀ x H', Same H H' → Tp K H' x (.tuple (daL false cs rs bs)) → Q x H')
theorem ok_withoutFree {f : Addr} {fd : FuncData} (F : Def K mg "without_free" sWithoutFree f fd) (b : Binds K fd ["boxes"] []) (T : Txt mg) :
    ∀ n : Nat, Cal P w K mg base (n + 1) "without_free" (spWithoutFree K n) []
  | 0 => by
    refine cal0 F b .nil scWithoutFree (fun vs H Q E h => ?_) (fun cdv A outer s H vs Q E hr h => ?_)
    · obtain ⟨v, cs, rs, bs, rfl, _⟩ := h
      rfl
    · obtain ⟨v, cs, rs, bs, rfl, _, h, _⟩ := h
      omega
  | n + 1 => by
    have C_withoutFree := ok_withoutFree F b T n
    refine cal0 F b .nil scWithoutFree (fun vs H Q E h => ?_) (fun cdv A outer s H vs Q E hr h => ?_)
    · obtain ⟨v, cs, rs, bs, rfl, _⟩ := h
      rfl
    obtain ⟨v, cs, rs, bs, rfl, hv, hn, hlen, q⟩ := h
    obtain ⟨t, xs, rfl, hT, hX⟩ := Tp.tup_inv hv
    refine ⟨_, (pss_cons (ps_set (i := 1) scWithoutFree.nd rfl (Or.inl rfl) (pe_lst pa_nil))
        (pss_cons (ps_for PassesOwn.never rfl (pi_tup (pv 0)) (pg_tup rfl (pgs_cons (pg_name (i := 2) scWithoutFree.nd rfl (.inl rfl)) (pgs_cons (pg_name (i := 3) scWithoutFree.nd rfl (.inl rfl)) pgs_nil))) 
          (pss_one (ps_if (pt_cmpR op_eq (pv 2) pe_str (nomark _)) 
            (pss_one (ps_expr (pe_bm PySem.F.plainAttrs_list PySem.F.slot_list_append PySem.F.type_list_append mt_append (pv 1) (pa_cons (pe_tup (pa_cons (pv 2) (pa_cons (pe_c C_withoutFree hr (Nat.le_refl _) rfl (pa_cons (pv 3) pa_nil)) pa_nil))) pa_nil)))) 
            (pss_one (ps_if (pt_cmpR op_ne (pv 2) pe_str (nomark _)) 
              (pss_one (ps_expr (pe_bm PySem.F.plainAttrs_list PySem.F.slot_list_append PySem.F.type_list_append mt_append (pv 1) (pa_cons (pe_tup (pa_cons (pv 2) (pa_cons (pv 3) pa_nil))) pa_nil)))) pss_nil)))))
        (pss_one (ps_ret (pe_callTy call_tuple_of (by rfl) T.tuple b_tuple (pa_cons (pv 1) pa_nil)))))), ?_⟩
    walk_at "rd"
    refine ⟨Nat.zero_le _, fun l hl => ?_⟩
    walk_at "rd"
    have s0 : Same H (upd H l (.lst [])) := same_new hl _
    have hxl : xs.length = bs.length := by
      have := congrArg List.length (show daL true cs rs bs = bs.map (da1 true cs rs) from List.ext_getElem? fun i => by rw [daL_get, List.getElem?_map])
      rw [hX.length, this, List.length_map]
    refine ⟨t, rfl, ⟨_, Same.sqt s0 hT⟩, for_it walk_tup (fun i σ H' => (∃ v2 v3, σ = [some (.ref t), some (.ref l), v2, v3]) ∧ Same H H' ∧ ∃ acc, H' l = some (.lst acc) ∧ TpAll K H' acc (daL false cs rs (bs.take i)) ∧ acc.length ≤ i)
      ⟨⟨_, _, rfl⟩, s0, [], upd_same, .nil, Nat.le_refl _⟩ (fun i σ H' _ z => Same.sqt z.2.1 hT) ?_ ?_⟩
    · rintro i x σ H1 H2 hi ⟨⟨v2, v3, rfl⟩, s1, acc, s2, s3, s4⟩ ⟨rfl, hx⟩
      obtain ⟨dd, e1, e2⟩ := hX.get hx
      rw [daL_get] at e1
      cases hb : bs[i]? with
      | none =>
        rw [hb] at e1
        cases e1
      | some bb =>
        rw [hb] at e1
        have e3 := (Option.some.inj e1).symm
        subst e3
        have etk : bs.take (i + 1) = bs.take i ++ [bb] := by
          rw [List.take_add_one, hb]
          rfl
        have hdb := dep_mem bs bb (List.mem_of_getElem? hb)
        have hi' : i < bs.length := (List.getElem?_eq_some_iff.mp hb).1
        obtain ⟨kd, p, nn, ks⟩ := bb
        rw [depB] at hdb
        rw [da1] at e2
        have hkl := mem_hsL bs _ (List.mem_of_getElem? hb)
        rw [hsB, List.length_cons] at hkl
        have hbl := len_hsL bs
        -- what is put behind
        have put : ∀ (y : V) (H3 : Hp), Same H2 H3 → isF cs (.bx kd p nn ks) = false → Tp K (upd H3 l (.lst (acc ++ [y]))) y (da1 false cs rs (.bx kd p nn ks)) →
            Same H (upd H3 l (.lst (acc ++ [y]))) ∧ ∃ acc', (upd H3 l (.lst (acc ++ [y]))) l = some (.lst acc') ∧ TpAll K (upd H3 l (.lst (acc ++ [y]))) acc' (daL false cs rs (bs.take (i + 1))) ∧ acc'.length ≤ i + 1 := fun y H3 u1 u2 u3 => by
          refine ⟨Same.putNew (s1.trans u1) hl, acc ++ [y], upd_same, ?_, by rw [List.length_append, List.length_singleton]; omega⟩
          rw [etk, daL_snoc, if_neg (by rw [u2]; exact Bool.false_ne_true)]
          exact (TpAll.mono (tk_lst (K := K) (u1 _ _ s2)) _ _ (s3.same u1)).snoc u3
        by_cases k1 : cel cs p = 1
        · rw [if_pos k1] at e2
          obtain ⟨tx, y, rfl, g1, g2⟩ := Tp.pair_inv e2
          refine g_tupT (Same.sqt s1 g1) rfl ?_
          walk_at "rd"
          refine g_dT rfl ?_
          walk_at "rd"
          refine ⟨ty_l (SqL.of s2), ?_⟩
          walk_at "rd"
          refine ⟨y, cs, rs, ks, rfl, g2.same s1, by omega, by omega, fun z H3 t1 t2 => ?_⟩
          refine ⟨(by show 2 ≤ sizeLine; decide), fun u hu => ?_⟩
          have t3 := same_new hu (.tup [V.str "group", z])
          walk_at "rd"
          refine g_app (t3 _ _ (t1 _ _ s2)) (by omega) ?_
          refine ⟨⟨_, _, rfl⟩, put _ _ (t1.trans t3) (decide_eq_false (by omega)) ?_⟩
          rw [da1, if_pos k1]
          refine Tp.mono (tk_lst (K := K) (t3 _ _ (t1 _ _ s2))) _ _ (.pair upd_same (t2.same t3))
        rw [if_neg k1] at e2
        -- a box that is kept as it is
        have keep : ∀ (sx : Str) (dd : PyData), ¬ V.str sx = V.str (Str.ofString "group") → ¬ V.str sx = V.str (Str.ofString "free") → isF cs (.bx kd p nn ks) = false → Tp K H x (.tuple [.str sx, dd]) → da1 false cs rs (.bx kd p nn ks) = .tuple [.str sx, dd] → gTup K 2 (gCons (gName 2) (gCons (gName 3) gNil)) x [some (V.ref t), some (V.ref l), v2, v3] H2 fun σ2 H2 =>
            tIfS (tTest (tOp rEq (tVar 2) (tC (V.str (Str.ofString "group")))))
              (tDrop (tBM K "list" rAppend (tVar 1) (tCons (tTup (tCons (tVar 2) (tCons (tCall (spWithoutFree K n) [] C8.E0 (tCons (tVar 3) tNil)) tNil))) tNil)))
              (tIfS (tTest (tOp rNe (tVar 2) (tC (V.str (Str.ofString "free")))))
                (tDrop (tBM K "list" rAppend (tVar 1) (tCons (tTup (tCons (tVar 2) (tCons (tVar 3) tNil))) tNil))) tNext)
              { nx := fun σ' H' => (∃ v2 v3, σ' = [some (V.ref t), some (V.ref l), v2, v3]) ∧ Same H H' ∧ ∃ acc, H' l = some (.lst acc) ∧ TpAll K H' acc (daL false cs rs (bs.take (i + 1))) ∧ acc.length ≤ i + 1, rt := Q } σ2 H2 := fun sx dd n1 n2 n3 e2 e4 => by
          obtain ⟨tx, y, rfl, g1, g2⟩ := Tp.pair_inv e2
          refine g_tupT (Same.sqt s1 g1) rfl ?_
          walk_at "rd"
          refine g_dF n1 ?_
          walk_at "rd"
          refine g_ndT n2 ?_
          walk_at "rd"
          refine ⟨ty_l (SqL.of s2), ?_⟩
          walk_at "rd"
          refine ⟨(by show 2 ≤ sizeLine; decide), fun u hu => ?_⟩
          have t3 := same_new hu (.tup [V.str sx, y])
          walk_at "rd"
          refine g_app (t3 _ _ s2) (by omega) ?_
          refine ⟨⟨_, _, rfl⟩, put _ _ t3 n3 ?_⟩
          rw [e4]
          refine Tp.mono (tk_lst (K := K) (t3 _ _ s2)) _ _ (.pair upd_same ((g2.same s1).same t3))
        by_cases k2 : cel cs p = 2
        · rw [if_pos k2] at e2
          exact keep _ _ ne_dg ne_df (decide_eq_false (by omega)) e2 (by rw [da1, if_neg k1, if_pos k2])
        rw [if_neg k2] at e2
        by_cases k3 : cel cs p = 3
        · rw [if_pos k3] at e2
          obtain ⟨tx, y, rfl, g1, g2⟩ := Tp.pair_inv e2
          refine g_tupT (Same.sqt s1 g1) rfl ?_
          walk_at "rd"
          refine g_dF ne_fg ?_
          walk_at "rd"
          refine g_ndF rfl ?_
          walk_at "rd"
          refine ⟨⟨_, _, rfl⟩, s1, acc, s2, ?_, by omega⟩
          rw [etk, daL_snoc, if_pos (show isF cs (.bx kd p nn ks) = true from decide_eq_true k3), List.append_nil]
          exact s3
        · rw [if_neg k3] at e2
          exact keep _ _ ne_tg ne_tf (decide_eq_false k3) e2 (by rw [da1, if_neg k1, if_neg k2, if_neg k3])
    · rintro σ H1 ⟨⟨v2, v3, rfl⟩, s1, acc, s2, s3, s4⟩
      walk_at "rd"
      refine ⟨l, acc, rfl, .inl ⟨SqL.of s2, fun u hu => ?_⟩⟩
      have s5 := same_new hu (.tup acc)
      rw [List.take_of_length_le (by omega)] at s3
      exact q _ _ (s1.trans s5) (.tup upd_same (s3.same s5))
end
end Bx

namespace Bx
/-- the law's cell of a script -/
def cat (ns : List Int) (k : Nat) : Int := if k < ns.length then ns.getD k 0 else if ns = [] then (k : Int) * 48271 else ((ns.getD (k % ns.length) 0 + (k : Int)) * 48271) % 2147483647
/-- the script -/
structure Scr (K : PySem.W.Frag) (H : Hp) (S : Addr) (ns : List Int) : Prop where
  sq : SqL K H S (ns.map V.int)
  len : ns.length ≤ 63
theorem Scr.same {K : PySem.W.Frag} {H H' : Hp} {S : Addr} {ns : List Int} (x : Scr K H S ns) (e : Same H H') : Scr K H' S ns := ⟨e.seq x.sq, x.len⟩
theorem Scr.samex {L : List Addr} {K : PySem.W.Frag} {H H' : Hp} {S : Addr} {ns : List Int} (x : Scr K H S ns) (e : SameX L H H') (n : S ∉ L) : Scr K H' S ns := ⟨e.seq n x.sq, x.len⟩
theorem int_get {ns : List Int} {i : Nat} (h : i < ns.length) : (ns.map V.int)[i]? = some (.int (ns.getD i 0)) := by
  rw [List.getElem?_map, List.getElem?_eq_getElem h, List.getD_eq_getElem?_getD, List.getElem?_eq_getElem h]
  rfl
section
variable {P : Program} {w : World} {K : PySem.W.Frag} {mg : Str → Option Value} {base : Heap}
def spCellAt (K : PySem.W.Frag) : Sp := fun vs H Q _ => ∃ (S : Addr) (ns : List Int) (k : Nat), vs = [.ref S, .int k] ∧ Scr K H S ns ∧ k ≤ 100000 ∧ ∀ H', Same H H' → Q (.int (cat ns k)) H'
theorem ok_lCellAt {f : Addr} {fd : FuncData} (F : Def K mg "_law_cell_at" sLCellAt f fd) (b : Binds K fd ["_law_script", "_law_k"] []) (T : Txt mg) : Cal P w K mg base 1 "_law_cell_at" (spCellAt K) [] := by
  refine cal0 F b .nil scLCellAt (fun vs H Q E h => ?_) (fun cdv A outer s H vs Q E hr h => ?_)
  · obtain ⟨S, ns, k, rfl, _⟩ := h
    rfl
  obtain ⟨S, ns, k, rfl, hS, hk, q⟩ := h
  refine ⟨_, (pss_cons (ps_if (pt_cmpR op_lt (pv 1) (pe_callB call_len_seq (by rfl) T.len b_len (pa_cons (pv 0) pa_nil)) (nomark _)) 
        (pss_one (ps_ret (pe_ix ix_list (pv 0) (pv 1) (fun _ _ => rfl)))) pss_nil)
      (pss_cons (ps_if (pt_cmpR (op_eqD hr.units) (pv 0) (pe_lst pa_nil) (nomark _)) 
        (pss_one (ps_ret (pe_op op_mul (pv 1) pe_int))) pss_nil)
      (pss_one (ps_ret (pe_op op_mod (pe_callTy call_int1 (by rfl) T.int b_int (pa_cons (pe_op op_mul (pe_op op_add (pe_ix ix_list (pv 0) (pe_op op_mod (pe_callTy call_int1 (by rfl) T.int b_int (pa_cons (pv 1) pa_nil)) (pe_callB call_len_seq (by rfl) T.len b_len (pa_cons (pv 0) pa_nil))) (fun _ _ => rfl)) (pv 1)) pe_int) pa_nil)) pe_int))))), ?_⟩
  walk_at "rd"
  refine ⟨_, _, rfl, .inl hS.sq, ?_⟩
  rw [List.length_map]
  walk_at "rd"
  refine g_ite (fun h => ?_) (fun h => ?_)
  · have h' : k < ns.length := by omega
    walk_at "rd"
    refine g_ixL k hS.sq rfl (int_get h') ?_
    have := q H (Same.refl H)
    rw [cat, if_pos h'] at this
    exact this
  have h' : ¬ k < ns.length := by omega
  walk_at "rd"
  refine ⟨Nat.zero_le _, fun l hl => ?_⟩
  have s1 := same_new hl (.lst [])
  refine ⟨.list (ns.map PyData.int), .list [], .lst (s1.seq hS.sq) (dp_ints ns rfl), .lst (SqL.of upd_same) .nil, shaped_ints ns, shaped_nil, ?_⟩
  rw [eqv_nil]
  walk_at "rd"
  refine g_ite (fun h2 => ?_) (fun h2 => ?_)
  · have h3 : ns = [] := List.map_eq_nil_iff.mp h2
    walk_at "rd"
    refine g_I (.inr ⟨by decide, by decide⟩) ?_
    have := q _ s1
    rw [cat, if_neg h', if_pos h3] at this
    exact this
  · have h3 : ns ≠ [] := fun z => h2 (by rw [z]; rfl)
    have h0 : 0 < ns.length := List.length_pos_iff.mpr h3
    walk_at "rd"
    refine ⟨_, _, rfl, .inl (s1.seq hS.sq), ?_⟩
    rw [List.length_map]
    refine g_I (by show (0 : Int) < _; omega) ?_
    refine g_ixL (k % ns.length) (s1.seq hS.sq) (by rw [Int.natCast_emod]) (int_get (Nat.mod_lt _ h0)) ?_
    walk_at "rd"
    refine g_I (.inr ⟨by decide, by decide⟩) ?_
    walk_at "rd"
    refine g_I (by show (0 : Int) < _; decide) ?_
    have := q _ s1
    rw [cat, if_neg h', if_neg h3] at this
    exact this
/-- row[int(cell) % len(row)] -/
def spPick (K : PySem.W.Frag) : Sp := fun vs H Q _ => ∃ (S R : Addr) (ns : List Int) (k : Nat) (xs : List V), vs = [.ref S, .int k, .ref R] ∧ Scr K H S ns ∧ k ≤ 100000 ∧ SqL K H R xs ∧ 0 < xs.length ∧
  ∀ H' j v, Same H H' → j = (cat ns k % (xs.length : Int)).toNat → xs[j]? = some v → Q v H'
theorem ok_lPick {f : Addr} {fd : FuncData} (F : Def K mg "_law_pick" sLPick f fd) (b : Binds K fd ["_law_script", "_law_at", "_law_row"] []) (T : Txt mg) (C_lCellAt : Cal P w K mg base 1 "_law_cell_at" (spCellAt K) []) : Cal P w K mg base 2 "_law_pick" (spPick K) [] := by
  refine cal0 F b .nil scLPick (fun vs H Q E h => ?_) (fun cdv A outer s H vs Q E hr h => ?_)
  · obtain ⟨S, R, ns, k, xs, rfl, _⟩ := h
    rfl
  obtain ⟨S, R, ns, k, xs, rfl, hS, hk, hR, h0, q⟩ := h
  refine ⟨_, (pss_one (ps_ret (pe_ix ix_list (pv 2) (pe_op op_mod (pe_callTy call_int1 (by rfl) T.int b_int (pa_cons (pe_c C_lCellAt hr (by decide) rfl (pa_cons (pv 0) (pa_cons (pv 1) pa_nil))) pa_nil)) (pe_callB call_len_seq (by rfl) T.len b_len (pa_cons (pv 2) pa_nil))) (fun _ _ => rfl)))), ?_⟩
  walk_at "rd"
  refine ⟨S, ns, k, rfl, hS, hk, fun H1 s1 => ?_⟩
  walk_at "rd"
  refine ⟨_, _, rfl, .inl (s1.seq hR), ?_⟩
  refine g_I (by show (0 : Int) < _; omega) ?_
  have m0 := Int.emod_nonneg (cat ns k) (show (xs.length : Int) ≠ 0 by omega)
  have m1 := Int.emod_lt_of_pos (cat ns k) (show (0 : Int) < (xs.length : Int) by omega)
  have hj : (cat ns k % (xs.length : Int)).toNat < xs.length := by omega
  exact g_ixL (cat ns k % (xs.length : Int)).toNat (s1.seq hR) (by omega) (List.getElem?_eq_getElem hj) (q H1 _ _ s1 rfl (List.getElem?_eq_getElem hj))
end
end Bx

namespace Bx
/-! ### readings of written data -/
def Ge (K : PySem.W.Frag) (te : TE) (d : PyData) : Prop := ∀ (σ : L2.St) (H : Hp) (Q : VK), (∀ v H', Same H H' → Tp K H' v d → Q v H') → te σ H Q
def Gv (K : PySem.W.Frag) (ta : TA) (ds : List PyData) : Prop := ∀ (σ : L2.St) (H : Hp) (Q : List V → Hp → Prop), (∀ vs H', Same H H' → TpAll K H' vs ds → Q vs H') → ta σ H Q
section
variable {K : PySem.W.Frag} {te : TE} {ta tr : TA} {d : PyData} {ds : List PyData}
theorem Ge.str (x : Str) : Ge K (tC (.str x)) (.str x) := fun _ H _ q => q _ H (Same.refl H) (.str x)
theorem Ge.int (x : Int) : Ge K (tC (.int x)) (.int x) := fun _ H _ q => q _ H (Same.refl H) (.int x)
theorem Gv.nil : Gv K tNil [] := fun _ H _ q => q _ H (Same.refl H) .nil
theorem Gv.cons (h1 : Ge K te d) (h2 : Gv K tr ds) : Gv K (tCons te tr) (d :: ds) := fun σ H Q q => h1 σ H _ fun v H1 s1 t1 => h2 σ H1 _ fun vs H2 s2 t2 => q _ H2 (s1.trans s2) (.cons (t1.same s2) t2)
theorem Ge.tup (h : Gv K ta ds) (hz : ds.length ≤ 1000) : Ge K (tTup ta) (.tuple ds) := fun σ H Q q => h σ H _ fun vs H1 s1 t1 => ⟨by rw [t1.length]; exact small hz, fun p hp => q _ _ (s1.trans (same_new hp _)) (.tup upd_same (t1.same (same_new hp _)))⟩
theorem Gv.lst {σ : L2.St} {H : Hp} {Q : VK} (h : Gv K ta ds) (hz : ds.length ≤ 1000) (q : ∀ l vs H', Same H H' → H l = none → H' l = some (.lst vs) → TpAll K H' vs ds → Q (.ref l) H') : tLst ta σ H Q := h σ H _ fun vs H1 s1 t1 => ⟨by rw [t1.length]; exact small hz, fun p hp =>
  q p vs _ (s1.trans (same_new hp _)) (s1.free hp) upd_same (t1.same (same_new hp _))⟩
end
/-- how boxes stand -/
inductive Kd where
  | D | T | G (ks : List Kd)
mutual
def kd1 : Kd → PyData
  | .D => .str "D"
  | .T => .str "T"
  | .G ks => .tuple (kdL ks)
def kdL : List Kd → List PyData
  | [] => []
  | k :: r => kd1 k :: kdL r
end
def kinds1 : List (List Kd) := [[.D], [.D, .T], [.T, .D], [.G [.D], .T], [.D, .G [.T]], [.G [.D, .T]], [.D, .D, .T]]
def kinds2 : List (List Kd) := [[.T, .G [.D], .D], [.G [.G [.D]], .T], [.D, .G []], [.T, .D, .T], [.G [.T, .G [.D]], .D]]
def kdT (l : List (List Kd)) : List PyData := l.map fun ks => .tuple (kdL ks)
section
variable {X : Cx} {k j : Nat} {x : Str} {sp : Sp} {dvs : List V} {p pos : Pos}
theorem pe_c0 (c : Cal X.prog X.w X.K X.mg X.base k x sp dvs) (hr : Room j X.A) (hk : k ≤ j) (hg : Gl X x) (hdb : (x == ("__debug__" : Str)) = false := by decide) : PE X (.Call (.Name x p) [] [] pos) (tCall sp dvs C8.E0 tNil) := by
  obtain ⟨f, fd, ps, ds, F, hm, kp, b, d⟩ := c.ex
  exact pe_call0 F (hr.mono hk) hg hm kp b d C8.pass0 hdb
end
section
variable {P : Program} {w : World} {K : PySem.W.Frag} {mg : Str → Option Value} {base : Heap}
def spKinds (K : PySem.W.Frag) : Sp := fun vs H Q _ => vs = [] ∧ ∀ l xs H', Same H H' → H l = none → H' l = some (.lst xs) → TpAll K H' xs (kdT (kinds1 ++ kinds2)) → Q (.ref l) H'
theorem ok_lKinds {f : Addr} {fd : FuncData} (F : Def K mg "_law_kinds" sLKinds f fd) (b : Binds K fd [] []) (T : Txt mg) : Cal P w K mg base 1 "_law_kinds" (spKinds K) [] := by
  refine cal0 F b .nil scLKinds (fun vs H Q E h => ?_) (fun cdv A outer s H vs Q E hr h => ?_)
  · rw [h.1]
    rfl
  obtain ⟨rfl, q⟩ := h
  refine ⟨_, (pss_cons (ps_set (i := 0) scLKinds.nd rfl (Or.inl rfl) (pe_lst (pa_cons (pe_tup (pa_cons pe_str pa_nil)) (pa_cons (pe_tup (pa_cons pe_str (pa_cons pe_str pa_nil))) (pa_cons (pe_tup (pa_cons pe_str (pa_cons pe_str pa_nil))) (pa_cons (pe_tup (pa_cons (pe_tup (pa_cons pe_str pa_nil)) (pa_cons pe_str pa_nil))) (pa_cons (pe_tup (pa_cons pe_str (pa_cons (pe_tup (pa_cons pe_str pa_nil)) pa_nil))) (pa_cons (pe_tup (pa_cons (pe_tup (pa_cons pe_str (pa_cons pe_str pa_nil))) pa_nil)) (pa_cons (pe_tup (pa_cons pe_str (pa_cons pe_str (pa_cons pe_str pa_nil)))) pa_nil)))))))))
      (pss_one (ps_ret (pe_op op_cat (pv 0) (pe_lst (pa_cons (pe_tup (pa_cons pe_str (pa_cons (pe_tup (pa_cons pe_str pa_nil)) (pa_cons pe_str pa_nil)))) (pa_cons (pe_tup (pa_cons (pe_tup (pa_cons (pe_tup (pa_cons pe_str pa_nil)) pa_nil)) (pa_cons pe_str pa_nil))) (pa_cons (pe_tup (pa_cons pe_str (pa_cons (pe_tup pa_nil) pa_nil))) (pa_cons (pe_tup (pa_cons pe_str (pa_cons pe_str (pa_cons pe_str pa_nil)))) (pa_cons (pe_tup (pa_cons (pe_tup (pa_cons pe_str (pa_cons (pe_tup (pa_cons pe_str pa_nil)) pa_nil))) (pa_cons pe_str pa_nil))) pa_nil)))))))))), ?_⟩
  walk_at "rd1"
  refine Gv.lst (K := K) (ds := kdT kinds1) ?_ (by decide) fun l xs H1 s1 hl h1 t1 => ?_
  · repeat first | exact Gv.nil | exact Ge.str _ | refine Gv.cons ?_ ?_ | refine Ge.tup ?_ (by decide)
  walk_at "rd1"
  refine Gv.lst (K := K) (ds := kdT kinds2) ?_ (by decide) fun l2 ys H2 s2 hl2 h2 t2 => ?_
  · repeat first | exact Gv.nil | exact Ge.str _ | refine Gv.cons ?_ ?_ | refine Ge.tup ?_ (by decide)
  refine g_cat (s2 _ _ h1) h2 (by rw [t1.length, t2.length]; decide) fun p hp => ?_
  have s3 := same_new hp (.lst (xs ++ ys))
  refine q p _ _ ((s1.trans s2).trans s3) (s1.free (s2.free hp)) upd_same ?_
  have : kdT (kinds1 ++ kinds2) = kdT kinds1 ++ kdT kinds2 := List.map_append
  rw [this]
  exact ((t1.same s2).append t2).same s3
end
end Bx

namespace Bx
theorem sum_cast : ∀ l : List Nat, (l.map (fun (n : Nat) => (n : Int))).sum = ((l.sum : Nat) : Int)
  | [] => rfl
  | n :: r => by
    rw [List.map_cons, List.sum_cons, List.sum_cons, sum_cast r, Int.natCast_add]
theorem g_sumN {K : PySem.W.Frag} {H : Hp} {Q : VK} {a : Addr} {l : List Nat} (h : SqL K H a (l.map vn)) (q : Q (.int ((l.sum : Nat) : Int)) H) : rSum K [.ref a] H Q := by
  refine ⟨a, l.map (fun (n : Nat) => (n : Int)), rfl, ?_, ?_⟩
  · rw [List.map_map]
    exact h
  · rw [sum_cast]
    exact q
mutual
def cnt1 : Kd → Nat
  | .D => 1
  | .T => 0
  | .G ks => cntL ks
def cntL : List Kd → Nat
  | [] => 0
  | k :: r => cnt1 k + cntL r
end
mutual
def dpk1 : Kd → Nat
  | .D => 0
  | .T => 0
  | .G ks => dpkL ks + 1
def dpkL : List Kd → Nat
  | [] => 0
  | k :: r => max (dpk1 k) (dpkL r)
end
mutual
def szk1 : Kd → Nat
  | .D => 1
  | .T => 1
  | .G ks => szkL ks + 1
def szkL : List Kd → Nat
  | [] => 0
  | k :: r => szk1 k + szkL r
end
theorem szk_len : ∀ l : List Kd, l.length ≤ szkL l
  | [] => Nat.le_refl _
  | k :: r => by
    have := szk_len r
    have : 1 ≤ szk1 k := by cases k <;> simp [szk1]
    rw [szkL, List.length_cons]
    omega
theorem szk_mem : ∀ (l : List Kd) (k : Kd), k ∈ l → szk1 k ≤ szkL l
  | c :: r, k, h => by
    rw [szkL]
    rcases List.mem_cons.mp h with h | h
    · subst h
      omega
    · have := szk_mem r k h
      omega
theorem dpk_mem : ∀ (l : List Kd) (k : Kd), k ∈ l → dpk1 k ≤ dpkL l
  | c :: r, k, h => by
    rw [dpkL]
    rcases List.mem_cons.mp h with h | h
    · subst h
      omega
    · have := dpk_mem r k h
      omega
theorem cntL_sum : ∀ l : List Kd, (l.map cnt1).sum = cntL l
  | [] => rfl
  | k :: r => by
    rw [List.map_cons, List.sum_cons, cntL, cntL_sum r]
theorem kdL_map : ∀ l : List Kd, kdL l = l.map kd1
  | [] => rfl
  | k :: r => by
    rw [kdL, kdL_map r]
    rfl
theorem ne_TD : ¬ V.str (Str.ofString "T") = V.str (Str.ofString "D") := fun h => absurd (V.str.inj h) (by decide +kernel)
section
variable {P : Program} {w : World} {K : PySem.W.Frag} {mg : Str → Option Value} {base : Heap}
def spCount (K : PySem.W.Frag) (n : Nat) : Sp := fun vs H Q _ => ∃ (v : V) (ks : List Kd), vs = [v] ∧ Tp K H v (.tuple (kdL ks)) ∧ dpkL ks < n ∧ szkL ks ≤ 1000 ∧ ∀ H', Same H H' → Q (.int ((cntL ks : Nat) : Int)) H'
theorem ok_lCount {f : Addr} {fd : FuncData} (F : Def K mg "_law_count" sLCount f fd) (b : Binds K fd ["_law_kinds_here"] []) (T : Txt mg) : ∀ n : Nat, Cal P w K mg base (n + 1) "_law_count" (spCount K n) []
  | 0 => by
    refine cal0 F b .nil scLCount (fun vs H Q E h => ?_) (fun cdv A outer s H vs Q E hr h => ?_)
    · obtain ⟨v, ks, rfl, _⟩ := h
      rfl
    · obtain ⟨v, ks, rfl, _, h, _⟩ := h
      omega
  | n + 1 => by
    have C_lCount := ok_lCount F b T n
    refine cal0 F b .nil scLCount (fun vs H Q E h => ?_) (fun cdv A outer s H vs Q E hr h => ?_)
    · obtain ⟨v, ks, rfl, _⟩ := h
      rfl
    obtain ⟨v, ks, rfl, hv, hd, hz, q⟩ := h
    obtain ⟨t, xs, rfl, hT, hX⟩ := Tp.tup_inv hv
    have hlen := szk_len ks
    have hxl : xs.length = ks.length := by rw [hX.length, kdL_map, List.length_map]
    refine ⟨_, (pss_one (ps_ret (pe_callB (cr_sum rfl) (by rfl) T.sum b_sum (pa_cons (pe_lc (own := [("_law_one", 1)]) rfl scLCount.nd (pi_tup (pv 0)) (blkOk_by (own := [("_law_one", 1)]) (N := NLCount) (sc := (fnScope sLCount)) (by decide +kernel)) (fun _ _ _ _ _ => (pg_name (i := 1) scLCount.nd rfl (.inl rfl))) (fun _ _ _ _ _ => pts_nil) (fun _ _ _ _ _ => (pe_ifExp (pt_val (pe_callB (isi_k (K := K) rfl) (by rfl) T.isinstance b_isinstance (pa_cons (pv 1) (pa_cons (pe_bltn (v := .ty "tuple") (by rfl) T.tuple b_tuple rfl) pa_nil)))) (pe_c C_lCount hr (Nat.le_refl _) rfl (pa_cons (pv 1) pa_nil)) (pe_callTy call_int1 (by rfl) T.int b_int (pa_cons (pe_cmpR op_eq (pv 1) pe_str (nomark _)) pa_nil))))) pa_nil)))), ?_⟩
    walk_at "rd"
    refine ⟨t, rfl, ⟨_, hT⟩, fun D hD => ?_⟩
    refine lc_it walk_tup (fun i H' => Same H H' ∧ H' D = some (.lst (((ks.take i).map cnt1).map vn))) ⟨same_new hD _, upd_same⟩ (fun i H' _ z => Same.sqt z.1 hT) ?_ ?_
    · rintro i x H1 H2 hi ⟨s1, s2⟩ ⟨rfl, hx⟩
      obtain ⟨dd, e1, e2⟩ := hX.get hx
      rw [kdL_map, List.getElem?_map] at e1
      cases hb : ks[i]? with
      | none =>
        rw [hb] at e1
        cases e1
      | some kk =>
        rw [hb] at e1
        have e3 := (Option.some.inj e1).symm
        subst e3
        have etk : ((ks.take (i + 1)).map cnt1).map vn = ((ks.take i).map cnt1).map vn ++ [vn (cnt1 kk)] := by
          rw [List.take_add_one, hb, List.map_append, List.map_append]
          rfl
        have fin : ∀ (v : V) (H3 : Hp), Same H2 H3 → v = vn (cnt1 kk) → ∃ acc, H3 D = some (.lst acc) ∧ acc.length < sizeLine ∧ Same H (upd H3 D (.lst (acc ++ [v]))) ∧ upd H3 D (.lst (acc ++ [v])) D = some (.lst (((ks.take (i + 1)).map cnt1).map vn)) := fun v H3 u1 u2 =>
          ⟨_, u1 _ _ s2, small1000 (by rw [List.length_map, List.length_map, List.length_take]; omega), Same.putNew (s1.trans u1) hD, by rw [upd_same, etk, u2]⟩
        have hm := List.mem_of_getElem? hb
        walk_at "rd"
        refine ⟨rfl, ?_⟩
        walk_at "rd"
        cases kk with
        | D =>
          cases e2
          walk_at "rd"
          exact fin _ _ (Same.refl _) rfl
        | T =>
          cases e2
          walk_at "rd"
          have e : decide (V.str (Str.ofString "T") = V.str (Str.ofString "D")) = false := decide_eq_false ne_TD
          refine fin _ _ (Same.refl _) ?_
          show V.int (if decide (V.str (Str.ofString "T") = V.str (Str.ofString "D")) = true then 1 else 0) = _
          rw [e]
          rfl
        | G kss =>
          rw [kd1] at e2
          obtain ⟨u, ys, rfl, hU, hY⟩ := Tp.tup_inv e2
          refine isi_tt (Same.sqt s1 hU) ?_
          walk_at "rd"
          have d1 := dpk_mem ks _ hm
          have d2 := szk_mem ks _ hm
          rw [dpk1] at d1
          rw [szk1] at d2
          refine ⟨.ref u, kss, rfl, e2.same s1, by omega, by omega, fun H3 s3 => ?_⟩
          exact fin _ _ s3 (by rw [cnt1])
    · rintro H1 ⟨s1, s2⟩
      rw [List.take_of_length_le (by omega)] at s2
      refine g_sumN (SqL.of s2) ?_
      rw [cntL_sum]
      exact q _ s1
end
end Bx

namespace Bx
/-! ### shapes -/
inductive Sh where
  | dat (cs : List Nat) | tab (ts : List (Nat × Nat)) | grp (ks : List Sh)
def pr (t : Nat × Nat) : PyData := .tuple [.int (t.1 : Int), .int (t.2 : Int)]
mutual
def sh1 : Sh → PyData
  | .dat cs => .tuple [.str "data", .tuple (cs.map pn)]
  | .tab ts => .tuple [.str "table", .tuple (ts.map pr)]
  | .grp ks => .tuple [.str "group", .tuple (shL ks)]
def shL : List Sh → List PyData
  | [] => []
  | s :: r => sh1 s :: shL r
end
mutual
/-- the box s stands as k says; data boxes from number i on, up to i' -/
def fit1 (szs : List Nat) : Kd → Sh → Nat → Nat → Prop
  | .D, .dat c, i, i' => i' = i + 1 ∧ szs[i]? = some c.length ∧ ∀ x ∈ c, x < 7
  | .T, .tab ts, i, i' => i' = i ∧ ts.length ≤ 2 ∧ ∀ t ∈ ts, ∃ m, szs[t.1]? = some m ∧ t.2 < m
  | .G ks, .grp ss, i, i' => fitL szs ks ss i i'
  | .D, .tab _, _, _ => False
  | .D, .grp _, _, _ => False
  | .T, .dat _, _, _ => False
  | .T, .grp _, _, _ => False
  | .G _, .dat _, _, _ => False
  | .G _, .tab _, _, _ => False
def fitL (szs : List Nat) : List Kd → List Sh → Nat → Nat → Prop
  | [], [], i, i' => i' = i
  | k :: r, s :: q, i, i' => ∃ j, fit1 szs k s i j ∧ fitL szs r q j i'
  | [], _ :: _, _, _ => False
  | _ :: _, [], _, _ => False
end
theorem fitL_snoc (szs : List Nat) : ∀ (ks : List Kd) (ss : List Sh) (k : Kd) (s : Sh) (i j i' : Nat), fitL szs ks ss i j → fit1 szs k s j i' → fitL szs (ks ++ [k]) (ss ++ [s]) i i'
  | [], [], k, s, i, j, i', h1, h2 => by
    rw [fitL] at h1
    subst h1
    rw [List.nil_append, List.nil_append, fitL]
    exact ⟨i', h2, by rw [fitL]⟩
  | k0 :: r, s0 :: q, k, s, i, j, i', h1, h2 => by
    rw [fitL] at h1
    obtain ⟨m, a, b⟩ := h1
    rw [List.cons_append, List.cons_append, fitL]
    exact ⟨m, a, fitL_snoc szs r q k s m j i' b h2⟩
  | [], _ :: _, _, _, _, _, _, h1, _ => by
    rw [fitL] at h1
    exact h1.elim
  | _ :: _, [], _, _, _, _, _, h1, _ => by
    rw [fitL] at h1
    exact h1.elim
theorem shL_map : ∀ l : List Sh, shL l = l.map sh1
  | [] => rfl
  | k :: r => by
    rw [shL, shL_map r]
    rfl
theorem cntL_append : ∀ a b : List Kd, cntL (a ++ b) = cntL a + cntL b
  | [], b => by
    rw [List.nil_append, cntL]
    omega
  | k :: r, b => by
    rw [List.cons_append, cntL, cntL, cntL_append r b]
    omega
theorem szkL_append : ∀ a b : List Kd, szkL (a ++ b) = szkL a + szkL b
  | [], b => by
    rw [List.nil_append, szkL]
    omega
  | k :: r, b => by
    rw [List.cons_append, szkL, szkL, szkL_append r b]
    omega
theorem take_snoc {α : Type} {l : List α} {i : Nat} {x : α} (h : l[i]? = some x) : l.take (i + 1) = l.take i ++ [x] := by
  rw [List.take_add_one, h]
  rfl
theorem cnt_take {ks : List Kd} {i : Nat} {k : Kd} (h : ks[i]? = some k) : cntL (ks.take (i + 1)) = cntL (ks.take i) + cnt1 k ∧ cntL (ks.take i) + cnt1 k ≤ cntL ks := by
  have e : cntL (ks.take (i + 1)) = cntL (ks.take i) + cnt1 k := by
    rw [take_snoc h, cntL_append, cntL, cntL]
    omega
  have e2 := cntL_append (ks.take (i + 1)) (ks.drop (i + 1))
  rw [List.take_append_drop] at e2
  omega
theorem szk_take {ks : List Kd} {i : Nat} {k : Kd} (h : ks[i]? = some k) : szkL (ks.take (i + 1)) = szkL (ks.take i) + szk1 k ∧ szkL (ks.take i) + szk1 k ≤ szkL ks := by
  have e : szkL (ks.take (i + 1)) = szkL (ks.take i) + szk1 k := by
    rw [take_snoc h, szkL_append, szkL, szkL]
    omega
  have e2 := szkL_append (ks.take (i + 1)) (ks.drop (i + 1))
  rw [List.take_append_drop] at e2
  omega
/-- all targets in data boxes of such sizes -/
def allT (szs : List Nat) : List (Nat × Nat) := ((List.range szs.length).map fun i => (List.range (szs.getD i 0)).map fun j => (i, j)).flatten
def allTo (szs : List Nat) (n : Nat) : List (Nat × Nat) := ((List.range n).map fun i => (List.range (szs.getD i 0)).map fun j => (i, j)).flatten
theorem allTo_succ (szs : List Nat) (n : Nat) : allTo szs (n + 1) = allTo szs n ++ (List.range (szs.getD n 0)).map fun j => (n, j) := by
  unfold allTo
  rw [List.range_succ, List.map_append, List.flatten_append]
  simp
theorem allTo_mem {szs : List Nat} {n : Nat} {t : Nat × Nat} (h : t ∈ allTo szs n) (hn : n ≤ szs.length) : ∃ m, szs[t.1]? = some m ∧ t.2 < m := by
  unfold allTo at h
  obtain ⟨l, hl, ht⟩ := List.mem_flatten.mp h
  obtain ⟨i, hi, rfl⟩ := List.mem_map.mp hl
  obtain ⟨j, hj, rfl⟩ := List.mem_map.mp ht
  have hi' : i < szs.length := Nat.lt_of_lt_of_le (List.mem_range.mp hi) hn
  refine ⟨szs[i], List.getElem?_eq_getElem hi', ?_⟩
  have := List.mem_range.mp hj
  rw [List.getD_eq_getElem?_getD, List.getElem?_eq_getElem hi'] at this
  exact this
theorem allTo_len {szs : List Nat} (h3 : ∀ x ∈ szs, x ≤ 3) : ∀ n : Nat, n ≤ szs.length → (allTo szs n).length ≤ 3 * n
  | 0, _ => Nat.le_refl _
  | n + 1, h => by
    have ih := allTo_len h3 n (by omega)
    rw [allTo_succ, List.length_append, List.length_map, List.length_range]
    have hn : n < szs.length := by omega
    have : szs.getD n 0 ≤ 3 := by
      rw [List.getD_eq_getElem?_getD, List.getElem?_eq_getElem hn]
      exact h3 _ (List.getElem_mem hn)
    omega
theorem lay_prs : ∀ l : List (Nat × Nat), PyData.canLayAll0 (l.map pr) = true
  | [] => rfl
  | n :: r => by
    rw [List.map_cons, PyData.canLayAll0, lay_prs r]
    rfl
theorem depth_prs : ∀ l : List (Nat × Nat), PyData.depthAll (l.map pr) ≤ 1
  | [] => Nat.zero_le _
  | n :: r => by
    have ih := depth_prs r
    rw [List.map_cons, PyData.depthAll]
    have : (pr n).depth = 1 := rfl
    omega
theorem shaped_prs (l : List (Nat × Nat)) : SeqAt.shaped (.list (l.map pr)) = true := by
  unfold SeqAt.shaped
  have h1 : PyData.canLay0 (.list (l.map pr)) = true := by rw [PyData.canLay0]; exact lay_prs l
  have h2 : PyData.depth (.list (l.map pr)) ≤ 64 := by
    rw [PyData.depth]
    have := depth_prs l
    omega
  rw [h1, decide_eq_true h2]
  rfl
end Bx

namespace Bx
section
variable {P : Program} {w : World} {K : PySem.W.Frag} {mg : Str → Option Value} {base : Heap}
def spMade (K : PySem.W.Frag) (n : Nat) : Sp := fun vs H Q _ => ∃ (S Z TK : Addr) (ns : List Int) (at_ i0 j0 : Nat) (v : V) (ks : List Kd) (szs : List Nat), vs = [.ref S, .int at_, v, .ref Z, .ref TK] ∧ Scr K H S ns ∧ at_ ≤ 1000 ∧ Tp K H v (.tuple (kdL ks)) ∧ dpkL ks < n ∧ szkL ks + j0 ≤ 100 ∧
  H Z = some (.lst (szs.map vn)) ∧ H TK = some (.lst [.int (i0 : Int), .int (j0 : Int)]) ∧ Z ≠ TK ∧ (∀ H', SameX [TK] H H' → Scr K H' S ns) ∧ szs.length ≤ 10 ∧ (∀ x ∈ szs, x ≤ 3) ∧ i0 + cntL ks ≤ szs.length ∧
  ∀ (v' : V) (H' : Hp) (i' j' : Nat) (ss : List Sh), SameX [TK] H H' → H' TK = some (.lst [.int (i' : Int), .int (j' : Int)]) → fitL szs ks ss i0 i' → i' = i0 + cntL ks → j' ≤ j0 + szkL ks → Tp K H' v' (.tuple (shL ss)) → Q v' H'
theorem ok_lMade {f : Addr} {fd : FuncData} (F : Def K mg "_law_made" sLMade f fd) (b : Binds K fd ["_law_script", "_law_at", "_law_kinds_here", "_law_sizes", "_law_taken"] []) (T : Txt mg)
    (C_lCellAt : Cal P w K mg base 1 "_law_cell_at" (spCellAt K) []) (C_lPick : Cal P w K mg base 2 "_law_pick" (spPick K) []) : ∀ n : Nat, Cal P w K mg base (n + 3) "_law_made" (spMade K n) []
  | 0 => by
    refine cal0 F b .nil scLMade (fun vs H Q E h => ?_) (fun cdv A outer s H vs Q E hr h => ?_)
    · obtain ⟨S, Z, TKa, ns, at_, i0, j0, v, ks, szs, rfl, _⟩ := h
      rfl
    · obtain ⟨S, Z, TKa, ns, at_, i0, j0, v, ks, szs, rfl, _, _, _, h, _⟩ := h
      omega
  | n + 1 => by
    have C_lMade := ok_lMade F b T C_lCellAt C_lPick n
    refine cal0 F b .nil scLMade (fun vs H Q E h => ?_) (fun cdv A outer s H vs Q E hr h => ?_)
    · obtain ⟨S, Z, TKa, ns, at_, i0, j0, v, ks, szs, rfl, _⟩ := h
      rfl
    obtain ⟨S, Z, TKa, ns, at_, i0, j0, v, ks, szs, rfl, hS, hat, hv, hd, hz, hZ, hTK, nZ, nS, hzl, hz3, hcn, q⟩ := h
    obtain ⟨t, xs, rfl, hT, hX⟩ := Tp.tup_get hv
    have hlen := szk_len ks
    have hxl : xs.length = ks.length := by rw [hX.length, kdL_map, List.length_map]
    refine ⟨_, (pss_cons (ps_set (i := 5) scLMade.nd rfl (Or.inl rfl) (pe_lst pa_nil))
        (pss_cons (ps_for PassesOwn.never rfl (pi_tup (pv 2)) (pg_name (i := 6) scLMade.nd rfl (.inl rfl)) 
          (pss_one (ps_if (pt_val (pe_callB call_isi (by rfl) T.isinstance b_isinstance (pa_cons (pv 6) (pa_cons (pe_bltn (v := .ty "tuple") (by rfl) T.tuple b_tuple rfl) pa_nil)))) 
            (pss_one (ps_expr (pe_bm PySem.F.plainAttrs_list PySem.F.slot_list_append PySem.F.type_list_append mt_append (pv 5) (pa_cons (pe_tup (pa_cons pe_str (pa_cons (pe_c C_lMade hr (by omega) rfl (pa_cons (pv 0) (pa_cons (pv 1) (pa_cons (pv 6) (pa_cons (pv 3) (pa_cons (pv 4) pa_nil)))))) pa_nil))) pa_nil)))) 
            (pss_one (ps_if (pt_cmpR op_eq (pv 6) pe_str (nomark _)) 
              (pss_cons (ps_set (i := 7) scLMade.nd rfl (Or.inl rfl) (pe_ix ix_list (pv 3) (pe_ix ix_list (pv 4) pe_int (fun _ _ => rfl)) (fun _ _ => rfl)))
              (pss_cons (ps_setLc (i := 8) (own := [("_law_turn", 13)]) rfl scLMade.nd rfl rfl (sw_true rfl rfl rfl (by decide +kernel)) (pi_range1 (by rfl) T.range (pa_cons (pv 7) pa_nil)) (blkOk_by (own := [("_law_turn", 13)]) (N := NLMade) (sc := (fnScope sLMade)) (by decide +kernel)) (fun _ _ _ _ _ => (pg_name (i := 13) scLMade.nd rfl (.inl rfl))) (fun _ _ _ _ _ => pts_nil) (fun _ _ _ _ _ => (pe_op op_mod (pe_callTy call_int1 (by rfl) T.int b_int (pa_cons (pe_c C_lCellAt hr (by omega) rfl (pa_cons (pv 0) (pa_cons (pe_op op_add (pe_op op_add (pv 1) (pe_op op_mul pe_int (pe_ix (ixl_k (K := K) rfl) (pv 4) pe_int (fun _ _ => rfl)))) (pv 13)) pa_nil))) pa_nil)) pe_int)))
              (pss_cons (ps_expr (pe_bm PySem.F.plainAttrs_list PySem.F.slot_list_append PySem.F.type_list_append mt_append (pv 5) (pa_cons (pe_tup (pa_cons pe_str (pa_cons (pe_callTy call_tuple_of (by rfl) T.tuple b_tuple (pa_cons (pv 8) pa_nil)) pa_nil))) pa_nil)))
              (pss_one (ps_asg (pe_op op_add (pe_ix ix_list (pv 4) pe_int (fun _ _ => rfl)) pe_int) (pg_sub (pv 4) pe_int set_list)))))) 
              (pss_cons (ps_set (i := 9) scLMade.nd rfl (Or.inr rfl) (pe_lst pa_nil))
              (pss_cons (ps_for PassesOwn.never rfl (pi_enum (by rfl) T.enumerate (pa_cons (pv 3) pa_nil)) (pg_tup rfl (pgs_cons (pg_name (i := 10) scLMade.nd rfl (.inr rfl)) (pgs_cons (pg_name (i := 7) scLMade.nd rfl (.inl rfl)) pgs_nil))) 
                (pss_one (ps_set (i := 9) scLMade.nd rfl (Or.inr rfl) (pe_op op_cat (pv 9) (pe_lc (own := [("_law_offset", 14)]) rfl scLMade.nd (pi_range1 (by rfl) T.range (pa_cons (pv 7) pa_nil)) (blkOk_by (own := [("_law_offset", 14)]) (N := NLMade) (sc := (fnScope sLMade)) (by decide +kernel)) (fun _ _ _ _ _ => (pg_name (i := 14) scLMade.nd rfl (.inl rfl))) (fun _ _ _ _ _ => pts_nil) (fun _ _ _ _ _ => (pe_tup (pa_cons (pv 10) (pa_cons (pv 14) pa_nil)))))))))
              (pss_cons (ps_set (i := 11) scLMade.nd rfl (Or.inl rfl) (pe_ifExp (pt_cmpR (op_neD hr.units) (pv 9) (pe_lst pa_nil) (nomark _)) (pe_op op_mod (pe_callTy call_int1 (by rfl) T.int b_int (pa_cons (pe_c C_lCellAt hr (by omega) rfl (pa_cons (pv 0) (pa_cons (pe_op op_add (pe_op op_add (pv 1) pe_int) (pe_ix ix_list (pv 4) pe_int (fun _ _ => rfl))) pa_nil))) pa_nil)) pe_int) pe_int))
              (pss_cons (ps_setLc (i := 12) (own := [("_law_turn", 13)]) rfl scLMade.nd rfl rfl (sw_true rfl rfl rfl (by decide +kernel)) (pi_range1 (by rfl) T.range (pa_cons (pv 11) pa_nil)) (blkOk_by (own := [("_law_turn", 13)]) (N := NLMade) (sc := (fnScope sLMade)) (by decide +kernel)) (fun _ _ _ _ _ => (pg_name (i := 13) scLMade.nd rfl (.inl rfl))) (fun _ _ _ _ _ => pts_nil) (fun _ _ _ _ _ => (pe_c C_lPick hr (by omega) rfl (pa_cons (pv 0) (pa_cons (pe_op op_add (pe_op op_add (pe_op op_add (pv 1) pe_int) (pe_op op_mul pe_int (pe_ix (ixl_k (K := K) rfl) (pv 4) pe_int (fun _ _ => rfl)))) (pv 13)) (pa_cons (pv 9) pa_nil))))))
              (pss_cons (ps_expr (pe_bm PySem.F.plainAttrs_list PySem.F.slot_list_append PySem.F.type_list_append mt_append (pv 5) (pa_cons (pe_tup (pa_cons pe_str (pa_cons (pe_callTy call_tuple_of (by rfl) T.tuple b_tuple (pa_cons (pv 12) pa_nil)) pa_nil))) pa_nil)))
              (pss_one (ps_asg (pe_op op_add (pe_ix ix_list (pv 4) pe_int (fun _ _ => rfl)) pe_int) (pg_sub (pv 4) pe_int set_list)))))))))))))
        (pss_one (ps_ret (pe_callTy call_tuple_of (by rfl) T.tuple b_tuple (pa_cons (pv 5) pa_nil)))))), ?_⟩
    walk_at "rd"
    refine ⟨Nat.zero_le _, fun l hl => ?_⟩
    walk_at "rd"
    have s0 : Same H (upd H l (.lst [])) := same_new hl _
    have nlT : l ≠ TKa := (ne_of_none hTK hl).symm
    have tkl : ∀ {H'}, SameX [TKa] H H' → TK K H H' := fun {H'} e => e.tkl hTK
    refine ⟨t, rfl, ⟨_, Same.sqt s0 (SqT.of hT)⟩, for_it walk_tup (fun i σ H' => (∃ x6 x7 x8 x9 x10 x11 x12 x13 x14, σ = [some (.ref S), some (.int at_), some (.ref t), some (.ref Z), some (.ref TKa), some (.ref l), x6, x7, x8, x9, x10, x11, x12, x13, x14]) ∧ SameX [TKa] H H' ∧
        ∃ (i' j' : Nat) (ss : List Sh) (acc : List V), H' TKa = some (.lst [.int (i' : Int), .int (j' : Int)]) ∧ H' l = some (.lst acc) ∧ TpAll K H' acc (shL ss) ∧ acc.length ≤ i ∧ fitL szs (ks.take i) ss i0 i' ∧ i' = i0 + cntL (ks.take i) ∧ j' ≤ j0 + szkL (ks.take i))
      ⟨⟨_, _, _, _, _, _, _, _, _, rfl⟩, .of s0, i0, j0, [], [], s0 _ _ hTK, upd_same, .nil, Nat.le_refl _, by rw [List.take_zero, fitL], rfl, Nat.le_add_right _ _⟩ (fun i σ H' _ z => SqT.of (tkl z.2.1 _ _ hT)) ?_ ?_⟩
    · rintro i x σ H1 H2 hi ⟨⟨x6, x7, x8, x9, x10, x11, x12, x13, x14, rfl⟩, s1, i', j', ss, acc, e1, e2, e3, e4, e5, e6, e7⟩ ⟨rfl, hx⟩
      obtain ⟨dd, f1, f2⟩ := hX.get hx
      rw [kdL_map, List.getElem?_map] at f1
      cases hb : ks[i]? with
      | none =>
        rw [hb] at f1
        cases f1
      | some kk =>
        rw [hb] at f1
        have f3 := (Option.some.inj f1).symm
        subst f3
        have hm := List.mem_of_getElem? hb
        obtain ⟨c1, c2⟩ := cnt_take hb
        obtain ⟨z1, z2⟩ := szk_take hb
        have hi' : i < ks.length := (List.getElem?_eq_some_iff.mp hb).1
        have aZ : ∀ {H'}, SameX [TKa] H H' → H' Z = some (.lst (szs.map vn)) := fun {H'} e => e.get (nin nZ) hZ
        have aS : ∀ {H'}, SameX [TKa] H H' → Scr K H' S ns := fun {H'} e => nS H' e
        walk_at "rd"
        cases kk with
        | G kss =>
          rw [kd1] at f2
          obtain ⟨u, ys, rfl, hU, hY⟩ := Tp.tup_get f2
          refine isi_tt (SqT.of (tkl s1 _ _ hU)) ?_
          walk_at "rd"
          refine ⟨ty_l (SqL.of e2), ?_⟩
          walk_at "rd"
          have d1 := dpk_mem ks _ hm
          rw [dpk1] at d1
          rw [szk1] at z1 z2
          rw [cnt1] at c1 c2
          refine ⟨S, Z, TKa, ns, at_, i', j', .ref u, kss, szs, rfl, aS s1, hat, Tp.mono (tkl s1) _ _ f2, by omega, by omega, aZ s1, e1, nZ, fun H' e => nS H' (s1.trans e), hzl, hz3, by omega, fun v' H3 i2 j2 ss2 g1 g2 g3 g4 g5 g6 => ?_⟩
          refine ⟨(by show 2 ≤ sizeLine; decide), fun p hp => ?_⟩
          have g7 := same_new hp (.tup [V.str "group", v'])
          have g8 : H3 l = some (.lst acc) := g1.get (nin nlT) e2
          walk_at "rd"
          refine g_app (g7 _ _ g8) (by omega) ?_
          have nTl := nlT.symm
          have g9 : TK K H2 H3 := g1.tkl e1
          have g10 : TK K H3 (upd (upd H3 p (.tup [V.str "group", v'])) l (.lst (acc ++ [.ref p]))) := TK.trans (Same.tk g7) (tk_lst (K := K) (g7 _ _ g8))
          refine ⟨⟨_, _, _, _, _, _, _, _, _, rfl⟩, ((s1.trans g1).trans (.of g7)).putNew hl, i2, j2, ss ++ [.grp ss2], acc ++ [.ref p], ?_, upd_same, ?_, ?_, ?_, by omega, by omega⟩
          · rw [upd_ne nTl]
            exact g7 _ _ g2
          · rw [shL_map, List.map_append]
            rw [shL_map] at e3
            refine (TpAll.mono (g9.trans g10) _ _ e3).snoc ?_
            rw [sh1]
            refine .pair ?_ (Tp.mono g10 _ _ g6)
            exact tk_lst (K := K) (g7 _ _ g8) _ _ upd_same
          · rw [List.length_append, List.length_singleton]
            omega
          · rw [take_snoc hb]
            refine fitL_snoc szs _ _ _ _ _ _ _ e5 ?_
            rw [fit1]
            exact g3
        | D =>
          cases f2
          walk_at "rd"
          refine g_dT rfl ?_
          walk_at "rd"
          rw [cnt1] at c1 c2
          rw [szk1] at z1 z2
          have hik : i' < szs.length := by omega
          obtain ⟨m, hm'⟩ : ∃ m, szs[i']? = some m := ⟨szs[i'], List.getElem?_eq_getElem hik⟩
          have hm3 : m ≤ 3 := hz3 m (List.mem_of_getElem? hm')
          refine g_ixL 0 (SqL.of e1) rfl rfl ?_
          refine g_ixL i' (SqL.of (aZ s1)) rfl (by rw [List.getElem?_map, hm'] <;> rfl : (szs.map vn)[i']? = some (vn m)) ?_
          walk_at "rd"
          refine ⟨(m : Int), rfl, by omega, by omega, ?_⟩
          rw [Int.toNat_natCast]
          intro D hD
          refine lc_it walk_range (fun j H' => Same H2 H' ∧ ∃ cl : List Nat, H' D = some (.lst (cl.map vn)) ∧ cl.length = j ∧ ∀ x ∈ cl, x < 7) ⟨same_new hD _, [], upd_same, rfl, fun _ h => absurd h List.not_mem_nil⟩ (fun _ _ _ _ => True.intro) ?_ ?_
          · rintro j y H3 H4 hj ⟨u1, cl, u2, u3, u4⟩ ⟨rfl, rfl⟩
            walk_at "rd"
            refine ⟨rfl, ?_⟩
            walk_at "rd"
            refine g_ixL 0 (SqL.of (u1 _ _ e1)) rfl rfl ?_
            refine g_I (.inl ⟨by decide, by decide⟩) ?_
            walk_at "rd"
            refine ⟨S, ns, at_ + 5 * i' + j, congrArg (fun z => [V.ref S, V.int z]) (by omega), (aS s1).same u1, by omega, fun H5 v1 => ?_⟩
            walk_at "rd"
            refine g_I (by show (0 : Int) < _; decide) ?_
            have b0 := Int.emod_nonneg (cat ns (at_ + 5 * i' + j)) (show (7 : Int) ≠ 0 by decide)
            have b1 := Int.emod_lt_of_pos (cat ns (at_ + 5 * i' + j)) (show (0 : Int) < 7 by decide)
            refine ⟨_, v1 _ _ u2, small1000 (by rw [List.length_map]; omega), Same.putNew (u1.trans v1) hD, cl ++ [(cat ns (at_ + 5 * i' + j) % 7).toNat], ?_, ?_, fun x hx => ?_⟩
            · rw [upd_same, List.map_append]
              show _ = some (HO.lst (cl.map vn ++ [V.int (((cat ns (at_ + 5 * i' + j) % 7).toNat : Nat) : Int)]))
              rw [Int.toNat_of_nonneg b0]
            · rw [List.length_append, u3] <;> rfl
            · rcases List.mem_append.mp hx with hx | hx
              · exact u4 x hx
              · obtain rfl := List.mem_singleton.mp hx
                omega
          · rintro H3 ⟨u1, cl, u2, u3, u4⟩
            walk_at "rd"
            refine ⟨ty_l (SqL.of (u1 _ _ e2)), ?_⟩
            walk_at "rd"
            refine ⟨D, _, rfl, .inl ⟨SqL.of u2, fun p hp => ⟨(by show 2 ≤ sizeLine; decide), fun p2 hp2 => ?_⟩⟩⟩
            have g1 := same_new hp (.tup (cl.map vn))
            have g2 := same_new hp2 (.tup [V.str "data", .ref p])
            have G : Same H2 _ := (u1.trans g1).trans g2
            walk_at "rd"
            refine g_app (G _ _ e2) (by omega) ?_
            have nTl := nlT.symm
            walk_at "rd"
            have hT2 : (upd (upd (upd H3 p (.tup (cl.map vn))) p2 (.tup [V.str "data", .ref p])) l (.lst (acc ++ [.ref p2]))) TKa = some (.lst [.int (i' : Int), .int (j' : Int)]) := by
              rw [upd_ne nTl]
              exact G _ _ e1
            refine g_ixL 0 (SqL.of hT2) rfl rfl ?_
            walk_at "rd"
            refine g_setL 0 hT2 rfl (by show 0 < 2; decide) ?_
            have k1 := tk_lst (K := K) (u := HO.lst (acc ++ [V.ref p2])) (G _ _ e2)
            have k2 := tk_lst (K := K) (u := HO.lst ([V.int ((i' : Int) + 1), V.int (j' : Int)])) hT2
            have k3 := k1.trans k2
            refine ⟨⟨_, _, _, _, _, _, _, _, _, rfl⟩, SameX.upd1 (SameX.putNew (s1.trans (.of G)) hl), i' + 1, j', ss ++ [.dat cl], acc ++ [.ref p2], ?_, ?_, ?_, ?_, ?_, by omega, by omega⟩
            · rw [upd_same]
              rfl
            · rw [upd_ne nlT, upd_same]
            · rw [shL_map, List.map_append]
              rw [shL_map] at e3
              refine (TpAll.mono ((Same.tk G).trans k3) _ _ e3).snoc ?_
              rw [sh1]
              exact .pair (k3 _ _ upd_same) (.tup (k3 _ _ (g2 _ _ upd_same)) (TpAll.ints _))
            · rw [List.length_append, List.length_singleton]
              omega
            · rw [take_snoc hb]
              refine fitL_snoc szs _ _ _ _ _ _ _ e5 ?_
              rw [fit1]
              exact ⟨rfl, by rw [u3]; exact hm', u4⟩
        | T =>
          cases f2
          walk_at "rd"
          refine g_dF ne_TD ?_
          rw [cnt1] at c1 c2
          rw [szk1] at z1 z2
          walk_at "rd"
          refine ⟨Nat.zero_le _, fun l9 hl9 => ?_⟩
          have w0 := same_new hl9 (.lst [])
          walk_at "rd"
          refine ⟨Z, _, rfl, w0.seq (SqL.of (aZ s1)), for_it walk_enum (fun j σ H' => (∃ l9 x7 x10, σ = [some (.ref S), some (.int at_), some (.ref t), some (.ref Z), some (.ref TKa), some (.ref l), some (.str "T"), x7, x8, some (.ref l9), x10, x11, x12, x13, x14] ∧ H2 l9 = none ∧ ∃ tx, H' l9 = some (.lst tx) ∧ TpAll K H' tx ((allTo szs j).map pr)) ∧ Same H2 H')
            ⟨⟨l9, _, _, rfl, hl9, [], upd_same, .nil⟩, w0⟩ (fun j σ H' _ z => z.2.seq (SqL.of (aZ s1))) ?_ ?_⟩
          · rintro j y σ H3 H4 hj ⟨⟨l9', x7', x10', rfl, n9, tx, v1, v2⟩, u1⟩ ⟨T1, y1, y2, rfl, nT, rfl, g1, g2⟩
            cases Option.some.inj g1
            obtain ⟨m, hm', rfl⟩ := vn_get g2
            have hm3 : m ≤ 3 := hz3 m (List.mem_of_getElem? hm')
            have hjl : j < szs.length := (List.getElem?_eq_some_iff.mp hm').1
            have hgd : szs.getD j 0 = m := by rw [List.getD_eq_getElem?_getD, hm'] <;> rfl
            have sT := same_new nT (.tup [V.int (j : Int), vn m])
            refine g_tupT (SqT.of upd_same) rfl ?_
            walk_at "rd"
            refine ⟨(m : Int), rfl, by omega, by omega, ?_⟩
            rw [Int.toNat_natCast]
            intro D hD
            refine lc_it walk_range (fun o H' => Same (upd H3 T1 (.tup [V.int (j : Int), vn m])) H' ∧ ∃ ox, H' D = some (.lst ox) ∧ TpAll K H' ox ((List.range o).map fun o => pr (j, o))) ⟨same_new hD _, [], upd_same, .nil⟩ (fun _ _ _ _ => True.intro) ?_ ?_
            · rintro o y H5 H6 ho ⟨w1, ox, w2, w3⟩ ⟨rfl, rfl⟩
              walk_at "rd"
              refine ⟨rfl, ?_⟩
              walk_at "rd"
              refine ⟨(by show 2 ≤ sizeLine; decide), fun p hp => ?_⟩
              have w4 := same_new hp (.tup [V.int (j : Int), V.int (0 + (o : Int))])
              have hol : ox.length = o := by rw [w3.length, List.length_map, List.length_range]
              refine ⟨ox, w4 _ _ w2, small1000 (by omega), Same.putNew (w1.trans w4) hD, ox ++ [.ref p], upd_same, ?_⟩
              rw [List.range_succ, List.map_append]
              refine (TpAll.mono (tk_lst (K := K) (w4 _ _ w2)) _ _ (w3.same w4)).snoc ?_
              refine .tup (tk_lst (K := K) (w4 _ _ w2) _ _ upd_same) (.cons (.int _) (.cons ?_ .nil))
              rw [show (0 : Int) + (o : Int) = (o : Int) from Int.zero_add _]
              exact .int _
            · rintro H5 ⟨w1, ox, w2, w3⟩
              have W := sT.trans w1
              have htl : tx.length ≤ 30 := by
                rw [v2.length, List.length_map]
                have := allTo_len hz3 j (by omega)
                omega
              have hol : ox.length = m := by rw [w3.length, List.length_map, List.length_range]
              refine g_cat (W _ _ v1) w2 (by omega) fun p hp => ?_
              have w5 := same_new hp (.lst (tx ++ ox))
              refine ⟨⟨p, _, _, rfl, ?_, tx ++ ox, upd_same, ?_⟩, (u1.trans W).trans w5⟩
              · exact (u1.trans W).free hp
              · rw [allTo_succ, List.map_append, hgd, List.map_map]
                exact ((v2.same W).append w3).same w5
          · rintro σ H3 ⟨⟨l9', x7', x10', rfl, n9, tx, v1, v2⟩, u1⟩
            rw [List.length_map] at v2
            walk_at "rd"
            refine ⟨Nat.zero_le _, fun l0 hl0 => ?_⟩
            have w1 := same_new hl0 (.lst [])
            refine ⟨.list ((allTo szs szs.length).map pr), .list [], .lst (SqL.of (w1 _ _ v1)) (TpAll.dp _ _ (v2.same w1)), .lst (SqL.of upd_same) .nil, shaped_prs _, shaped_nil, ?_⟩
            rw [eqv_nil]
            walk_at "rd"
            have htl : tx.length ≤ 30 := by
              rw [v2.length, List.length_map]
              have := allTo_len hz3 szs.length (Nat.le_refl _)
              omega
            refine g_iteN (fun hne => ?_) (fun hne => ?_)
            · have hpos : (0 : Nat) < 1 → allTo szs szs.length ≠ [] := fun _ z => hne (by rw [z] <;> rfl)
              walk_at "rd"
              refine g_ixL 1 (SqL.of (w1 _ _ (u1 _ _ e1))) rfl rfl ?_
              walk_at "rd"
              refine ⟨S, ns, at_ + 20 + j', congrArg (fun z => [V.ref S, V.int z]) (by omega), ((aS s1).same u1).same w1, by omega, fun H5 v3 => ?_⟩
              walk_at "rd"
              refine g_I (by show (0 : Int) < _; decide) ?_
              have b0 := Int.emod_nonneg (cat ns (at_ + 20 + j')) (show (3 : Int) ≠ 0 by decide)
              have b1 := Int.emod_lt_of_pos (cat ns (at_ + 20 + j')) (show (0 : Int) < 3 by decide)
              obtain ⟨mm, hmm⟩ : ∃ mm : Nat, cat ns (at_ + 20 + j') % 3 = (mm : Int) := ⟨(cat ns (at_ + 20 + j') % 3).toNat, (Int.toNat_of_nonneg b0).symm⟩
              rw [hmm] at b0 b1
              rw [hmm]
              have n5 : Same H3 H5 := w1.trans v3
              have u2 : Same H2 H5 := u1.trans n5
              walk_at "rd"
              refine ⟨((mm : Nat) : Int), rfl, by omega, by omega, ?_⟩
              rw [Int.toNat_natCast]
              intro D hD
              refine lc_it walk_range (fun o H' => Same H5 H' ∧ ∃ (rx : List V) (rt : List (Nat × Nat)), H' D = some (.lst rx) ∧ TpAll K H' rx (rt.map pr) ∧ rt.length = o ∧ ∀ t ∈ rt, t ∈ allTo szs szs.length) ⟨same_new hD _, [], [], upd_same, .nil, rfl, fun _ h => absurd h List.not_mem_nil⟩ (fun _ _ _ _ => True.intro) ?_ ?_
              · rintro o y H6 H7 ho ⟨u3, rx, rt, u4, u5, u6, u7⟩ ⟨rfl, rfl⟩
                walk_at "rd"
                refine ⟨rfl, ?_⟩
                walk_at "rd"
                have U : Same H2 H7 := u2.trans u3
                refine g_ixL 1 (SqL.of (U _ _ e1)) rfl rfl ?_
                refine g_I (.inl ⟨by decide, by decide⟩) ?_
                walk_at "rd"
                have hne : allTo szs szs.length ≠ [] := hpos (by decide)
                have hlt : 0 < tx.length := by
                  rw [v2.length, List.length_map]
                  exact List.length_pos_iff.mpr hne
                refine ⟨S, l9', ns, at_ + 22 + 3 * j' + o, tx, congrArg (fun z => [V.ref S, V.int z, V.ref l9']) (by omega), (aS s1).same U, by omega, SqL.of (u3 _ _ (n5 _ _ v1)), hlt, fun H8 jx vx y1 y2 y3 => ?_⟩
                obtain ⟨dd, y4, y5⟩ := v2.get y3
                rw [List.getElem?_map] at y4
                cases hpt : (allTo szs szs.length)[jx]? with
                | none =>
                  rw [hpt] at y4
                  cases y4
                | some pt =>
                  rw [hpt] at y4
                  have y6 := (Option.some.inj y4).symm
                  subst y6
                  have hrl : rx.length = o := by rw [u5.length, List.length_map, u6]
                  refine ⟨rx, y1 _ _ u4, small1000 (by omega), Same.putNew (u3.trans y1) hD, rx ++ [vx], rt ++ [pt], upd_same, ?_, ?_, fun t ht => ?_⟩
                  · rw [List.map_append]
                    exact (TpAll.mono (tk_lst (K := K) (y1 _ _ u4)) _ _ (u5.same y1)).snoc (Tp.mono (tk_lst (K := K) (y1 _ _ u4)) _ _ (Tp.same y5 ((n5.trans u3).trans y1)))
                  · rw [List.length_append, u6] <;> rfl
                  · rcases List.mem_append.mp ht with ht | ht
                    · exact u7 t ht
                    · obtain rfl := List.mem_singleton.mp ht
                      exact List.mem_of_getElem? hpt
              · rintro H6 ⟨u3, rx, rt, u4, u5, u6, u7⟩
                have U : Same H2 H6 := u2.trans u3
                walk_at "rd"
                refine ⟨ty_l (SqL.of (U _ _ e2)), ?_⟩
                walk_at "rd"
                refine ⟨D, _, rfl, .inl ⟨SqL.of u4, fun p hp => ⟨(by show 2 ≤ sizeLine; decide), fun p2 hp2 => ?_⟩⟩⟩
                have g1 := same_new hp (.tup rx)
                have g2 := same_new hp2 (.tup [V.str "table", .ref p])
                have G : Same H2 _ := (U.trans g1).trans g2
                walk_at "rd"
                refine g_app (G _ _ e2) (by omega) ?_
                have nTl := nlT.symm
                walk_at "rd"
                have hT2 : (upd (upd (upd H6 p (.tup rx)) p2 (.tup [V.str "table", .ref p])) l (.lst (acc ++ [.ref p2]))) TKa = some (.lst [.int (i' : Int), .int (j' : Int)]) := by
                  rw [upd_ne nTl]
                  exact G _ _ e1
                refine g_ixL 1 (SqL.of hT2) rfl rfl ?_
                walk_at "rd"
                refine g_setL 1 hT2 rfl (by show 1 < 2; decide) ?_
                have k1 := tk_lst (K := K) (u := HO.lst (acc ++ [V.ref p2])) (G _ _ e2)
                have k2 := tk_lst (K := K) (u := HO.lst ([V.int (i' : Int), V.int ((j' : Int) + 1)])) hT2
                have k3 := k1.trans k2
                refine ⟨⟨_, _, _, _, _, _, _, _, _, rfl⟩, SameX.upd1 (SameX.putNew (s1.trans (.of G)) hl), i', j' + 1, ss ++ [.tab rt], acc ++ [.ref p2], ?_, ?_, ?_, ?_, ?_, by omega, by omega⟩
                · rw [upd_same]
                  rfl
                · rw [upd_ne nlT, upd_same]
                · rw [shL_map, List.map_append]
                  rw [shL_map] at e3
                  refine (TpAll.mono ((Same.tk G).trans k3) _ _ e3).snoc ?_
                  rw [sh1]
                  exact .pair (k3 _ _ upd_same) (.tup (k3 _ _ (g2 _ _ upd_same)) (TpAll.mono k3 _ _ ((u5.same g1).same g2)))
                · rw [List.length_append, List.length_singleton]
                  omega
                · rw [take_snoc hb]
                  refine fitL_snoc szs _ _ _ _ _ _ _ e5 ?_
                  rw [fit1]
                  exact ⟨rfl, by omega, fun t ht => allTo_mem (u7 t ht) (Nat.le_refl _)⟩
            · walk_at "rd"
              have hpos : (0 : Nat) < 0 → allTo szs szs.length ≠ [] := fun z => absurd z (by decide)
              have n5 : Same H3 _ := w1
              have u2 : Same H2 _ := u1.trans n5
              obtain ⟨H5, hH5⟩ : ∃ H5, H5 = upd H3 l0 (.lst []) := ⟨_, rfl⟩
              rw [← hH5] at n5 u2
              rw [← hH5]
              walk_at "rd"
              refine ⟨((0 : Nat) : Int), rfl, by omega, by omega, ?_⟩
              rw [Int.toNat_natCast]
              intro D hD
              refine lc_it walk_range (fun o H' => Same H5 H' ∧ ∃ (rx : List V) (rt : List (Nat × Nat)), H' D = some (.lst rx) ∧ TpAll K H' rx (rt.map pr) ∧ rt.length = o ∧ ∀ t ∈ rt, t ∈ allTo szs szs.length) ⟨same_new hD _, [], [], upd_same, .nil, rfl, fun _ h => absurd h List.not_mem_nil⟩ (fun _ _ _ _ => True.intro) ?_ ?_
              · rintro o y H6 H7 ho ⟨u3, rx, rt, u4, u5, u6, u7⟩ ⟨rfl, rfl⟩
                walk_at "rd"
                refine ⟨rfl, ?_⟩
                walk_at "rd"
                have U : Same H2 H7 := u2.trans u3
                refine g_ixL 1 (SqL.of (U _ _ e1)) rfl rfl ?_
                refine g_I (.inl ⟨by decide, by decide⟩) ?_
                walk_at "rd"
                have hne : allTo szs szs.length ≠ [] := hpos (by omega)
                have hlt : 0 < tx.length := by
                  rw [v2.length, List.length_map]
                  exact List.length_pos_iff.mpr hne
                refine ⟨S, l9', ns, at_ + 22 + 3 * j' + o, tx, congrArg (fun z => [V.ref S, V.int z, V.ref l9']) (by omega), (aS s1).same U, by omega, SqL.of (u3 _ _ (n5 _ _ v1)), hlt, fun H8 jx vx y1 y2 y3 => ?_⟩
                obtain ⟨dd, y4, y5⟩ := v2.get y3
                rw [List.getElem?_map] at y4
                cases hpt : (allTo szs szs.length)[jx]? with
                | none =>
                  rw [hpt] at y4
                  cases y4
                | some pt =>
                  rw [hpt] at y4
                  have y6 := (Option.some.inj y4).symm
                  subst y6
                  have hrl : rx.length = o := by rw [u5.length, List.length_map, u6]
                  refine ⟨rx, y1 _ _ u4, small1000 (by omega), Same.putNew (u3.trans y1) hD, rx ++ [vx], rt ++ [pt], upd_same, ?_, ?_, fun t ht => ?_⟩
                  · rw [List.map_append]
                    exact (TpAll.mono (tk_lst (K := K) (y1 _ _ u4)) _ _ (u5.same y1)).snoc (Tp.mono (tk_lst (K := K) (y1 _ _ u4)) _ _ (Tp.same y5 ((n5.trans u3).trans y1)))
                  · rw [List.length_append, u6] <;> rfl
                  · rcases List.mem_append.mp ht with ht | ht
                    · exact u7 t ht
                    · obtain rfl := List.mem_singleton.mp ht
                      exact List.mem_of_getElem? hpt
              · rintro H6 ⟨u3, rx, rt, u4, u5, u6, u7⟩
                have U : Same H2 H6 := u2.trans u3
                walk_at "rd"
                refine ⟨ty_l (SqL.of (U _ _ e2)), ?_⟩
                walk_at "rd"
                refine ⟨D, _, rfl, .inl ⟨SqL.of u4, fun p hp => ⟨(by show 2 ≤ sizeLine; decide), fun p2 hp2 => ?_⟩⟩⟩
                have g1 := same_new hp (.tup rx)
                have g2 := same_new hp2 (.tup [V.str "table", .ref p])
                have G : Same H2 _ := (U.trans g1).trans g2
                walk_at "rd"
                refine g_app (G _ _ e2) (by omega) ?_
                have nTl := nlT.symm
                walk_at "rd"
                have hT2 : (upd (upd (upd H6 p (.tup rx)) p2 (.tup [V.str "table", .ref p])) l (.lst (acc ++ [.ref p2]))) TKa = some (.lst [.int (i' : Int), .int (j' : Int)]) := by
                  rw [upd_ne nTl]
                  exact G _ _ e1
                refine g_ixL 1 (SqL.of hT2) rfl rfl ?_
                walk_at "rd"
                refine g_setL 1 hT2 rfl (by show 1 < 2; decide) ?_
                have k1 := tk_lst (K := K) (u := HO.lst (acc ++ [V.ref p2])) (G _ _ e2)
                have k2 := tk_lst (K := K) (u := HO.lst ([V.int (i' : Int), V.int ((j' : Int) + 1)])) hT2
                have k3 := k1.trans k2
                refine ⟨⟨_, _, _, _, _, _, _, _, _, rfl⟩, SameX.upd1 (SameX.putNew (s1.trans (.of G)) hl), i', j' + 1, ss ++ [.tab rt], acc ++ [.ref p2], ?_, ?_, ?_, ?_, ?_, by omega, by omega⟩
                · rw [upd_same]
                  rfl
                · rw [upd_ne nlT, upd_same]
                · rw [shL_map, List.map_append]
                  rw [shL_map] at e3
                  refine (TpAll.mono ((Same.tk G).trans k3) _ _ e3).snoc ?_
                  rw [sh1]
                  exact .pair (k3 _ _ upd_same) (.tup (k3 _ _ (g2 _ _ upd_same)) (TpAll.mono k3 _ _ ((u5.same g1).same g2)))
                · rw [List.length_append, List.length_singleton]
                  omega
                · rw [take_snoc hb]
                  refine fitL_snoc szs _ _ _ _ _ _ _ e5 ?_
                  rw [fit1]
                  exact ⟨rfl, by omega, fun t ht => allTo_mem (u7 t ht) (Nat.le_refl _)⟩
    · rintro σ H1 ⟨⟨x6, x7, x8, x9, x10, x11, x12, x13, x14, rfl⟩, s1, i', j', ss, acc, e1, e2, e3, e4, e5, e6, e7⟩
      walk_at "rd"
      refine ⟨l, acc, rfl, .inl ⟨SqL.of e2, fun u hu => ?_⟩⟩
      have s5 := same_new hu (.tup acc)
      rw [List.take_of_length_le (by omega)] at e5 e6 e7
      exact q _ _ i' j' ss (s1.trans (.of s5)) (s5 _ _ e1) e5 e6 e7 (.tup upd_same (e3.same s5))
end
end Bx

namespace Bx
theorem same_of_x {H H1 H2 : Hp} {a : Addr} (s : Same H H1) (ha : H a = none) (e : SameX [a] H1 H2) : Same H H2 := fun b o h => e b o (nin (ne_of_none h ha)) (s b o h)
mutual
def gp1 : Sh → Nat
  | .dat _ => 1
  | .tab _ => 1
  | .grp ks => 1 + gpL ks
def gpL : List Sh → Nat
  | [] => 1
  | s :: r => gp1 s + gpL r
end
mutual
def ln1 : Sh → Nat
  | .dat c => 2 + c.length
  | .tab t => 2 + t.length
  | .grp ks => 2 + lnL ks
def lnL : List Sh → Nat
  | [] => 0
  | s :: r => ln1 s + lnL r
end
mutual
def dps1 : Sh → Nat
  | .dat _ => 0
  | .tab _ => 0
  | .grp ks => dpsL ks + 1
def dpsL : List Sh → Nat
  | [] => 0
  | s :: r => max (dps1 s) (dpsL r)
end
theorem gpL_sum : ∀ l : List Sh, gpL l = 1 + (l.map gp1).sum
  | [] => rfl
  | k :: r => by
    rw [List.map_cons, List.sum_cons, gpL, gpL_sum r]
    omega
theorem lnL_sum : ∀ l : List Sh, lnL l = (l.map ln1).sum
  | [] => rfl
  | k :: r => by
    rw [List.map_cons, List.sum_cons, lnL, lnL_sum r]
theorem ln_two (s : Sh) : 2 ≤ ln1 s := by
  cases s <;> rw [ln1] <;> omega
theorem lnL_len : ∀ l : List Sh, 2 * l.length ≤ lnL l
  | [] => Nat.le_refl _
  | k :: r => by
    have := lnL_len r
    have := ln_two k
    rw [lnL, List.length_cons]
    omega
theorem lnL_mem : ∀ (l : List Sh) (k : Sh), k ∈ l → ln1 k ≤ lnL l
  | c :: r, k, h => by
    rw [lnL]
    rcases List.mem_cons.mp h with h | h
    · subst h
      omega
    · have := lnL_mem r k h
      omega
theorem dps_mem : ∀ (l : List Sh) (k : Sh), k ∈ l → dps1 k ≤ dpsL l
  | c :: r, k, h => by
    rw [dpsL]
    rcases List.mem_cons.mp h with h | h
    · subst h
      omega
    · have := dps_mem r k h
      omega
mutual
theorem fit_ln (szs : List Nat) (h3 : ∀ x ∈ szs, x ≤ 3) : ∀ (k : Kd) (s : Sh) (i i' : Nat), fit1 szs k s i i' → ln1 s ≤ 5 * szk1 k ∧ dps1 s = dpk1 k ∧ i' = i + cnt1 k
  | .D, .dat c, i, i', h => by
    rw [fit1] at h
    have := h3 _ (List.mem_of_getElem? h.2.1)
    rw [ln1, szk1, dps1, dpk1, cnt1]
    omega
  | .T, .tab t, i, i', h => by
    rw [fit1] at h
    rw [ln1, szk1, dps1, dpk1, cnt1]
    omega
  | .G ks, .grp ss, i, i', h => by
    rw [fit1] at h
    have := fitL_ln szs h3 ks ss i i' h
    rw [ln1, szk1, dps1, dpk1, cnt1]
    omega
  | .D, .tab _, _, _, h => by rw [fit1] at h; exact h.elim
  | .D, .grp _, _, _, h => by rw [fit1] at h; exact h.elim
  | .T, .dat _, _, _, h => by rw [fit1] at h; exact h.elim
  | .T, .grp _, _, _, h => by rw [fit1] at h; exact h.elim
  | .G _, .dat _, _, _, h => by rw [fit1] at h; exact h.elim
  | .G _, .tab _, _, _, h => by rw [fit1] at h; exact h.elim
theorem fitL_ln (szs : List Nat) (h3 : ∀ x ∈ szs, x ≤ 3) : ∀ (ks : List Kd) (ss : List Sh) (i i' : Nat), fitL szs ks ss i i' → lnL ss ≤ 5 * szkL ks ∧ dpsL ss = dpkL ks ∧ i' = i + cntL ks
  | [], [], i, i', h => by
    rw [fitL] at h
    rw [lnL, szkL, dpsL, dpkL, cntL]
    omega
  | k :: r, s :: q, i, i', h => by
    rw [fitL] at h
    obtain ⟨j, a, b⟩ := h
    have := fit_ln szs h3 k s i j a
    have := fitL_ln szs h3 r q j i' b
    rw [lnL, szkL, dpsL, dpkL, cntL]
    omega
  | [], _ :: _, _, _, h => by rw [fitL] at h; exact h.elim
  | _ :: _, [], _, _, h => by rw [fitL] at h; exact h.elim
end
section
variable {P : Program} {w : World} {K : PySem.W.Frag} {mg : Str → Option Value} {base : Heap}
def spShape (K : PySem.W.Frag) : Sp := fun vs H Q _ => ∃ (S : Addr) (ns : List Int) (at_ : Nat) (v : V) (ks : List Kd), vs = [.ref S, .int at_, v] ∧ Scr K H S ns ∧ at_ ≤ 900 ∧ Tp K H v (.tuple (kdL ks)) ∧ dpkL ks < 10 ∧ szkL ks ≤ 100 ∧ cntL ks ≤ 10 ∧
  ∀ (v' : V) (H' : Hp) (ss : List Sh) (szs : List Nat), Same H H' → szs.length = cntL ks → (∀ x ∈ szs, x ≤ 3) → fitL szs ks ss 0 (cntL ks) → Tp K H' v' (.tuple (shL ss)) → Q v' H'
theorem ok_lShape {f : Addr} {fd : FuncData} (F : Def K mg "_law_shape" sLShape f fd) (b : Binds K fd ["_law_script", "_law_at", "_law_kinds_here"] []) (T : Txt mg)
    (C_lCellAt : Cal P w K mg base 1 "_law_cell_at" (spCellAt K) []) (C_lCount : Cal P w K mg base 11 "_law_count" (spCount K 10) []) (C_lMade : Cal P w K mg base 13 "_law_made" (spMade K 10) []) : Cal P w K mg base 14 "_law_shape" (spShape K) [] := by
  refine cal0 F b .nil scLShape (fun vs H Q E h => ?_) (fun cdv A outer s H vs Q E hr h => ?_)
  · obtain ⟨S, ns, at_, v, ks, rfl, _⟩ := h
    rfl
  obtain ⟨S, ns, at_, v, ks, rfl, hS, hat, hv, hd, hz, hc, q⟩ := h
  refine ⟨_, (pss_cons (ps_setLc (i := 3) (own := [("_law_turn", 4)]) rfl scLShape.nd rfl rfl (sw_true rfl rfl rfl (by decide +kernel)) (pi_range1 (by rfl) T.range (pa_cons (pe_c C_lCount hr (by decide) rfl (pa_cons (pv 2) pa_nil)) pa_nil)) (blkOk_by (own := [("_law_turn", 4)]) (N := NLShape) (sc := (fnScope sLShape)) (by decide +kernel)) (fun _ _ _ _ _ => (pg_name (i := 4) scLShape.nd rfl (.inl rfl))) (fun _ _ _ _ _ => pts_nil) (fun _ _ _ _ _ => (pe_op op_mod (pe_callTy call_int1 (by rfl) T.int b_int (pa_cons (pe_c C_lCellAt hr (by decide) rfl (pa_cons (pv 0) (pa_cons (pe_op op_add (pe_op op_add (pv 1) pe_int) (pv 4)) pa_nil))) pa_nil)) pe_int)))
      (pss_one (ps_ret (pe_c C_lMade hr (by decide) rfl (pa_cons (pv 0) (pa_cons (pv 1) (pa_cons (pv 2) (pa_cons (pv 3) (pa_cons (pe_lst (pa_cons pe_int (pa_cons pe_int pa_nil))) pa_nil))))))))), ?_⟩
  walk_at "rd"
  refine ⟨v, ks, rfl, hv, hd, by omega, fun H1 s1 => ?_⟩
  walk_at "rd"
  refine ⟨((cntL ks : Nat) : Int), rfl, by omega, by omega, ?_⟩
  rw [Int.toNat_natCast]
  intro D hD
  refine lc_it walk_range (fun o H' => Same H1 H' ∧ ∃ szs : List Nat, H' D = some (.lst (szs.map vn)) ∧ szs.length = o ∧ ∀ x ∈ szs, x ≤ 3) ⟨same_new hD _, [], upd_same, rfl, fun _ h => absurd h List.not_mem_nil⟩ (fun _ _ _ _ => True.intro) ?_ ?_
  · rintro o y H2 H3 ho ⟨u1, szs, u2, u3, u4⟩ ⟨rfl, rfl⟩
    walk_at "rd"
    refine ⟨rfl, ?_⟩
    walk_at "rd"
    refine ⟨S, ns, at_ + 30 + o, congrArg (fun z => [V.ref S, V.int z]) (by omega), (hS.same s1).same u1, by omega, fun H4 v1 => ?_⟩
    walk_at "rd"
    refine g_I (by show (0 : Int) < _; decide) ?_
    have b0 := Int.emod_nonneg (cat ns (at_ + 30 + o)) (show (4 : Int) ≠ 0 by decide)
    have b1 := Int.emod_lt_of_pos (cat ns (at_ + 30 + o)) (show (0 : Int) < 4 by decide)
    refine ⟨_, v1 _ _ u2, small1000 (by rw [List.length_map]; omega), Same.putNew (u1.trans v1) hD, szs ++ [(cat ns (at_ + 30 + o) % 4).toNat], ?_, ?_, fun x hx => ?_⟩
    · rw [upd_same, List.map_append]
      show _ = some (HO.lst (szs.map vn ++ [V.int (((cat ns (at_ + 30 + o) % 4).toNat : Nat) : Int)]))
      rw [Int.toNat_of_nonneg b0]
    · rw [List.length_append, u3] <;> rfl
    · rcases List.mem_append.mp hx with hx | hx
      · exact u4 x hx
      · obtain rfl := List.mem_singleton.mp hx
        omega
  · rintro H2 ⟨u1, szs, u2, u3, u4⟩
    walk_at "rd"
    refine ⟨(by show 2 ≤ sizeLine; decide), fun l hl => ?_⟩
    have g1 := same_new hl (.lst [V.int 0, V.int 0])
    have G := (s1.trans u1).trans g1
    walk_at "rd"
    have hDl : D ≠ l := ne_of_none u2 hl
    have hl0 : H l = none := (s1.trans u1).free hl
    have hSl : ∀ H', SameX [l] _ H' → Scr K H' S ns := fun H' e => hS.same (same_of_x G hl0 e)
    refine ⟨S, D, l, ns, at_, 0, 0, v, ks, szs, rfl, hS.same G, by omega, hv.same G, hd, by omega, g1 _ _ u2, upd_same, hDl, hSl, by omega, u4, by omega, fun v' H' i' j' ss g2 g3 g4 g5 g6 g7 => ?_⟩
    rw [Nat.zero_add] at g5
    subst g5
    exact q v' H' ss szs (same_of_x G hl0 g2) u3 u4 g4 g7
end
end Bx

namespace Bx
section
variable {P : Program} {w : World} {K : PySem.W.Frag} {mg : Str → Option Value} {base : Heap}
def spGapsIn (K : PySem.W.Frag) (n : Nat) : Sp := fun vs H Q _ => ∃ (v : V) (ss : List Sh), vs = [v] ∧ Tp K H v (.tuple (shL ss)) ∧ dpsL ss < n ∧ lnL ss ≤ 1000 ∧ ∀ H', Same H H' → Q (.int ((gpL ss : Nat) : Int)) H'
theorem ok_lGapsIn {f : Addr} {fd : FuncData} (F : Def K mg "_law_gaps_in" sLGapsIn f fd) (b : Binds K fd ["_law_boxes"] []) (T : Txt mg) : ∀ n : Nat, Cal P w K mg base (n + 1) "_law_gaps_in" (spGapsIn K n) []
  | 0 => by
    refine cal0 F b .nil scLGapsIn (fun vs H Q E h => ?_) (fun cdv A outer s H vs Q E hr h => ?_)
    · obtain ⟨v, ks, rfl, _⟩ := h
      rfl
    · obtain ⟨v, ks, rfl, _, h, _⟩ := h
      omega
  | n + 1 => by
    have C_lGapsIn := ok_lGapsIn F b T n
    refine cal0 F b .nil scLGapsIn (fun vs H Q E h => ?_) (fun cdv A outer s H vs Q E hr h => ?_)
    · obtain ⟨v, ks, rfl, _⟩ := h
      rfl
    obtain ⟨v, ss, rfl, hv, hd, hz, q⟩ := h
    obtain ⟨t, xs, rfl, hT, hX⟩ := Tp.tup_inv hv
    have hlen := lnL_len ss
    have hxl : xs.length = ss.length := by rw [hX.length, shL_map, List.length_map]
    refine ⟨_, (pss_one (ps_ret (pe_op op_add pe_int (pe_callB (cr_sum rfl) (by rfl) T.sum b_sum (pa_cons (pe_lc (own := [("_law_word", 1), ("_law_content", 2)]) rfl scLGapsIn.nd (pi_tup (pv 0)) (blkOk_by (own := [("_law_word", 1), ("_law_content", 2)]) (N := NLGapsIn) (sc := (fnScope sLGapsIn)) (by decide +kernel)) (fun _ _ _ _ _ => (pg_tup2 (K := K) rfl rfl (pgs_cons (pg_name (i := 1) scLGapsIn.nd rfl (.inl rfl)) (pgs_cons (pg_name (i := 2) scLGapsIn.nd rfl (.inl rfl)) pgs_nil)))) (fun _ _ _ _ _ => pts_nil) (fun _ _ _ _ _ => (pe_op op_add pe_int (pe_ifExp (pt_cmpR op_eq (pv 1) pe_str (nomark _)) (pe_c C_lGapsIn hr (Nat.le_refl _) rfl (pa_cons (pv 2) pa_nil)) pe_int)))) pa_nil))))), ?_⟩
    walk_at "rd"
    refine ⟨t, rfl, ⟨_, hT⟩, fun D hD => ?_⟩
    refine lc_it walk_tup (fun i H' => Same H H' ∧ H' D = some (.lst (((ss.take i).map gp1).map vn))) ⟨same_new hD _, upd_same⟩ (fun i H' _ z => Same.sqt z.1 hT) ?_ ?_
    · rintro i x H1 H2 hi ⟨s1, s2⟩ ⟨rfl, hx⟩
      obtain ⟨dd, e1, e2⟩ := hX.get hx
      rw [shL_map, List.getElem?_map] at e1
      cases hb : ss[i]? with
      | none =>
        rw [hb] at e1
        cases e1
      | some kk =>
        rw [hb] at e1
        have e3 := (Option.some.inj e1).symm
        subst e3
        have etk : ((ss.take (i + 1)).map gp1).map vn = ((ss.take i).map gp1).map vn ++ [vn (gp1 kk)] := by
          rw [take_snoc hb, List.map_append, List.map_append]
          rfl
        have fin : ∀ (z : Int) (H3 : Hp), Same H2 H3 → z = (gp1 kk : Int) → ∃ acc, H3 D = some (.lst acc) ∧ acc.length < sizeLine ∧ Same H (upd H3 D (.lst (acc ++ [V.int z]))) ∧ upd H3 D (.lst (acc ++ [V.int z])) D = some (.lst (((ss.take (i + 1)).map gp1).map vn)) := fun v H3 u1 u2 =>
          ⟨_, u1 _ _ s2, small1000 (by rw [List.length_map, List.length_map, List.length_take]; omega), Same.putNew (s1.trans u1) hD, by rw [upd_same, etk, u2]⟩
        have hm := List.mem_of_getElem? hb
        have d1 := dps_mem ss _ hm
        have d2 := lnL_mem ss _ hm
        cases kk with
        | dat c =>
          rw [sh1] at e2
          obtain ⟨tx, y, rfl, g1, g2⟩ := Tp.pair_inv e2
          refine g_tupT (Same.sqt s1 g1) rfl ?_
          walk_at "rd"
          refine ⟨rfl, ?_⟩
          walk_at "rd"
          refine g_dF ne_dg ?_
          walk_at "rd"
          exact fin _ _ (Same.refl _) (by rw [gp1]; rfl)
        | tab c =>
          rw [sh1] at e2
          obtain ⟨tx, y, rfl, g1, g2⟩ := Tp.pair_inv e2
          refine g_tupT (Same.sqt s1 g1) rfl ?_
          walk_at "rd"
          refine ⟨rfl, ?_⟩
          walk_at "rd"
          refine g_dF ne_tg ?_
          walk_at "rd"
          exact fin _ _ (Same.refl _) (by rw [gp1]; rfl)
        | grp c =>
          rw [sh1] at e2
          obtain ⟨tx, y, rfl, g1, g2⟩ := Tp.pair_inv e2
          refine g_tupT (Same.sqt s1 g1) rfl ?_
          walk_at "rd"
          refine ⟨rfl, ?_⟩
          walk_at "rd"
          refine g_dT rfl ?_
          walk_at "rd"
          rw [dps1] at d1
          rw [ln1] at d2
          refine ⟨y, c, rfl, g2.same s1, by omega, by omega, fun H3 u1 => ?_⟩
          walk_at "rd"
          exact fin _ _ u1 (by rw [gp1]; omega)
    · rintro H1 ⟨s1, s2⟩
      rw [List.take_of_length_le (by omega)] at s2
      walk_at "rd"
      refine g_sumN (SqL.of s2) ?_
      walk_at "rd"
      have := q _ s1
      rw [gpL_sum] at this
      rw [show (1 : Int) + (((ss.map gp1).sum : Nat) : Int) = ((1 + (ss.map gp1).sum : Nat) : Int) by omega]
      exact this
def spLength (K : PySem.W.Frag) (n : Nat) : Sp := fun vs H Q _ => ∃ (v : V) (ss : List Sh), vs = [v] ∧ Tp K H v (.tuple (shL ss)) ∧ dpsL ss < n ∧ lnL ss ≤ 1000 ∧ ∀ H', Same H H' → Q (.int ((lnL ss : Nat) : Int)) H'
theorem ok_lLength {f : Addr} {fd : FuncData} (F : Def K mg "_law_length" sLLength f fd) (b : Binds K fd ["_law_boxes"] []) (T : Txt mg) : ∀ n : Nat, Cal P w K mg base (n + 1) "_law_length" (spLength K n) []
  | 0 => by
    refine cal0 F b .nil scLLength (fun vs H Q E h => ?_) (fun cdv A outer s H vs Q E hr h => ?_)
    · obtain ⟨v, ks, rfl, _⟩ := h
      rfl
    · obtain ⟨v, ks, rfl, _, h, _⟩ := h
      omega
  | n + 1 => by
    have C_lLength := ok_lLength F b T n
    refine cal0 F b .nil scLLength (fun vs H Q E h => ?_) (fun cdv A outer s H vs Q E hr h => ?_)
    · obtain ⟨v, ks, rfl, _⟩ := h
      rfl
    obtain ⟨v, ss, rfl, hv, hd, hz, q⟩ := h
    obtain ⟨t, xs, rfl, hT, hX⟩ := Tp.tup_inv hv
    have hlen := lnL_len ss
    have hxl : xs.length = ss.length := by rw [hX.length, shL_map, List.length_map]
    refine ⟨_, (pss_one (ps_ret (pe_callB (cr_sum rfl) (by rfl) T.sum b_sum (pa_cons (pe_lc (own := [("_law_word", 1), ("_law_content", 2)]) rfl scLLength.nd (pi_tup (pv 0)) (blkOk_by (own := [("_law_word", 1), ("_law_content", 2)]) (N := NLLength) (sc := (fnScope sLLength)) (by decide +kernel)) (fun _ _ _ _ _ => (pg_tup2 (K := K) rfl rfl (pgs_cons (pg_name (i := 1) scLLength.nd rfl (.inl rfl)) (pgs_cons (pg_name (i := 2) scLLength.nd rfl (.inl rfl)) pgs_nil)))) (fun _ _ _ _ _ => pts_nil) (fun _ _ _ _ _ => (pe_op op_add pe_int (pe_ifExp (pt_cmpR op_eq (pv 1) pe_str (nomark _)) (pe_c C_lLength hr (Nat.le_refl _) rfl (pa_cons (pv 2) pa_nil)) (pe_callB (len_k (K := K) rfl) (by rfl) T.len b_len (pa_cons (pv 2) pa_nil)))))) pa_nil)))), ?_⟩
    walk_at "rd"
    refine ⟨t, rfl, ⟨_, hT⟩, fun D hD => ?_⟩
    refine lc_it walk_tup (fun i H' => Same H H' ∧ H' D = some (.lst (((ss.take i).map ln1).map vn))) ⟨same_new hD _, upd_same⟩ (fun i H' _ z => Same.sqt z.1 hT) ?_ ?_
    · rintro i x H1 H2 hi ⟨s1, s2⟩ ⟨rfl, hx⟩
      obtain ⟨dd, e1, e2⟩ := hX.get hx
      rw [shL_map, List.getElem?_map] at e1
      cases hb : ss[i]? with
      | none =>
        rw [hb] at e1
        cases e1
      | some kk =>
        rw [hb] at e1
        have e3 := (Option.some.inj e1).symm
        subst e3
        have etk : ((ss.take (i + 1)).map ln1).map vn = ((ss.take i).map ln1).map vn ++ [vn (ln1 kk)] := by
          rw [take_snoc hb, List.map_append, List.map_append]
          rfl
        have fin : ∀ (z : Int) (H3 : Hp), Same H2 H3 → z = (ln1 kk : Int) → ∃ acc, H3 D = some (.lst acc) ∧ acc.length < sizeLine ∧ Same H (upd H3 D (.lst (acc ++ [V.int z]))) ∧ upd H3 D (.lst (acc ++ [V.int z])) D = some (.lst (((ss.take (i + 1)).map ln1).map vn)) := fun v H3 u1 u2 =>
          ⟨_, u1 _ _ s2, small1000 (by rw [List.length_map, List.length_map, List.length_take]; omega), Same.putNew (s1.trans u1) hD, by rw [upd_same, etk, u2]⟩
        have hm := List.mem_of_getElem? hb
        have d1 := dps_mem ss _ hm
        have d2 := lnL_mem ss _ hm
        cases kk with
        | dat c =>
          rw [sh1] at e2
          obtain ⟨tx, y, rfl, g1, g2⟩ := Tp.pair_inv e2
          refine g_tupT (Same.sqt s1 g1) rfl ?_
          walk_at "rd"
          refine ⟨rfl, ?_⟩
          walk_at "rd"
          refine g_dF ne_dg ?_
          walk_at "rd"
          obtain ⟨ty, ys, rfl, g3, g4⟩ := Tp.tup_inv g2
          refine ⟨ty, ys, rfl, .inr (Same.sqt s1 g3), ?_⟩
          walk_at "rd"
          exact fin _ _ (Same.refl _) (by rw [ln1, g4.length, List.length_map]; omega)
        | tab c =>
          rw [sh1] at e2
          obtain ⟨tx, y, rfl, g1, g2⟩ := Tp.pair_inv e2
          refine g_tupT (Same.sqt s1 g1) rfl ?_
          walk_at "rd"
          refine ⟨rfl, ?_⟩
          walk_at "rd"
          refine g_dF ne_tg ?_
          walk_at "rd"
          obtain ⟨ty, ys, rfl, g3, g4⟩ := Tp.tup_inv g2
          refine ⟨ty, ys, rfl, .inr (Same.sqt s1 g3), ?_⟩
          walk_at "rd"
          exact fin _ _ (Same.refl _) (by rw [ln1, g4.length, List.length_map]; omega)
        | grp c =>
          rw [sh1] at e2
          obtain ⟨tx, y, rfl, g1, g2⟩ := Tp.pair_inv e2
          refine g_tupT (Same.sqt s1 g1) rfl ?_
          walk_at "rd"
          refine ⟨rfl, ?_⟩
          walk_at "rd"
          refine g_dT rfl ?_
          walk_at "rd"
          rw [dps1] at d1
          rw [ln1] at d2
          refine ⟨y, c, rfl, g2.same s1, by omega, by omega, fun H3 u1 => ?_⟩
          walk_at "rd"
          exact fin _ _ u1 (by rw [ln1]; omega)
    · rintro H1 ⟨s1, s2⟩
      rw [List.take_of_length_le (by omega)] at s2
      refine g_sumN (SqL.of s2) ?_
      rw [← lnL_sum]
      exact q _ s1
def mnu : List Nat := [0, 0, 2, 3, 0, 4, 0, 2]
theorem mnu_get (j : Nat) (h : j < 8) : ∃ g, (mnu.map vn)[j]? = some (vn g) ∧ g ≤ 4 ∧ (g = 0 ∨ 2 ≤ g) := by
  match j, h with
  | 0, _ => exact ⟨0, rfl, by omega, by omega⟩
  | 1, _ => exact ⟨0, rfl, by omega, by omega⟩
  | 2, _ => exact ⟨2, rfl, by omega, by omega⟩
  | 3, _ => exact ⟨3, rfl, by omega, by omega⟩
  | 4, _ => exact ⟨0, rfl, by omega, by omega⟩
  | 5, _ => exact ⟨4, rfl, by omega, by omega⟩
  | 6, _ => exact ⟨0, rfl, by omega, by omega⟩
  | 7, _ => exact ⟨2, rfl, by omega, by omega⟩
theorem sum_snoc (l : List Nat) (x : Nat) : (l ++ [x]).sum = l.sum + x := by
  rw [List.sum_append, List.sum_cons, List.sum_nil, Nat.add_zero]
def spGaps (K : PySem.W.Frag) : Sp := fun vs H Q _ => ∃ (S : Addr) (ns : List Int) (at_ many spare : Nat), vs = [.ref S, .int at_, .int many, .int spare] ∧ Scr K H S ns ∧ at_ ≤ 1000 ∧ many ≤ 100 ∧
  ∀ (a : Addr) (H' : Hp) (gs : List Nat), Same H H' → SqT K H' a (gs.map vn) → gs.length = many → gs.sum ≤ spare → (∀ g ∈ gs, g = 0 ∨ 2 ≤ g) → Q (.ref a) H'
theorem ok_lGaps {f : Addr} {fd : FuncData} (F : Def K mg "_law_gaps" sLGaps f fd) (b : Binds K fd ["_law_script", "_law_at", "_law_many", "_law_spare"] []) (T : Txt mg) (C_lCellAt : Cal P w K mg base 1 "_law_cell_at" (spCellAt K) []) : Cal P w K mg base 2 "_law_gaps" (spGaps K) [] := by
  refine cal0 F b .nil scLGaps (fun vs H Q E h => ?_) (fun cdv A outer s H vs Q E hr h => ?_)
  · obtain ⟨S, ns, at_, many, spare, rfl, _⟩ := h
    rfl
  obtain ⟨S, ns, at_, many, spare, rfl, hS, hat, hm, q⟩ := h
  refine ⟨_, (pss_cons (ps_set (i := 4) scLGaps.nd rfl (Or.inl rfl) (pe_lst pa_nil))
      (pss_cons (ps_for PassesOwn.never rfl (pi_range1 (by rfl) T.range (pa_cons (pv 2) pa_nil)) (pg_name (i := 5) scLGaps.nd rfl (.inl rfl)) 
        (pss_cons (ps_set (i := 6) scLGaps.nd rfl (Or.inl rfl) (pe_ix ix_list (pe_lst (pa_cons pe_int (pa_cons pe_int (pa_cons pe_int (pa_cons pe_int (pa_cons pe_int (pa_cons pe_int (pa_cons pe_int (pa_cons pe_int pa_nil))))))))) (pe_op op_mod (pe_callTy call_int1 (by rfl) T.int b_int (pa_cons (pe_c C_lCellAt hr (by decide) rfl (pa_cons (pv 0) (pa_cons (pe_op op_add (pv 1) (pv 5)) pa_nil))) pa_nil)) pe_int) (fun _ _ => rfl)))
        (pss_one (ps_expr (pe_bm PySem.F.plainAttrs_list PySem.F.slot_list_append PySem.F.type_list_append mt_append (pv 4) (pa_cons (pe_ifExp (pt_cmpR op_le (pe_op op_add (pe_callB (cr_sum rfl) (by rfl) T.sum b_sum (pa_cons (pv 4) pa_nil)) (pv 6)) (pv 3) (nomark _)) (pv 6) pe_int) pa_nil))))))
      (pss_one (ps_ret (pe_callTy call_tuple_of (by rfl) T.tuple b_tuple (pa_cons (pv 4) pa_nil)))))), ?_⟩
  walk_at "rd"
  refine ⟨Nat.zero_le _, fun l hl => ?_⟩
  have s0 := same_new hl (.lst [])
  walk_at "rd"
  refine ⟨(many : Int), rfl, by omega, by omega, ?_⟩
  rw [Int.toNat_natCast]
  refine for_it walk_range (fun i σ H' => (∃ x5 x6, σ = [some (.ref S), some (.int at_), some (.int many), some (.int spare), some (.ref l), x5, x6]) ∧ Same H H' ∧ ∃ gs : List Nat, H' l = some (.lst (gs.map vn)) ∧ gs.length = i ∧ gs.sum ≤ spare ∧ ∀ g ∈ gs, g = 0 ∨ 2 ≤ g)
    ⟨⟨_, _, rfl⟩, s0, [], upd_same, rfl, Nat.zero_le _, fun _ h => absurd h List.not_mem_nil⟩ (fun _ _ _ _ _ => True.intro) ?_ ?_
  · rintro i x σ H1 H2 hi ⟨⟨x5, x6, rfl⟩, s1, gs, e1, e2, e3, e4⟩ ⟨rfl, rfl⟩
    walk_at "rd"
    refine ⟨(by show 8 ≤ sizeLine; decide), fun m hmm => ?_⟩
    have s2 := same_new hmm (.lst [V.int 0, V.int 0, V.int 2, V.int 3, V.int 0, V.int 4, V.int 0, V.int 2])
    walk_at "rd"
    refine ⟨S, ns, at_ + i, congrArg (fun z => [V.ref S, V.int z]) (by omega), (hS.same s1).same s2, by omega, fun H3 s3 => ?_⟩
    walk_at "rd"
    refine g_I (by show (0 : Int) < _; decide) ?_
    have b0 := Int.emod_nonneg (cat ns (at_ + i)) (show (8 : Int) ≠ 0 by decide)
    have b1 := Int.emod_lt_of_pos (cat ns (at_ + i)) (show (0 : Int) < 8 by decide)
    obtain ⟨g, f1, f2, f3⟩ := mnu_get (cat ns (at_ + i) % 8).toNat (by omega)
    have U := s2.trans s3
    refine g_ixL (cat ns (at_ + i) % 8).toNat (SqL.of (s3 _ _ upd_same)) (Int.toNat_of_nonneg b0).symm f1 ?_
    walk_at "rd"
    refine ⟨ty_l (SqL.of (U _ _ e1)), ?_⟩
    walk_at "rd"
    refine g_sumN (SqL.of (U _ _ e1)) ?_
    have hgl : (gs.map vn).length ≤ 1000 := by rw [List.length_map]; omega
    walk_at "rd"
    have last : ∀ (y : Nat), gs.sum + y ≤ spare → (y = 0 ∨ 2 ≤ y) → (∃ x5' x6', [some (V.ref S), some (V.int at_), some (V.int many), some (V.int spare), some (V.ref l), some (V.int (0 + (i : Int))), some (V.int (g : Int))] = [some (V.ref S), some (V.int at_), some (V.int many), some (V.int spare), some (V.ref l), x5', x6']) ∧ Same H (upd H3 l (.lst (gs.map vn ++ [vn y]))) ∧
        ∃ gs' : List Nat, (upd H3 l (.lst (gs.map vn ++ [vn y]))) l = some (.lst (gs'.map vn)) ∧ gs'.length = i + 1 ∧ gs'.sum ≤ spare ∧ ∀ g ∈ gs', g = 0 ∨ 2 ≤ g := fun y y1 y2 => by
      refine ⟨⟨_, _, rfl⟩, Same.putNew (s1.trans U) hl, gs ++ [y], by rw [upd_same, List.map_append] <;> rfl, by rw [List.length_append, e2] <;> rfl, by rw [sum_snoc]; exact y1, fun g' hg' => ?_⟩
      rcases List.mem_append.mp hg' with hg' | hg'
      · exact e4 g' hg'
      · obtain rfl := List.mem_singleton.mp hg'
        exact y2
    refine g_ite (fun h => ?_) (fun h => ?_)
    · walk_at "rd"
      refine g_app (U _ _ e1) hgl ?_
      exact last g (by omega) f3
    · walk_at "rd"
      refine g_app (U _ _ e1) hgl ?_
      exact last 0 (by omega) (.inl rfl)
  · rintro σ H1 ⟨⟨x5, x6, rfl⟩, s1, gs, e1, e2, e3, e4⟩
    walk_at "rd"
    refine ⟨l, _, rfl, .inl ⟨SqL.of e1, fun u hu => ?_⟩⟩
    exact q u _ gs (s1.trans (same_new hu _)) (SqT.of upd_same) e2 e3 e4
end
end Bx

namespace Bx
/-! ### what is written, piece by piece -/
inductive Tok where
  | gap | cell (n : Nat) | length | close | dat (c : Nat) | ent (t : Nat × Nat) | fin (d : Bool)
def tkd : Tok → PyData
  | .gap => .tuple [.str "gap", .none]
  | .cell n => .tuple [.str "cell", .int (n : Int)]
  | .length => .tuple [.str "length", .none]
  | .close => .tuple [.str "close", .none]
  | .dat c => .tuple [.str "data", .int (c : Int)]
  | .ent t => .tuple [.str "entry", pr t]
  | .fin true => .tuple [.str "end", .str "data"]
  | .fin false => .tuple [.str "end", .str "table"]
mutual
def tk1 : Sh → List Tok
  | .dat c => [.gap, .cell 2, .cell (2 + c.length)] ++ c.map .dat ++ [.fin true]
  | .tab t => [.gap, .cell 4, .cell (2 + t.length)] ++ t.map .ent ++ [.fin false]
  | .grp ks => [.gap, .cell 1, .length] ++ tkL ks ++ [.close]
def tkL : List Sh → List Tok
  | [] => [.gap]
  | s :: r => tk1 s ++ tkL r
end
theorem tkL_flat : ∀ l : List Sh, tkL l = (l.map tk1).flatten ++ [.gap]
  | [] => rfl
  | k :: r => by
    rw [tkL, tkL_flat r, List.map_cons, List.flatten_cons, List.append_assoc]
mutual
theorem tk_len : ∀ s : Sh, (tk1 s).length ≤ 3 * ln1 s
  | .dat c => by
    rw [tk1, ln1]
    simp only [List.length_append, List.length_cons, List.length_nil, List.length_map]
    omega
  | .tab c => by
    rw [tk1, ln1]
    simp only [List.length_append, List.length_cons, List.length_nil, List.length_map]
    omega
  | .grp ks => by
    have := tkL_len ks
    rw [tk1, ln1]
    simp only [List.length_append, List.length_cons, List.length_nil]
    omega
theorem tkL_len : ∀ l : List Sh, (tkL l).length ≤ 3 * lnL l + 1
  | [] => Nat.le_refl _
  | s :: r => by
    have := tk_len s
    have := tkL_len r
    rw [tkL, lnL, List.length_append]
    omega
end
theorem flat_len (l : List Sh) : ((l.map tk1).flatten).length ≤ 3 * lnL l := by
  have := tkL_len l
  rw [tkL_flat, List.length_append, List.length_singleton] at this
  omega
theorem lnL_append : ∀ a b : List Sh, lnL (a ++ b) = lnL a + lnL b
  | [], b => by
    rw [List.nil_append, lnL]
    omega
  | k :: r, b => by
    rw [List.cons_append, lnL, lnL, lnL_append r b]
    omega
theorem lnL_take {l : List Sh} {i : Nat} : lnL (l.take i) ≤ lnL l := by
  have e2 := lnL_append (l.take i) (l.drop i)
  rw [List.take_append_drop] at e2
  omega
theorem tk_take {ss : List Sh} {i : Nat} {s : Sh} (h : ss[i]? = some s) : ((((ss.take (i + 1)).map tk1).flatten).length) = (((ss.take i).map tk1).flatten).length + (tk1 s).length := by
  rw [take_snoc h, List.map_append, List.flatten_append, List.length_append]
  show _ + ([tk1 s].flatten).length = _
  rw [List.flatten_cons, List.flatten_nil, List.append_nil]
theorem Ge.non {K : PySem.W.Frag} : Ge K (tC .non) .none := fun _ H _ q => q _ H (Same.refl H) .non
section
variable {P : Program} {w : World} {K : PySem.W.Frag} {mg : Str → Option Value} {base : Heap}
def spTokens (K : PySem.W.Frag) (n : Nat) : Sp := fun vs H Q _ => ∃ (v : V) (ss : List Sh), vs = [v] ∧ Tp K H v (.tuple (shL ss)) ∧ dpsL ss < n ∧ lnL ss ≤ 100 ∧ ∀ l xs H', Same H H' → H l = none → H' l = some (.lst xs) → TpAll K H' xs ((tkL ss).map tkd) → Q (.ref l) H'
theorem ok_lTokens {f : Addr} {fd : FuncData} (F : Def K mg "_law_tokens" sLTokens f fd) (b : Binds K fd ["_law_boxes"] []) (T : Txt mg) : ∀ n : Nat, Cal P w K mg base (n + 1) "_law_tokens" (spTokens K n) []
  | 0 => by
    refine cal0 F b .nil scLTokens (fun vs H Q E h => ?_) (fun cdv A outer s H vs Q E hr h => ?_)
    · obtain ⟨v, ks, rfl, _⟩ := h
      rfl
    · obtain ⟨v, ks, rfl, _, h, _⟩ := h
      omega
  | n + 1 => by
    have C_lTokens := ok_lTokens F b T n
    refine cal0 F b .nil scLTokens (fun vs H Q E h => ?_) (fun cdv A outer s H vs Q E hr h => ?_)
    · obtain ⟨v, ks, rfl, _⟩ := h
      rfl
    obtain ⟨v, ss, rfl, hv, hd, hz, q⟩ := h
    obtain ⟨t, xs, rfl, hT, hX⟩ := Tp.tup_inv hv
    have hxl : xs.length = ss.length := by rw [hX.length, shL_map, List.length_map]
    refine ⟨_, (pss_cons (ps_set (i := 1) scLTokens.nd rfl (Or.inl rfl) (pe_lst pa_nil))
        (pss_cons (ps_for PassesOwn.never rfl (pi_tup (pv 0)) (pg_tup rfl (pgs_cons (pg_name (i := 2) scLTokens.nd rfl (.inr rfl)) (pgs_cons (pg_name (i := 3) scLTokens.nd rfl (.inl rfl)) pgs_nil))) 
          (pss_cons (ps_expr (pe_bm PySem.F.plainAttrs_list PySem.F.slot_list_append PySem.F.type_list_append mt_append (pv 1) (pa_cons (pe_tup (pa_cons pe_str (pa_cons pe_non pa_nil))) pa_nil)))
          (pss_one (ps_if (pt_cmpR op_eq (pv 2) pe_str (nomark _)) 
            (pss_one (ps_set (i := 1) scLTokens.nd rfl (Or.inl rfl) (pe_op op_cat (pe_op op_cat (pe_op op_cat (pv 1) (pe_lst (pa_cons (pe_tup (pa_cons pe_str (pa_cons pe_int pa_nil))) (pa_cons (pe_tup (pa_cons pe_str (pa_cons pe_non pa_nil))) pa_nil)))) (pe_c C_lTokens hr (Nat.le_refl _) rfl (pa_cons (pv 3) pa_nil))) (pe_lst (pa_cons (pe_tup (pa_cons pe_str (pa_cons pe_non pa_nil))) pa_nil))))) 
            (pss_cons (ps_set (i := 1) scLTokens.nd rfl (Or.inl rfl) (pe_op op_cat (pv 1) (pe_lst (pa_cons (pe_tup (pa_cons pe_str (pa_cons (pe_ifExp (pt_cmpR op_eq (pv 2) pe_str (nomark _)) pe_int pe_int) pa_nil))) (pa_cons (pe_tup (pa_cons pe_str (pa_cons (pe_op op_add pe_int (pe_callB call_len_seq (by rfl) T.len b_len (pa_cons (pv 3) pa_nil))) pa_nil))) pa_nil)))))
            (pss_cons (ps_set (i := 1) scLTokens.nd rfl (Or.inl rfl) (pe_op op_cat (pv 1) (pe_lc (own := [("_law_one", 4)]) rfl scLTokens.nd (pi_tup (pv 3)) (blkOk_by (own := [("_law_one", 4)]) (N := NLTokens) (sc := (fnScope sLTokens)) (by decide +kernel)) (fun _ _ _ _ _ => (pg_name (i := 4) scLTokens.nd rfl (.inl rfl))) (fun _ _ _ _ _ => pts_nil) (fun _ _ _ _ _ => (pe_tup (pa_cons (pe_ifExp (pt_cmpR op_eq (pv 2) pe_str (nomark _)) pe_str pe_str) (pa_cons (pv 4) pa_nil)))))))
            (pss_one (ps_expr (pe_bm PySem.F.plainAttrs_list PySem.F.slot_list_append PySem.F.type_list_append mt_append (pv 1) (pa_cons (pe_tup (pa_cons pe_str (pa_cons (pv 2) pa_nil))) pa_nil))))))))))
        (pss_one (ps_ret (pe_op op_cat (pv 1) (pe_lst (pa_cons (pe_tup (pa_cons pe_str (pa_cons pe_non pa_nil))) pa_nil))))))), ?_⟩
    walk_at "rd"
    refine ⟨Nat.zero_le _, fun l0 hl0 => ?_⟩
    have s0 := same_new hl0 (.lst [])
    walk_at "rd"
    refine ⟨t, rfl, ⟨_, Same.sqt s0 hT⟩, for_it walk_tup (fun i σ H' => (∃ l x2 x3, σ = [some (.ref t), some (.ref l), x2, x3, none] ∧ H l = none ∧ ∃ acc, H' l = some (.lst acc) ∧ TpAll K H' acc ((((ss.take i).map tk1).flatten).map tkd) ∧ acc.length = (((ss.take i).map tk1).flatten).length) ∧ Same H H')
      ⟨⟨l0, _, _, rfl, hl0, [], upd_same, .nil, rfl⟩, s0⟩ (fun i σ H' _ z => Same.sqt z.2 hT) ?_ ?_⟩
    · rintro i x σ H1 H2 hi ⟨⟨l, x2, x3, rfl, hl, acc, e3, e4, e5⟩, s1⟩ ⟨rfl, hx⟩
      obtain ⟨dd, e1, e2⟩ := hX.get hx
      rw [shL_map, List.getElem?_map] at e1
      cases hb : ss[i]? with
      | none =>
        rw [hb] at e1
        cases e1
      | some kk =>
        rw [hb] at e1
        have e6 := (Option.some.inj e1).symm
        subst e6
        have hm := List.mem_of_getElem? hb
        have d1 := dps_mem ss _ hm
        have d2 := lnL_mem ss _ hm
        have hal : acc.length ≤ 300 := by
          have := flat_len (ss.take i)
          have := lnL_take (l := ss) (i := i)
          omega
        cases kk with
        | dat c =>
          rw [sh1] at e2
          obtain ⟨tx, y, rfl, g1, g2⟩ := Tp.pair_inv e2
          obtain ⟨ty, ys, rfl, g3, g4⟩ := Tp.tup_inv g2
          rw [ln1] at d2
          refine g_tupT (Same.sqt s1 g1) rfl ?_
          walk_at "rd"
          refine ⟨ty_l (SqL.of e3), ?_⟩
          walk_at "rd"
          refine ⟨(by show 2 ≤ sizeLine; decide), fun p0 hp0 => ?_⟩
          have t0 := same_new hp0 (.tup [V.str "gap", V.non])
          walk_at "rd"
          refine g_app (t0 _ _ e3) (by omega) ?_
          walk_at "rd"
          refine g_dF ne_dg ?_
          obtain ⟨Ha, hHa⟩ : ∃ Ha, Ha = upd (upd H2 p0 (.tup [V.str "gap", V.non])) l (.lst (acc ++ [.ref p0])) := ⟨_, rfl⟩
          rw [← hHa]
          have sa : Same H Ha := by rw [hHa]; exact Same.putNew (s1.trans t0) hl
          have ka : TK K H2 Ha := by rw [hHa]; exact (Same.tk t0).trans (tk_lst (K := K) (t0 _ _ e3))
          have la : Ha l = some (.lst (acc ++ [.ref p0])) := by rw [hHa, upd_same]
          have pa0 : Ha p0 = some (.tup [V.str "gap", V.non]) := by rw [hHa]; exact tk_lst (K := K) (t0 _ _ e3) _ _ upd_same
          have ta : TpAll K Ha (acc ++ [.ref p0]) ((((ss.take i).map tk1).flatten ++ [Tok.gap]).map tkd) := by
            rw [List.map_append]
            exact (TpAll.mono ka _ _ e4).snoc (.pair pa0 .non)
          walk_at "rd"
          refine g_dT rfl ?_
          walk_at "rd"
          refine ⟨(by show 2 ≤ sizeLine; decide), fun p1 hp1 => ?_⟩
          have t1 := same_new hp1 (.tup [V.str "cell", V.int 2])
          walk_at "rd"
          refine ⟨ty, ys, rfl, .inr (Same.sqt (sa.trans t1) g3), ?_⟩
          walk_at "rd"
          refine ⟨(by show 2 ≤ sizeLine; decide), fun p2 hp2 => ?_⟩
          have t2 := same_new hp2 (.tup [V.str "cell", V.int (2 + (ys.length : Int))])
          walk_at "rd"
          refine ⟨(by show 2 ≤ sizeLine; decide), fun l1 hl1 => ?_⟩
          have t3 := same_new hl1 (.lst [.ref p1, .ref p2])
          have U3 : Same Ha _ := (t1.trans t2).trans t3
          refine g_cat (U3 _ _ la) upd_same (by rw [List.length_append]; show acc.length + 1 + 2 ≤ 1000; omega) fun l2 hl2 => ?_
          have t4 := same_new hl2 (.lst (acc ++ [.ref p0] ++ [.ref p1, .ref p2]))
          have U4 : Same Ha _ := U3.trans t4
          obtain ⟨Hb, hHb⟩ : ∃ Hb, Hb = upd (upd (upd (upd Ha p1 (.tup [V.str "cell", V.int 2])) p2 (.tup [V.str "cell", V.int (2 + (ys.length : Int))])) l1 (.lst [.ref p1, .ref p2])) l2 (.lst (acc ++ [.ref p0] ++ [.ref p1, .ref p2])) := ⟨_, rfl⟩
          rw [← hHb] at U4
          rw [← hHb]
          have lb : Hb l2 = some (.lst (acc ++ [.ref p0] ++ [.ref p1, .ref p2])) := by rw [hHb, upd_same]
          have tb : TpAll K Hb (acc ++ [.ref p0] ++ [.ref p1, .ref p2]) ((((ss.take i).map tk1).flatten ++ [Tok.gap, Tok.cell 2, Tok.cell (2 + c.length)]).map tkd) := by
            have e : ((((ss.take i).map tk1).flatten ++ [Tok.gap, Tok.cell 2, Tok.cell (2 + c.length)]).map tkd) = ((((ss.take i).map tk1).flatten ++ [Tok.gap]).map tkd) ++ [tkd (Tok.cell 2), tkd (Tok.cell (2 + c.length))] := by
              rw [List.map_append, List.map_append, List.append_assoc] <;> rfl
            rw [e]
            refine (ta.same U4).append (.cons ?_ (.cons ?_ .nil))
            · rw [hHb]
              exact .pair (((t2.trans t3).trans t4) _ _ upd_same) (.int _)
            · rw [hHb]
              have e2 : (2 : Int) + (ys.length : Int) = ((2 + c.length : Nat) : Int) := by
                rw [g4.length, List.length_map]
                omega
              rw [tkd, ← e2]
              exact .pair ((t3.trans t4) _ _ upd_same) (.int _)
          have sb : Same H Hb := sa.trans U4
          have nl2 : H l2 = none := by
            have z : Same H (upd (upd (upd Ha p1 (.tup [V.str "cell", V.int 2])) p2 (.tup [V.str "cell", V.int (2 + (ys.length : Int))])) l1 (.lst [.ref p1, .ref p2])) := sa.trans U3
            exact z.free hl2
          walk_at "rd"
          refine ⟨ty, rfl, ⟨_, Same.sqt sb g3⟩, fun D hD => ?_⟩
          refine lc_it walk_tup (fun j H' => Same Hb H' ∧ ∃ ac, H' D = some (.lst ac) ∧ TpAll K H' ac ((((c.take j).map Tok.dat)).map tkd) ∧ ac.length = j) ⟨same_new hD _, [], upd_same, .nil, rfl⟩ (fun j H' _ z => Same.sqt (sb.trans z.1) g3) ?_ ?_
          · rintro j z H3 H4 hj ⟨v1, ac, v2, v3, v4⟩ ⟨rfl, hz⟩
            obtain ⟨dz, f1, f2⟩ := g4.get hz
            rw [List.getElem?_map] at f1
            cases hc : c[j]? with
            | none =>
              rw [hc] at f1
              cases f1
            | some oc =>
              rw [hc] at f1
              have f3 := (Option.some.inj f1).symm
              subst f3
              walk_at "rd"
              refine ⟨rfl, ?_⟩
              walk_at "rd"
              refine g_dT rfl ?_
              walk_at "rd"
              refine ⟨(by show 2 ≤ sizeLine; decide), fun p3 hp3 => ?_⟩
              have t5 := same_new hp3 (.tup [V.str "data", z])
              have hjc : j < c.length := (List.getElem?_eq_some_iff.mp hc).1
              refine ⟨ac, t5 _ _ v2, small1000 (by omega), Same.putNew (v1.trans t5) hD, ac ++ [.ref p3], upd_same, ?_, by rw [List.length_append, v4] <;> rfl⟩
              rw [take_snoc hc, List.map_append, List.map_append]
              refine (TpAll.mono (tk_lst (K := K) (t5 _ _ v2)) _ _ (v3.same t5)).snoc ?_
              exact .pair (tk_lst (K := K) (t5 _ _ v2) _ _ upd_same) (Tp.mono (tk_lst (K := K) (t5 _ _ v2)) _ _ (f2.same ((sb.trans v1).trans t5)))
          · rintro H3 ⟨v1, ac, v2, v3, v4⟩
            have hyl : ys.length = c.length := by rw [g4.length, List.length_map]
            rw [hyl] at v3 v4
            rw [List.take_of_length_le (Nat.le_refl _)] at v3
            refine g_cat (v1 _ _ lb) v2 (by rw [List.length_append, List.length_append]; show acc.length + 1 + 2 + ac.length ≤ 1000; omega) fun l3 hl3 => ?_
            have t6 := same_new hl3 (.lst (acc ++ [.ref p0] ++ [.ref p1, .ref p2] ++ ac))
            walk_at "rd"
            refine ⟨ty_l (SqL.of upd_same), ?_⟩
            walk_at "rd"
            refine ⟨(by show 2 ≤ sizeLine; decide), fun p4 hp4 => ?_⟩
            have t7 := same_new hp4 (.tup [V.str "end", V.str "data"])
            have nl3 : H l3 = none := (sb.trans v1).free hl3
            have l3' := t7 _ _ (show (upd H3 l3 (.lst (acc ++ [.ref p0] ++ [.ref p1, .ref p2] ++ ac))) l3 = _ from upd_same)
            walk_at "rd"
            refine g_app l3' (by rw [List.length_append, List.length_append, List.length_append]; show acc.length + 1 + 2 + ac.length ≤ 1000; omega) ?_
            refine ⟨⟨l3, _, _, rfl, nl3, acc ++ [.ref p0] ++ [.ref p1, .ref p2] ++ ac ++ [.ref p4], upd_same, ?_, ?_⟩, Same.putNew (((sb.trans v1).trans t6).trans t7) nl3⟩
            · have e : (((ss.take (i + 1)).map tk1).flatten).map tkd = ((((ss.take i).map tk1).flatten ++ [Tok.gap, Tok.cell 2, Tok.cell (2 + c.length)]).map tkd) ++ ((c.map Tok.dat).map tkd) ++ [tkd (Tok.fin true)] := by
                rw [take_snoc hb, List.map_append, List.flatten_append, List.map_append, List.map_append]
                show _ ++ ([tk1 (.dat c)].flatten).map tkd = _
                rw [tk1, List.flatten_cons, List.flatten_nil, List.append_nil, List.map_append, List.map_append]
                simp only [List.append_assoc]
                rfl
              rw [e]
              refine (TpAll.mono (tk_lst (K := K) l3') _ _ (((tb.same v1).append v3).same (t6.trans t7))).snoc ?_
              exact .pair (tk_lst (K := K) l3' _ _ upd_same) (.str _)
            · simp only [List.length_append, List.length_cons, List.length_nil]
              rw [tk_take hb, tk1]
              simp only [List.length_append, List.length_cons, List.length_nil, List.length_map]
              omega
        | tab c =>
          rw [sh1] at e2
          obtain ⟨tx, y, rfl, g1, g2⟩ := Tp.pair_inv e2
          obtain ⟨ty, ys, rfl, g3, g4⟩ := Tp.tup_inv g2
          rw [ln1] at d2
          refine g_tupT (Same.sqt s1 g1) rfl ?_
          walk_at "rd"
          refine ⟨ty_l (SqL.of e3), ?_⟩
          walk_at "rd"
          refine ⟨(by show 2 ≤ sizeLine; decide), fun p0 hp0 => ?_⟩
          have t0 := same_new hp0 (.tup [V.str "gap", V.non])
          walk_at "rd"
          refine g_app (t0 _ _ e3) (by omega) ?_
          walk_at "rd"
          refine g_dF ne_tg ?_
          obtain ⟨Ha, hHa⟩ : ∃ Ha, Ha = upd (upd H2 p0 (.tup [V.str "gap", V.non])) l (.lst (acc ++ [.ref p0])) := ⟨_, rfl⟩
          rw [← hHa]
          have sa : Same H Ha := by rw [hHa]; exact Same.putNew (s1.trans t0) hl
          have ka : TK K H2 Ha := by rw [hHa]; exact (Same.tk t0).trans (tk_lst (K := K) (t0 _ _ e3))
          have la : Ha l = some (.lst (acc ++ [.ref p0])) := by rw [hHa, upd_same]
          have pa0 : Ha p0 = some (.tup [V.str "gap", V.non]) := by rw [hHa]; exact tk_lst (K := K) (t0 _ _ e3) _ _ upd_same
          have ta : TpAll K Ha (acc ++ [.ref p0]) ((((ss.take i).map tk1).flatten ++ [Tok.gap]).map tkd) := by
            rw [List.map_append]
            exact (TpAll.mono ka _ _ e4).snoc (.pair pa0 .non)
          walk_at "rd"
          refine g_dF ne_td ?_
          walk_at "rd"
          refine ⟨(by show 2 ≤ sizeLine; decide), fun p1 hp1 => ?_⟩
          have t1 := same_new hp1 (.tup [V.str "cell", V.int 4])
          walk_at "rd"
          refine ⟨ty, ys, rfl, .inr (Same.sqt (sa.trans t1) g3), ?_⟩
          walk_at "rd"
          refine ⟨(by show 2 ≤ sizeLine; decide), fun p2 hp2 => ?_⟩
          have t2 := same_new hp2 (.tup [V.str "cell", V.int (2 + (ys.length : Int))])
          walk_at "rd"
          refine ⟨(by show 2 ≤ sizeLine; decide), fun l1 hl1 => ?_⟩
          have t3 := same_new hl1 (.lst [.ref p1, .ref p2])
          have U3 : Same Ha _ := (t1.trans t2).trans t3
          refine g_cat (U3 _ _ la) upd_same (by rw [List.length_append]; show acc.length + 1 + 2 ≤ 1000; omega) fun l2 hl2 => ?_
          have t4 := same_new hl2 (.lst (acc ++ [.ref p0] ++ [.ref p1, .ref p2]))
          have U4 : Same Ha _ := U3.trans t4
          obtain ⟨Hb, hHb⟩ : ∃ Hb, Hb = upd (upd (upd (upd Ha p1 (.tup [V.str "cell", V.int 4])) p2 (.tup [V.str "cell", V.int (2 + (ys.length : Int))])) l1 (.lst [.ref p1, .ref p2])) l2 (.lst (acc ++ [.ref p0] ++ [.ref p1, .ref p2])) := ⟨_, rfl⟩
          rw [← hHb] at U4
          rw [← hHb]
          have lb : Hb l2 = some (.lst (acc ++ [.ref p0] ++ [.ref p1, .ref p2])) := by rw [hHb, upd_same]
          have tb : TpAll K Hb (acc ++ [.ref p0] ++ [.ref p1, .ref p2]) ((((ss.take i).map tk1).flatten ++ [Tok.gap, Tok.cell 4, Tok.cell (2 + c.length)]).map tkd) := by
            have e : ((((ss.take i).map tk1).flatten ++ [Tok.gap, Tok.cell 4, Tok.cell (2 + c.length)]).map tkd) = ((((ss.take i).map tk1).flatten ++ [Tok.gap]).map tkd) ++ [tkd (Tok.cell 4), tkd (Tok.cell (2 + c.length))] := by
              rw [List.map_append, List.map_append, List.append_assoc] <;> rfl
            rw [e]
            refine (ta.same U4).append (.cons ?_ (.cons ?_ .nil))
            · rw [hHb]
              exact .pair (((t2.trans t3).trans t4) _ _ upd_same) (.int _)
            · rw [hHb]
              have e2 : (2 : Int) + (ys.length : Int) = ((2 + c.length : Nat) : Int) := by
                rw [g4.length, List.length_map]
                omega
              rw [tkd, ← e2]
              exact .pair ((t3.trans t4) _ _ upd_same) (.int _)
          have sb : Same H Hb := sa.trans U4
          have nl2 : H l2 = none := by
            have z : Same H (upd (upd (upd Ha p1 (.tup [V.str "cell", V.int 4])) p2 (.tup [V.str "cell", V.int (2 + (ys.length : Int))])) l1 (.lst [.ref p1, .ref p2])) := sa.trans U3
            exact z.free hl2
          walk_at "rd"
          refine ⟨ty, rfl, ⟨_, Same.sqt sb g3⟩, fun D hD => ?_⟩
          refine lc_it walk_tup (fun j H' => Same Hb H' ∧ ∃ ac, H' D = some (.lst ac) ∧ TpAll K H' ac ((((c.take j).map Tok.ent)).map tkd) ∧ ac.length = j) ⟨same_new hD _, [], upd_same, .nil, rfl⟩ (fun j H' _ z => Same.sqt (sb.trans z.1) g3) ?_ ?_
          · rintro j z H3 H4 hj ⟨v1, ac, v2, v3, v4⟩ ⟨rfl, hz⟩
            obtain ⟨dz, f1, f2⟩ := g4.get hz
            rw [List.getElem?_map] at f1
            cases hc : c[j]? with
            | none =>
              rw [hc] at f1
              cases f1
            | some oc =>
              rw [hc] at f1
              have f3 := (Option.some.inj f1).symm
              subst f3
              walk_at "rd"
              refine ⟨rfl, ?_⟩
              walk_at "rd"
              refine g_dF ne_td ?_
              walk_at "rd"
              refine ⟨(by show 2 ≤ sizeLine; decide), fun p3 hp3 => ?_⟩
              have t5 := same_new hp3 (.tup [V.str "entry", z])
              have hjc : j < c.length := (List.getElem?_eq_some_iff.mp hc).1
              refine ⟨ac, t5 _ _ v2, small1000 (by omega), Same.putNew (v1.trans t5) hD, ac ++ [.ref p3], upd_same, ?_, by rw [List.length_append, v4] <;> rfl⟩
              rw [take_snoc hc, List.map_append, List.map_append]
              refine (TpAll.mono (tk_lst (K := K) (t5 _ _ v2)) _ _ (v3.same t5)).snoc ?_
              exact .pair (tk_lst (K := K) (t5 _ _ v2) _ _ upd_same) (Tp.mono (tk_lst (K := K) (t5 _ _ v2)) _ _ (f2.same ((sb.trans v1).trans t5)))
          · rintro H3 ⟨v1, ac, v2, v3, v4⟩
            have hyl : ys.length = c.length := by rw [g4.length, List.length_map]
            rw [hyl] at v3 v4
            rw [List.take_of_length_le (Nat.le_refl _)] at v3
            refine g_cat (v1 _ _ lb) v2 (by rw [List.length_append, List.length_append]; show acc.length + 1 + 2 + ac.length ≤ 1000; omega) fun l3 hl3 => ?_
            have t6 := same_new hl3 (.lst (acc ++ [.ref p0] ++ [.ref p1, .ref p2] ++ ac))
            walk_at "rd"
            refine ⟨ty_l (SqL.of upd_same), ?_⟩
            walk_at "rd"
            refine ⟨(by show 2 ≤ sizeLine; decide), fun p4 hp4 => ?_⟩
            have t7 := same_new hp4 (.tup [V.str "end", V.str "table"])
            have nl3 : H l3 = none := (sb.trans v1).free hl3
            have l3' := t7 _ _ (show (upd H3 l3 (.lst (acc ++ [.ref p0] ++ [.ref p1, .ref p2] ++ ac))) l3 = _ from upd_same)
            walk_at "rd"
            refine g_app l3' (by rw [List.length_append, List.length_append, List.length_append]; show acc.length + 1 + 2 + ac.length ≤ 1000; omega) ?_
            refine ⟨⟨l3, _, _, rfl, nl3, acc ++ [.ref p0] ++ [.ref p1, .ref p2] ++ ac ++ [.ref p4], upd_same, ?_, ?_⟩, Same.putNew (((sb.trans v1).trans t6).trans t7) nl3⟩
            · have e : (((ss.take (i + 1)).map tk1).flatten).map tkd = ((((ss.take i).map tk1).flatten ++ [Tok.gap, Tok.cell 4, Tok.cell (2 + c.length)]).map tkd) ++ ((c.map Tok.ent).map tkd) ++ [tkd (Tok.fin false)] := by
                rw [take_snoc hb, List.map_append, List.flatten_append, List.map_append, List.map_append]
                show _ ++ ([tk1 (.tab c)].flatten).map tkd = _
                rw [tk1, List.flatten_cons, List.flatten_nil, List.append_nil, List.map_append, List.map_append]
                simp only [List.append_assoc]
                rfl
              rw [e]
              refine (TpAll.mono (tk_lst (K := K) l3') _ _ (((tb.same v1).append v3).same (t6.trans t7))).snoc ?_
              exact .pair (tk_lst (K := K) l3' _ _ upd_same) (.str _)
            · simp only [List.length_append, List.length_cons, List.length_nil]
              rw [tk_take hb, tk1]
              simp only [List.length_append, List.length_cons, List.length_nil, List.length_map]
              omega
        | grp c =>
          rw [sh1] at e2
          obtain ⟨tx, y, rfl, g1, g2⟩ := Tp.pair_inv e2
          rw [ln1] at d2
          rw [dps1] at d1
          refine g_tupT (Same.sqt s1 g1) rfl ?_
          walk_at "rd"
          refine ⟨ty_l (SqL.of e3), ?_⟩
          walk_at "rd"
          refine ⟨(by show 2 ≤ sizeLine; decide), fun p0 hp0 => ?_⟩
          have t0 := same_new hp0 (.tup [V.str "gap", V.non])
          walk_at "rd"
          refine g_app (t0 _ _ e3) (by omega) ?_
          walk_at "rd"
          refine g_dT rfl ?_
          obtain ⟨Ha, hHa⟩ : ∃ Ha, Ha = upd (upd H2 p0 (.tup [V.str "gap", V.non])) l (.lst (acc ++ [.ref p0])) := ⟨_, rfl⟩
          rw [← hHa]
          have sa : Same H Ha := by rw [hHa]; exact Same.putNew (s1.trans t0) hl
          have ka : TK K H2 Ha := by rw [hHa]; exact (Same.tk t0).trans (tk_lst (K := K) (t0 _ _ e3))
          have la : Ha l = some (.lst (acc ++ [.ref p0])) := by rw [hHa, upd_same]
          have pa0 : Ha p0 = some (.tup [V.str "gap", V.non]) := by rw [hHa]; exact tk_lst (K := K) (t0 _ _ e3) _ _ upd_same
          have ta : TpAll K Ha (acc ++ [.ref p0]) ((((ss.take i).map tk1).flatten ++ [Tok.gap]).map tkd) := by
            rw [List.map_append]
            exact (TpAll.mono ka _ _ e4).snoc (.pair pa0 .non)
          walk_at "rd1"
          refine Gv.lst (K := K) (ds := [.tuple [.str "cell", .int 1], .tuple [.str "length", .none]]) ?_ (by decide) fun lA va Hb sb hlA hb' tb => ?_
          · repeat first | exact Gv.nil | exact Ge.str _ | exact Ge.non | exact Ge.int _ | refine Gv.cons ?_ ?_ | refine Ge.tup ?_ (by decide)
          refine g_cat (sb _ _ la) hb' (by rw [List.length_append, tb.length]; show acc.length + 1 + 2 ≤ 1000; omega) fun lB hlB => ?_
          have t1 := same_new hlB (.lst (acc ++ [.ref p0] ++ va))
          walk_at "rd1"
          refine ⟨y, c, rfl, g2.same ((sa.trans sb).trans t1), by omega, by omega, fun lC vc Hc sc hlC hc' tc => ?_⟩
          have hvc : vc.length ≤ 300 := by
            have := tkL_len c
            rw [tc.length, List.length_map]
            omega
          refine g_cat (sc _ _ upd_same) hc' (by rw [List.length_append, List.length_append, tb.length]; show acc.length + 1 + 2 + vc.length ≤ 1000; omega) fun lD hlD => ?_
          have t2 := same_new hlD (.lst (acc ++ [.ref p0] ++ va ++ vc))
          walk_at "rd1"
          refine Gv.lst (K := K) (ds := [.tuple [.str "close", .none]]) ?_ (by decide) fun lE ve He se hlE he' te => ?_
          · repeat first | exact Gv.nil | exact Ge.str _ | exact Ge.non | exact Ge.int _ | refine Gv.cons ?_ ?_ | refine Ge.tup ?_ (by decide)
          refine g_cat (se _ _ upd_same) he' (by rw [List.length_append, List.length_append, List.length_append, tb.length, te.length]; show acc.length + 1 + 2 + vc.length + 1 ≤ 1000; omega) fun lF hlF => ?_
          have t3 := same_new hlF (.lst (acc ++ [.ref p0] ++ va ++ vc ++ ve))
          have U : Same H _ := (((((sa.trans sb).trans t1).trans sc).trans t2).trans se)
          refine ⟨⟨lF, _, _, rfl, U.free hlF, acc ++ [.ref p0] ++ va ++ vc ++ ve, upd_same, ?_, ?_⟩, U.trans t3⟩
          · have e : (((ss.take (i + 1)).map tk1).flatten).map tkd = ((((ss.take i).map tk1).flatten ++ [Tok.gap]).map tkd) ++ [.tuple [.str "cell", .int 1], .tuple [.str "length", .none]] ++ ((tkL c).map tkd) ++ [.tuple [.str "close", .none]] := by
              rw [take_snoc hb, List.map_append, List.flatten_append, List.map_append, List.map_append]
              show _ ++ ([tk1 (.grp c)].flatten).map tkd = _
              rw [tk1, List.flatten_cons, List.flatten_nil, List.append_nil, List.map_append, List.map_append]
              simp only [List.append_assoc]
              rfl
            rw [e]
            have w1 := ((((ta.same sb).append tb).same (t1.trans sc)).append tc).same (t2.trans se)
            exact (w1.append te).same t3
          · simp only [List.length_append, List.length_cons, List.length_nil]
            rw [tk_take hb, tk1, tb.length, tc.length, te.length]
            simp only [List.length_append, List.length_cons, List.length_nil, List.length_map]
            omega
    · rintro σ H1 ⟨⟨l, x2, x3, rfl, hl, acc, e3, e4, e5⟩, s1⟩
      rw [List.take_of_length_le (by omega)] at e4 e5
      have hal := flat_len ss
      walk_at "rd1"
      refine Gv.lst (K := K) (ds := [.tuple [.str "gap", .none]]) ?_ (by decide) fun lE ve He se hlE he' te => ?_
      · repeat first | exact Gv.nil | exact Ge.str _ | exact Ge.non | exact Ge.int _ | refine Gv.cons ?_ ?_ | refine Ge.tup ?_ (by decide)
      refine g_cat (se _ _ e3) he' (by rw [te.length]; show acc.length + 1 ≤ 1000; omega) fun lF hlF => ?_
      have t3 := same_new hlF (.lst (acc ++ ve))
      refine q lF _ _ ((s1.trans se).trans t3) ((s1.trans se).free hlF) upd_same ?_
      rw [tkL_flat, List.map_append]
      exact ((e4.same se).append te).same t3
end
end Bx

namespace Bx
/-! ### the cells of a file, piece by piece -/
structure Kst where
  m : Nat → Option Nat
  pl : Nat
  rest : List Nat
  op : List Nat
  en : List (Nat × (Nat × Nat))
  tg : Nat × Nat → Option Nat
  num : Nat
  off : Nat
def putM (m : Nat → Option Nat) (k v : Nat) : Nat → Option Nat := fun n => if n = k then some v else m n
/-- the first j cells of a free box of s cells at p -/
def fillG (bef : List Nat) (m : Nat → Option Nat) (p s j : Nat) : Nat → Option Nat := fun n => if p ≤ n ∧ n < p + j then some (if n = p then 3 else if n = p + 1 then s else bef.getD n 0) else m n
def stp1 (bef : List Nat) (k : Kst) : Tok → Option Kst
  | .gap => match k.rest with
    | [] => none
    | s :: r => some { k with m := fillG bef k.m k.pl s s, pl := k.pl + s, rest := r }
  | .close => some { k with m := putM k.m (k.op.getLastD 0) (k.pl - k.op.getLastD 0 + 1), op := k.op.dropLast }
  | .fin d => some { k with num := k.num + (if d = true then 1 else 0), off := 0 }
  | .length => some { k with op := k.op ++ [k.pl], pl := k.pl + 1 }
  | .ent t => some { k with en := k.en ++ [(k.pl, t)], pl := k.pl + 1 }
  | .dat c => some { k with tg := fun t => if t = (k.num, k.off) then some k.pl else k.tg t, off := k.off + 1, m := putM k.m k.pl c, pl := k.pl + 1 }
  | .cell n => some { k with m := putM k.m k.pl n, pl := k.pl + 1 }
def runK (bef : List Nat) : List Tok → Kst → Kst
  | [], k => k
  | t :: r, k => match stp1 bef k t with
    | none => k
    | some k' => runK bef r k'
def finM (tg : Nat × Nat → Option Nat) : List (Nat × (Nat × Nat)) → (Nat → Option Nat) → (Nat → Option Nat)
  | [], m => m
  | e :: r, m => finM tg r (match tg e.2 with
    | some v => putM m e.1 v
    | none => m)
def kn0 (gs : List Nat) : Kst := ⟨fun _ => none, 0, gs, [], [], fun _ => none, 0, 0⟩
def knR (bef : List Nat) (ss : List Sh) (gs : List Nat) : Kst := runK bef (tkL ss) (kn0 gs)
def knM (bef : List Nat) (ss : List Sh) (gs : List Nat) : Nat → Option Nat := finM (knR bef ss gs).tg (knR bef ss gs).en (knR bef ss gs).m
/-- groups are opened and closed -/
def okT : List Tok → Nat → Prop
  | [], _ => True
  | .close :: r, d => 0 < d ∧ okT r (d - 1)
  | .length :: r, d => okT r (d + 1)
  | .gap :: r, d => okT r d
  | .cell _ :: r, d => okT r d
  | .dat _ :: r, d => okT r d
  | .ent _ :: r, d => okT r d
  | .fin _ :: r, d => okT r d
theorem okT_dats : ∀ (l : List Nat) (r : List Tok) (d : Nat), okT r d → okT (l.map Tok.dat ++ r) d
  | [], _, _, h => h
  | c :: l, r, d, h => by
    rw [List.map_cons, List.cons_append, okT]
    exact okT_dats l r d h
theorem okT_ents : ∀ (l : List (Nat × Nat)) (r : List Tok) (d : Nat), okT r d → okT (l.map Tok.ent ++ r) d
  | [], _, _, h => h
  | c :: l, r, d, h => by
    rw [List.map_cons, List.cons_append, okT]
    exact okT_ents l r d h
mutual
theorem okT_1 : ∀ (s : Sh) (r : List Tok) (d : Nat), okT r d → okT (tk1 s ++ r) d
  | .dat c, r, d, h => by
    rw [tk1, List.append_assoc, List.append_assoc]
    show okT (Tok.gap :: Tok.cell 2 :: Tok.cell (2 + c.length) :: (c.map Tok.dat ++ (Tok.fin true :: r))) d
    rw [okT, okT, okT]
    exact okT_dats c _ d (by rw [okT]; exact h)
  | .tab c, r, d, h => by
    rw [tk1, List.append_assoc, List.append_assoc]
    show okT (Tok.gap :: Tok.cell 4 :: Tok.cell (2 + c.length) :: (c.map Tok.ent ++ (Tok.fin false :: r))) d
    rw [okT, okT, okT]
    exact okT_ents c _ d (by rw [okT]; exact h)
  | .grp ks, r, d, h => by
    rw [tk1, List.append_assoc, List.append_assoc]
    show okT (Tok.gap :: Tok.cell 1 :: Tok.length :: (tkL ks ++ (Tok.close :: r))) d
    rw [okT, okT, okT]
    exact okT_L ks _ (d + 1) (by rw [okT]; exact ⟨Nat.succ_pos _, h⟩)
theorem okT_L : ∀ (l : List Sh) (r : List Tok) (d : Nat), okT r d → okT (tkL l ++ r) d
  | [], r, d, h => by
    rw [tkL]
    show okT (Tok.gap :: r) d
    rw [okT]
    exact h
  | s :: q, r, d, h => by
    rw [tkL, List.append_assoc]
    exact okT_1 s _ d (okT_L q r d h)
end
theorem okT_all (l : List Sh) : okT (tkL l) 0 := by
  have := okT_L l [] 0 (by rw [okT] <;> trivial)
  rw [List.append_nil] at this
  exact this
/-! ### dicts of numbers -/
structure DN (H : Hp) (d : Addr) (m : Nat → Option Nat) (b : Nat) : Prop where
  ex : ∃ kvs : List (Key × V), H d = some (.dK kvs) ∧ kvs.length ≤ b ∧ ∀ n : Nat, valV kvs (Sum.inl (n : Int)) = (m n).map vn
structure DT2 (H : Hp) (d : Addr) (m : Nat × Nat → Option Nat) (b : Nat) : Prop where
  ex : ∃ kvs : List (List Key × V), H d = some (.dT kvs) ∧ kvs.length ≤ b ∧ ∀ i j : Nat, valV kvs [Sum.inl (i : Int), Sum.inl (j : Int)] = (m (i, j)).map vn
section
variable {H H' : Hp} {d : Addr} {b b' : Nat} {m m' : Nat → Option Nat} {g : Nat × Nat → Option Nat}
theorem DN.eq (x : DN H d m b) (h : ∀ n, m n = m' n) (hb : b ≤ b') : DN H d m' b' := by
  have e : m = m' := funext h
  subst e
  obtain ⟨kvs, h1, h2, h3⟩ := x.ex
  exact ⟨kvs, h1, Nat.le_trans h2 hb, h3⟩
theorem DN.at (x : DN H d m b) (e : H' d = H d) : DN H' d m b := by
  obtain ⟨kvs, h1, h2, h3⟩ := x.ex
  exact ⟨kvs, e.trans h1, h2, h3⟩
theorem DN.same (x : DN H d m b) (e : Same H H') : DN H' d m b := by
  obtain ⟨kvs, h1, h2, h3⟩ := x.ex
  exact ⟨kvs, e _ _ h1, h2, h3⟩
theorem DN.nil (h : H d = some (.dK [])) : DN H d (fun _ => none) b := ⟨[], h, Nat.zero_le _, fun _ => rfl⟩
theorem DN.dK (x : DN H d m b) : ∃ kvs, H d = some (.dK kvs) := x.ex.imp fun _ z => z.1
theorem DN.put (x : DN H d m b) {n0 v : Nat} (hb : b ≤ 100000) {D : Hp → Prop} (h : ∀ o, DN (upd H d o) d (putM m n0 v) (b + 1) → D (upd H d o)) : ∃ a H', V.ref d = .ref a ∧ DPut H a (.int (n0 : Int)) (.int (v : Int)) H' ∧ D H' := by
  obtain ⟨kvs, h1, h2, h3⟩ := x.ex
  refine ⟨d, _, rfl, DPut.k (k := Sum.inl (n0 : Int)) h1 (Nat.lt_of_le_of_lt (Nat.le_trans h2 hb) (by decide)), h _ ⟨_, upd_same, Nat.le_trans (putK_len _ _ _) (Nat.succ_le_succ h2), fun n => ?_⟩⟩
  rw [valV_put]
  unfold putM
  by_cases e : n = n0
  · rw [if_pos e, if_pos (by rw [e])]
    rfl
  · rw [if_neg e, if_neg (fun z => e (by have := Sum.inl.inj z; omega))]
    exact h3 n
theorem DN.get (x : DN H d m b) {n v : Nat} (h : m n = some v) : DGet H d (.int (n : Int)) (some (vn v)) := by
  obtain ⟨kvs, h1, h2, h3⟩ := x.ex
  have := DGet.k (k := Sum.inl (n : Int)) h1
  rw [h3 n, h] at this
  exact this
theorem DT2.same (x : DT2 H d g b) (e : Same H H') : DT2 H' d g b := by
  obtain ⟨kvs, h1, h2, h3⟩ := x.ex
  exact ⟨kvs, e _ _ h1, h2, h3⟩
theorem DT2.at (x : DT2 H d g b) (e : H' d = H d) : DT2 H' d g b := by
  obtain ⟨kvs, h1, h2, h3⟩ := x.ex
  exact ⟨kvs, e.trans h1, h2, h3⟩
theorem DT2.mono (x : DT2 H d g b) (hb : b ≤ b') : DT2 H d g b' := by
  obtain ⟨kvs, h1, h2, h3⟩ := x.ex
  exact ⟨kvs, h1, Nat.le_trans h2 hb, h3⟩
theorem DT2.nil (h : H d = some (.dT [])) : DT2 H d (fun _ => none) b := ⟨[], h, Nat.zero_le _, fun _ _ => rfl⟩
theorem DT2.dT (x : DT2 H d g b) : ∃ kvs, H d = some (.dT kvs) := x.ex.imp fun _ z => z.1
theorem DT2.put (x : DT2 H d g b) {i0 j0 v : Nat} {t : Addr} (ht : H t = some (.tup [.int (i0 : Int), .int (j0 : Int)])) (hb : b ≤ 100000) {D : Hp → Prop}
    (h : ∀ o, DT2 (upd H d o) d (fun t => if t = (i0, j0) then some v else g t) (b + 1) → D (upd H d o)) : ∃ a H', V.ref d = .ref a ∧ DPut H a (.ref t) (.int (v : Int)) H' ∧ D H' := by
  obtain ⟨kvs, h1, h2, h3⟩ := x.ex
  refine ⟨d, _, rfl, DPut.t (k := [Sum.inl (i0 : Int), Sum.inl (j0 : Int)]) h1 ht (Nat.lt_of_le_of_lt (Nat.le_trans h2 hb) (by decide)), h _ ⟨_, upd_same, Nat.le_trans (putK_len _ _ _) (Nat.succ_le_succ h2), fun i j => ?_⟩⟩
  rw [valV_put]
  by_cases e : (i, j) = (i0, j0)
  · rw [if_pos e]
    obtain ⟨e1, e2⟩ := Prod.mk.inj e
    subst e1
    subst e2
    rw [if_pos rfl]
    rfl
  · rw [if_neg e, if_neg (fun z => e ?_)]
    · exact h3 i j
    · have z1 := Sum.inl.inj (List.cons.inj z).1
      have z2 := Sum.inl.inj (List.cons.inj (List.cons.inj z).2).1
      rw [show i = i0 by omega, show j = j0 by omega]
theorem DT2.get (x : DT2 H d g b) {i j : Nat} {t : Addr} (ht : H t = some (.tup [.int (i : Int), .int (j : Int)])) : DGet H d (.ref t) ((g (i, j)).map vn) := by
  obtain ⟨kvs, h1, h2, h3⟩ := x.ex
  have := DGet.t (k := [Sum.inl (i : Int), Sum.inl (j : Int)]) h1 ht
  rw [h3 i j] at this
  exact this
theorem tk_dT {K : PySem.W.Frag} {H : Hp} {l : Addr} {ys : List (List Key × V)} {u : HO} (h : H l = some (.dT ys)) : TK K H (upd H l u) := tk_of h (fun _ z => nomatch z)
end
theorem fill_succ (bef : List Nat) (m : Nat → Option Nat) (p s j n : Nat) : fillG bef m p s (j + 1) n = putM (fillG bef m p s j) (p + j) (if j = 0 then 3 else if j = 1 then s else bef.getD (p + j) 0) n := by
  unfold fillG putM
  dsimp only
  by_cases e : n = p + j
  · subst e
    rw [if_pos ⟨by omega, by omega⟩, if_pos rfl]
    by_cases h0 : j = 0
    · rw [if_pos (by omega), if_pos h0]
    · rw [if_neg (by omega), if_neg h0]
      by_cases h1 : j = 1
      · rw [if_pos (by omega), if_pos h1]
      · rw [if_neg (by omega), if_neg h1]
  · rw [if_neg e]
    by_cases h : p ≤ n ∧ n < p + j
    · rw [if_pos h, if_pos ⟨h.1, by omega⟩]
    · rw [if_neg h, if_neg (by omega)]
theorem fill_zero (bef : List Nat) (m : Nat → Option Nat) (p s n : Nat) : fillG bef m p s 0 n = m n := if_neg (by omega)
end Bx

namespace Bx
/-- an entry: its place, its target -/
def entd (e : Nat × (Nat × Nat)) : PyData := .tuple [.int (e.1 : Int), pr e.2]
/-- how the law's own objects tell a state: cells, rest, opened, entries, targets -/
structure KRep (K : PySem.W.Frag) (H : Hp) (Cd R O E Td : Addr) (k : Kst) (b : Nat) : Prop where
  c : DN H Cd k.m b
  r : H R = some (.lst (k.rest.map vn))
  o : H O = some (.lst (k.op.map vn))
  e : ∃ es, H E = some (.lst es) ∧ TpAll K H es (k.en.map entd) ∧ k.en.length ≤ b
  t : DT2 H Td k.tg b
  noe : O ≠ E
  nor : O ≠ R
  ner : E ≠ R
  pl : ∀ x ∈ k.op, x ≤ k.pl
  g : ∀ x ∈ k.rest, x ≤ 90
  ol : k.op.length ≤ b
theorem KRep.mono {K : PySem.W.Frag} {H H' : Hp} {Cd R O E Td : Addr} {k : Kst} {b b' : Nat} (x : KRep K H Cd R O E Td k b) (e : Same H H') (hb : b ≤ b') : KRep K H' Cd R O E Td k b' where
  c := (x.c.same e).eq (fun _ => rfl) hb
  r := e _ _ x.r
  o := e _ _ x.o
  e := by
    obtain ⟨es, h1, h2, h3⟩ := x.e
    exact ⟨es, e _ _ h1, h2.same e, by omega⟩
  t := (x.t.same e).mono hb
  noe := x.noe
  nor := x.nor
  ner := x.ner
  pl := x.pl
  g := x.g
  ol := Nat.le_trans x.ol hb
section
variable {P : Program} {w : World} {K : PySem.W.Frag} {mg : Str → Option Value} {base : Heap}
def spKnown (K : PySem.W.Frag) : Sp := fun vs H Q _ => ∃ (B Gp : Addr) (v : V) (bef gs : List Nat) (ss : List Sh), vs = [.ref B, v, .ref Gp] ∧ SqT K H B (bef.map vn) ∧ Tp K H v (.tuple (shL ss)) ∧ dpsL ss < 10 ∧ lnL ss ≤ 100 ∧ SqT K H Gp (gs.map vn) ∧ gs.length ≤ 500 ∧ (∀ g ∈ gs, g ≤ 90) ∧
  ∀ (t Cd : Addr) (H' : Hp), Same H H' → H' t = some (.tup [.ref Cd, .int ((knR bef ss gs).pl : Int)]) → DN H' Cd (knM bef ss gs) 100000 → H Cd = none → Q (.ref t) H'
theorem ok_lKnown {f : Addr} {fd : FuncData} (F : Def K mg "_law_known" sLKnown f fd) (b : Binds K fd ["_law_before", "_law_shape_here", "_law_gaps_here"] []) (T : Txt mg) (C_lTokens : Cal P w K mg base 11 "_law_tokens" (spTokens K 10) []) : Cal P w K mg base 12 "_law_known" (spKnown K) [] := by
  refine cal0 F b .nil scLKnown (fun vs H Q E h => ?_) (fun cdv A outer s H vs Q E hr h => ?_)
  · obtain ⟨B, Gp, v, bef, gs, ss, rfl, _⟩ := h
    rfl
  obtain ⟨B, Gp, v, bef, gs, ss, rfl, hB, hv, hd, hz, hG, hgl, hg90, q⟩ := h
  refine ⟨_, (pss_cons (ps_asg (pe_tup (pa_cons pe_dnewK (pa_cons pe_int (pa_cons (pe_callTy call_list_of (by rfl) T.list b_list (pa_cons (pv 2) pa_nil)) (pa_cons (pe_lst pa_nil) pa_nil))))) (pg_tup rfl (pgs_cons (pg_name (i := 3) scLKnown.nd rfl (.inl rfl)) (pgs_cons (pg_name (i := 4) scLKnown.nd rfl (.inl rfl)) (pgs_cons (pg_name (i := 5) scLKnown.nd rfl (.inl rfl)) (pgs_cons (pg_name (i := 6) scLKnown.nd rfl (.inl rfl)) pgs_nil))))))
      (pss_cons (ps_asg (pe_tup (pa_cons (pe_lst pa_nil) (pa_cons pe_dnewT (pa_cons pe_int (pa_cons pe_int pa_nil))))) (pg_tup rfl (pgs_cons (pg_name (i := 7) scLKnown.nd rfl (.inl rfl)) (pgs_cons (pg_name (i := 8) scLKnown.nd rfl (.inl rfl)) (pgs_cons (pg_name (i := 9) scLKnown.nd rfl (.inl rfl)) (pgs_cons (pg_name (i := 10) scLKnown.nd rfl (.inl rfl)) pgs_nil))))))
      (pss_cut (ps_for PassesOwn.never rfl (pi_list (pe_c C_lTokens hr (by decide) rfl (pa_cons (pv 1) pa_nil))) (pg_tup rfl (pgs_cons (pg_name (i := 11) scLKnown.nd rfl (.inl rfl)) (pgs_cons (pg_name (i := 12) scLKnown.nd rfl (.inl rfl)) pgs_nil))) 
        (pss_one (ps_if (pt_cmpR op_eq (pv 11) pe_str (nomark _)) 
          (pss_cons (ps_if (pt_cmpR (op_eqD hr.units) (pv 5) (pe_lst pa_nil) (nomark _)) 
            (pss_one ps_break) pss_nil)
          (pss_cons (ps_par (i := 13) (j := 5) (by rfl) scLKnown.nd rfl rfl (by decide) rfl rfl (pa_cons (pe_ix ix_list (pv 5) pe_int (fun _ _ => rfl)) (pa_cons (pe_slice sl_list (pv 5) (po_some pe_int) po_none) pa_nil)) (by rfl))
          (pss_one (ps_for PassesOwn.never rfl (pi_range1 (by rfl) T.range (pa_cons (pv 13) pa_nil)) (pg_name (i := 14) scLKnown.nd rfl (.inl rfl)) 
            (pss_cons (ps_set (i := 15) scLKnown.nd rfl (Or.inl rfl) (pe_ifExp (pt_cmpR op_lt (pv 4) (pe_callB call_len_seq (by rfl) T.len b_len (pa_cons (pv 0) pa_nil)) (nomark _)) (pe_ix ix_tup (pv 0) (pv 4) (fun _ _ => rfl)) pe_int))
            (pss_cons (ps_dput (hu_of hr) (pv 3) (pv 4) (pe_ifExp (pt_cmpR op_eq (pv 14) pe_int (nomark _)) pe_int (pe_ifExp (pt_cmpR op_eq (pv 14) pe_int (nomark _)) (pv 13) (pv 15))) rfl)
            (pss_one (ps_set (i := 4) scLKnown.nd rfl (Or.inl rfl) (pe_op op_add (pv 4) pe_int))))))))) 
          (pss_one (ps_if (pt_cmpR op_eq (pv 11) pe_str (nomark _)) 
            (pss_cons (ps_set (i := 16) scLKnown.nd rfl (Or.inl rfl) (pe_bm0 PySem.F.plainAttrs_list PySem.F.slot_list_pop PySem.F.type_list_pop mt_pop (pv 6)))
            (pss_one (ps_dput (hu_of hr) (pv 3) (pv 16) (pe_op op_add (pe_op op_sub (pv 4) (pv 16)) pe_int) rfl))) 
            (pss_one (ps_if (pt_cmpR op_eq (pv 11) pe_str (nomark _)) 
              (pss_one (ps_par (i := 9) (j := 10) (by rfl) scLKnown.nd rfl rfl (by decide) rfl rfl (pa_cons (pe_op op_add (pv 9) (pe_callTy call_int1 (by rfl) T.int b_int (pa_cons (pe_cmpR op_eq (pv 12) pe_str (nomark _)) pa_nil))) (pa_cons pe_int pa_nil)) (by rfl))) 
              (pss_cons (ps_if (pt_cmpR op_eq (pv 11) pe_str (nomark _)) 
                (pss_cons (ps_dput (hu_of hr) (pv 8) (pe_tup (pa_cons (pv 9) (pa_cons (pv 10) pa_nil))) (pv 4) rfl)
                (pss_one (ps_set (i := 10) scLKnown.nd rfl (Or.inl rfl) (pe_op op_add (pv 10) pe_int)))) pss_nil)
              (pss_cons (ps_if (pt_cmpR op_eq (pv 11) pe_str (nomark _)) 
                (pss_one (ps_expr (pe_bm PySem.F.plainAttrs_list PySem.F.slot_list_append PySem.F.type_list_append mt_append (pv 6) (pa_cons (pv 4) pa_nil)))) 
                (pss_one (ps_if (pt_cmpR op_eq (pv 11) pe_str (nomark _)) 
                  (pss_one (ps_expr (pe_bm PySem.F.plainAttrs_list PySem.F.slot_list_append PySem.F.type_list_append mt_append (pv 7) (pa_cons (pe_tup (pa_cons (pv 4) (pa_cons (pv 12) pa_nil))) pa_nil)))) 
                  (pss_one (ps_dput (hu_of hr) (pv 3) (pv 4) (pv 12) rfl)))))
              (pss_one (ps_set (i := 4) scLKnown.nd rfl (Or.inl rfl) (pe_op op_add (pv 4) pe_int))))))))))))
      (pss_cons (ps_for PassesOwn.never rfl (pi_list (pv 7)) (pg_tup rfl (pgs_cons (pg_name (i := 17) scLKnown.nd rfl (.inl rfl)) (pgs_cons (pg_name (i := 18) scLKnown.nd rfl (.inl rfl)) pgs_nil))) 
        (pss_one (ps_if (pt_cmp (pc_din (hu_of hr) (pv 18) (pv 8))) 
          (pss_one (ps_dput (hu_of hr) (pv 3) (pv 17) (pe_dget (hu_of hr) (pv 8) (pv 18) (fun _ _ => rfl)) rfl)) pss_nil)))
      (pss_one (ps_ret (pe_tup (pa_cons (pv 3) (pa_cons (pv 4) pa_nil))))))))), ?_⟩
  walk_at "rd"
  refine g_dnewK fun Cd hCd => ?_
  have s1 := same_new hCd (.dK [])
  walk_at "rd"
  refine ⟨Gp, _, rfl, .inr (Same.sqt s1 hG), fun R hR => ?_⟩
  have s2 := same_new hR (.lst (gs.map vn))
  walk_at "rd"
  refine ⟨Nat.zero_le _, fun O hO => ?_⟩
  have s3 := same_new hO (.lst [])
  walk_at "rd"
  refine ⟨(by show 4 ≤ sizeLine; decide), fun p1 hp1 => ?_⟩
  have s4 := same_new hp1 (.tup [.ref Cd, .int 0, .ref R, .ref O])
  refine g_tupT (SqT.of upd_same) rfl ?_
  walk_at "rd"
  refine ⟨Nat.zero_le _, fun E1 hE => ?_⟩
  have s5 := same_new hE (.lst [])
  walk_at "rd"
  refine g_dnewT fun Td hTd => ?_
  have s6 := same_new hTd (.dT [])
  walk_at "rd"
  refine ⟨(by show 4 ≤ sizeLine; decide), fun p2 hp2 => ?_⟩
  have s7 := same_new hp2 (.tup [.ref E1, .ref Td, .int 0, .int 0])
  refine g_tupT (SqT.of upd_same) rfl ?_
  walk_at "rd"
  obtain ⟨H0, hH0⟩ : ∃ H0, H0 = upd (upd (upd (upd (upd (upd (upd H Cd (.dK [])) R (.lst (gs.map vn))) O (.lst [])) p1 (.tup [.ref Cd, .int 0, .ref R, .ref O])) E1 (.lst [])) Td (.dT [])) p2 (.tup [.ref E1, .ref Td, .int 0, .int 0]) := ⟨_, rfl⟩
  rw [← hH0]
  have S57 : Same (upd (upd (upd (upd (upd (upd H Cd (.dK [])) R (.lst (gs.map vn))) O (.lst [])) p1 (.tup [.ref Cd, .int 0, .ref R, .ref O])) E1 (.lst [])) Td (.dT [])) H0 := by rw [hH0]; exact s7
  have S47 := s6.trans S57
  have S37 := s5.trans S47
  have S27 := s4.trans S37
  have S17 := s3.trans S27
  have S07 := s2.trans S17
  have S : Same H H0 := s1.trans S07
  have cC : H0 Cd = some (.dK []) := S07 _ _ upd_same
  have cR : H0 R = some (.lst (gs.map vn)) := S17 _ _ upd_same
  have cO : H0 O = some (.lst []) := S27 _ _ upd_same
  have cE : H0 E1 = some (.lst []) := S47 _ _ upd_same
  have cT : H0 Td = some (.dT []) := S57 _ _ upd_same
  have nC : H Cd = none := hCd
  have nO : H O = none := (s1.trans s2).free hO
  have nE : H E1 = none := (((s1.trans s2).trans s3).trans s4).free hE
  have nT : H Td = none := ((((s1.trans s2).trans s3).trans s4).trans s5).free hTd
  have noe : O ≠ E1 := ne_of_none ((s4 _ _ upd_same : _ = some (HO.lst []))) hE
  have nor : O ≠ R := (ne_of_none (upd_same : _ = some (HO.lst (gs.map vn))) hO).symm
  have ner : E1 ≠ R := (ne_of_none (s4 _ _ (s3 _ _ (upd_same : _ = some (HO.lst (gs.map vn))))) hE).symm
  have rep0 : KRep K H0 Cd R O E1 Td (kn0 gs) 0 := ⟨.nil cC, cR, cO, ⟨[], cE, .nil, Nat.le_refl _⟩, .nil cT, noe, nor, ner, fun _ h => absurd h List.not_mem_nil, hg90, Nat.le_refl _⟩
  refine ⟨fun σ' H' => ∃ (R' : Addr) (b : Nat) (x11 x12 x13 x14 x15 x16 : Option V) (num off : Nat), σ' = [some (.ref B), some v, some (.ref Gp), some (.ref Cd), some (.int ((knR bef ss gs).pl : Int)), some (.ref R'), some (.ref O), some (.ref E1), some (.ref Td), some (.int num), some (.int off), x11, x12, x13, x14, x15, x16, none, none] ∧
      Same H H' ∧ KRep K H' Cd R' O E1 Td (knR bef ss gs) b ∧ b ≤ 50000, ?_, ?_⟩
  · walk_at "rd"
    refine ⟨v, ss, rfl, hv.same S, hd, hz, fun l xs H1 t1 hl hl1 hX => ?_⟩
    have nlO : l ≠ O := (ne_of_none cO hl).symm
    have nlE : l ≠ E1 := (ne_of_none cE hl).symm
    have hTl := tkL_len ss
    have hxl : xs.length = (tkL ss).length := by rw [hX.length, List.length_map]
    refine ⟨l, rfl, ⟨_, SqL.of hl1⟩, for_it walk_list (fun i σ H' => ∃ (R' : Addr) (x11 x12 x13 x14 x15 x16 : Option V) (k : Kst), σ = [some (.ref B), some v, some (.ref Gp), some (.ref Cd), some (.int (k.pl : Int)), some (.ref R'), some (.ref O), some (.ref E1), some (.ref Td), some (.int (k.num : Int)), some (.int (k.off : Int)), x11, x12, x13, x14, x15, x16, none, none] ∧
        Same H H' ∧ KRep K H' Cd R' O E1 Td k (100 * i) ∧ H' l = some (.lst xs) ∧ TpAll K H' xs ((tkL ss).map tkd) ∧ runK bef ((tkL ss).drop i) k = knR bef ss gs ∧ okT ((tkL ss).drop i) k.op.length)
      ⟨R, _, _, _, _, _, _, kn0 gs, rfl, S.trans t1, rep0.mono t1 (Nat.le_refl _), hl1, hX, rfl, okT_all ss⟩ (fun i σ H' _ ⟨_, _, _, _, _, _, _, _, _, _, _, z, _⟩ => SqL.of z) ?_ ?_⟩
    · rintro i x σ H2 H3 hi ⟨R', x11, x12, x13, x14, x15, x16, k, rfl, e1, e2, e3, e4, e5, e6⟩ ⟨rfl, hx⟩
      obtain ⟨dd, f1, f2⟩ := e4.get hx
      rw [List.getElem?_map] at f1
      cases hb : (tkL ss)[i]? with
      | none =>
        rw [hb] at f1
        cases f1
      | some tok =>
        rw [hb] at f1
        have f3 := (Option.some.inj f1).symm
        subst f3
        have hiL : i < (tkL ss).length := (List.getElem?_eq_some_iff.mp hb).1
        have edr : (tkL ss).drop i = tok :: (tkL ss).drop (i + 1) := by
          rw [List.drop_eq_getElem_cons hiL]
          rw [List.getElem?_eq_getElem hiL] at hb
          rw [Option.some.inj hb]
        rw [edr, runK] at e5
        rw [edr] at e6
        have hB2 : SqT K H3 B (bef.map vn) := Same.sqt e1 hB
        obtain ⟨kvC, cC3⟩ := e2.c.dK
        obtain ⟨kvT, cT3⟩ := e2.t.dT
        obtain ⟨es, cE3, tE3, bE3⟩ := e2.e
        have nCO : Cd ≠ O := ne_of cC3 e2.o (by intro z; cases z)
        have nCE : Cd ≠ E1 := ne_of cC3 cE3 (by intro z; cases z)
        have nCT : Cd ≠ Td := ne_of cC3 cT3 (by intro z; cases z)
        have nCR : Cd ≠ R' := ne_of cC3 e2.r (by intro z; cases z)
        have nCl : Cd ≠ l := ne_of cC3 e3 (by intro z; cases z)
        have nTO : Td ≠ O := ne_of cT3 e2.o (by intro z; cases z)
        have nTE : Td ≠ E1 := ne_of cT3 cE3 (by intro z; cases z)
        have nTR : Td ≠ R' := ne_of cT3 e2.r (by intro z; cases z)
        have nTl : Td ≠ l := ne_of cT3 e3 (by intro z; cases z)
        cases tok with
        | gap =>
            rw [tkd] at f2
            obtain ⟨tx, y, rfl, g1, g2⟩ := Tp.pair_inv f2
            cases g2
            refine g_tupT g1 rfl ?_
            walk_at "rd"
            refine g_dT rfl ?_
            walk_at "rd"
            refine ⟨Nat.zero_le _, fun l0 hl0 => ?_⟩
            have t0 := same_new hl0 (.lst [])
            refine ⟨.list (k.rest.map pn), .list [], .lst (SqL.of (t0 _ _ e2.r)) (TpAll.dp _ _ (TpAll.ints _)), .lst (SqL.of upd_same) .nil, shaped_nats _, shaped_nil, ?_⟩
            rw [eqv_nil]
            walk_at "rd"
            refine g_ite (fun he => ?_) (fun hne => ?_)
            · have hr0 : k.rest = [] := List.map_eq_nil_iff.mp he
              walk_at "rd"
              have e7 : k = knR bef ss gs := by
                unfold stp1 at e5
                rw [hr0] at e5
                exact e5
              subst e7
              exact ⟨R', _, _, _, _, _, _, _, _, _, rfl, e1.trans t0, e2.mono t0 (Nat.le_refl _), by omega⟩
            · cases hk : k.rest with
              | nil => exact absurd (by rw [hk] <;> rfl) hne
              | cons s r =>
                have hr := e2.r
                rw [hk] at hr
                have hs90 : s ≤ 90 := e2.g s (by rw [hk]; exact List.mem_cons_self)
                walk_at "rd"
                refine g_ixL 0 (SqL.of (t0 _ _ hr)) rfl rfl ?_
                walk_at "rd"
                refine ⟨R', _, rfl, SqL.of (t0 _ _ hr), fun p hp => ?_⟩
                rw [cut1]
                have t1' := same_new hp (.lst (((s :: r).map vn).drop 1))
                have U := t0.trans t1'
                walk_at "rd"
                refine ⟨_, _, rfl, ?_⟩
                walk_at "rd"
                refine ⟨(s : Int), rfl, by omega, by omega, ?_⟩
                rw [Int.toNat_natCast]
                obtain ⟨H5, hH5⟩ : ∃ H5, H5 = upd (upd H3 l0 (.lst [])) p (.lst (((s :: r).map vn).drop 1)) := ⟨_, rfl⟩
                rw [← hH5] at U
                rw [← hH5]
                have hp5 : H5 p = some (.lst (r.map vn)) := by rw [hH5, upd_same] <;> rfl
                have nOp : O ≠ p := ne_of_none (t0 _ _ e2.o) hp
                have nEp : E1 ≠ p := ne_of_none (t0 _ _ cE3) hp
                have nCp : Cd ≠ p := ne_of_none (t0 _ _ cC3) hp
                have hB5 : ∀ {H'}, SameX [Cd] H5 H' → SqT K H' B (bef.map vn) := fun {H'} e => by
                  have z := Same.sqt U hB2
                  rcases z with (z | ⟨ob, z⟩) | z
                  · exact .inl (.inl (e _ _ (nin (ne_of z (U _ _ cC3) (by intro y; cases y))) z))
                  · exact .inl (.inr ⟨ob, e _ _ (nin (ne_of z (U _ _ cC3) (by intro y; cases y))) z⟩)
                  · exact .inr z
                have hol := e2.ol
                refine for_it walk_range (fun j σ H' => (∃ x14 x15, σ = [some (.ref B), some v, some (.ref Gp), some (.ref Cd), some (.int ((k.pl + j : Nat) : Int)), some (.ref p), some (.ref O), some (.ref E1), some (.ref Td), some (.int (k.num : Int)), some (.int (k.off : Int)), some (.str "gap"), some .non, some (vn s), x14, x15, x16, none, none]) ∧ SameX [Cd] H5 H' ∧ DN H' Cd (fillG bef k.m k.pl s j) (100 * i + j))
                  ⟨⟨_, _, rfl⟩, .refl _ _, (e2.c.same U).eq (fun n => (fill_zero bef k.m k.pl s n).symm) (Nat.le_refl _)⟩ (fun _ _ _ _ _ => True.intro) ?_ ?_
                · rintro j x σ H6 H7 hj ⟨⟨x14', x15', rfl⟩, u2, u3⟩ ⟨rfl, rfl⟩
                  walk_at "rd"
                  refine ⟨B, _, rfl, .inr (hB5 u2), ?_⟩
                  rw [List.length_map]
                  walk_at "rd"
                  refine g_ite (fun h0 => ?_) (fun h0 => ?_)
                  · have hlt : k.pl + j < bef.length := by omega
                    walk_at "rd"
                    have hgd : (bef.map vn)[k.pl + j]? = some (vn (bef.getD (k.pl + j) 0)) := by
                      rw [List.getElem?_map, List.getElem?_eq_getElem hlt, List.getD_eq_getElem?_getD, List.getElem?_eq_getElem hlt]
                      rfl
                    have hold : bef.getD (k.pl + j) 0 = bef.getD (k.pl + j) 0 := rfl
                    refine g_ixT (k.pl + j) (hB5 u2) rfl hgd ?_
                    walk_at "rd"
                    refine g_ite (fun h => ?_) (fun h => ?_)
                    · have hj0 : j = 0 := by have := V.int.inj h; omega
                      walk_at "rd"
                      refine (u3).put (n0 := k.pl + j) (v := 3) (by omega) fun o ho => ?_
                      walk_at "rd"
                      refine ⟨⟨_, _, rfl⟩, u2.put (List.mem_singleton.mpr rfl), ho.eq (fun n => ?_) (by omega)⟩
                      rw [fill_succ, if_pos hj0]
                    · have hj0 : j ≠ 0 := fun z => h (congrArg V.int (by omega))
                      walk_at "rd"
                      refine g_ite (fun h => ?_) (fun h => ?_)
                      · have hj1 : j = 1 := by have := V.int.inj h; omega
                        walk_at "rd"
                        refine (u3).put (n0 := k.pl + j) (v := s) (by omega) fun o ho => ?_
                        walk_at "rd"
                        refine ⟨⟨_, _, rfl⟩, u2.put (List.mem_singleton.mpr rfl), ho.eq (fun n => ?_) (by omega)⟩
                        rw [fill_succ, if_neg hj0, if_pos hj1]
                      · have hj1 : j ≠ 1 := fun z => h (congrArg V.int (by omega))
                        walk_at "rd"
                        refine (u3).put (n0 := k.pl + j) (v := (bef.getD (k.pl + j) 0)) (by omega) fun o ho => ?_
                        walk_at "rd"
                        refine ⟨⟨_, _, rfl⟩, u2.put (List.mem_singleton.mpr rfl), ho.eq (fun n => ?_) (by omega)⟩
                        rw [fill_succ, if_neg hj0, if_neg hj1]
                  · have hold : bef.getD (k.pl + j) 0 = 0 := by
                      rw [List.getD_eq_getElem?_getD, List.getElem?_eq_none (by omega)]
                      rfl
                    walk_at "rd"
                    refine g_ite (fun h => ?_) (fun h => ?_)
                    · have hj0 : j = 0 := by have := V.int.inj h; omega
                      walk_at "rd"
                      refine (u3).put (n0 := k.pl + j) (v := 3) (by omega) fun o ho => ?_
                      walk_at "rd"
                      refine ⟨⟨_, _, rfl⟩, u2.put (List.mem_singleton.mpr rfl), ho.eq (fun n => ?_) (by omega)⟩
                      rw [fill_succ, if_pos hj0]
                    · have hj0 : j ≠ 0 := fun z => h (congrArg V.int (by omega))
                      walk_at "rd"
                      refine g_ite (fun h => ?_) (fun h => ?_)
                      · have hj1 : j = 1 := by have := V.int.inj h; omega
                        walk_at "rd"
                        refine (u3).put (n0 := k.pl + j) (v := s) (by omega) fun o ho => ?_
                        walk_at "rd"
                        refine ⟨⟨_, _, rfl⟩, u2.put (List.mem_singleton.mpr rfl), ho.eq (fun n => ?_) (by omega)⟩
                        rw [fill_succ, if_neg hj0, if_pos hj1]
                      · have hj1 : j ≠ 1 := fun z => h (congrArg V.int (by omega))
                        walk_at "rd"
                        refine (u3).put (n0 := k.pl + j) (v := 0) (by omega) fun o ho => ?_
                        walk_at "rd"
                        refine ⟨⟨_, _, rfl⟩, u2.put (List.mem_singleton.mpr rfl), ho.eq (fun n => ?_) (by omega)⟩
                        rw [fill_succ, if_neg hj0, if_neg hj1, hold]
                · rintro σ H6 ⟨⟨x14', x15', rfl⟩, u2, u3⟩
                  have e5' : runK bef ((tkL ss).drop (i + 1)) { k with m := fillG bef k.m k.pl s s, pl := k.pl + s, rest := r } = knR bef ss gs := by
                    unfold stp1 at e5
                    rw [hk] at e5
                    exact e5
                  have kk : TK K H5 H6 := u2.tk fun x hx xs z => by
                    obtain rfl := List.mem_singleton.mp hx
                    rw [U _ _ cC3] at z
                    cases z
                  have g5 : ∀ {a : Addr} {o : HO}, a ≠ Cd → H3 a = some o → H6 a = some o := fun {a o} n h => u2.get (nin n) (U _ _ h)
                  refine ⟨p, _, _, _, _, _, _, { k with m := fillG bef k.m k.pl s s, pl := k.pl + s, rest := r }, rfl, same_of_x (e1.trans U) nC u2, ⟨u3.eq (fun _ => rfl) (by omega), u2.get (nin nCp.symm) hp5, g5 nCO.symm e2.o,
                    ⟨es, g5 nCE.symm cE3, TpAll.mono kk _ _ (tE3.same U), by show k.en.length ≤ _; omega⟩, ?_, e2.noe, nOp, nEp, fun x hx => Nat.le_trans (e2.pl x hx) (Nat.le_add_right _ _), fun x hx => e2.g x (by rw [hk]; exact List.mem_cons_of_mem _ hx), by show k.op.length ≤ _; omega⟩, g5 nCl.symm e3, TpAll.mono kk _ _ (e4.same U), e5', ?_⟩
                  · have z : H6 Td = H3 Td := by rw [g5 nCT.symm cT3, cT3]
                    exact (e2.t.at z).mono (by omega)
                  · rw [okT] at e6
                    exact e6
        | close =>
            rw [tkd] at f2
            obtain ⟨tx, y, rfl, g1, g2⟩ := Tp.pair_inv f2
            cases g2
            refine g_tupT g1 rfl ?_
            walk_at "rd"
            refine g_dF (sne "close" "gap") ?_
            walk_at "rd"
            refine g_dT rfl ?_
            walk_at "rd"
            rw [okT] at e6
            obtain ⟨h0, e6⟩ := e6
            have hlast : k.op[k.op.length - 1]? = some (k.op.getLastD 0) := by
              rw [List.getLastD_eq_getLast?, List.getLast?_eq_getElem?]
              rw [List.getElem?_eq_getElem (by omega)]
              rfl
            have hbl := e2.pl _ (List.mem_of_getElem? hlast)
            have hol := e2.ol
            refine ⟨ty_l (SqL.of e2.o), ?_⟩
            refine g_pop (y := vn (k.op.getLastD 0)) e2.o (by rw [List.length_map, List.getElem?_map, hlast] <;> rfl) ?_
            walk_at "rd"
            have edl : (k.op.map vn).dropLast = k.op.dropLast.map vn := List.map_dropLast.symm
            have cC5 : (upd H3 O (.lst (k.op.map vn).dropLast)) Cd = some (.dK kvC) := by
              rw [upd_ne nCO]
              exact cC3
            have hv2 : (k.pl : Int) - (k.op.getLastD 0 : Int) + 1 = ((k.pl - k.op.getLastD 0 + 1 : Nat) : Int) := by omega
            rw [hv2]
            refine ((e2.c).at (H' := upd H3 O (.lst (k.op.map vn).dropLast)) (upd_ne nCO)).put (n0 := k.op.getLastD 0) (v := k.pl - k.op.getLastD 0 + 1) (by omega) fun o ho => ?_
            have kk := (tk_lst (K := K) (u := HO.lst (k.op.map vn).dropLast) e2.o).trans (tk_dK (K := K) (u := o) cC5)
            have e5' : runK bef ((tkL ss).drop (i + 1)) { k with m := putM k.m (k.op.getLastD 0) (k.pl - k.op.getLastD 0 + 1), op := k.op.dropLast } = knR bef ss gs := e5
            have off2 : ∀ {a : Addr}, a ≠ O → a ≠ Cd → (upd (upd H3 O (.lst (k.op.map vn).dropLast)) Cd o) a = H3 a := fun {a} n1 n2 => by rw [upd_ne n2, upd_ne n1]
            refine ⟨R', _, _, _, _, _, _, { k with m := putM k.m (k.op.getLastD 0) (k.pl - k.op.getLastD 0 + 1), op := k.op.dropLast }, rfl, Same.putNew (Same.putNew e1 nO) nC, ⟨ho.eq (fun _ => rfl) (by omega), by rw [off2 e2.nor.symm nCR.symm]; exact e2.r, by rw [upd_ne nCO.symm, upd_same, edl],
              ⟨es, by rw [off2 e2.noe.symm nCE.symm]; exact cE3, TpAll.mono kk _ _ tE3, by show k.en.length ≤ _; omega⟩, ((e2.t).at (off2 nTO nCT.symm)).mono (by omega), e2.noe, e2.nor, e2.ner, fun x hx => e2.pl x (List.dropLast_subset _ hx), e2.g, by show k.op.dropLast.length ≤ _; rw [List.length_dropLast]; omega⟩, by rw [off2 nlO nCl.symm]; exact e3, TpAll.mono kk _ _ e4, e5', ?_⟩
            show okT _ k.op.dropLast.length
            rw [List.length_dropLast]
            exact e6
        | fin dd =>
          rw [okT] at e6
          have e5' : runK bef ((tkL ss).drop (i + 1)) { k with num := k.num + (if dd = true then 1 else 0), off := 0 } = knR bef ss gs := e5
          cases dd with
          | true =>
            rw [tkd] at f2
            obtain ⟨tx, y, rfl, g1, g2⟩ := Tp.pair_inv f2
            cases g2
            refine g_tupT g1 rfl ?_
            walk_at "rd"
            refine g_dF (sne "end" "gap") ?_
            walk_at "rd"
            refine g_dF (sne "end" "close") ?_
            walk_at "rd"
            refine g_dT rfl ?_
            walk_at "rd"
            refine ⟨_, _, rfl, ?_⟩
            have ez : (k.num : Int) + (if decide (V.str (Str.ofString "data") = V.str (Str.ofString "data")) = true then (1 : Int) else 0) = ((k.num + 1 : Nat) : Int) := by
              rw [decide_eq_true rfl, if_pos rfl]
              rfl
            rw [ez]
            refine ⟨R', _, _, _, _, _, _, { k with num := k.num + 1, off := 0 }, rfl, e1, ⟨(e2.c).eq (fun _ => rfl) (by omega), e2.r, e2.o, ⟨es, cE3, tE3, by show k.en.length ≤ _; omega⟩, e2.t.mono (by omega), e2.noe, e2.nor, e2.ner, e2.pl, e2.g, by have := e2.ol; show k.op.length ≤ _; omega⟩, e3, e4, e5', e6⟩
          | false =>
            rw [tkd] at f2
            obtain ⟨tx, y, rfl, g1, g2⟩ := Tp.pair_inv f2
            cases g2
            refine g_tupT g1 rfl ?_
            walk_at "rd"
            refine g_dF (sne "end" "gap") ?_
            walk_at "rd"
            refine g_dF (sne "end" "close") ?_
            walk_at "rd"
            refine g_dT rfl ?_
            walk_at "rd"
            refine ⟨_, _, rfl, ?_⟩
            have ez : (k.num : Int) + (if decide (V.str (Str.ofString "table") = V.str (Str.ofString "data")) = true then (1 : Int) else 0) = ((k.num + 0 : Nat) : Int) := by
              rw [decide_eq_false ne_td, if_neg Bool.false_ne_true]
              rfl
            rw [ez]
            refine ⟨R', _, _, _, _, _, _, { k with num := k.num + 0, off := 0 }, rfl, e1, ⟨(e2.c).eq (fun _ => rfl) (by omega), e2.r, e2.o, ⟨es, cE3, tE3, by show k.en.length ≤ _; omega⟩, e2.t.mono (by omega), e2.noe, e2.nor, e2.ner, e2.pl, e2.g, by have := e2.ol; show k.op.length ≤ _; omega⟩, e3, e4, e5', e6⟩
        | length =>
            rw [tkd] at f2
            obtain ⟨tx, y, rfl, g1, g2⟩ := Tp.pair_inv f2
            cases g2
            refine g_tupT g1 rfl ?_
            walk_at "rd"
            refine g_dF (sne "length" "gap") ?_
            walk_at "rd"
            refine g_dF (sne "length" "close") ?_
            walk_at "rd"
            refine g_dF (sne "length" "end") ?_
            walk_at "rd"
            refine g_dF (sne "length" "data") ?_
            walk_at "rd"
            refine g_dT rfl ?_
            walk_at "rd"
            refine ⟨ty_l (SqL.of e2.o), ?_⟩
            walk_at "rd"
            have hol := e2.ol
            refine g_appB e2.o (by rw [List.length_map]; omega) ?_
            walk_at "rd"
            have e5' : runK bef ((tkL ss).drop (i + 1)) { k with op := k.op ++ [k.pl], pl := k.pl + 1 } = knR bef ss gs := e5
            refine ⟨R', _, _, _, _, _, _, { k with op := k.op ++ [k.pl], pl := k.pl + 1 }, rfl, Same.putNew e1 nO, ⟨((e2.c).at (upd_ne nCO)).eq (fun _ => rfl) (by omega), by rw [upd_ne e2.nor.symm]; exact e2.r, by rw [upd_same, List.map_append] <;> rfl,
              ⟨es, by rw [upd_ne e2.noe.symm]; exact cE3, TpAll.mono (tk_lst (K := K) e2.o) _ _ tE3, by show k.en.length ≤ _; omega⟩, ((e2.t).at (upd_ne nTO)).mono (by omega), e2.noe, e2.nor, e2.ner, fun x hx => ?_, e2.g, by show (k.op ++ [k.pl]).length ≤ _; rw [List.length_append, List.length_singleton]; omega⟩, by rw [upd_ne nlO]; exact e3, TpAll.mono (tk_lst (K := K) e2.o) _ _ e4, e5', ?_⟩
            · rcases List.mem_append.mp hx with hx | hx
              · exact Nat.le_succ_of_le (e2.pl x hx)
              · obtain rfl := List.mem_singleton.mp hx
                exact Nat.le_succ _
            · rw [okT] at e6
              show okT _ (k.op ++ [k.pl]).length
              rw [List.length_append, List.length_singleton]
              exact e6
        | ent tt =>
            rw [tkd] at f2
            obtain ⟨tx, y, rfl, g1, g2⟩ := Tp.pair_inv f2
            refine g_tupT g1 rfl ?_
            walk_at "rd"
            refine g_dF (sne "entry" "gap") ?_
            walk_at "rd"
            refine g_dF (sne "entry" "close") ?_
            walk_at "rd"
            refine g_dF (sne "entry" "end") ?_
            walk_at "rd"
            refine g_dF (sne "entry" "data") ?_
            walk_at "rd"
            refine g_dF (sne "entry" "length") ?_
            walk_at "rd"
            refine g_dT rfl ?_
            walk_at "rd"
            refine ⟨ty_l (SqL.of cE3), ?_⟩
            walk_at "rd"
            refine ⟨(by show 2 ≤ sizeLine; decide), fun p hp => ?_⟩
            have t9 := same_new hp (.tup [V.int (k.pl : Int), y])
            walk_at "rd"
            refine g_appB (t9 _ _ cE3) (by rw [tE3.length, List.length_map]; omega) ?_
            walk_at "rd"
            have e5' : runK bef ((tkL ss).drop (i + 1)) { k with en := k.en ++ [(k.pl, tt)], pl := k.pl + 1 } = knR bef ss gs := e5
            have kk := tk_lst (K := K) (u := HO.lst (es ++ [V.ref p])) (t9 _ _ cE3)
            have e2' := e2.mono t9 (Nat.le_refl _)
            have hol := e2.ol
            refine ⟨R', _, _, _, _, _, _, { k with en := k.en ++ [(k.pl, tt)], pl := k.pl + 1 }, rfl, Same.putNew (e1.trans t9) nE, ⟨((e2'.c).at (upd_ne nCE)).eq (fun _ => rfl) (by omega), by rw [upd_ne e2.ner.symm]; exact e2'.r, by rw [upd_ne e2.noe]; exact e2'.o,
              ⟨es ++ [.ref p], upd_same, ?_, by show (k.en ++ [(k.pl, tt)]).length ≤ _; rw [List.length_append, List.length_singleton]; omega⟩, ((e2'.t).at (upd_ne nTE)).mono (by omega), e2.noe, e2.nor, e2.ner, fun x hx => Nat.le_succ_of_le (e2.pl x hx), e2.g, by show k.op.length ≤ _; omega⟩, by rw [upd_ne nlE]; exact t9 _ _ e3, TpAll.mono kk _ _ (e4.same t9), e5', ?_⟩
            · show TpAll K _ _ ((k.en ++ [(k.pl, tt)]).map entd)
              rw [List.map_append]
              exact (TpAll.mono kk _ _ (tE3.same t9)).snoc (.tup (kk _ _ upd_same) (.cons (.int _) (.cons (Tp.mono kk _ _ (g2.same t9)) .nil)))
            · rw [okT] at e6
              exact e6
        | dat c =>
            rw [tkd] at f2
            obtain ⟨tx, y, rfl, g1, g2⟩ := Tp.pair_inv f2
            cases g2
            refine g_tupT g1 rfl ?_
            walk_at "rd"
            refine g_dF (sne "data" "gap") ?_
            walk_at "rd"
            refine g_dF (sne "data" "close") ?_
            walk_at "rd"
            refine g_dF (sne "data" "end") ?_
            walk_at "rd"
            refine g_dT rfl ?_
            walk_at "rd"
            refine ⟨(by show 2 ≤ sizeLine; decide), fun p hp => ?_⟩
            have t9 := same_new hp (.tup [V.int (k.num : Int), V.int (k.off : Int)])
            have e2' := e2.mono t9 (Nat.le_refl _)
            have hol := e2.ol
            walk_at "rd"
            refine (e2'.t).put (i0 := k.num) (j0 := k.off) (v := k.pl) upd_same (by omega) fun o ho => ?_
            walk_at "rd"
            refine g_dF (sne "data" "length") ?_
            walk_at "rd"
            refine g_dF (sne "data" "entry") ?_
            walk_at "rd"
            have kk := tk_dT (K := K) (u := o) (t9 _ _ cT3)
            refine ((e2'.c).at (H' := upd (upd H3 p (.tup [V.int (k.num : Int), V.int (k.off : Int)])) Td o) (upd_ne nCT)).put (n0 := k.pl) (v := c) (by omega) fun o2 ho2 => ?_
            walk_at "rd"
            have cC5 : (upd (upd H3 p (.tup [V.int (k.num : Int), V.int (k.off : Int)])) Td o) Cd = some (.dK kvC) := by
              rw [upd_ne nCT]
              exact t9 _ _ cC3
            have kk2 := kk.trans (tk_dK (K := K) (u := o2) cC5)
            have e5' : runK bef ((tkL ss).drop (i + 1)) { k with tg := fun t => if t = (k.num, k.off) then some k.pl else k.tg t, off := k.off + 1, m := putM k.m k.pl c, pl := k.pl + 1 } = knR bef ss gs := e5
            have off2 : ∀ {a : Addr}, a ≠ Td → a ≠ Cd → (upd (upd (upd H3 p (.tup [V.int (k.num : Int), V.int (k.off : Int)])) Td o) Cd o2) a = (upd H3 p (.tup [V.int (k.num : Int), V.int (k.off : Int)])) a := fun {a} n1 n2 => by rw [upd_ne n2, upd_ne n1]
            refine ⟨R', _, _, _, _, _, _, { k with tg := fun t => if t = (k.num, k.off) then some k.pl else k.tg t, off := k.off + 1, m := putM k.m k.pl c, pl := k.pl + 1 }, rfl, Same.putNew (Same.putNew (e1.trans t9) nT) nC, ⟨ho2.eq (fun _ => rfl) (by omega), by rw [off2 nTR.symm nCR.symm]; exact e2'.r, by rw [off2 nTO.symm nCO.symm]; exact e2'.o,
              ⟨es, by rw [off2 nTE.symm nCE.symm]; exact t9 _ _ cE3, TpAll.mono kk2 _ _ (tE3.same t9), by show k.en.length ≤ _; omega⟩, (ho.at (upd_ne nCT.symm)).mono (by omega), e2.noe, e2.nor, e2.ner, fun x hx => Nat.le_succ_of_le (e2.pl x hx), e2.g, by show k.op.length ≤ _; omega⟩, by rw [off2 nTl.symm nCl.symm]; exact t9 _ _ e3, TpAll.mono kk2 _ _ (e4.same t9), e5', ?_⟩
            rw [okT] at e6
            exact e6
        | cell nn =>
            rw [tkd] at f2
            obtain ⟨tx, y, rfl, g1, g2⟩ := Tp.pair_inv f2
            cases g2
            refine g_tupT g1 rfl ?_
            walk_at "rd"
            refine g_dF (sne "cell" "gap") ?_
            walk_at "rd"
            refine g_dF (sne "cell" "close") ?_
            walk_at "rd"
            refine g_dF (sne "cell" "end") ?_
            walk_at "rd"
            refine g_dF (sne "cell" "data") ?_
            walk_at "rd"
            refine g_dF (sne "cell" "length") ?_
            walk_at "rd"
            refine g_dF (sne "cell" "entry") ?_
            walk_at "rd"
            have hol := e2.ol
            refine (e2.c).put (n0 := k.pl) (v := nn) (by omega) fun o ho => ?_
            walk_at "rd"
            have e5' : runK bef ((tkL ss).drop (i + 1)) { k with m := putM k.m k.pl nn, pl := k.pl + 1 } = knR bef ss gs := e5
            have kk := tk_dK (K := K) (u := o) cC3
            refine ⟨R', _, _, _, _, _, _, { k with m := putM k.m k.pl nn, pl := k.pl + 1 }, rfl, Same.putNew e1 nC, ⟨ho.eq (fun _ => rfl) (by omega), by rw [upd_ne nCR.symm]; exact e2.r, by rw [upd_ne nCO.symm]; exact e2.o,
              ⟨es, by rw [upd_ne nCE.symm]; exact cE3, TpAll.mono kk _ _ tE3, by show k.en.length ≤ _; omega⟩, ((e2.t).at (upd_ne nCT.symm)).mono (by omega), e2.noe, e2.nor, e2.ner, fun x hx => Nat.le_succ_of_le (e2.pl x hx), e2.g, by show k.op.length ≤ _; omega⟩, by rw [upd_ne nCl.symm]; exact e3, TpAll.mono kk _ _ e4, e5', ?_⟩
            rw [okT] at e6
            exact e6
    · rintro σ H2 ⟨R', x11, x12, x13, x14, x15, x16, k, rfl, e1, e2, e3, e4, e5, e6⟩
      rw [hxl, List.drop_length] at e5
      rw [runK] at e5
      subst e5
      exact ⟨R', _, _, _, _, _, _, _, _, _, rfl, e1, e2, by omega⟩
  · rintro σ' H1 ⟨R', b, x11, x12, x13, x14, x15, x16, num, off, rfl, e1, e2, hb⟩
    obtain ⟨es, cE, tE, bE⟩ := e2.e
    obtain ⟨kvC, cC'⟩ := e2.c.dK
    obtain ⟨kvT, cT'⟩ := e2.t.dT
    have nCE : Cd ≠ E1 := ne_of cC' cE (by intro z; cases z)
    have nCT : Cd ≠ Td := ne_of cC' cT' (by intro z; cases z)
    have hel : es.length = (knR bef ss gs).en.length := by rw [tE.length, List.length_map]
    walk_at "rd"
    refine ⟨E1, rfl, ⟨_, SqL.of cE⟩, for_it walk_list (fun j σ H' => (∃ x17 x18, σ = [some (.ref B), some v, some (.ref Gp), some (.ref Cd), some (.int ((knR bef ss gs).pl : Int)), some (.ref R'), some (.ref O), some (.ref E1), some (.ref Td), some (.int num), some (.int off), x11, x12, x13, x14, x15, x16, x17, x18]) ∧ SameX [Cd] H1 H' ∧
        ∃ m, DN H' Cd m (b + j) ∧ finM (knR bef ss gs).tg ((knR bef ss gs).en.drop j) m = knM bef ss gs)
      ⟨⟨_, _, rfl⟩, .refl _ _, _, e2.c, rfl⟩ (fun j σ H' _ z => SqL.of (z.2.1.get (nin nCE.symm) cE)) ?_ ?_⟩
    · rintro j x σ H2 H3 hj ⟨⟨x17, x18, rfl⟩, u1, m, u2, u3⟩ ⟨rfl, hx⟩
      obtain ⟨dd, f1, f2⟩ := tE.get hx
      rw [List.getElem?_map] at f1
      cases hb' : (knR bef ss gs).en[j]? with
      | none =>
        rw [hb'] at f1
        cases f1
      | some e =>
        rw [hb'] at f1
        have f3 := (Option.some.inj f1).symm
        subst f3
        have hjL : j < (knR bef ss gs).en.length := (List.getElem?_eq_some_iff.mp hb').1
        have edr : (knR bef ss gs).en.drop j = e :: (knR bef ss gs).en.drop (j + 1) := by
          rw [List.drop_eq_getElem_cons hjL]
          rw [List.getElem?_eq_getElem hjL] at hb'
          rw [Option.some.inj hb']
        rw [edr, finM] at u3
        have kk : TK K H1 H3 := u1.tk fun x hx xs z => by
          obtain rfl := List.mem_singleton.mp hx
          rw [cC'] at z
          cases z
        obtain ⟨tx, ys, rfl, g1, g2⟩ := Tp.tup_get (Tp.mono kk _ _ f2)
        cases g2 with
        | cons a1 a2 =>
          cases a1
          cases a2 with
          | cons a3 a4 =>
            cases a4
            rename_i yy
            obtain ⟨ty, zs, rfl, g3, g4⟩ := Tp.tup_get (show Tp K H3 yy (.tuple [.int (e.2.1 : Int), .int (e.2.2 : Int)]) from a3)
            cases g4 with
            | cons b1 b2 =>
              cases b1
              cases b2 with
              | cons b3 b4 =>
                cases b3
                cases b4
                refine g_tupT (SqT.of g1) rfl ?_
                walk_at "rd"
                have zT : H3 Td = H1 Td := by rw [u1.get (nin nCT.symm) cT', cT']
                have hget := (e2.t.at zT).get (i := e.2.1) (j := e.2.2) g3
                refine ⟨Td, _, rfl, hget, ?_⟩
                walk_at "rd"
                cases htg : (knR bef ss gs).tg e.2 with
                | none =>
                  rw [htg] at u3
                  refine iteF ?_
                  exact ⟨⟨_, _, rfl⟩, u1, m, u2.eq (fun _ => rfl) (by omega), u3⟩
                | some vv =>
                  rw [show (e.2.1, e.2.2) = e.2 from rfl, htg] at hget
                  rw [htg] at u3
                  refine iteT ?_
                  walk_at "rd"
                  refine ⟨Td, _, rfl, hget, ?_⟩
                  walk_at "rd"
                  refine u2.put (n0 := e.1) (v := vv) (by omega) fun o ho => ?_
                  exact ⟨⟨_, _, rfl⟩, u1.put (List.mem_singleton.mpr rfl), putM m e.1 vv, ho.eq (fun _ => rfl) (by omega), u3⟩
    · rintro σ H2 ⟨⟨x17, x18, rfl⟩, u1, m, u2, u3⟩
      rw [hel, List.drop_length] at u3
      rw [finM] at u3
      subst u3
      walk_at "rd"
      refine ⟨(by show 2 ≤ sizeLine; decide), fun t ht => ?_⟩
      have t9 := same_new ht (.tup [.ref Cd, .int ((knR bef ss gs).pl : Int)])
      exact q t Cd _ ((same_of_x e1 nC u1).trans t9) upd_same ((u2.same t9).eq (fun _ => rfl) (by omega)) nC
end
end Bx

namespace Bx
/-! ### a file with all its gaps has all its cells -/
structure Gd (szs : List Nat) (st : Kst) : Prop where
  full : ∀ n, n < st.pl → (∃ v, st.m n = some v) ∨ n ∈ st.op ∨ n ∈ st.en.map (·.1)
  low : ∀ n v, st.m n = some v → v ≤ 99
  tlow : ∀ t v, st.tg t = some v → v ≤ 99
  tg : ∀ i j, ((i < st.num ∧ j < szs.getD i 0) ∨ (i = st.num ∧ j < st.off)) → ∃ v, st.tg (i, j) = some v
  en : ∀ e ∈ st.en, ∃ m, szs[e.2.1]? = some m ∧ e.2.2 < m
section
variable {szs bef : List Nat} {st : Kst}
theorem putM_at (m : Nat → Option Nat) (k v : Nat) : putM m k v k = some v := if_pos rfl
theorem putM_ne {m : Nat → Option Nat} {k v n : Nat} (h : n ≠ k) : putM m k v n = m n := if_neg h
theorem putM_some {m : Nat → Option Nat} {k v n : Nat} (h : ∃ u, m n = some u) : ∃ u, putM m k v n = some u := by
  by_cases e : n = k
  · exact ⟨v, by rw [e, putM_at]⟩
  · rw [putM_ne e]
    exact h
theorem putM_low {m : Nat → Option Nat} {k v : Nat} (hv : v ≤ 99) (h : ∀ n u, m n = some u → u ≤ 99) : ∀ n u, putM m k v n = some u → u ≤ 99 := fun n u z => by
  by_cases e : n = k
  · rw [e, putM_at] at z
    have := Option.some.inj z
    omega
  · rw [putM_ne e] at z
    exact h n u z
theorem Gd.cell (x : Gd szs st) {v : Nat} (hv : v ≤ 99) : Gd szs { st with m := putM st.m st.pl v, pl := st.pl + 1 } where
  full := fun n hn => by
    by_cases e : n = st.pl
    · exact .inl ⟨v, by rw [e]; exact putM_at _ _ _⟩
    · rcases x.full n (by have : n < st.pl + 1 := hn; omega) with h | h
      · exact .inl (putM_some h)
      · exact .inr h
  low := putM_low hv x.low
  tlow := x.tlow
  tg := x.tg
  en := x.en
theorem Gd.dat (x : Gd szs st) {v : Nat} (hv : v ≤ 99) (hp : st.pl ≤ 99) : Gd szs { st with tg := fun t => if t = (st.num, st.off) then some st.pl else st.tg t, off := st.off + 1, m := putM st.m st.pl v, pl := st.pl + 1 } where
  full := (x.cell hv).full
  low := (x.cell hv).low
  tlow := fun t u z => by
    dsimp only at z
    by_cases e : t = (st.num, st.off)
    · rw [if_pos e] at z
      have := Option.some.inj z
      omega
    · rw [if_neg e] at z
      exact x.tlow t u z
  tg := fun i j h => by
    dsimp only at h ⊢
    by_cases e : (i, j) = (st.num, st.off)
    · exact ⟨st.pl, if_pos e⟩
    · rw [if_neg e]
      refine x.tg i j ?_
      rcases h with h | h
      · exact .inl h
      · refine .inr ⟨h.1, ?_⟩
        have : j ≠ st.off := fun z => e (by rw [h.1, z])
        omega
  en := x.en
theorem Gd.ent (x : Gd szs st) {t : Nat × Nat} (ht : ∃ m, szs[t.1]? = some m ∧ t.2 < m) : Gd szs { st with en := st.en ++ [(st.pl, t)], pl := st.pl + 1 } where
  full := fun n hn => by
    by_cases e : n = st.pl
    · refine .inr (.inr ?_)
      show n ∈ (st.en ++ [(st.pl, t)]).map (·.1)
      rw [List.map_append]
      exact List.mem_append_right _ (by rw [e]; exact List.mem_singleton.mpr rfl)
    · rcases x.full n (by have : n < st.pl + 1 := hn; omega) with h | h | h
      · exact .inl h
      · exact .inr (.inl h)
      · refine .inr (.inr ?_)
        show n ∈ (st.en ++ [(st.pl, t)]).map (·.1)
        rw [List.map_append]
        exact List.mem_append_left _ h
  low := x.low
  tlow := x.tlow
  tg := x.tg
  en := fun e he => by
    rcases List.mem_append.mp he with he | he
    · exact x.en e he
    · obtain rfl := List.mem_singleton.mp he
      exact ht
theorem Gd.length (x : Gd szs st) : Gd szs { st with op := st.op ++ [st.pl], pl := st.pl + 1 } where
  full := fun n hn => by
    by_cases e : n = st.pl
    · exact .inr (.inl (List.mem_append_right _ (by rw [e]; exact List.mem_singleton.mpr rfl)))
    · rcases x.full n (by have : n < st.pl + 1 := hn; omega) with h | h | h
      · exact .inl h
      · exact .inr (.inl (List.mem_append_left _ h))
      · exact .inr (.inr h)
  low := x.low
  tlow := x.tlow
  tg := x.tg
  en := x.en
theorem Gd.close {o : List Nat} {b : Nat} (x : Gd szs st) (ho : st.op = o ++ [b]) (hp : st.pl ≤ 98) : Gd szs { st with m := putM st.m (st.op.getLastD 0) (st.pl - st.op.getLastD 0 + 1), op := st.op.dropLast } where
  full := fun n hn => by
    have el : st.op.getLastD 0 = b := by rw [ho]; simp
    have ed : st.op.dropLast = o := by rw [ho]; simp
    dsimp only
    rw [el, ed]
    rcases x.full n hn with h | h | h
    · exact .inl (putM_some h)
    · rw [ho] at h
      rcases List.mem_append.mp h with h | h
      · exact .inr (.inl h)
      · obtain rfl := List.mem_singleton.mp h
        exact .inl ⟨_, putM_at _ _ _⟩
    · exact .inr (.inr h)
  low := putM_low (by omega) x.low
  tlow := x.tlow
  tg := x.tg
  en := x.en
theorem Gd.finF (x : Gd szs st) : Gd szs { st with num := st.num + (if false = true then 1 else 0), off := 0 } where
  full := x.full
  low := x.low
  tlow := x.tlow
  tg := fun i j h => x.tg i j (h.imp id fun z => absurd z.2 (Nat.not_lt_zero _))
  en := x.en
theorem Gd.finT (x : Gd szs st) (ho : szs.getD st.num 0 ≤ st.off) : Gd szs { st with num := st.num + (if true = true then 1 else 0), off := 0 } where
  full := x.full
  low := x.low
  tlow := x.tlow
  tg := fun i j h => by
    refine x.tg i j ?_
    rcases h with h | h
    · have h1 : i < st.num + 1 := h.1
      by_cases e : i = st.num
      · subst e
        exact .inr ⟨rfl, Nat.lt_of_lt_of_le h.2 ho⟩
      · exact .inl ⟨by omega, h.2⟩
    · exact absurd h.2 (Nat.not_lt_zero _)
  en := x.en
theorem Gd.gap (x : Gd szs st) {s : Nat} {r : List Nat} (hs : s ≤ 99) (hb : ∀ n, bef.getD n 0 ≤ 99) : Gd szs { st with m := fillG bef st.m st.pl s s, pl := st.pl + s, rest := r } where
  full := fun n hn => by
    have hn' : n < st.pl + s := hn
    by_cases e : st.pl ≤ n
    · exact .inl ⟨_, if_pos ⟨e, hn'⟩⟩
    · rcases x.full n (by omega) with h | h
      · refine .inl ?_
        show ∃ v, fillG bef st.m st.pl s s n = some v
        unfold fillG
        rw [if_neg (by omega)]
        exact h
      · exact .inr h
  low := fun n v z => by
    have z' : fillG bef st.m st.pl s s n = some v := z
    unfold fillG at z'
    by_cases e : st.pl ≤ n ∧ n < st.pl + s
    · rw [if_pos e] at z'
      have z2 := Option.some.inj z'
      by_cases e1 : n = st.pl
      · rw [if_pos e1] at z2
        omega
      · rw [if_neg e1] at z2
        by_cases e2 : n = st.pl + 1
        · rw [if_pos e2] at z2
          omega
        · rw [if_neg e2] at z2
          have := hb n
          omega
    · rw [if_neg e] at z'
      exact x.low n v z'
  tlow := x.tlow
  tg := x.tg
  en := x.en
theorem Gd.nil (gs : List Nat) : Gd szs (kn0 gs) where
  full := fun n hn => absurd hn (Nat.not_lt_zero _)
  low := fun _ _ z => by cases z
  tlow := fun _ _ z => by cases z
  tg := fun i j h => by
    rcases h with h | h
    · exact absurd h.1 (Nat.not_lt_zero _)
    · exact absurd h.2 (Nat.not_lt_zero _)
  en := fun _ h => absurd h List.not_mem_nil
/-- the pieces of data -/
theorem run_dats : ∀ (c : List Nat) (r : List Tok) (st : Kst), Gd szs st → (∀ x ∈ c, x < 7) → st.pl + c.length ≤ 60 → ∃ st', runK bef (c.map Tok.dat ++ r) st = runK bef r st' ∧ Gd szs st' ∧ st'.op = st.op ∧ st'.rest = st.rest ∧ st'.pl = st.pl + c.length ∧ st'.num = st.num ∧ st'.off = st.off + c.length
  | [], r, st, x, _, _ => ⟨st, rfl, x, rfl, rfl, rfl, rfl, rfl⟩
  | y :: c, r, st, x, h, hp => by
    rw [List.length_cons] at hp
    obtain ⟨st', a, b, e1, e2, e3, e4, e5⟩ := run_dats c r _ (x.dat (v := y) (by have := h y List.mem_cons_self; omega) (by omega)) (fun z hz => h z (List.mem_cons_of_mem _ hz)) (by show st.pl + 1 + c.length ≤ 60; omega)
    refine ⟨st', ?_, b, e1, e2, ?_, e4, ?_⟩
    · rw [List.map_cons, List.cons_append, runK]
      exact a
    · rw [e3, List.length_cons]
      show st.pl + 1 + c.length = _
      omega
    · rw [e5, List.length_cons]
      show st.off + 1 + c.length = _
      omega
theorem run_ents : ∀ (c : List (Nat × Nat)) (r : List Tok) (st : Kst), Gd szs st → (∀ t ∈ c, ∃ m, szs[t.1]? = some m ∧ t.2 < m) → ∃ st', runK bef (c.map Tok.ent ++ r) st = runK bef r st' ∧ Gd szs st' ∧ st'.op = st.op ∧ st'.rest = st.rest ∧ st'.pl = st.pl + c.length ∧ st'.num = st.num
  | [], r, st, x, _ => ⟨st, rfl, x, rfl, rfl, rfl, rfl⟩
  | y :: c, r, st, x, h => by
    obtain ⟨st', a, b, e1, e2, e3, e4⟩ := run_ents c r _ (x.ent (t := y) (h y List.mem_cons_self)) (fun z hz => h z (List.mem_cons_of_mem _ hz))
    refine ⟨st', ?_, b, e1, e2, ?_, e4⟩
    · rw [List.map_cons, List.cons_append, runK]
      exact a
    · rw [e3, List.length_cons]
      show st.pl + 1 + c.length = _
      omega
theorem run_gap (s : Nat) (q : List Nat) (h : st.rest = s :: q) (r : List Tok) : runK bef (Tok.gap :: r) st = runK bef r { st with m := fillG bef st.m st.pl s s, pl := st.pl + s, rest := q } := by
  rw [runK]
  unfold stp1
  rw [h]
theorem drop_one {l : List Nat} {s : Nat} {q : List Nat} (h : l = s :: q) (n : Nat) : q.drop n = l.drop (1 + n) ∧ s + (q.take n).sum = (l.take (1 + n)).sum := by
  subst h
  rw [Nat.add_comm 1 n]
  exact ⟨rfl, by rw [List.take_succ_cons, List.sum_cons]⟩
mutual
theorem run_1 (hb : ∀ n, bef.getD n 0 ≤ 99) : ∀ (k : Kd) (s : Sh) (i i' : Nat), fit1 szs k s i i' → ∀ (st : Kst) (r : List Tok), Gd szs st → st.num = i → st.off = 0 → gp1 s ≤ st.rest.length → (∀ g ∈ st.rest, g ≤ 90) → st.pl + ln1 s + (st.rest.take (gp1 s)).sum ≤ 60 →
    ∃ st', runK bef (tk1 s ++ r) st = runK bef r st' ∧ Gd szs st' ∧ st'.op = st.op ∧ st'.rest = st.rest.drop (gp1 s) ∧ st'.pl = st.pl + ln1 s + (st.rest.take (gp1 s)).sum ∧ st'.num = i' ∧ st'.off = 0
  | .D, .dat c, i, i', h, st, r, x, hn, ho, hg, h90, hp => by
    rw [fit1] at h
    obtain ⟨rfl, hc, h7⟩ := h
    rw [gp1] at hg hp ⊢
    rw [ln1] at hp ⊢
    cases hr : st.rest with
    | nil =>
      rw [hr] at hg
      exact absurd hg (by decide)
    | cons s q =>
      rw [hr] at hp
      have hs := h90 s (by rw [hr]; exact List.mem_cons_self)
      have et : ((s :: q).take 1).sum = s := by simp
      rw [et] at hp ⊢
      have x1 := (((x.gap (s := s) (r := q) (by omega) hb).cell (v := 2) (by decide)).cell (v := 2 + c.length) (by omega))
      obtain ⟨st', a, b, e1, e2, e3, e4, e5⟩ := run_dats (bef := bef) c (Tok.fin true :: r) _ x1 h7 (by show st.pl + s + 1 + 1 + c.length ≤ 60; omega)
      have e4' : st'.num = i := e4.trans hn
      have e5' : st'.off = c.length := by rw [e5]; show st.off + c.length = _; omega
      have hgd : szs.getD st'.num 0 = c.length := by rw [e4', List.getD_eq_getElem?_getD, hc] <;> rfl
      refine ⟨_, ?_, b.finT (by omega), e1, e2, ?_, ?_, rfl⟩
      · rw [tk1, List.append_assoc, List.append_assoc]
        show runK bef (Tok.gap :: Tok.cell 2 :: Tok.cell (2 + c.length) :: (c.map Tok.dat ++ (Tok.fin true :: r))) st = _
        rw [run_gap s q hr]
        exact a
      · show st'.pl = _
        rw [e3]
        show st.pl + s + 1 + 1 + c.length = _
        omega
      · show st'.num + 1 = i + 1
        rw [e4']
  | .T, .tab c, i, i', h, st, r, x, hn, ho, hg, h90, hp => by
    rw [fit1] at h
    obtain ⟨rfl, hc, h7⟩ := h
    rw [gp1] at hg hp ⊢
    rw [ln1] at hp ⊢
    cases hr : st.rest with
    | nil =>
      rw [hr] at hg
      exact absurd hg (by decide)
    | cons s q =>
      rw [hr] at hp
      have hs := h90 s (by rw [hr]; exact List.mem_cons_self)
      have et : ((s :: q).take 1).sum = s := by simp
      rw [et] at hp ⊢
      have x1 := (((x.gap (s := s) (r := q) (by omega) hb).cell (v := 4) (by decide)).cell (v := 2 + c.length) (by omega))
      obtain ⟨st', a, b, e1, e2, e3, e4⟩ := run_ents (bef := bef) c (Tok.fin false :: r) _ x1 h7
      refine ⟨_, ?_, b.finF, e1, e2, ?_, ?_, rfl⟩
      · rw [tk1, List.append_assoc, List.append_assoc]
        show runK bef (Tok.gap :: Tok.cell 4 :: Tok.cell (2 + c.length) :: (c.map Tok.ent ++ (Tok.fin false :: r))) st = _
        rw [run_gap s q hr]
        exact a
      · show st'.pl = _
        rw [e3]
        show st.pl + s + 1 + 1 + c.length = _
        omega
      · show st'.num + 0 = i'
        rw [e4]
        exact hn
  | .G ks, .grp ss, i, i', h, st, r, x, hn, ho, hg, h90, hp => by
    rw [fit1] at h
    rw [gp1] at hg hp ⊢
    rw [ln1] at hp ⊢
    cases hr : st.rest with
    | nil =>
      rw [hr] at hg
      exact absurd hg (by simp)
    | cons s q =>
      have hs := h90 s (by rw [hr]; exact List.mem_cons_self)
      obtain ⟨d1, d2⟩ := drop_one hr (gpL ss)
      rw [← hr, ← d1, ← d2]
      rw [← d2] at hp
      rw [hr, List.length_cons] at hg
      have x1 := (((x.gap (s := s) (r := q) (by omega) hb).cell (v := 1) (by decide)).length)
      obtain ⟨st', a, b, e1, e2, e3, e4, e5⟩ := run_L hb ks ss i i' h _ (Tok.close :: r) x1 hn ho (by show gpL ss ≤ q.length; omega) (fun g hg => h90 g (by rw [hr]; exact List.mem_cons_of_mem _ hg)) (by show st.pl + s + 1 + 1 + lnL ss + (q.take (gpL ss)).sum ≤ 60; omega)
      have e3' : st'.pl = st.pl + s + 1 + 1 + lnL ss + (q.take (gpL ss)).sum := e3
      have e1' : st'.op = st.op ++ [st.pl + s + 1] := e1
      refine ⟨_, ?_, b.close e1' (by omega), ?_, e2, ?_, e4, e5⟩
      · rw [tk1, List.append_assoc, List.append_assoc]
        show runK bef (Tok.gap :: Tok.cell 1 :: Tok.length :: (tkL ss ++ (Tok.close :: r))) st = _
        rw [run_gap s q hr]
        exact a
      · show st'.op.dropLast = st.op
        rw [e1', List.dropLast_concat]
      · show st'.pl = _
        rw [e3']
        omega
  | .D, .tab _, _, _, h, _, _, _, _, _, _, _, _ => by rw [fit1] at h; exact h.elim
  | .D, .grp _, _, _, h, _, _, _, _, _, _, _, _ => by rw [fit1] at h; exact h.elim
  | .T, .dat _, _, _, h, _, _, _, _, _, _, _, _ => by rw [fit1] at h; exact h.elim
  | .T, .grp _, _, _, h, _, _, _, _, _, _, _, _ => by rw [fit1] at h; exact h.elim
  | .G _, .dat _, _, _, h, _, _, _, _, _, _, _, _ => by rw [fit1] at h; exact h.elim
  | .G _, .tab _, _, _, h, _, _, _, _, _, _, _, _ => by rw [fit1] at h; exact h.elim
theorem run_L (hb : ∀ n, bef.getD n 0 ≤ 99) : ∀ (ks : List Kd) (ss : List Sh) (i i' : Nat), fitL szs ks ss i i' → ∀ (st : Kst) (r : List Tok), Gd szs st → st.num = i → st.off = 0 → gpL ss ≤ st.rest.length → (∀ g ∈ st.rest, g ≤ 90) → st.pl + lnL ss + (st.rest.take (gpL ss)).sum ≤ 60 →
    ∃ st', runK bef (tkL ss ++ r) st = runK bef r st' ∧ Gd szs st' ∧ st'.op = st.op ∧ st'.rest = st.rest.drop (gpL ss) ∧ st'.pl = st.pl + lnL ss + (st.rest.take (gpL ss)).sum ∧ st'.num = i' ∧ st'.off = 0
  | [], [], i, i', h, st, r, x, hn, ho, hg, h90, hp => by
    rw [fitL] at h
    subst h
    rw [gpL] at hg hp ⊢
    rw [lnL] at hp ⊢
    cases hr : st.rest with
    | nil =>
      rw [hr] at hg
      exact absurd hg (by decide)
    | cons s q =>
      rw [hr] at hp
      have hs := h90 s (by rw [hr]; exact List.mem_cons_self)
      have et : ((s :: q).take 1).sum = s := by simp
      rw [et] at hp ⊢
      refine ⟨_, ?_, x.gap (s := s) (r := q) (by omega) hb, rfl, rfl, rfl, hn, ho⟩
      rw [tkL]
      exact run_gap s q hr r
  | k :: ks, s :: ss, i, i', h, st, r, x, hn, ho, hg, h90, hp => by
    rw [fitL] at h
    obtain ⟨j, h1, h2⟩ := h
    rw [gpL] at hg hp ⊢
    rw [lnL] at hp ⊢
    have etk : (st.rest.take (gp1 s + gpL ss)).sum = (st.rest.take (gp1 s)).sum + ((st.rest.drop (gp1 s)).take (gpL ss)).sum := by
      rw [List.take_add, List.sum_append]
    rw [etk] at hp ⊢
    obtain ⟨st1, a1, b1, c1, d1, f1, g1, k1⟩ := run_1 hb k s i j h1 st (tkL ss ++ r) x hn ho (by omega) h90 (by omega)
    obtain ⟨st2, a2, b2, c2, d2, f2, g2, k2⟩ := run_L hb ks ss j i' h2 st1 r b1 g1 k1 (by rw [d1, List.length_drop]; omega) (fun g hg => h90 g (by rw [d1] at hg; exact List.mem_of_mem_drop hg)) (by rw [d1, f1]; omega)
    refine ⟨st2, ?_, b2, c2.trans c1, ?_, ?_, g2, k2⟩
    · rw [tkL, List.append_assoc, a1, a2]
    · rw [d2, d1, List.drop_drop]
    · rw [f2, f1, d1]
      omega
  | [], _ :: _, _, _, h, _, _, _, _, _, _, _, _ => by rw [fitL] at h; exact h.elim
  | _ :: _, [], _, _, h, _, _, _, _, _, _, _, _ => by rw [fitL] at h; exact h.elim
end
theorem fin_some (tg : Nat × Nat → Option Nat) : ∀ (en : List (Nat × (Nat × Nat))) (m : Nat → Option Nat) (n : Nat), (∀ e ∈ en, ∃ v, tg e.2 = some v) → ((∃ v, m n = some v) ∨ n ∈ en.map (·.1)) → ∃ v, finM tg en m n = some v
  | [], m, n, _, h => by
    rw [finM]
    rcases h with h | h
    · exact h
    · exact absurd h List.not_mem_nil
  | e :: r, m, n, ht, h => by
    rw [finM]
    obtain ⟨v, hv⟩ := ht e List.mem_cons_self
    refine fin_some tg r _ n (fun e' h' => ht e' (List.mem_cons_of_mem _ h')) ?_
    rw [hv]
    rcases h with h | h
    · exact .inl (putM_some h)
    · rcases List.mem_cons.mp h with h | h
      · exact .inl ⟨v, by rw [h]; exact putM_at _ _ _⟩
      · exact .inr h
theorem fin_low (tg : Nat × Nat → Option Nat) (ht : ∀ t v, tg t = some v → v ≤ 99) : ∀ (en : List (Nat × (Nat × Nat))) (m : Nat → Option Nat), (∀ n v, m n = some v → v ≤ 99) → ∀ n v, finM tg en m n = some v → v ≤ 99
  | [], m, h, n, v, z => by
    rw [finM] at z
    exact h n v z
  | e :: r, m, h, n, v, z => by
    rw [finM] at z
    refine fin_low tg ht r _ ?_ n v z
    cases q : tg e.2 with
    | none => exact h
    | some u => exact putM_low (ht _ _ q) h
/-- a whole file: all its cells are there, each at most 99 -/
theorem kn_all {ks : List Kd} {ss : List Sh} {gs : List Nat} (hf : fitL szs ks ss 0 szs.length) (hb : ∀ n, bef.getD n 0 ≤ 99) (hg : gs.length = gpL ss) (h30 : lnL ss + gs.sum ≤ 30) :
    (knR bef ss gs).pl = lnL ss + gs.sum ∧ ∀ n, n < (knR bef ss gs).pl → ∃ v, knM bef ss gs n = some v ∧ v ≤ 99 := by
  have hle : ∀ g ∈ gs, g ≤ gs.sum := fun g h => by
    obtain ⟨a, b, e⟩ := List.append_of_mem h
    rw [e, List.sum_append, List.sum_cons]
    omega
  have et : gs.take (gpL ss) = gs := by rw [← hg]; exact List.take_length
  obtain ⟨st', a, b, c, d, f, g, k⟩ := run_L (szs := szs) (bef := bef) hb ks ss 0 szs.length hf (kn0 gs) [] (.nil gs) rfl rfl (by show gpL ss ≤ gs.length; omega) (fun g h => by have := hle g h; omega) (by show 0 + lnL ss + (gs.take (gpL ss)).sum ≤ 60; rw [et]; omega)
  have e1 : knR bef ss gs = st' := by
    unfold knR
    rw [List.append_nil] at a
    rw [a, runK]
  have hpl : st'.pl = lnL ss + gs.sum := by
    rw [f]
    show 0 + lnL ss + (gs.take (gpL ss)).sum = _
    rw [et]
    omega
  have ht : ∀ e ∈ st'.en, ∃ v, st'.tg e.2 = some v := fun e he => by
    obtain ⟨m, h1, h2⟩ := b.en e he
    refine b.tg e.2.1 e.2.2 (.inl ⟨?_, ?_⟩)
    · rw [g]
      exact (List.getElem?_eq_some_iff.mp h1).1
    · rw [List.getD_eq_getElem?_getD, h1]
      exact h2
  refine ⟨by rw [e1, hpl], fun n hn => ?_⟩
  unfold knM
  rw [e1] at hn ⊢
  have hfull : (∃ v, st'.m n = some v) ∨ n ∈ st'.en.map (·.1) := by
    rcases b.full n hn with h | h | h
    · exact .inl h
    · rw [c] at h
      exact absurd h List.not_mem_nil
    · exact .inr h
  obtain ⟨v, hv⟩ := fin_some st'.tg st'.en st'.m n ht hfull
  exact ⟨v, hv, fin_low st'.tg b.tlow st'.en st'.m b.low n v hv⟩
end
/-- the cells of a file -/
def fil (bef : List Nat) (ss : List Sh) (gs : List Nat) : List Nat := (List.range (knR bef ss gs).pl).map fun n => (knM bef ss gs n).getD 0
section
variable {P : Program} {w : World} {K : PySem.W.Frag} {mg : Str → Option Value} {base : Heap}
def spFile (K : PySem.W.Frag) : Sp := fun vs H Q _ => ∃ (B Gp : Addr) (v : V) (bef gs : List Nat) (ss : List Sh), vs = [.ref B, v, .ref Gp] ∧ SqT K H B (bef.map vn) ∧ Tp K H v (.tuple (shL ss)) ∧ dpsL ss < 10 ∧ lnL ss ≤ 100 ∧ SqT K H Gp (gs.map vn) ∧ gs.length ≤ 500 ∧ (∀ g ∈ gs, g ≤ 90) ∧
  (knR bef ss gs).pl ≤ 1000 ∧ (∀ n, n < (knR bef ss gs).pl → ∃ v, knM bef ss gs n = some v) ∧ ∀ (a : Addr) (H' : Hp), Same H H' → H' a = some (.tup ((fil bef ss gs).map vn)) → Q (.ref a) H'
theorem ok_lFile {f : Addr} {fd : FuncData} (F : Def K mg "_law_file" sLFile f fd) (b : Binds K fd ["_law_before", "_law_shape_here", "_law_gaps_here"] []) (T : Txt mg) (C_lKnown : Cal P w K mg base 12 "_law_known" (spKnown K) []) : Cal P w K mg base 13 "_law_file" (spFile K) [] := by
  refine cal0 F b .nil scLFile (fun vs H Q E h => ?_) (fun cdv A outer s H vs Q E hr h => ?_)
  · obtain ⟨B, Gp, v, bef, gs, ss, rfl, _⟩ := h
    rfl
  obtain ⟨B, Gp, v, bef, gs, ss, rfl, hB, hv, hd, hz, hG, hgl, hg90, hpl, hall, q⟩ := h
  refine ⟨_, (pss_cons (ps_asg (pe_c C_lKnown hr (by decide) rfl (pa_cons (pv 0) (pa_cons (pv 1) (pa_cons (pv 2) pa_nil)))) (pg_tup rfl (pgs_cons (pg_name (i := 3) scLFile.nd rfl (.inr rfl)) (pgs_cons (pg_name (i := 4) scLFile.nd rfl (.inl rfl)) pgs_nil))))
      (pss_one (ps_ret (pe_callTy call_tuple_of (by rfl) T.tuple b_tuple (pa_cons (pe_lc (own := [("_law_place_here", 5)]) rfl scLFile.nd (pi_range1 (by rfl) T.range (pa_cons (pv 4) pa_nil)) (blkOk_by (own := [("_law_place_here", 5)]) (N := NLFile) (sc := (fnScope sLFile)) (by decide +kernel)) (fun _ _ _ _ _ => (pg_name (i := 5) scLFile.nd rfl (.inl rfl))) (fun _ _ _ _ _ => pts_nil) (fun _ _ _ _ _ => (pe_dget (hu_of hr) (pv 3) (pv 5) (fun _ _ => rfl)))) pa_nil))))), ?_⟩
  walk_at "rd"
  refine ⟨B, Gp, v, bef, gs, ss, rfl, hB, hv, hd, hz, hG, hgl, hg90, fun t Cd H1 s1 h1 h2 h3 => ?_⟩
  refine g_tupT (SqT.of h1) rfl ?_
  walk_at "rd"
  refine ⟨((knR bef ss gs).pl : Int), rfl, by omega, by omega, ?_⟩
  rw [Int.toNat_natCast]
  intro D hD
  refine lc_it walk_range (fun i H' => Same H1 H' ∧ H' D = some (.lst (((List.range i).map fun n => (knM bef ss gs n).getD 0).map vn))) ⟨same_new hD _, upd_same⟩ (fun _ _ _ _ => True.intro) ?_ ?_
  · rintro i x H2 H3 hi ⟨u1, u2⟩ ⟨rfl, rfl⟩
    walk_at "rd"
    refine ⟨rfl, ?_⟩
    walk_at "rd"
    obtain ⟨vv, hvv⟩ := hall i hi
    have hget := (h2.same u1).get hvv
    rw [show (i : Int) = 0 + (i : Int) from (Int.zero_add _).symm] at hget
    refine ⟨Cd, _, rfl, hget, _, u2, small1000 (by rw [List.length_map, List.length_map, List.length_range]; omega), Same.putNew u1 hD, ?_⟩
    rw [upd_same, List.range_succ, List.map_append, List.map_append]
    show _ = some (HO.lst (_ ++ [vn ((knM bef ss gs i).getD 0)]))
    rw [hvv]
    rfl
  · rintro H2 ⟨u1, u2⟩
    walk_at "rd"
    refine ⟨D, _, rfl, .inl ⟨SqL.of u2, fun u hu => ?_⟩⟩
    exact q u _ ((s1.trans u1).trans (same_new hu _)) upd_same
end
end Bx

namespace Bx
theorem hd_lt {cs : List Nat} {a e dp p : Nat} (h : a < e) (q : hd cs a e dp = some p) : p < e := by
  unfold hd at q
  split at q
  · cases q
    exact h
  · split at q
    · cases q
      exact h
    · split at q
      · cases q
        omega
      · cases q
theorem prs_lt : ∀ (f : Nat) (cs : List Nat) (a e dp p : Nat), prs f cs a e dp = .error p → p < e
  | 0, _, _, _, _, _, h => by
    unfold prs at h
    cases h
  | f + 1, cs, a, e, dp, p, h => by
    by_cases hl : a < e
    · cases q : hd cs a e dp with
      | some p' =>
        rw [prs_bad hl q] at h
        cases h
        exact hd_lt hl q
      | none =>
        have hh := hd_none q
        cases i : (if cel cs a = 1 then prs f cs (a + 2) (a + cel cs (a + 1)) (dp + 1) else .ok []) with
        | error p' =>
          by_cases g : cel cs a = 1
          · rw [if_pos g] at i
            rw [prs_in hl q g i] at h
            cases h
            have := prs_lt f cs _ _ _ _ i
            omega
          · rw [if_neg g] at i
            cases i
        | ok ks =>
          rw [prs_go hl q i] at h
          cases j : prs f cs (a + cel cs (a + 1)) e dp with
          | error p' =>
            rw [j] at h
            cases h
            exact prs_lt f cs _ _ _ _ j
          | ok r =>
            rw [j] at h
            cases h
    · rw [prs_stop hl] at h
      cases h
theorem ens_mem {cs hs : List Nat} {n : Nat} : n ∈ ens cs hs ↔ ∃ p ∈ hs, cel cs p = 4 ∧ n ∈ plc (row cs p) := by
  unfold ens
  rw [List.mem_flatten]
  constructor
  · rintro ⟨l, hl, hn⟩
    obtain ⟨p, hp, rfl⟩ := List.mem_map.mp hl
    obtain ⟨h1, h2⟩ := List.mem_filter.mp hp
    exact ⟨p, h1, of_decide_eq_true h2, hn⟩
  · rintro ⟨p, hp, hk, hn⟩
    exact ⟨_, List.mem_map.mpr ⟨p, List.mem_filter.mpr ⟨hp, decide_eq_true hk⟩, rfl⟩, hn⟩
theorem fwr_lt {cs : List Nat} {p : Nat} (hl : cs.length ≤ 30) (h : fwr cs = some p) : p < cs.length := by
  unfold fwr at h
  cases e : prs 31 cs 0 cs.length 0 with
  | error p' =>
    rw [e] at h
    cases h
    exact prs_lt _ _ _ _ _ _ e
  | ok bs =>
    rw [e] at h
    have P := prs_pth 31 cs 0 cs.length 0 bs e (by omega) (Nat.zero_le _) (Nat.le_refl _)
    obtain ⟨q, hq, hk, hn⟩ := ens_mem.mp (List.mem_of_find?_eq_some h)
    exact ens_lt P hq (by omega) hn
/-- a file -/
theorem fwr_ok {cs : List Nat} (h : fwr cs = none) : ∃ bs, prs 31 cs 0 cs.length 0 = .ok bs ∧ Good cs (rws cs (hsL bs)) (hsL bs) := by
  unfold fwr at h
  cases e : prs 31 cs 0 cs.length 0 with
  | error p' =>
    rw [e] at h
    cases h
  | ok bs =>
    rw [e] at h
    refine ⟨bs, rfl, fun p hp hk c hc => ?_⟩
    unfold ctn at hc
    obtain ⟨n, hn, rfl⟩ := List.mem_map.mp hc
    have z := List.find?_eq_none.mp h n (ens_mem.mpr ⟨p, hp, hk, hn⟩)
    unfold bad at z
    cases o : own (rws cs (hsL bs)) (cel cs n) with
    | true => rfl
    | false =>
      rw [o] at z
      exact absurd rfl z

/-! ### BadFile -/
def txtF : Str := "no file, the first wrong place is "
structure BfT (P : Program) (w : World) (K : PySem.W.Frag) (mg : Str → Option Value) (base : Heap) (C : Addr) : Prop where
  T : OexC K C
  gC : mg "BadFile" = some (.ref C)
  init : ∃ fI fd, PySem.W.findIn K (.ref C) "__init__" = some (some (.ref fI)) ∧ PySem.W.typeIn K (.ref fI) = some (.type "function") ∧ Binds K fd ["self", "place"] [] ∧ FnOk P w K mg base C8.CX0 2 fI fd ["self", "place"] (spSup C "place" txtF)
  ga : PySem.W.findIn K (.ref C) "__getattribute__" = some (some (.builtin "BaseException.__getattribute__"))
  gg : PySem.W.findIn K (.ref C) "__getattr__" = some none
  noN : PySem.W.findIn K (.ref C) "place" = some none
  hdC : PySem.W.hasDictIn K C = true
  te : PySem.W.exmOne K (.ref C) (.ref C) = some true
/-- the error of a place -/
def XErr (C : Addr) (H : Hp) (y : V) (E : XK) : Prop := ∀ (d : Addr) (H' : Hp), Same H H' → H' d = some (.xd [("place", y)]) → E (.ref C) (some d) H'
/-- BadFile(e) -/
def tBf (C : Addr) (ta : TA) : L2.St → Hp → XK → Prop := fun σ H Q => ta σ H fun vs H1 => ∃ y, vs = [y] ∧ (y = .non ∨ ∃ i : Nat, y = .int (i : Int) ∧ i ≤ 30) ∧ XErr C H1 y Q
theorem txt_fits : ∀ i : Nat, i ≤ 30 → (txtF ++ toString (i : Int) : Str).length ≤ sizeLine := fun i hi => by
  have h : ∀ j : Fin 31, (txtF ++ toString ((j.val : Nat) : Int) : Str).length ≤ 1000 := by decide +kernel
  exact small (h ⟨i, by omega⟩)
theorem log_fits : ∀ i : Nat, i ≤ 30 → (i : Int).natAbs.log2 < 1920 := fun i hi => by
  have h : ∀ j : Fin 31, ((j.val : Nat) : Int).natAbs.log2 < 1920 := by decide +kernel
  exact h ⟨i, by omega⟩
theorem PA.wk {X : Cx} {es : List Expr} {ta : TA} (h : PA X es ta) : PA X es (fun σ H Q => ∃ Q1 : List V → Hp → Prop, ta σ H Q1 ∧ ∀ vs H1, Q1 vs H1 → Q vs H1) := ⟨fun pos pins s σ H Q I ⟨Q1, h1, h2⟩ =>
  thn (h.run pos pins s σ H Q1 I h1) fun us s1 ⟨vs, H1, I1, r, q⟩ => ⟨vs, H1, I1, r, h2 vs H1 q⟩⟩
theorem pmk_bf {X : Cx} {C : Addr} {e : Expr} {ta : TA} {p pos : Pos} {j : Nat} (T : BfT X.prog X.w X.K X.mg X.base C) (hr : Room j X.A) (hj : 3 ≤ j) (hg : Gl X "BadFile") (ha : PA X [e] ta)
    (he : starEach (e :: []) X.env = (false, eval e X.env) :: starEach [] X.env := by rfl) (hpl : (backTo pos (starEach [] X.env)).any (·.1) = false := by rfl) : PMk X (.Call (.Name "BadFile" p) [e] [] pos) (tBf C ta) := by
  obtain ⟨fI, fd, iC, tI, b, F⟩ := T.init
  intro pins s σ H Q I h
  refine pmk_oex T.T iC tI F (hr.mono hj) b .nil C8.pass0 hg T.gC (PA.wk ha) (by decide) he hpl pins s σ H Q I ⟨_, h, ?_⟩
  rintro vs H1 ⟨y, rfl, hy, q⟩
  refine ⟨(by show 1 ≤ 1000; decide), fun a na => ⟨a, y, rfl, ?_, upd_same, fun dx hn hne => ?_⟩⟩
  · rcases hy with rfl | ⟨i, rfl, hi⟩
    · exact .inl rfl
    · exact .inr ⟨_, rfl, log_fits i hi, txt_fits i hi⟩
  · have hd1 : H1 dx = none := by
      rw [upd_ne hne] at hn
      exact hn
    refine ⟨rfl, dx, _, upd_same, by rw [upd_ne hne, upd_same], hd1, ?_⟩
    refine q dx _ ?_ upd_same
    intro b o hb
    have hba : b ≠ a := ne_of_none hb na
    have hbd : b ≠ dx := ne_of_none hb hd1
    rw [upd_ne hbd, del_ne hba, upd_ne hba, upd_ne hbd, upd_ne hba]
    exact hb

/-! ### defs that raise -/
structure CalX (P : Program) (w : World) (K : PySem.W.Frag) (mg : Str → Option Value) (base : Heap) (k : Nat) (x : Str) (sp : Sp) : Prop where
  ex : ∃ (f : Addr) (fd : FuncData) (ps : List Str), FnOk P w K mg base (L2.CX P w) k f fd ps sp ∧ mg x = some (.ref f) ∧ PySem.W.keepIn K (.ref f) = true ∧ Binds K fd ps []
section
variable {P : Program} {w : World} {K : PySem.W.Frag} {mg : Str → Option Value} {base : Heap}
theorem calX {x : Str} {st : Stmt} {f : Addr} {fd : FuncData} {N ps : List Str} {k : Nat} {sp : Sp} (F : Def K mg x st f fd) (b : Binds K fd ps []) (S : FnScope N ps (fnScope st)) (len : ∀ vs H Q E, sp vs H Q E → vs.length = ps.length)
    (hbody : ∀ (cdv : Value) (A : Around) (outer : List Env) (s : Shared) (H : Hp) (vs : List V) (Q : VK) (E : XK), Room k (A.deeper (envOfC x (fnScope st) s.heap.objs.size f cdv)) → sp vs H Q E →
      ∃ t, PSs (cxOf (L2.CX P w) P w K mg base N x (fnScope st) f cdv A outer s H E) (fnBody st) t ∧ t { nx := fun _ H' => Q .non H', rt := Q } (start N vs) H) : CalX P w K mg base (k + 1) x sp := by
  refine ⟨f, fd, ps, ?_, F.mgf, F.kp, b⟩
  obtain ⟨oc, od, dV, kV, doc, pm, an, cdv, ct, osl, rfl, lk, hcd⟩ := F.fn.ex
  exact fn_of lk hcd S len fun A outer s H vs Q E hr hsp => hbody cdv A outer s H vs Q E hr hsp
end
section
variable {X : Cx} {k j : Nat} {x : Str} {sp : Sp} {p pos : Pos} {e : Expr} {es : List Expr} {t : TA} {W : WX}
theorem pe_cX (c : CalX X.prog X.w X.K X.mg X.base k x sp) (hr : Room j X.A) (hk : k ≤ j) (hg : Gl X x) (tk : Takes X W) (ha : PA X (e :: es) t)
    (hdb : (x == ("__debug__" : Str)) = false := by decide) (he : starEach (e :: es) X.env = (false, eval e X.env) :: starEach es X.env := by rfl) (hpl : (backTo pos (starEach es X.env)).any (·.1) = false := by rfl) :
    PE X (.Call (.Name x p) (e :: es) [] pos) (tCallS sp (WE W) t) := by
  obtain ⟨f, fd, ps, F, hm, kp, b⟩ := c.ex
  exact pe_callS F (hr.mono hk) hg hm kp b (fun σ => passAt tk σ) ha hdb he hpl
/-- where it does not raise -/
theorem pe_cN (c : CalX X.prog X.w X.K X.mg X.base k x sp) (hr : Room j X.A) (hk : k ≤ j) (hg : Gl X x) (ha : PA X (e :: es) t)
    (hdb : (x == ("__debug__" : Str)) = false := by decide) (he : starEach (e :: es) X.env = (false, eval e X.env) :: starEach es X.env := by rfl) (hpl : (backTo pos (starEach es X.env)).any (·.1) = false := by rfl) :
    PE X (.Call (.Name x p) (e :: es) [] pos) (tCall sp [] L2.E0 t) := by
  obtain ⟨f, fd, ps, F, hm, kp, b⟩ := c.ex
  exact pe_call F (hr.mono hk) hg hm kp b .nil passL ha hdb he hpl
theorem g_callS {E : L2.St → XK} {σ : L2.St} {H : Hp} {Q : VK} (h : t σ H fun vs H1 => sp vs H1 Q (E σ)) : tCallS sp E t σ H Q := h
end
end Bx

namespace Bx
section
variable {P : Program} {w : World} {K : PySem.W.Frag} {mg : Str → Option Value} {base : Heap} {C : Addr}
theorem XErr.of {H H1 : Hp} {y : V} {E : XK} (h : XErr C H y E) (s : Same H H1) : XErr C H1 y E := fun d H' s2 e => h d H' (s.trans s2) e
def spCheckFile (K : PySem.W.Frag) (C : Addr) : Sp := fun vs H Q E => ∃ (a : Addr) (cs : List Nat), vs = [.ref a] ∧ Cells K H a cs ∧ (fwr cs = none → ∀ H', Same H H' → Q .non H') ∧ (∀ p, fwr cs = some p → XErr C H (vn p) E)
theorem ok_checkFile {f : Addr} {fd : FuncData} (F : Def K mg "check_file" sCheckFile f fd) (b : Binds K fd ["cells"] []) (T : Txt mg) (B : BfT P w K mg base C) (C_firstWrong : Cal P w K mg base 33 "first_wrong" (spFirstWrong K) []) :
    CalX P w K mg base 34 "check_file" (spCheckFile K C) := by
  refine calX F b scCheckFile (fun vs H Q E h => ?_) (fun cdv A outer s H vs Q E hr h => ?_)
  · obtain ⟨a, cs, rfl, _⟩ := h
    rfl
  obtain ⟨a, cs, rfl, hC, q, qe⟩ := h
  refine ⟨_, (pss_cons (ps_set (i := 1) scCheckFile.nd rfl (Or.inl rfl) (pe_c C_firstWrong hr (by decide) rfl (pa_cons (pv 0) pa_nil)))
    (pss_one (ps_if (pt_cmpR op_notN (pv 1) pe_non (nomark _)) 
      (pss_one (ps_raise rfl (takes_of rfl rfl rfl rfl) (pmk_bf (C := C) B hr (by decide) rfl (pa_cons (pv 1) pa_nil)))) pss_nil))), ?_⟩
  walk_at "rd"
  refine ⟨a, cs, rfl, hC, fun H1 s1 => ?_⟩
  walk_at "rd"
  cases e : fwr cs with
  | none =>
    walk_at "rd"
    exact q e H1 s1
  | some p =>
    have hp := fwr_lt hC.len e
    have := hC.len
    walk_at "rd"
    refine g_ndT int_non ?_
    exact ⟨_, rfl, _, rfl, .inr ⟨p, rfl, by omega⟩, (qe p e).of s1⟩
def spRead (K : PySem.W.Frag) (C : Addr) (fr : Bool) : Sp := fun vs H Q E => ∃ (a : Addr) (cs : List Nat), vs = [.ref a] ∧ Cells K H a cs ∧
  (∀ bs, fwr cs = none → prs 31 cs 0 cs.length 0 = .ok bs → ∀ v H', Same H H' → Tp K H' v (.tuple (daL fr cs (rws cs (hsL bs)) bs)) → Q v H') ∧ (∀ p, fwr cs = some p → XErr C H (vn p) E)
theorem ok_read {f : Addr} {fd : FuncData} (F : Def K mg "read" sRead f fd) (b : Binds K fd ["cells"] []) (T : Txt mg) (C_checkFile : CalX P w K mg base 34 "check_file" (spCheckFile K C)) (C_boxesBetween : Cal P w K mg base 63 "boxes_between" (spBoxesBetween K 31) [])
    (C_dataTargets : Cal P w K mg base 2 "data_targets" (spDataTargets K) []) : CalX P w K mg base 64 "read" (spRead K C true) := by
  refine calX F b scRead (fun vs H Q E h => ?_) (fun cdv A outer s H vs Q E hr h => ?_)
  · obtain ⟨a, cs, rfl, _⟩ := h
    rfl
  obtain ⟨a, cs, rfl, hC, q, qe⟩ := h
  have h30 := hC.len
  refine ⟨_, (pss_cons (ps_expr (pe_cX C_checkFile hr (by decide) rfl (takes_of rfl rfl rfl rfl) (pa_cons (pv 0) pa_nil)))
    (pss_one (ps_ret (pe_c C_boxesBetween hr (by decide) rfl (pa_cons (pv 0) (pa_cons pe_int (pa_cons (pe_callB call_len_seq (by rfl) T.len b_len (pa_cons (pv 0) pa_nil)) (pa_cons (pe_c C_dataTargets hr (by decide) rfl (pa_cons (pv 0) pa_nil)) pa_nil)))))))), ?_⟩
  walk_at "rd"
  refine g_callS ?_
  walk_at "rd"
  refine ⟨a, cs, rfl, hC, fun e H1 s1 => ?_, fun p e => ?_⟩
  · obtain ⟨bs, hb, hG⟩ := fwr_ok e
    have hP := prs_pth 31 cs 0 cs.length 0 bs hb (by omega) (Nat.zero_le _) (Nat.le_refl _)
    walk_at "rd"
    refine ⟨_, _, rfl, (hC.same s1).sq, ?_⟩
    rw [List.length_map]
    walk_at "rd"
    refine ⟨a, cs, hsL bs, rfl, hC.same s1, hP, fun d H2 s2 hd hD => ?_⟩
    walk_at "rd"
    exact ⟨a, d, cs, _, 0, cs.length, 31, 0, _, bs, rfl, hC.same (s1.trans s2), hD, hP.apart, hb, by omega, by omega, by omega, by omega, hG, fun v H3 s3 h3 => q bs e hb v H3 ((s1.trans s2).trans s3) h3⟩
  · exact qe p e
theorem ok_shapeOf {f : Addr} {fd : FuncData} (F : Def K mg "shape_of" sShapeOf f fd) (b : Binds K fd ["cells"] []) (T : Txt mg) (C_read : CalX P w K mg base 64 "read" (spRead K C true)) (C_withoutFree : Cal P w K mg base 33 "without_free" (spWithoutFree K 32) []) :
    CalX P w K mg base 65 "shape_of" (spRead K C false) := by
  refine calX F b scShapeOf (fun vs H Q E h => ?_) (fun cdv A outer s H vs Q E hr h => ?_)
  · obtain ⟨a, cs, rfl, _⟩ := h
    rfl
  obtain ⟨a, cs, rfl, hC, q, qe⟩ := h
  have h30 := hC.len
  refine ⟨_, (pss_one (ps_ret (pe_c C_withoutFree hr (by decide) rfl (pa_cons (pe_cX C_read hr (by decide) rfl (takes_of rfl rfl rfl rfl) (pa_cons (pv 0) pa_nil)) pa_nil)))), ?_⟩
  walk_at "rd"
  refine g_callS ?_
  walk_at "rd"
  refine ⟨a, cs, rfl, hC, fun bs e hb v H1 s1 hv => ?_, fun p e => qe p e⟩
  have hP := prs_pth 31 cs 0 cs.length 0 bs hb (by omega) (Nat.zero_le _) (Nat.le_refl _)
  have hL := hP.len
  have hd := prs_dep _ _ _ _ _ _ hb
  walk_at "rd"
  exact ⟨v, cs, _, bs, rfl, hv, by omega, by omega, fun x H2 s2 hx => q bs e hb x H2 (s1.trans s2) hx⟩
def spFreeCells (K : PySem.W.Frag) (C : Addr) : Sp := fun vs H Q E => ∃ (a : Addr) (cs : List Nat), vs = [.ref a] ∧ Cells K H a cs ∧
  (∀ bs, fwr cs = none → prs 31 cs 0 cs.length 0 = .ok bs → ∀ H', Same H H' → Q (vn (fre cs (hsL bs))) H') ∧ (∀ p, fwr cs = some p → XErr C H (vn p) E)
theorem ok_freeCells {f : Addr} {fd : FuncData} (F : Def K mg "free_cells" sFreeCells f fd) (b : Binds K fd ["cells"] []) (T : Txt mg) (C_checkFile : CalX P w K mg base 34 "check_file" (spCheckFile K C)) (C_boxPlaces : Cal P w K mg base 1 "box_places" (spBoxPlaces K) []) :
    CalX P w K mg base 35 "free_cells" (spFreeCells K C) := by
  refine calX F b scFreeCells (fun vs H Q E h => ?_) (fun cdv A outer s H vs Q E hr h => ?_)
  · obtain ⟨a, cs, rfl, _⟩ := h
    rfl
  obtain ⟨a, cs, rfl, hC, q, qe⟩ := h
  have h30 := hC.len
  refine ⟨_, (pss_cons (ps_expr (pe_cX C_checkFile hr (by decide) rfl (takes_of rfl rfl rfl rfl) (pa_cons (pv 0) pa_nil)))
    (pss_one (ps_ret (pe_callB (cr_sum rfl) (by rfl) T.sum b_sum (pa_cons (pe_lc (own := [("at", 1)]) rfl scFreeCells.nd (pi_list (pe_c C_boxPlaces hr (by decide) rfl (pa_cons (pv 0) (pa_cons (pe_gc rfl T.cFREE) pa_nil)))) (blkOk_by (own := [("at", 1)]) (N := NFreeCells) (sc := (fnScope sFreeCells)) (by decide +kernel)) (fun _ _ _ _ _ => (pg_name (i := 1) scFreeCells.nd rfl (.inl rfl))) (fun _ _ _ _ _ => pts_nil) (fun _ _ _ _ _ => (pe_ix (seq_k (K := K) rfl) (pv 0) (pe_op op_add (pv 1) pe_int) (fun _ _ => rfl)))) pa_nil))))), ?_⟩
  walk_at "rd"
  refine g_callS ?_
  walk_at "rd"
  refine ⟨a, cs, rfl, hC, fun e H1 s1 => ?_, fun p e => qe p e⟩
  obtain ⟨bs, hb, hG⟩ := fwr_ok e
  have hP := prs_pth 31 cs 0 cs.length 0 bs hb (by omega) (Nat.zero_le _) (Nat.le_refl _)
  have hL := hP.len
  walk_at "rd"
  refine ⟨a, cs, hsL bs, 3, rfl, hC.same s1, hP, by omega, fun l H2 s2 hl hl2 => ?_⟩
  refine ⟨l, rfl, ⟨_, SqL.of hl2⟩, fun D hD => ?_⟩
  have hfl : ((hsL bs).filter (isK cs 3)).length ≤ (hsL bs).length := List.length_filter_le _ _
  refine lc_it walk_list (fun i H' => Same H2 H' ∧ H' D = some (.lst (((((hsL bs).filter (isK cs 3)).map fun p => cel cs (p + 1)).take i).map vn))) ⟨same_new hD _, upd_same⟩ (fun i H' _ z => z.1.seq (SqL.of hl2)) ?_ ?_
  · rintro i x H3 H4 hi ⟨u1, u2⟩ ⟨rfl, hx⟩
    obtain ⟨p, hp, rfl⟩ := vn_get hx
    have hpm : p ∈ hsL bs := (List.mem_filter.mp (List.mem_of_getElem? hp)).1
    obtain ⟨m1, m2, m3⟩ := hP.mem p hpm
    walk_at "rd"
    refine ⟨rfl, ?_⟩
    walk_at "rd"
    refine (hC.same ((s1.trans s2).trans u1)).ix (p + 1) (by omega) m1 ?_
    refine ⟨_, u2, small1000 (by rw [List.length_map, List.length_take, List.length_map]; omega), Same.putNew u1 hD, ?_⟩
    rw [upd_same, List.take_add_one, List.getElem?_map, hp, List.map_append]
    rfl
  · rintro H3 ⟨u1, u2⟩
    rw [List.length_map, List.take_of_length_le (by rw [List.length_map]; omega)] at u2
    refine g_sumN (SqL.of u2) ?_
    exact q bs e hb _ ((s1.trans s2).trans u1)
end
end Bx

namespace Bx
section
variable {X : Cx} {CX : CXT} {k i : Nat} {f C : Addr} {fd : FuncData} {ps : List Str} {sp : Sp} {E : L2.St → XK} {x : Str} {p pos : Pos} {e : Expr} {es : List Expr} {t : TA}
def tCallLS (i : Nat) (f : Addr) (sp : Sp) (E : L2.St → XK) (t : TA) : TE := fun σ H Q => σ[i]? = some (some (.ref f)) ∧ t σ H fun vs H1 => sp vs H1 Q (E σ)
theorem pe_callLS (F : FnOk X.prog X.w X.K X.mg X.base CX k f fd ps sp) (hr : Room k X.A) (hN : X.N[i]? = some x) (hv : Vis X.env.scope x) (hk : PySem.W.keepIn X.K (.ref f) = true) (hb : Binds X.K fd ps []) (hx : ∀ σ, PassesAt CX X σ (E σ)) (ha : PA X (e :: es) t)
    (hdb : (x == ("__debug__" : Str)) = false := by decide) (hcd : (x == ("__classdict__" : Str)) = false := by decide)
    (he : starEach (e :: es) X.env = (false, eval e X.env) :: starEach es X.env := by rfl) (hpl : (backTo pos (starEach es X.env)).any (·.1) = false := by rfl) : PE X (.Call (.Name x p) (e :: es) [] pos) (tCallLS i f sp E t) := by
  refine ⟨fun pins s σ H Q I h => ?_⟩
  obtain ⟨hs, ht⟩ := h
  refine wpAny_Call_Name_kw (thn ((pe_var (pos := p) hN hv hdb hcd).run pins s σ H (fun v H1 => v = .ref f ∧ H1 = H) I ⟨.ref f, hs, rfl, rfl⟩) fun u s1 ⟨v, H1, I1, r1, q1⟩ => ?_)
  obtain ⟨rfl, rfl⟩ := q1
  obtain rfl : u = Value.ref f := r1
  refine PySem.W.callWith_K (h₀ := X.base) I.ok.mod.kin hk (thn (ha.run pos pins s1 σ H1 _ I1 ht) fun us s2 ⟨vs, H2, I2, r, q⟩ => ⟨I2.kIn, ?_⟩) he hpl
  exact run_fnS F hr hb (hx σ) I2 r q
/-- error.place -/
def tByPl (C : Addr) (a : Addr) (cls : Value) (d : Option Addr) (te : TE) : TE := fun σ H Q => te σ H fun x H1 => x = .ref a ∧ cls = .ref C ∧ ∃ (dd : Addr) (v : V), d = some dd ∧ H1 dd = some (.xd [(("place" : Str), v)]) ∧ Q v H1
theorem pe_byPl {a : Addr} {oe : Obj} {cls : Value} {d : Option Addr} {pn : List (Addr × Obj)} {e : Expr} {te : TE} {pos : Pos} (T : BfT X.prog X.w X.K X.mg X.base C) (hz : Zc cls d oe) (hf : ∃ vs, oe.data = .fields vs) (he : PE (X.suite a ((a, oe) :: pn)) e te)
    (hb : attributeBase e "place" X.env (eval e X.env) = eval e X.env := by rfl) :
    PE (X.suite a ((a, oe) :: pn)) (.Attribute e "place" pos) (tByPl C a cls d te) := by
  refine ⟨fun pins s σ H Q I h => ?_⟩
  refine attr_of hb (thn (he.run pins s σ H _ I h) fun u s1 hh => ?_)
  obtain ⟨x, H1, I1, rx, ex, ec, dd, v, ed, ea, q⟩ := hh
  subst ex
  obtain rfl : u = Value.ref a := rx
  subst ec
  subst ed
  obtain ⟨ha, _⟩ := I1.pin (a, oe) (List.mem_append_left _ List.mem_cons_self)
  obtain ⟨vs, hd⟩ := hf
  have hx : ObjOk X.prog X.w H1 s1.heap dd (.xd [(("place" : Str), v)]) := I1.hok dd _ ea
  obtain ⟨mA, hns, hr⟩ := hx
  obtain ⟨od, ho, hl⟩ := lookIn_ns hns
  have l : List.lookup ("place" : Str) [(("place" : Str), v)] = some v := by simp [List.lookup]
  obtain ⟨u, hu, ru⟩ := RelO.some_of (v := v) (o := mA "place") (by rw [← l]; exact hr "place")
  have J : PySem.W.InstAt s1.heap a oe C (some od) := ⟨ha, hz.1, by unfold PySem.W.notCls; rw [hd] <;> rfl, by rw [hz.2]; exact ho⟩
  exact HandSPX.exc_get I1.kIn J T.ga T.gg T.T.exC (PySem.W.findObj_own T.hdC T.noN rfl (by rw [hl, hu])) (handed_of ru) ⟨v, H1, I1.tok _, ru, q⟩
end
end Bx
namespace Bx
section
variable {P : Program} {w : World} {K : PySem.W.Frag} {mg : Str → Option Value} {base : Heap} {C : Addr}
/-- a call that tells the first wrong place -/
def spErr (K : PySem.W.Frag) (C : Addr) : Sp := fun vs H Q E => ∃ (a : Addr) (cs : List Nat) (p : Nat), vs = [.ref a] ∧ Cells K H a cs ∧ fwr cs = some p ∧ XErr C H (vn p) E
structure Tells (P : Program) (w : World) (K : PySem.W.Frag) (mg : Str → Option Value) (base : Heap) (C f : Addr) : Prop where
  ex : ∃ (fd : FuncData) (ps : List Str), FnOk P w K mg base (L2.CX P w) 65 f fd ps (spErr K C) ∧ PySem.W.keepIn K (.ref f) = true ∧ Binds K fd ps []
def spLPlace (P : Program) (w : World) (K : PySem.W.Frag) (mg : Str → Option Value) (base : Heap) (C : Addr) : Sp := fun vs H Q _ => ∃ (f a : Addr) (cs : List Nat) (p : Nat), vs = [.ref f, .ref a] ∧ Tells P w K mg base C f ∧ Cells K H a cs ∧ fwr cs = some p ∧
  ∀ H', Same H H' → Q (vn p) H'
theorem ok_lPlace {f : Addr} {fd : FuncData} (F : Def K mg "_law_place" sLPlace f fd) (b : Binds K fd ["_law_call", "_law_cells"] []) (T : Txt mg) (B : BfT P w K mg base C) : Cal P w K mg base 66 "_law_place" (spLPlace P w K mg base C) [] := by
  refine cal0 F b .nil scLPlace (fun vs H Q E h => ?_) (fun cdv A outer s H vs Q E hr h => ?_)
  · obtain ⟨g, a, cs, p, rfl, _⟩ := h
    rfl
  obtain ⟨g, a, cs, p, rfl, ⟨fdg, ps, Fg, kg, bg⟩, hC, hp, q⟩ := h
  refine ⟨_, pss_one (ps_try_as (i := 2) (tb := fun W => tSeq (tDrop (tCallLS 0 g (spErr K C) (WE W) (tCons (tVar 1) tNil))) (tRet (tC .non)))
      (ts := fun a cls d => tRet (tByPl C a cls d (tVar 2))) (Wout := fun _ _ _ _ => False) rfl rfl scLPlace.nd rfl rfl ⟨rfl, by decide, Or.inl B.gC⟩ takes0
      (fun W pn xe tk _ => pss_cons (ps_expr (pe_callLS (i := 0) Fg hr rfl (.inl rfl) kg bg (fun σ => passAt tk σ) (pa_cons (pv 1) pa_nil))) (pss_one (ps_ret pe_non)))
      (fun a oe cls d pn hz hf => pss_one (ps_ret (pe_byPl B hz hf (pv 2))))), ?_⟩
  exact ⟨rfl, _, rfl, a, cs, p, rfl, hC, hp, fun d H' s1 hd => ⟨true, B.te, fun _ a0 _ => ⟨_, rfl, rfl, rfl, d, vn p, rfl, hd, q H' s1⟩, fun z => Bool.noConfusion z⟩⟩
end
end Bx

namespace Bx
theorem hsL_app : ∀ (l r : List Bo), hsL (l ++ r) = hsL l ++ hsL r
  | [], r => by
    rw [List.nil_append]
    rfl
  | b :: l, r => by
    rw [List.cons_append, hsL, hsL, hsL_app l r, List.append_assoc]
theorem rws_app (cs h1 h2 : List Nat) : rws cs (h1 ++ h2) = rws cs h1 ++ rws cs h2 := by
  unfold rws
  rw [List.filter_append, List.map_append]
theorem ens_app (cs h1 h2 : List Nat) : ens cs (h1 ++ h2) = ens cs h1 ++ ens cs h2 := by
  unfold ens
  rw [List.filter_append, List.map_append, List.flatten_append]
theorem fre_app (cs h1 h2 : List Nat) : fre cs (h1 ++ h2) = fre cs h1 + fre cs h2 := by
  unfold fre
  rw [List.filter_append, List.map_append, List.sum_append]
theorem rws_len (cs hs : List Nat) : (rws cs hs).length ≤ hs.length := by
  unfold rws
  rw [List.length_map]
  exact List.length_filter_le _ _
mutual
/-- what the law's walk tells of a box -/
def wa1 (cs : List Nat) : Bo → PyData
  | .bx _ p _ ks =>
    if cel cs p = 1 then .tuple [.str "group", .tuple (waL cs ks)]
    else if cel cs p = 2 then .tuple [.str "data", .tuple ((ctn cs p).map pn)]
    else if cel cs p = 3 then .tuple [.str "free", .int ((cel cs (p + 1) : Int) - 2)]
    else .tuple [.str "table", .tuple ((plc (row cs p)).map pn)]
def waL (cs : List Nat) : List Bo → List PyData
  | [] => []
  | b :: r => wa1 cs b :: waL cs r
end
theorem waL_map (cs : List Nat) : ∀ l, waL cs l = l.map (wa1 cs)
  | [] => rfl
  | b :: r => by rw [waL, List.map_cons, waL_map cs r]
/-- the notes -/
abbrev kD : Key := .inr "data"
abbrev kE : Key := .inr "entries"
abbrev kF : Key := .inr "free"
structure Nt (S : List Addr) (H : Hp) (N D : Addr) (rs : List (Nat × Nat)) (es : List Nat) (fr : Nat) : Prop where
  sT : ∀ s ∈ S, H s ≠ none
  nN : N ∉ S
  nD : D ∉ S
  ex : ∃ (L : Addr) (qs : List Addr), H N = some (.dK [(kD, .ref D), (kE, .ref L), (kF, vn fr)]) ∧ H D = some (.lst (qs.map .ref)) ∧ H L = some (.lst (es.map vn)) ∧ L ≠ D ∧ L ∉ S ∧ qs.length = rs.length ∧
    ∀ (i : Nat) (r : Nat × Nat), rs[i]? = some r → ∃ q, qs[i]? = some q ∧ H q = some (.lst ((plc r).map vn)) ∧ q ≠ D ∧ q ∉ S
section
variable {S : List Addr} {H H' : Hp} {N D F : Addr} {rs : List (Nat × Nat)} {es : List Nat} {fr : Nat}
theorem Nt.same (x : Nt S H N D rs es fr) (e : Same H H') : Nt S H' N D rs es fr := by
  obtain ⟨L, qs, h1, h2, h3, h4, h4', h5, h6⟩ := x.ex
  refine ⟨fun s hs z => ?_, x.nN, x.nD, L, qs, e _ _ h1, e _ _ h2, e _ _ h3, h4, h4', h5, fun i r hr => ?_⟩
  · have h := x.sT s hs
    cases w : H s with
    | none => exact h w
    | some o =>
      rw [e _ _ w] at z
      cases z
  · obtain ⟨q, a, b, c⟩ := h6 i r hr
    exact ⟨q, a, e _ _ b, c⟩
theorem Nt.ne (x : Nt S H N D rs es fr) : N ≠ D := by
  obtain ⟨L, qs, h1, h2, _⟩ := x.ex
  rintro rfl
  rw [h1] at h2
  cases h2
/-- a thing that the notes avoid may change -/
theorem Nt.upd (x : Nt S H N D rs es fr) (hF : F ∈ S) (o : HO) : Nt S (upd H F o) N D rs es fr := by
  obtain ⟨L, qs, h1, h2, h3, h4, h4', h5, h6⟩ := x.ex
  have ne : ∀ {b}, b ∉ S → b ≠ F := fun hb z => hb (z ▸ hF)
  refine ⟨fun s hs z => ?_, x.nN, x.nD, L, qs, by rw [upd_ne (ne x.nN)]; exact h1, by rw [upd_ne (ne x.nD)]; exact h2, by rw [upd_ne (ne h4')]; exact h3, h4, h4', h5, fun i r hr => ?_⟩
  · by_cases e : s = F
    · rw [e, upd_same] at z
      cases z
    · rw [upd_ne e] at z
      exact x.sT s hs z
  · obtain ⟨q, a, b, c, d⟩ := h6 i r hr
    exact ⟨q, a, by rw [upd_ne (ne d)]; exact b, c, d⟩
theorem Nt.add (x : Nt S H N D rs es fr) (hF : H F = none) (o : HO) : Nt (F :: S) (L2.upd H F o) N D rs es fr := by
  obtain ⟨L, qs, h1, h2, h3, h4, h4', h5, h6⟩ := x.ex
  have ni : ∀ {b u}, H b = some u → b ∉ S → b ∉ F :: S := fun hb hn z => by
    rcases List.mem_cons.mp z with z | z
    · exact ne_of_none hb hF z
    · exact hn z
  refine ⟨fun s hs z => ?_, ni h1 x.nN, ni h2 x.nD, L, qs, by rw [upd_ne (ne_of_none h1 hF)]; exact h1, by rw [upd_ne (ne_of_none h2 hF)]; exact h2, by rw [upd_ne (ne_of_none h3 hF)]; exact h3, h4, ni h3 h4', h5, fun i r hr => ?_⟩
  · by_cases e : s = F
    · rw [e, upd_same] at z
      cases z
    · rw [upd_ne e] at z
      rcases List.mem_cons.mp hs with q | q
      · exact e q
      · exact x.sT s q z
  · obtain ⟨q, a, b, c, d⟩ := h6 i r hr
    exact ⟨q, a, by rw [upd_ne (ne_of_none b hF)]; exact b, c, ni b d⟩
theorem Nt.drop (x : Nt (F :: S) H N D rs es fr) : Nt S H N D rs es fr := by
  obtain ⟨L, qs, h1, h2, h3, h4, h4', h5, h6⟩ := x.ex
  refine ⟨fun s hs => x.sT s (List.mem_cons_of_mem _ hs), fun z => x.nN (List.mem_cons_of_mem _ z), fun z => x.nD (List.mem_cons_of_mem _ z), L, qs, h1, h2, h3, h4, fun z => h4' (List.mem_cons_of_mem _ z), h5, fun i r hr => ?_⟩
  obtain ⟨q, a, b, c, d⟩ := h6 i r hr
  exact ⟨q, a, b, c, fun z => d (List.mem_cons_of_mem _ z)⟩
/-- what was new is none of them -/
theorem Nt.new (x : Nt S H N D rs es fr) (hq : H F = none) : F ∉ S ∧ F ≠ D ∧ F ≠ N := by
  obtain ⟨L, qs, h1, h2, _⟩ := x.ex
  exact ⟨fun z => x.sT F z hq, fun z => (by rw [z, h2] at hq; cases hq), fun z => (by rw [z, h1] at hq; cases hq)⟩
/-- data[].append(q) -/
theorem Nt.data (x : Nt S H N D rs es fr) {q : Addr} {r : Nat × Nat} (hq : H q = some (.lst ((plc r).map vn))) (nS : q ∉ S) (nD : q ≠ D) :
    ∃ ys, H D = some (.lst ys) ∧ ys.length = rs.length ∧ Nt S (L2.upd H D (.lst (ys ++ [.ref q]))) N D (rs ++ [r]) es fr := by
  have hne := x.ne
  obtain ⟨L, qs, h1, h2, h3, h4, h4', h5, h6⟩ := x.ex
  refine ⟨_, h2, by rw [List.length_map]; exact h5, fun s hs z => ?_, x.nN, x.nD, L, qs ++ [q], by rw [upd_ne hne]; exact h1, by rw [upd_same, List.map_append]; rfl, by rw [upd_ne h4]; exact h3, h4, h4', by rw [List.length_append, List.length_append, h5] <;> rfl, fun i r' hr => ?_⟩
  · by_cases e : s = D
    · exact x.nD (e ▸ hs)
    · rw [upd_ne e] at z
      exact x.sT s hs z
  · by_cases hi : i < rs.length
    · rw [List.getElem?_append_left hi] at hr
      obtain ⟨q', a, b, c, d⟩ := h6 i r' hr
      exact ⟨q', by rw [List.getElem?_append_left (by omega)]; exact a, by rw [upd_ne c]; exact b, c, d⟩
    · rw [List.getElem?_append_right (by omega)] at hr
      have hi0 : i - rs.length = 0 := by
        cases z : i - rs.length with
        | zero => rfl
        | succ k =>
          rw [z] at hr
          simp at hr
      rw [hi0] at hr
      cases hr
      refine ⟨q, ?_, by rw [upd_ne nD]; exact hq, nD, nS⟩
      rw [List.getElem?_append_right (by omega), h5, hi0]
      rfl
theorem put_E {a b c : V} (v : V) : putK [(kD, a), (kE, b), (kF, c)] kE v = [(kD, a), (kE, v), (kF, c)] := by
  first | rfl | simp [putK]
theorem put_F {a b c : V} (v : V) : putK [(kD, a), (kE, b), (kF, c)] kF v = [(kD, a), (kE, b), (kF, v)] := by
  first | rfl | simp [putK]
theorem val_D {a b c : V} : valV [(kD, a), (kE, b), (kF, c)] kD = some a := by
  first | rfl | simp [valV]
theorem val_E {a b c : V} : valV [(kD, a), (kE, b), (kF, c)] kE = some b := by
  first | rfl | simp [valV]
theorem val_F {a b c : V} : valV [(kD, a), (kE, b), (kF, c)] kF = some c := by
  first | rfl | simp [valV]
theorem Nt.gD (x : Nt S H N D rs es fr) : DGet H N (.str "data") (some (.ref D)) := by
  obtain ⟨L, qs, h1, _⟩ := x.ex
  have z := DGet.k (k := kD) h1
  rw [val_D] at z
  exact z
theorem Nt.gF (x : Nt S H N D rs es fr) : DGet H N (.str "free") (some (vn fr)) := by
  obtain ⟨L, qs, h1, _⟩ := x.ex
  have z := DGet.k (k := kF) h1
  rw [val_F] at z
  exact z
theorem Nt.gE (x : Nt S H N D rs es fr) : ∃ L, DGet H N (.str "entries") (some (.ref L)) ∧ H L = some (.lst (es.map vn)) := by
  obtain ⟨L, qs, h1, _, h3, _⟩ := x.ex
  have z := DGet.k (k := kE) h1
  rw [val_E] at z
  exact ⟨L, z, h3⟩
theorem Nt.gq (x : Nt S H N D rs es fr) : ∃ qs : List Addr, H D = some (.lst (qs.map .ref)) ∧ qs.length = rs.length ∧ ∀ (i : Nat) (r : Nat × Nat), rs[i]? = some r → ∃ q, qs[i]? = some q ∧ H q = some (.lst ((plc r).map vn)) := by
  obtain ⟨L, qs, h1, h2, h3, h4, h4', h5, h6⟩ := x.ex
  exact ⟨qs, h2, h5, fun i r hr => by
    obtain ⟨q, a, b, _⟩ := h6 i r hr
    exact ⟨q, a, b⟩⟩
/-- notes["free"] = v -/
theorem Nt.pF (x : Nt S H N D rs es fr) (v : Nat) : ∃ H', DPut H N (.str "free") (vn v) H' ∧ Nt S H' N D rs es v ∧ SameX [N, D] H H' ∧ TK (default : PySem.W.Frag) H H' := by
  have hne := x.ne
  obtain ⟨L, qs, h1, h2, h3, h4, h4', h5, h6⟩ := x.ex
  refine ⟨_, .inl ⟨_, kF, h1, rfl, small1000 (by show 3 ≤ 1000; decide), rfl⟩, ?_, SameX.put (SameX.refl _ _) (by simp), tk_dK h1⟩
  rw [put_F]
  refine ⟨fun s hs z => ?_, x.nN, x.nD, L, qs, upd_same, by rw [upd_ne hne.symm]; exact h2, ?_, h4, h4', h5, fun i r hr => ?_⟩
  · by_cases e : s = N
    · exact x.nN (e ▸ hs)
    · rw [upd_ne e] at z
      exact x.sT s hs z
  · rw [upd_ne (ne_of h3 h1 (fun z => nomatch z))]
    exact h3
  · obtain ⟨q, a, b, c, d⟩ := h6 i r hr
    exact ⟨q, a, by rw [upd_ne (ne_of b h1 (fun z => nomatch z))]; exact b, c, d⟩
/-- notes["entries"] = a new list -/
theorem Nt.pE (x : Nt S H N D rs es fr) {L' : Addr} {es' : List Nat} (hL : H L' = some (.lst (es'.map vn))) (nS : L' ∉ S) (nD : L' ≠ D) : ∃ H', DPut H N (.str "entries") (.ref L') H' ∧ Nt S H' N D rs es' fr ∧ SameX [N, D] H H' ∧ TK (default : PySem.W.Frag) H H' := by
  have hne := x.ne
  obtain ⟨L, qs, h1, h2, h3, h4, h4', h5, h6⟩ := x.ex
  refine ⟨_, .inl ⟨_, kE, h1, rfl, small1000 (by show 3 ≤ 1000; decide), rfl⟩, ?_, SameX.put (SameX.refl _ _) (by simp), tk_dK h1⟩
  rw [put_E]
  refine ⟨fun s hs z => ?_, x.nN, x.nD, L', qs, upd_same, by rw [upd_ne hne.symm]; exact h2, ?_, nD, nS, h5, fun i r hr => ?_⟩
  · by_cases e : s = N
    · exact x.nN (e ▸ hs)
    · rw [upd_ne e] at z
      exact x.sT s hs z
  · rw [upd_ne (ne_of hL h1 (fun z => nomatch z))]
    exact hL
  · obtain ⟨q, a, b, c, d⟩ := h6 i r hr
    exact ⟨q, a, by rw [upd_ne (ne_of b h1 (fun z => nomatch z))]; exact b, c, d⟩
end
end Bx

namespace Bx
theorem hsL_len : ∀ l : List Bo, l.length ≤ (hsL l).length
  | [] => Nat.zero_le _
  | .bx k p n ks :: r => by
    have := hsL_len r
    rw [hsL, hsB, List.length_cons, List.length_append, List.length_cons]
    omega
theorem ens_len {cs : List Nat} {a e : Nat} {hs : List Nat} (x : Pth cs a e hs) : a + (ens cs hs).length ≤ e := by
  induction x with
  | nil a => exact Nat.le_refl _
  | @cons a e hs h1 h2 h3 ih =>
    have e1 : ens cs (a :: hs) = ens cs [a] ++ ens cs hs := ens_app cs [a] hs
    have e2 : (ens cs [a]).length ≤ stp cs a := by
      unfold ens
      by_cases k : cel cs a = 4
      · have : isK cs 4 a = true := decide_eq_true k
        have es : stp cs a = cel cs (a + 1) := if_neg (by omega)
        rw [List.filter_cons_of_pos this, List.filter_nil, List.map_cons, List.map_nil, List.flatten_cons, List.flatten_nil, List.append_nil, plc_len, es]
        show cel cs (a + 1) - 2 ≤ _
        omega
      · have : ¬ isK cs 4 a = true := fun z => k (of_decide_eq_true z)
        rw [List.filter_cons_of_neg this]
        exact Nat.zero_le _
    rw [e1, List.length_append]
    omega
/-- what is found so far, and the rest -/
def jn (bs : List Bo) : Except Nat (List Bo) → Except Nat (List Bo)
  | .error q => .error q
  | .ok r => .ok (bs ++ r)
theorem jn_go (bs : List Bo) (b : Bo) (x : Except Nat (List Bo)) : jn bs (match x with
      | .error p => .error p
      | .ok r => .ok (b :: r)) = jn (bs ++ [b]) x := by
  cases x with
  | error p => rfl
  | ok r =>
    show Except.ok (bs ++ b :: r) = Except.ok (bs ++ [b] ++ r)
    rw [List.append_assoc]
    rfl
theorem hsL_snoc (bs : List Bo) (k p n : Nat) (ks : List Bo) : hsL (bs ++ [.bx k p n ks]) = hsL bs ++ (p :: hsL ks) := by
  rw [hsL_app, hsL, hsB, hsL, List.append_nil]
theorem waL_snoc (cs : List Nat) (bs : List Bo) (b : Bo) : waL cs (bs ++ [b]) = waL cs bs ++ [wa1 cs b] := by
  rw [waL_map, waL_map, List.map_append]
  rfl
section
variable {cs hs : List Nat} {p : Nat}
theorem rws_y (k : cel cs p = 2) : rws cs (p :: hs) = row cs p :: rws cs hs := by
  unfold rws
  rw [List.filter_cons_of_pos (show isK cs 2 p = true from decide_eq_true k), List.map_cons]
theorem rws_n (k : cel cs p ≠ 2) : rws cs (p :: hs) = rws cs hs := by
  unfold rws
  rw [List.filter_cons_of_neg (show ¬ isK cs 2 p = true from fun z => k (of_decide_eq_true z))]
theorem ens_y (k : cel cs p = 4) : ens cs (p :: hs) = plc (row cs p) ++ ens cs hs := by
  unfold ens
  rw [List.filter_cons_of_pos (show isK cs 4 p = true from decide_eq_true k), List.map_cons, List.flatten_cons]
theorem ens_n (k : cel cs p ≠ 4) : ens cs (p :: hs) = ens cs hs := by
  unfold ens
  rw [List.filter_cons_of_neg (show ¬ isK cs 4 p = true from fun z => k (of_decide_eq_true z))]
theorem fre_y (k : cel cs p = 3) : fre cs (p :: hs) = cel cs (p + 1) + fre cs hs := by
  unfold fre
  rw [List.filter_cons_of_pos (show isK cs 3 p = true from decide_eq_true k), List.map_cons, List.sum_cons]
theorem fre_n (k : cel cs p ≠ 3) : fre cs (p :: hs) = fre cs hs := by
  unfold fre
  rw [List.filter_cons_of_neg (show ¬ isK cs 3 p = true from fun z => k (of_decide_eq_true z))]
end
theorem rg_plc {cs : List Nat} {h : Nat} (h2 : 2 ≤ cel cs (h + 1)) : rgV ((h : Int) + 2) ((h : Int) + (cel cs (h + 1) : Int)) = (plc (row cs h)).map vn := by
  rw [show (h : Int) + 2 = ((h + 2 : Nat) : Int) by omega, show (h : Int) + (cel cs (h + 1) : Int) = ((h + cel cs (h + 1) : Nat) : Int) by omega, rg_nat]
  rw [show h + cel cs (h + 1) - (h + 2) = cel cs (h + 1) - 2 by omega]
  rfl
theorem jn_nil (x : Except Nat (List Bo)) : jn [] x = x := by cases x <;> rfl
section
variable {P : Program} {w : World} {K : PySem.W.Frag} {mg : Str → Option Value} {base : Heap}
def spLWalk (K : PySem.W.Frag) (n : Nat) : Sp := fun vs H Q _ => ∃ (a N D : Addr) (S : List Addr) (cs : List Nat) (p e dp f : Nat) (rs : List (Nat × Nat)) (es : List Nat) (fr : Nat), vs = [.ref a, .int p, .int e, .int dp, .ref N] ∧ Cells K H a cs ∧ a ∉ [N, D] ∧ p ≤ e ∧ e ≤ cs.length ∧ e - p < f ∧ f ≤ n ∧ dp ≤ 2 ∧
  Nt S H N D rs es fr ∧ rs.length ≤ p ∧ es.length ≤ p ∧
  (∀ q, prs f cs p e dp = .error q → ∀ H', SameX [N, D] H H' → Q (vn q) H') ∧
  (∀ bs, prs f cs p e dp = .ok bs → ∀ v H', SameX [N, D] H H' → Tp K H' v (.tuple (waL cs bs)) → Nt S H' N D (rs ++ rws cs (hsL bs)) (es ++ ens cs (hsL bs)) (fr + fre cs (hsL bs)) → Q v H')
theorem nt_in {S : List Addr} {H : Hp} {N D G : Addr} {rs : List (Nat × Nat)} {es : List Nat} {fr : Nat} (x : Nt (G :: S) H N D rs es fr) : G ∉ [N, D] := fun z => by
  rcases List.mem_cons.mp z with z | z
  · exact x.nN (by rw [← z]; exact List.mem_cons_self)
  · exact x.nD (by rw [← List.mem_singleton.mp z]; exact List.mem_cons_self)
theorem nt_tup {S : List Addr} {H : Hp} {N D : Addr} {rs : List (Nat × Nat)} {es : List Nat} {fr : Nat} (x : Nt S H N D rs es fr) : ∀ y ∈ [N, D], ∀ xs, H y ≠ some (.tup xs) := fun y hy xs z => by
  obtain ⟨L, qs, h1, h2, _⟩ := x.ex
  rcases List.mem_cons.mp hy with e | e
  · rw [e, h1] at z
    cases z
  · rw [List.mem_singleton.mp e, h2] at z
    cases z
def WWk (K : PySem.W.Frag) (a N D G : Addr) (S : List Addr) (cs : List Nat) (p e dp f n : Nat) (rs : List (Nat × Nat)) (es : List Nat) (fr : Nat) (H : Hp) : Nat → L2.St → Hp → Prop := fun m σ H' => ∃ (p' f' : Nat) (bs0 : List Bo) (fs : List V) (v6 v7 v8 v9 : Option V), m = f' ∧ σ = [some (.ref a), some (.int p'), some (.int e), some (.int dp), some (.ref N), some (.ref G), v6, v7, v8, v9, none] ∧ SameX [N, D] H H' ∧
      H' G = some (.lst fs) ∧ TpAll K H' fs (waL cs bs0) ∧ Nt (G :: S) H' N D (rs ++ rws cs (hsL bs0)) (es ++ ens cs (hsL bs0)) (fr + fre cs (hsL bs0)) ∧ Pth cs p p' (hsL bs0) ∧ p' ≤ e ∧ e - p' < f' ∧ f' ≤ n + 1 ∧ prs f cs p e dp = jn bs0 (prs f' cs p' e dp)
theorem ok_lWalk {f : Addr} {fd : FuncData} (F : Def K mg "_law_walk" sLWalk f fd) (b : Binds K fd ["_law_cells", "_law_begin", "_law_end", "_law_depth", "_law_notes"] []) (T : Txt mg) :
    ∀ n : Nat, Cal P w K mg base (n + 1) "_law_walk" (spLWalk K n) []
  | 0 => by
    refine cal0 F b .nil scLWalk (fun vs H Q E h => ?_) (fun cdv A outer s H vs Q E hr h => ?_)
    · obtain ⟨a, N, D, S, cs, p, e, dp, f, rs, es, fr, rfl, _⟩ := h
      rfl
    · obtain ⟨a, N, D, S, cs, p, e, dp, f, rs, es, fr, rfl, _, _, _, _, h1, h2, _⟩ := h
      omega
  | n + 1 => by
    have C_lWalk := ok_lWalk F b T n
    refine cal0 F b .nil scLWalk (fun vs H Q E h => ?_) (fun cdv A outer s H vs Q E hr h => ?_)
    · obtain ⟨a, N, D, S, cs, p, e, dp, f, rs, es, fr, rfl, _⟩ := h
      rfl
    obtain ⟨a, N, D, S, cs, p, e, dp, f, rs, es, fr, rfl, hC, haN, hpe, he, hf, hn, hdp, hNt, hrs, hes, qE, qO⟩ := h
    refine ⟨_, (pss_cons (ps_set (i := 5) scLWalk.nd rfl (Or.inl rfl) (pe_lst pa_nil))
    (pss_cons (ps_while PassesOwn.never (pt_cmpR op_lt (pv 1) (pv 2) (nomark _)) 
      (pss_cons (ps_set (i := 6) scLWalk.nd rfl (Or.inl rfl) (pe_ix ix_seq (pv 0) (pv 1) (fun _ _ => rfl)))
      (pss_cons (ps_if (PW.pt (pw_or (pt_cmpR op_lt (pe_op op_sub (pv 2) (pv 1)) pe_int (nomark _)) (pw_or (pt_not (pt_chain op_le op_le pe_int (pv 6) pe_int)) (pw_or1 (PW.pt (pw_and (pt_cmpR op_eq (pv 6) pe_int (nomark _)) (pw_and1 (pt_cmpR op_eq (pv 3) pe_int (nomark _))))))))) 
        (pss_one (ps_ret (pv 1))) pss_nil)
      (pss_cons (ps_set (i := 7) scLWalk.nd rfl (Or.inl rfl) (pe_ix ix_seq (pv 0) (pe_op op_add (pv 1) pe_int) (fun _ _ => rfl)))
      (pss_cons (ps_if (PW.pt (pw_or (pt_cmpR op_lt (pv 7) pe_int (nomark _)) (pw_or1 (pt_cmpR op_gt (pe_op op_add (pv 1) (pv 7)) (pv 2) (nomark _))))) 
        (pss_one (ps_ret (pe_op op_add (pv 1) pe_int))) pss_nil)
      (pss_cons (ps_set (i := 8) scLWalk.nd rfl (Or.inl rfl) (pe_listRg rfl (by rfl) T.list (prg_2 (by rfl) T.range (pe_op op_add (pv 1) pe_int) (pe_op op_add (pv 1) (pv 7)))))
      (pss_cons (ps_if (pt_cmpR op_eq (pv 6) pe_int (nomark _)) 
        (pss_cons (ps_set (i := 9) scLWalk.nd rfl (Or.inl rfl) (pe_c C_lWalk hr (by omega) rfl (pa_cons (pv 0) (pa_cons (pe_op op_add (pv 1) pe_int) (pa_cons (pe_op op_add (pv 1) (pv 7)) (pa_cons (pe_op op_add (pv 3) pe_int) (pa_cons (pv 4) pa_nil)))))))
        (pss_cons (ps_if (pt_val (pe_callB call_isi (by rfl) T.isinstance b_isinstance (pa_cons (pv 9) (pa_cons (pe_bltn (v := .ty "int") (by rfl) T.int b_int rfl) pa_nil)))) 
          (pss_one (ps_ret (pv 9))) pss_nil)
        (pss_one (ps_expr (pe_bm PySem.F.plainAttrs_list PySem.F.slot_list_append PySem.F.type_list_append mt_append (pv 5) (pa_cons (pe_tup (pa_cons pe_str (pa_cons (pv 9) pa_nil))) pa_nil)))))) 
        (pss_one (ps_if (pt_cmpR op_eq (pv 6) pe_int (nomark _)) 
          (pss_cons (ps_expr (pe_bm PySem.F.plainAttrs_list PySem.F.slot_list_append PySem.F.type_list_append mt_append (pe_dget (hu_of hr) (pv 4) pe_str (fun _ _ => rfl)) (pa_cons (pv 8) pa_nil)))
          (pss_one (ps_expr (pe_bm PySem.F.plainAttrs_list PySem.F.slot_list_append PySem.F.type_list_append mt_append (pv 5) (pa_cons (pe_tup (pa_cons pe_str (pa_cons (pe_callTy call_tuple_of (by rfl) T.tuple b_tuple (pa_cons (pe_lc (own := [("_law_place_here", 10)]) rfl scLWalk.nd (pi_list (pv 8)) (blkOk_by (own := [("_law_place_here", 10)]) (N := NLWalk) (sc := (fnScope sLWalk)) (by decide +kernel)) (fun _ _ _ _ _ => (pg_name (i := 10) scLWalk.nd rfl (.inl rfl))) (fun _ _ _ _ _ => pts_nil) (fun _ _ _ _ _ => (pe_ix (seq_k (K := K) rfl) (pv 0) (pv 10) (fun _ _ => rfl)))) pa_nil)) pa_nil))) pa_nil))))) 
          (pss_one (ps_if (pt_cmpR op_eq (pv 6) pe_int (nomark _)) 
            (pss_cons (ps_dput (hu_of hr) (pv 4) pe_str (pe_op op_add (pe_dget (hu_of hr) (pv 4) pe_str (fun _ _ => rfl)) (pv 7)) rfl)
            (pss_one (ps_expr (pe_bm PySem.F.plainAttrs_list PySem.F.slot_list_append PySem.F.type_list_append mt_append (pv 5) (pa_cons (pe_tup (pa_cons pe_str (pa_cons (pe_op op_sub (pv 7) pe_int) pa_nil))) pa_nil))))) 
            (pss_cons (ps_dput (hu_of hr) (pv 4) pe_str (pe_op op_cat (pe_dget (hu_of hr) (pv 4) pe_str (fun _ _ => rfl)) (pv 8)) rfl)
            (pss_one (ps_expr (pe_bm PySem.F.plainAttrs_list PySem.F.slot_list_append PySem.F.type_list_append mt_append (pv 5) (pa_cons (pe_tup (pa_cons pe_str (pa_cons (pe_callTy call_tuple_of (by rfl) T.tuple b_tuple (pa_cons (pv 8) pa_nil)) pa_nil))) pa_nil))))))))))
      (pss_one (ps_set (i := 1) scLWalk.nd rfl (Or.inl rfl) (pe_op op_add (pv 1) (pv 7)))))))))))
    (pss_one (ps_ret (pe_callTy call_tuple_of (by rfl) T.tuple b_tuple (pa_cons (pv 5) pa_nil)))))), ?_⟩
    walk_at "rd"
    refine ⟨(by decide), fun G hG => ?_⟩
    walk_at "rd"
    have hG2 := hNt.new hG
    have h30 := hC.len
    refine while_w (WWk K a N D G S cs p e dp f n rs es fr H)
      f ⟨p, f, [], [], none, none, none, none, rfl, rfl, SameX.putNew (SameX.refl _ _) hG, upd_same, .nil, ?_, .nil _, hpe, hf, hn, (jn_nil _).symm⟩ ?_ mono_lt
    · have := hNt.add hG (.lst [])
      rw [show rs ++ rws cs (hsL []) = rs from List.append_nil _, show es ++ ens cs (hsL []) = es from List.append_nil _]
      exact this
    rintro m σ H' ⟨p', f', bs0, fs, v6, v7, v8, v9, rfl, rfl, g1, g2, g3, g4, g5, g6, g7, g8, g9⟩
    obtain ⟨f', rfl⟩ : ∃ g, m = g + 1 := ⟨m - 1, by omega⟩
    have hC' := hC.samex g1 haN
    walk_at "rd"
    refine g_ite (fun h1 => ?_) (fun h1 => ?_)
    · have h1' : p' < e := by omega
      walk_at "rd"
      refine hC'.ix p' rfl (by omega) ?_
      walk_at "rd"
      have qE' : ∀ q, hd cs p' e dp = some q → ∀ H2, SameX [N, D] H' H2 → Q (vn q) H2 := fun q z H2 s2 => qE q (by rw [g9, prs_bad h1' z]; rfl) H2 (g1.trans s2)
      have b1 : (e - p' = 1 ∨ ¬ (1 ≤ cel cs p' ∧ cel cs p' ≤ 4)) → Q (vn p') H' := fun z => qE' p' (by unfold hd; rw [if_pos z]) H' (SameX.refl _ _)
      refine g_ite (fun h2 => ?_) (fun h2 => ?_)
      · walk_at "rd"
        exact b1 (.inl (by omega))
      walk_at "rd"
      refine g_ite (fun h3 => ?_) (fun h3 => ?_)
      rotate_left
      · walk_at "rd"
        exact b1 (.inr (by omega))
      walk_at "rd"
      refine g_iteN (fun h4 => ?_) (fun h4 => ?_)
      · walk_at "rd"
        exact b1 (.inr (by omega))
      have i1 : ¬ (e - p' = 1 ∨ ¬ (1 ≤ cel cs p' ∧ cel cs p' ≤ 4)) := by omega
      have b2 : (cel cs p' = 1 ∧ 1 < dp) → Q (vn p') H' := fun z => qE' p' (by unfold hd; rw [if_neg i1, if_pos z]) H' (SameX.refl _ _)
      have b3 : ¬ (cel cs p' = 1 ∧ 1 < dp) → ¬ (2 ≤ cel cs (p' + 1) ∧ cel cs (p' + 1) ≤ e - p') → Q (vn (p' + 1)) H' := fun y z => qE' (p' + 1) (by unfold hd; rw [if_neg i1, if_neg y, if_pos z]) H' (SameX.refl _ _)
      have lr := rws_len cs (hsL bs0)
      have l5 := g5.len
      have l6 := ens_len g5
      have l7 := hsL_len bs0
      have l8 : fs.length = bs0.length := by rw [g3.length, waL_map, List.length_map]
      have nxt : ∀ (ks : List Bo) (v6 v7 v8 v9 : Option V) (H3 : Hp) (fs' : List V), hd cs p' e dp = none → (if cel cs p' = 1 then prs f' cs (p' + 2) (p' + cel cs (p' + 1)) (dp + 1) else .ok []) = .ok ks → SameX [N, D] H H3 → H3 G = some (.lst fs') →
          TpAll K H3 fs' (waL cs bs0 ++ [wa1 cs (.bx (cel cs p') p' (cel cs (p' + 1)) ks)]) → Nt (G :: S) H3 N D (rs ++ rws cs (hsL bs0 ++ (p' :: hsL ks))) (es ++ ens cs (hsL bs0 ++ (p' :: hsL ks))) (fr + fre cs (hsL bs0 ++ (p' :: hsL ks))) →
          ∃ m', m' < f' + 1 ∧ WWk K a N D G S cs p e dp f n rs es fr H m' [some (.ref a), some (.int ((p' : Int) + (cel cs (p' + 1) : Int))), some (.int e), some (.int dp), some (.ref N), some (.ref G), v6, v7, v8, v9, none] H3 := fun ks v6 v7 v8 v9 H3 fs' hdn i k1 k2 k3 k4 => by
        obtain ⟨z1, z2, z3, z4, z5, z6⟩ := hd_none hdn
        refine ⟨f', by omega, p' + cel cs (p' + 1), f', bs0 ++ [.bx (cel cs p') p' (cel cs (p' + 1)) ks], fs', v6, v7, v8, v9, rfl, rfl, k1, k2, ?_, ?_, ?_, by omega, by omega, by omega, ?_⟩
        · rw [waL_snoc]
          exact k3
        · rw [hsL_snoc]
          exact k4
        · rw [hsL_snoc]
          refine g5.append ?_
          by_cases g : cel cs p' = 1
          · rw [if_pos g] at i
            have es : stp cs p' = 2 := if_pos g
            refine .cons (by omega) (by omega) ?_
            rw [es]
            exact prs_pth f' cs _ _ _ ks i (by omega) (by omega) (by omega)
          · rw [if_neg g] at i
            cases i
            have es : stp cs p' = cel cs (p' + 1) := if_neg g
            refine .cons (by omega) (by omega) ?_
            rw [es]
            exact .nil _
        · rw [g9, prs_go h1' hdn i]
          cases prs f' cs (p' + cel cs (p' + 1)) e dp with
          | error z => rfl
          | ok r => exact jn_go bs0 _ (.ok r)
      by_cases hk : cel cs p' = 1
      · walk_at "rd"
        refine g_dT (by rw [hk]; rfl) ?_
        walk_at "rd"
        refine g_ite (fun h5 => ?_) (fun h5 => ?_)
        · have := V.int.inj h5
          walk_at "rd"
          exact b2 ⟨hk, by omega⟩
        have h5' : ¬ dp = 2 := fun z => h5 (by rw [z]; rfl)
        have i2 : ¬ (cel cs p' = 1 ∧ 1 < dp) := by omega
        walk_at "rd"
        refine hC'.ix (p' + 1) (by omega) (by omega) ?_
        walk_at "rd"
        refine g_ite (fun h6 => ?_) (fun h6 => ?_)
        · walk_at "rd"
          exact b3 i2 (by omega)
        walk_at "rd"
        refine g_ite (fun h7 => ?_) (fun h7 => ?_)
        · walk_at "rd"
          exact b3 i2 (by omega)
        walk_at "rd"
        have hdn : hd cs p' e dp = none := by
          unfold hd
          rw [if_neg i1, if_neg i2, if_neg (by omega)]
        refine ⟨_, _, rfl, rfl, .of_le (by omega) (by omega) (by omega) (by omega), fun I hI => ?_⟩
        have sI := same_new hI (.lst (rgV ((p' : Int) + 2) ((p' : Int) + (cel cs (p' + 1) : Int))))
        walk_at "rd"
        refine g_dT (by rw [hk]; rfl) ?_
        walk_at "rd"
        refine ⟨a, N, D, G :: S, cs, p' + 2, p' + cel cs (p' + 1), dp + 1, f', _, _, _, rfl, hC'.same sI, haN, by omega, by omega, by omega, by omega, by omega, g4.same sI, by rw [List.length_append]; omega, by rw [List.length_append]; omega, fun q2 hq2 H2 s2 => ?_, fun ks hks v H2 s2 hv nt2 => ?_⟩
        · walk_at "rd"
          exact qE q2 (by rw [g9, prs_in h1' hdn hk hq2]; rfl) H2 (g1.trans ((SameX.of sI).trans s2))
        · obtain ⟨t, xs, rfl, hT, hX⟩ := Tp.tup_inv hv
          walk_at "rd"
          refine isi_ti hT ?_
          walk_at "rd"
          have sA : SameX [N, D] H H2 := g1.trans ((SameX.of sI).trans s2)
          have tA : TK K H' H2 := TK.trans (Same.tk sI) (SameX.tk s2 (nt_tup (g4.same sI)))
          have gA : H2 G = some (.lst fs) := s2 _ _ (nt_in g4) (sI _ _ g2)
          refine ⟨ty_l (SqL.of gA), ?_⟩
          walk_at "rd"
          refine ⟨(by show 2 ≤ sizeLine; decide), fun u hu => ?_⟩
          have sU := same_new hu (.tup [V.str "group", V.ref t])
          walk_at "rd"
          refine g_app (sU _ _ gA) (by omega) ?_
          walk_at "rd"
          have gU : ∀ b, b = G → (upd H2 u (.tup [V.str "group", V.ref t])) b = some (.lst fs) := fun b z => by rw [z]; exact sU _ _ gA
          have tU : TK K H2 (upd (upd H2 u (.tup [V.str "group", V.ref t])) G (.lst (fs ++ [.ref u]))) := TK.trans (Same.tk sU) (tk_lst (sU _ _ gA))
          refine nxt ks _ _ _ _ _ _ hdn (by rw [if_pos hk]; exact hks) (SameX.putNew (sA.trans (SameX.of sU)) hG) upd_same ((TpAll.mono (TK.trans tA tU) _ _ g3).snoc ?_) ?_
          · rw [wa1, if_pos hk]
            exact .pair (by rw [upd_ne (ne_of_none gA hu).symm, upd_same]) (Tp.mono tU _ _ hv)
          · have nt3 := (nt2.same sU).upd (F := G) List.mem_cons_self (.lst (fs ++ [.ref u]))
            rw [rws_app, rws_n (by omega), ens_app, ens_n (by omega), fre_app, fre_n (by omega), ← List.append_assoc, ← List.append_assoc, ← Nat.add_assoc]
            exact nt3
      · have put : ∀ (H5 : Hp) (u : Addr) (v6 v7 v8 v9 : Option V), hd cs p' e dp = none → SameX [N, D] H' H5 → H5 G = some (.lst fs) → Tp K H5 (.ref u) (wa1 cs (.bx (cel cs p') p' (cel cs (p' + 1)) [])) →
            Nt (G :: S) H5 N D (rs ++ rws cs (hsL bs0 ++ (p' :: hsL []))) (es ++ ens cs (hsL bs0 ++ (p' :: hsL []))) (fr + fre cs (hsL bs0 ++ (p' :: hsL []))) →
            ∃ m', m' < f' + 1 ∧ WWk K a N D G S cs p e dp f n rs es fr H m' [some (.ref a), some (.int ((p' : Int) + (cel cs (p' + 1) : Int))), some (.int e), some (.int dp), some (.ref N), some (.ref G), v6, v7, v8, v9, none] (upd H5 G (.lst (fs ++ [.ref u]))) :=
          fun H5 u v6 v7 v8 v9 hdn k1 k2 k3 k4 => nxt [] v6 v7 v8 v9 _ _ hdn (if_neg hk) (SameX.putNew (g1.trans k1) hG) upd_same ((TpAll.mono (TK.trans (SameX.tk k1 (nt_tup g4)) (tk_lst k2)) _ _ g3).snoc (Tp.mono (K := K) (tk_lst k2) _ _ k3)) (k4.upd (F := G) List.mem_cons_self _)
        walk_at "rd"
        refine g_dF (fun z => hk (by have := V.int.inj z; omega)) ?_
        have i2 : ¬ (cel cs p' = 1 ∧ 1 < dp) := by omega
        walk_at "rd"
        refine hC'.ix (p' + 1) (by omega) (by omega) ?_
        walk_at "rd"
        refine g_ite (fun h6 => ?_) (fun h6 => ?_)
        · walk_at "rd"
          exact b3 i2 (by omega)
        walk_at "rd"
        refine g_ite (fun h7 => ?_) (fun h7 => ?_)
        · walk_at "rd"
          exact b3 i2 (by omega)
        walk_at "rd"
        have hdn : hd cs p' e dp = none := by
          unfold hd
          rw [if_neg i1, if_neg i2, if_neg (by omega)]
        refine ⟨_, _, rfl, rfl, .of_le (by omega) (by omega) (by omega) (by omega), fun I hI => ?_⟩
        rw [rg_plc (by omega)]
        have sI := same_new hI (.lst ((plc (row cs p')).map vn))
        have ntI := g4.same sI
        have gI := sI _ _ g2
        walk_at "rd"
        refine g_dF (fun z => hk (by have := V.int.inj z; omega)) ?_
        walk_at "rd"
        refine g_ite (fun h8 => ?_) (fun h8 => ?_)
        · have k2 : cel cs p' = 2 := by
            have := V.int.inj h8
            omega
          walk_at "rd"
          have nI := g4.new hI
          obtain ⟨ys, gd1, gd2, gd3⟩ := ntI.data (q := I) (r := row cs p') upd_same nI.1 nI.2.1
          refine ⟨N, _, rfl, ntI.gD, ty_l (SqL.of gd1), ?_⟩
          walk_at "rd"
          refine g_app gd1 (by rw [gd2, List.length_append]; omega) ?_
          have sX : SameX [N, D] H' (upd (upd H' I (.lst ((plc (row cs p')).map vn))) D (.lst (ys ++ [.ref I]))) := (SameX.of sI).put (by simp)
          have gX : (upd (upd H' I (.lst ((plc (row cs p')).map vn))) D (.lst (ys ++ [.ref I]))) G = some (.lst fs) := sX _ _ (nt_in g4) g2
          have iX : (upd (upd H' I (.lst ((plc (row cs p')).map vn))) D (.lst (ys ++ [.ref I]))) I = some (.lst ((plc (row cs p')).map vn)) := by rw [upd_ne nI.2.1, upd_same]
          have tX := SameX.tk (K := K) sX (nt_tup g4)
          revert gd3 sX gX iX tX
          generalize upd (upd H' I (.lst ((plc (row cs p')).map vn))) D (.lst (ys ++ [.ref I])) = H2
          intro gd3 sX gX iX tX
          have hC2 := hC'.samex sX haN
          walk_at "rd"
          refine ⟨ty_l (SqL.of gX), ?_⟩
          walk_at "rd"
          refine ⟨I, rfl, ⟨_, SqL.of iX⟩, fun J hJ => ?_⟩
          have lc : (ctn cs p').length ≤ 100 := by
            unfold ctn
            rw [List.length_map, plc_len]
            show cel cs (p' + 1) - 2 ≤ 100
            omega
          refine lc_it walk_list (fun i H' => Same H2 H' ∧ H' J = some (.lst (((ctn cs p').take i).map vn))) ⟨same_new hJ _, upd_same⟩ (fun i H' _ z => z.1.seq (SqL.of iX)) ?_ ?_
          · rintro i x H3 H4 hi ⟨u1, u2⟩ ⟨rfl, hx⟩
            obtain ⟨c, hc, rfl⟩ := vn_get hx
            have hcm := plc_mem (List.mem_of_getElem? hc)
            have r1 : (row cs p').1 = p' + 2 := rfl
            have r2 : (row cs p').2 = cel cs (p' + 1) - 2 := rfl
            walk_at "rd"
            refine ⟨rfl, ?_⟩
            walk_at "rd"
            refine (hC2.same u1).ix c rfl (by omega) ?_
            refine ⟨_, u2, small1000 (by rw [List.length_map, List.length_take]; omega), Same.putNew u1 hJ, ?_⟩
            rw [upd_same, List.take_add_one]
            unfold ctn
            rw [List.getElem?_map, hc, List.map_append]
            rfl
          · rintro H3 ⟨u1, u2⟩
            rw [List.length_map, List.take_of_length_le (by unfold ctn; rw [List.length_map]; exact Nat.le_refl _)] at u2
            walk_at "rd"
            refine ⟨J, _, rfl, .inl ⟨SqL.of u2, fun l hl => ?_⟩⟩
            have sl := same_new hl (.tup ((ctn cs p').map vn))
            refine ⟨(by show 2 ≤ sizeLine; decide), fun u hu => ?_⟩
            have su := same_new hu (.tup [V.str "data", V.ref l])
            have sE := (u1.trans sl).trans su
            walk_at "rd"
            refine g_app (sE _ _ gX) (by omega) ?_
            walk_at "rd"
            refine put _ u _ _ _ _ hdn (sX.trans (SameX.of sE)) (sE _ _ gX) ?_ ?_
            · rw [wa1, if_neg hk, if_pos k2]
              exact .pair upd_same (.tup (su _ _ upd_same) (TpAll.ints _))
            · rw [rws_app, rws_y k2, ens_app, ens_n (by omega), fre_app, fre_n (by omega)]
              have z := gd3.same sE
              rw [List.append_assoc] at z
              rw [show ens cs (hsL []) = [] from rfl, List.append_nil]
              exact z
        have k2 : cel cs p' ≠ 2 := fun z => h8 (by rw [z]; rfl)
        walk_at "rd"
        refine g_ite (fun h9 => ?_) (fun h9 => ?_)
        · have k3 : cel cs p' = 3 := by
            have := V.int.inj h9
            omega
          obtain ⟨H2, dp2, nt2, sX0, _⟩ := ntI.pF (fr + fre cs (hsL bs0) + cel cs (p' + 1))
          have sX := (SameX.of (S := [N, D]) sI).trans sX0
          have gX := sX _ _ (nt_in g4) g2
          walk_at "rd"
          refine ⟨N, _, rfl, ntI.gF, ?_⟩
          walk_at "rd"
          refine ⟨N, H2, rfl, dp2, ?_⟩
          walk_at "rd"
          refine ⟨ty_l (SqL.of gX), ?_⟩
          walk_at "rd"
          refine ⟨(by show 2 ≤ sizeLine; decide), fun u hu => ?_⟩
          have su := same_new hu (.tup [V.str "free", V.int ((cel cs (p' + 1) : Int) - 2)])
          walk_at "rd"
          refine g_app (su _ _ gX) (by omega) ?_
          walk_at "rd"
          refine put _ u _ _ _ _ hdn (sX.trans (SameX.of su)) (su _ _ gX) ?_ ?_
          · rw [wa1, if_neg hk, if_neg k2, if_pos k3]
            exact .pair upd_same (.int _)
          · rw [rws_app, rws_n (by omega), ens_app, ens_n (by omega), fre_app, fre_y k3]
            have z := nt2.same su
            rw [show ens cs (hsL []) = [] from rfl, show rws cs (hsL []) = [] from rfl, show fre cs (hsL []) = 0 from rfl, List.append_nil, List.append_nil, Nat.add_zero, ← Nat.add_assoc]
            exact z
        have k3 : cel cs p' ≠ 3 := fun z => h9 (by rw [z]; rfl)
        have k4 : cel cs p' = 4 := by omega
        walk_at "rd"
        obtain ⟨L, gl1, gl2⟩ := ntI.gE
        refine ⟨N, _, rfl, gl1, ?_⟩
        walk_at "rd"
        refine ⟨L, I, _, (plc (row cs p')).map vn, rfl, rfl, gl2, upd_same, small (by rw [List.length_map, List.length_map, List.length_append, plc_len]; show _ + (cel cs (p' + 1) - 2) ≤ 1000; omega), fun M hM => ?_⟩
        rw [← List.map_append]
        have sM := same_new hM (.lst (((es ++ ens cs (hsL bs0)) ++ plc (row cs p')).map vn))
        have nM := ntI.new hM
        obtain ⟨H2, dp2, nt2, sX0, _⟩ := (ntI.same sM).pE (L' := M) upd_same nM.1 nM.2.1
        have sX1 := (SameX.of (S := [N, D]) sM).trans sX0
        have sX := (SameX.of (S := [N, D]) sI).trans sX1
        have gX := sX _ _ (nt_in g4) g2
        have nI := g4.new hI
        have iX := sX1 I _ (fun z => by
          rcases List.mem_cons.mp z with z | z
          · exact nI.2.2 z
          · exact nI.2.1 (List.mem_singleton.mp z)) (L2.upd_same (H := H') (o := .lst ((plc (row cs p')).map vn)))
        walk_at "rd"
        refine ⟨N, H2, rfl, dp2, ?_⟩
        walk_at "rd"
        refine ⟨ty_l (SqL.of gX), ?_⟩
        walk_at "rd"
        refine ⟨I, _, rfl, .inl ⟨SqL.of iX, fun l hl => ?_⟩⟩
        have sl := same_new hl (.tup ((plc (row cs p')).map vn))
        refine ⟨(by show 2 ≤ sizeLine; decide), fun u hu => ?_⟩
        have su := same_new hu (.tup [V.str "table", V.ref l])
        have sE := sl.trans su
        walk_at "rd"
        refine g_app (sE _ _ gX) (by omega) ?_
        walk_at "rd"
        refine put _ u _ _ _ _ hdn (sX.trans (SameX.of sE)) (sE _ _ gX) ?_ ?_
        · rw [wa1, if_neg hk, if_neg k2, if_neg k3]
          exact .pair upd_same (.tup (su _ _ upd_same) (TpAll.ints _))
        · rw [rws_app, rws_n (by omega), ens_app, ens_y k4, fre_app, fre_n (by omega)]
          have z := nt2.same sE
          rw [show ens cs (hsL []) = [] from rfl, show rws cs (hsL []) = [] from rfl, show fre cs (hsL []) = 0 from rfl, List.append_nil, List.append_nil, Nat.add_zero, ← List.append_assoc]
          exact z
    · walk_at "rd"
      obtain rfl : p' = e := by omega
      refine ⟨G, fs, rfl, .inl ⟨SqL.of g2, fun u hu => ?_⟩⟩
      have s2 := same_new hu (.tup fs)
      exact qO bs0 (by rw [g9, prs_stop (by omega)]; exact congrArg Except.ok (List.append_nil _)) _ _ (g1.trans (SameX.of s2)) (.tup upd_same (g3.same s2)) (g4.same s2).drop
end
end Bx

namespace Bx
theorem mu_of {k : Nat} {A : Around} (r : Room k A) : A.units + 65 < cLine := by
  have := r.un
  omega
theorem daL_snocF (fr : Bool) (cs : List Nat) (rs : List (Nat × Nat)) : ∀ (l : List Bo) (b : Bo), daL fr cs rs (l ++ [b]) = daL fr cs rs l ++ (if fr = false ∧ isF cs b = true then [] else [da1 fr cs rs b])
  | [], b => by
    rw [List.nil_append, daL, daL]
    by_cases h : fr = false ∧ isF cs b = true
    · rw [if_pos h, if_pos h]
      rfl
    · rw [if_neg h, if_neg h]
      rfl
  | c :: r, b => by
    rw [List.cons_append, daL, daL, daL_snocF fr cs rs r b]
    by_cases h : fr = false ∧ isF cs c = true
    · rw [if_pos h, if_pos h]
    · rw [if_neg h, if_neg h]
      rfl
theorem waL_get (cs : List Nat) (l : List Bo) (i : Nat) : (waL cs l)[i]? = (l[i]?).map (wa1 cs) := by
  rw [waL_map, List.getElem?_map]
def Fit (cs hs : List Nat) : Prop := ∀ p ∈ hs, 1 ≤ cel cs p ∧ cel cs p ≤ 4 ∧ 2 ≤ cel cs (p + 1) ∧ p + cel cs (p + 1) ≤ cs.length
theorem prs_fit : ∀ (f : Nat) (cs : List Nat) (a e dp : Nat) (bs : List Bo), prs f cs a e dp = .ok bs → e ≤ cs.length → Fit cs (hsL bs)
  | 0, _, _, _, _, _, h, _ => by
    rw [prs] at h
    cases h
    intro p hp
    cases hp
  | f + 1, cs, a, e, dp, bs, h, he => by
    rcases prs_ok h with ⟨_, rfl⟩ | ⟨hl, q, ks, r, i, j, rfl⟩
    · intro p hp
      cases hp
    · obtain ⟨z1, z2, z3, z4, z5, z6⟩ := hd_none q
      have hr := prs_fit f _ _ _ _ _ j he
      intro p hp
      rw [hsL, hsB] at hp
      rcases List.mem_append.mp hp with hp | hp
      · rcases List.mem_cons.mp hp with rfl | hp
        · exact ⟨z2, z3, z5, by omega⟩
        · by_cases g : cel cs a = 1
          · rw [if_pos g] at i
            exact prs_fit f _ _ _ _ _ i (by omega) p hp
          · rw [if_neg g] at i
            cases i
            cases hp
      · exact hr p hp
theorem hsL_mem : ∀ (bs : List Bo) (b : Bo), b ∈ bs → ∀ p ∈ hsB b, p ∈ hsL bs
  | c :: r, b, h, p, hp => by
    rw [hsL]
    rcases List.mem_cons.mp h with h | h
    · subst h
      exact List.mem_append_left _ hp
    · exact List.mem_append_right _ (hsL_mem r b h p hp)
/-! ### rows as data -/
def rowD (r : Nat × Nat) : PyData := .list ((plc r).map pn)
theorem eqv_row (r s : Nat × Nat) : PyData.eqv (rowD r) (rowD s) = decide (plc r = plc s) := by
  have e : ∀ l : List Nat, l.map pn = (l.map fun n => ((n : Nat) : Int)).map PyData.int := fun l => by
    rw [List.map_map]
    rfl
  show PyData.eqvAll _ _ = _
  rw [e, e, PySem.W.ked_eqvAll]
  have inj : ∀ l m : List Nat, (l.map fun n => ((n : Nat) : Int)) = (m.map fun n => ((n : Nat) : Int)) → l = m := fun l m h => by
    have := congrArg (List.map Int.toNat) h
    rw [List.map_map, List.map_map] at this
    have i2 : (Int.toNat ∘ fun n : Nat => (n : Int)) = id := by
      funext n
      rfl
    rw [i2, List.map_id, List.map_id] at this
    exact this
  exact decide_eq_decide.mpr ⟨fun h => inj _ _ h, fun h => by rw [h]⟩
theorem lay_pn : ∀ l : List Nat, PyData.canLayAll0 (l.map pn) = true
  | [] => rfl
  | _ :: r => by
    show (true && PyData.canLayAll0 (r.map pn)) = true
    rw [lay_pn r]
    rfl
theorem dep_pn : ∀ l : List Nat, PyData.depthAll (l.map pn) = 0
  | [] => rfl
  | _ :: r => by
    show max 0 (PyData.depthAll (r.map pn)) = 0
    rw [dep_pn r]
    rfl
theorem shaped_row (r : Nat × Nat) : SeqAt.shaped (rowD r) = true := by
  show (PyData.canLayAll0 _ && decide (PyData.depthAll _ + 1 ≤ 64)) = true
  rw [lay_pn, dep_pn]
  rfl
theorem lay_rows : ∀ l : List (Nat × Nat), PyData.canLayAll0 (l.map rowD) = true
  | [] => rfl
  | r :: t => by
    show (PyData.canLayAll0 ((plc r).map pn) && PyData.canLayAll0 (t.map rowD)) = true
    rw [lay_pn, lay_rows t]
    rfl
theorem dep_rows : ∀ l : List (Nat × Nat), PyData.depthAll (l.map rowD) ≤ 1
  | [] => Nat.zero_le _
  | r :: t => by
    show max (PyData.depthAll ((plc r).map pn) + 1) (PyData.depthAll (t.map rowD)) ≤ 1
    have := dep_rows t
    rw [dep_pn]
    omega
theorem shaped_rows (l : List (Nat × Nat)) : SeqAt.shaped (.list (l.map rowD)) = true := by
  show (PyData.canLayAll0 _ && decide (PyData.depthAll _ + 1 ≤ 64)) = true
  have := dep_rows l
  rw [lay_rows, decide_eq_true (by omega)]
  rfl
theorem inV_has (c : Nat) (r : Nat × Nat) : inV (vn c) ((plc r).map vn) = has c r := by
  have key : inV (vn c) ((plc r).map vn) = true ↔ has c r = true := by
    unfold inV has
    rw [List.any_eq_true, Bool.and_eq_true, decide_eq_true_eq, decide_eq_true_eq]
    constructor
    · rintro ⟨v, hv, he⟩
      obtain ⟨n, hn, rfl⟩ := List.mem_map.mp hv
      have e : (n : Int) = (c : Int) := by
        have z : ((n : Int) == (c : Int)) = true := he
        exact eq_of_beq z
      have := plc_mem hn
      omega
    · rintro ⟨h1, h2⟩
      refine ⟨vn c, List.mem_map.mpr ⟨c, ?_, rfl⟩, ?_⟩
      · unfold plc
        exact List.mem_map.mpr ⟨c - r.1, List.mem_range.mpr (by omega), by omega⟩
      · show ((c : Int) == (c : Int)) = true
        exact beq_self_eq_true _
  cases h : has c r with
  | true => exact key.mpr h
  | false =>
    cases h2 : inV (vn c) ((plc r).map vn) with
    | false => rfl
    | true =>
      rw [key.mp h2] at h
      cases h
theorem flat_vn (l : List Nat) : (l.map vn).all flatV = true := by
  rw [List.all_map]
  exact List.all_eq_true.mpr fun _ _ => rfl
theorem dp_all {K : PySem.W.Frag} {H : Hp} : ∀ {vs : List V} {ds : List PyData}, vs.length = ds.length → (∀ (i : Nat) (v : V), vs[i]? = some v → ∃ d, ds[i]? = some d ∧ Dp K H v d) → DpAll K H vs ds
  | [], [], _, _ => .nil
  | [], _ :: _, h, _ => by cases h
  | _ :: _, [], h, _ => by cases h
  | v :: vs, d :: ds, h, k => by
    obtain ⟨d', h1, h2⟩ := k 0 v rfl
    cases h1
    exact .cons h2 (dp_all (Nat.succ.inj h) fun i v hv => k (i + 1) v hv)
section
variable {P : Program} {w : World} {K : PySem.W.Frag} {mg : Str → Option Value} {base : Heap}
def spLTold (K : PySem.W.Frag) (n : Nat) : Sp := fun vs H Q _ => ∃ (v : V) (a N D : Addr) (cs : List Nat) (rs : List (Nat × Nat)) (es : List Nat) (fq : Nat) (fr : Bool) (bs : List Bo), vs = [v, .ref a, .ref N, .bl fr] ∧ Tp K H v (.tuple (waL cs bs)) ∧ Cells K H a cs ∧ Nt [] H N D rs es fq ∧ rs.length ≤ 100 ∧ Apart rs ∧
  Good cs rs (hsL bs) ∧ Fit cs (hsL bs) ∧ depL bs < n ∧ (hsL bs).length ≤ 1000 ∧ ∀ x H', Same H H' → Tp K H' x (.tuple (daL fr cs rs bs)) → Q x H'
theorem ok_lTold {f : Addr} {fd : FuncData} (F : Def K mg "_law_told" sLTold f fd) (b : Binds K fd ["_law_boxes", "_law_cells", "_law_notes", "_law_with_free"] []) (T : Txt mg) :
    ∀ n : Nat, Cal P w K mg base (n + 1) "_law_told" (spLTold K n) []
  | 0 => by
    refine cal0 F b .nil scLTold (fun vs H Q E h => ?_) (fun cdv A outer s H vs Q E hr h => ?_)
    · obtain ⟨v, a, N, D, cs, rs, es, fq, fr, bs, rfl, _⟩ := h
      rfl
    · obtain ⟨v, a, N, D, cs, rs, es, fq, fr, bs, rfl, _, _, _, _, _, _, _, h, _⟩ := h
      omega
  | n + 1 => by
    have C_lTold := ok_lTold F b T n
    refine cal0 F b .nil scLTold (fun vs H Q E h => ?_) (fun cdv A outer s H vs Q E hr h => ?_)
    · obtain ⟨v, a, N, D, cs, rs, es, fq, fr, bs, rfl, _⟩ := h
      rfl
    obtain ⟨v, a, N, D, cs, rs, es, fq, fr, bs, rfl, hv, hC, hNt, hrs, hA, hG, hF, hn, hlen, q⟩ := h
    obtain ⟨t, xs, rfl, hT, hX⟩ := Tp.tup_inv hv
    refine ⟨_, (pss_cons (ps_set (i := 4) scLTold.nd rfl (Or.inl rfl) (pe_lst pa_nil))
    (pss_cons (ps_for PassesOwn.never rfl (pi_tup (pv 0)) (pg_tup rfl (pgs_cons (pg_name (i := 5) scLTold.nd rfl (.inl rfl)) (pgs_cons (pg_name (i := 6) scLTold.nd rfl (.inl rfl)) pgs_nil))) 
      (pss_one (ps_if (pt_cmpR op_eq (pv 5) pe_str (nomark _)) 
        (pss_one (ps_expr (pe_bm PySem.F.plainAttrs_list PySem.F.slot_list_append PySem.F.type_list_append mt_append (pv 4) (pa_cons (pe_tup (pa_cons (pv 5) (pa_cons (pe_c C_lTold hr (Nat.le_refl _) rfl (pa_cons (pv 6) (pa_cons (pv 1) (pa_cons (pv 2) (pa_cons (pv 3) pa_nil))))) pa_nil))) pa_nil)))) 
        (pss_one (ps_if (pt_cmpR op_eq (pv 5) pe_str (nomark _)) 
          (pss_cons (ps_set (i := 7) scLTold.nd rfl (Or.inl rfl) (pe_lst pa_nil))
          (pss_cons (ps_for PassesOwn.never rfl (pi_tup (pv 6)) (pg_name (i := 8) scLTold.nd rfl (.inr rfl)) 
            (pss_cons (ps_set (i := 9) scLTold.nd rfl (Or.inl rfl) (pe_ix ix_list (pe_lc (own := [("_law_inside", 10)]) rfl scLTold.nd (pi_list (pe_dget (hu_of hr) (pv 2) pe_str (fun _ _ => rfl))) (blkOk_by (own := [("_law_inside", 10)]) (N := NLTold) (sc := (fnScope sLTold)) (by decide +kernel)) (fun _ _ _ _ _ => (pg_name (i := 10) scLTold.nd rfl (.inl rfl))) (fun _ _ _ _ _ => (pts_one (pt_cmpR (in_k (K := K) rfl) (pe_ix (seq_k (K := K) rfl) (pv 1) (pv 8) (fun _ _ => rfl)) (pv 10) rfl))) (fun _ _ _ _ _ => (pv 10))) pe_int (fun _ _ => rfl)))
            (pss_one (ps_expr (pe_bm PySem.F.plainAttrs_list PySem.F.slot_list_append PySem.F.type_list_append mt_append (pv 7) (pa_cons (pe_tup (pa_cons (pe_bm PySem.F.plainAttrs_list PySem.F.slot_list_index PySem.F.type_list_index (mt_indexD (mu_of hr)) (pe_dget (hu_of hr) (pv 2) pe_str (fun _ _ => rfl)) (pa_cons (pv 9) pa_nil)) (pa_cons (pe_bm PySem.F.plainAttrs_list PySem.F.slot_list_index PySem.F.type_list_index (mt_indexD (mu_of hr)) (pv 9) (pa_cons (pe_ix ix_seq (pv 1) (pv 8) (fun _ _ => rfl)) pa_nil)) pa_nil))) pa_nil))))))
          (pss_one (ps_expr (pe_bm PySem.F.plainAttrs_list PySem.F.slot_list_append PySem.F.type_list_append mt_append (pv 4) (pa_cons (pe_tup (pa_cons (pv 5) (pa_cons (pe_callTy call_tuple_of (by rfl) T.tuple b_tuple (pa_cons (pv 7) pa_nil)) pa_nil))) pa_nil)))))) 
          (pss_one (ps_if (PW.pt (pw_or (pt_cmpR op_eq (pv 5) pe_str (nomark _)) (pw_or1 (pt_val (pv 3))))) 
            (pss_one (ps_expr (pe_bm PySem.F.plainAttrs_list PySem.F.slot_list_append PySem.F.type_list_append mt_append (pv 4) (pa_cons (pe_tup (pa_cons (pv 5) (pa_cons (pv 6) pa_nil))) pa_nil)))) pss_nil)))))))
    (pss_one (ps_ret (pe_callTy call_tuple_of (by rfl) T.tuple b_tuple (pa_cons (pv 4) pa_nil)))))), ?_⟩
    walk_at "rd"
    refine ⟨Nat.zero_le _, fun l hl => ?_⟩
    walk_at "rd"
    have s0 : Same H (upd H l (.lst [])) := same_new hl _
    have hxl : xs.length = bs.length := by rw [hX.length, waL_map, List.length_map]
    refine ⟨t, rfl, ⟨_, Same.sqt s0 hT⟩, for_it walk_tup (fun i σ H' => (∃ v5 v6 v7 v8 v9, σ = [some (.ref t), some (.ref a), some (.ref N), some (.bl fr), some (.ref l), v5, v6, v7, v8, v9, none]) ∧ Same H H' ∧ ∃ acc, H' l = some (.lst acc) ∧ TpAll K H' acc (daL fr cs rs (bs.take i)) ∧ acc.length ≤ i)
      ⟨⟨_, _, _, _, _, rfl⟩, s0, [], upd_same, by rw [List.take_zero, daL]; exact .nil, Nat.le_refl _⟩ (fun i σ H' _ z => Same.sqt z.2.1 hT) ?_ ?_⟩
    · rintro i x σ H1 H2 hi ⟨⟨v5, v6, v7, v8, v9, rfl⟩, s1, acc, s2, s3, s4⟩ ⟨rfl, hx⟩
      obtain ⟨dd, e1, e2⟩ := hX.get hx
      rw [waL_get] at e1
      cases hb : bs[i]? with
      | none =>
        rw [hb] at e1
        cases e1
      | some bb =>
        rw [hb] at e1
        have e3 := (Option.some.inj e1).symm
        subst e3
        have etk : bs.take (i + 1) = bs.take i ++ [bb] := by
          rw [List.take_add_one, hb]
          rfl
        have hdb := dep_mem bs bb (List.mem_of_getElem? hb)
        have hi' : i < bs.length := (List.getElem?_eq_some_iff.mp hb).1
        have hmm := hsL_mem bs bb (List.mem_of_getElem? hb)
        have hkl := mem_hsL bs _ (List.mem_of_getElem? hb)
        obtain ⟨kd, p, nn, ks⟩ := bb
        rw [depB] at hdb
        rw [wa1] at e2
        rw [hsB] at hmm
        rw [hsB, List.length_cons] at hkl
        have hbl := len_hsL bs
        have hp := hF p (hmm p List.mem_cons_self)
        have put : ∀ (y : V) (H3 : Hp), Same H2 H3 → ¬ (fr = false ∧ isF cs (.bx kd p nn ks) = true) → Tp K (upd H3 l (.lst (acc ++ [y]))) y (da1 fr cs rs (.bx kd p nn ks)) →
            Same H (upd H3 l (.lst (acc ++ [y]))) ∧ ∃ acc', (upd H3 l (.lst (acc ++ [y]))) l = some (.lst acc') ∧ TpAll K (upd H3 l (.lst (acc ++ [y]))) acc' (daL fr cs rs (bs.take (i + 1))) ∧ acc'.length ≤ i + 1 := fun y H3 u1 u2 u3 => by
          refine ⟨Same.putNew (s1.trans u1) hl, acc ++ [y], upd_same, ?_, by rw [List.length_append, List.length_singleton]; omega⟩
          rw [etk, daL_snocF, if_neg u2]
          exact (TpAll.mono (tk_lst (K := K) (u1 _ _ s2)) _ _ (s3.same u1)).snoc u3
        by_cases k1 : cel cs p = 1
        · rw [if_pos k1] at e2
          obtain ⟨tx, y, rfl, g1, g2⟩ := Tp.pair_inv e2
          refine g_tupT (Same.sqt s1 g1) rfl ?_
          walk_at "rd"
          refine g_dT rfl ?_
          walk_at "rd"
          refine ⟨ty_l (SqL.of s2), ?_⟩
          walk_at "rd"
          refine ⟨y, a, N, D, cs, rs, es, fq, fr, ks, rfl, g2.same s1, hC.same s1, hNt.same s1, hrs, hA, fun z hz => hG z (hmm z (List.mem_cons_of_mem _ hz)), fun z hz => hF z (hmm z (List.mem_cons_of_mem _ hz)), by omega, by omega, fun z H3 t1 t2 => ?_⟩
          refine ⟨(by show 2 ≤ sizeLine; decide), fun u hu => ?_⟩
          have t3 := same_new hu (.tup [V.str "group", z])
          walk_at "rd"
          refine g_app (t3 _ _ (t1 _ _ s2)) (by omega) ?_
          refine ⟨⟨_, _, _, _, _, rfl⟩, put _ _ (t1.trans t3) (fun z => absurd (of_decide_eq_true z.2) (by omega)) ?_⟩
          rw [da1, if_pos k1]
          exact Tp.mono (tk_lst (K := K) (t3 _ _ (t1 _ _ s2))) _ _ (.pair upd_same (t2.same t3))
        rw [if_neg k1] at e2
        by_cases k2 : cel cs p = 2
        · rw [if_pos k2] at e2
          obtain ⟨tx, y, rfl, g1, g2⟩ := Tp.pair_inv e2
          refine g_tupT (Same.sqt s1 g1) rfl ?_
          walk_at "rd"
          refine g_dF ne_dg ?_
          walk_at "rd"
          refine g_dF ne_dt ?_
          walk_at "rd"
          refine g_dT rfl ?_
          walk_at "rd"
          refine ⟨ty_l (SqL.of s2), ?_⟩
          walk_at "rd"
          refine ⟨(by show 2 ≤ sizeLine; decide), fun u hu => ?_⟩
          have t3 := same_new hu (.tup [V.str "data", y])
          walk_at "rd"
          refine g_app (t3 _ _ s2) (by omega) ?_
          refine ⟨⟨_, _, _, _, _, rfl⟩, put _ _ t3 (fun z => absurd (of_decide_eq_true z.2) (by omega)) ?_⟩
          rw [da1, if_neg k1, if_pos k2]
          exact Tp.mono (tk_lst (K := K) (t3 _ _ s2)) _ _ (.pair upd_same ((g2.same s1).same t3))
        rw [if_neg k2] at e2
        by_cases k3 : cel cs p = 3
        · rw [if_pos k3] at e2
          obtain ⟨tx, y, rfl, g1, g2⟩ := Tp.pair_inv e2
          refine g_tupT (Same.sqt s1 g1) rfl ?_
          walk_at "rd"
          refine g_dF ne_fg ?_
          walk_at "rd"
          refine g_dF ne_ft ?_
          walk_at "rd"
          refine g_dF ne_fd ?_
          walk_at "rd"
          cases fr with
          | true =>
            walk_at "rd"
            refine ⟨ty_l (SqL.of s2), ?_⟩
            walk_at "rd"
            refine ⟨(by show 2 ≤ sizeLine; decide), fun u hu => ?_⟩
            have t3 := same_new hu (.tup [V.str "free", y])
            walk_at "rd"
            refine g_app (t3 _ _ s2) (by omega) ?_
            refine ⟨⟨_, _, _, _, _, rfl⟩, put _ _ t3 (fun z => Bool.noConfusion z.1) ?_⟩
            rw [da1, if_neg k1, if_neg k2, if_pos k3]
            exact Tp.mono (tk_lst (K := K) (t3 _ _ s2)) _ _ (.pair upd_same ((g2.same s1).same t3))
          | false =>
            walk_at "rd"
            refine ⟨⟨_, _, _, _, _, rfl⟩, s1, acc, s2, ?_, by omega⟩
            rw [etk, daL_snocF, if_pos ⟨rfl, decide_eq_true k3⟩, List.append_nil]
            exact s3
        rw [if_neg k3] at e2
        have k4 : cel cs p = 4 := by omega
        obtain ⟨tx, y, rfl, g1, g2⟩ := Tp.pair_inv e2
        obtain ⟨ty, ys, rfl, hY, hYX⟩ := Tp.tup_inv g2
        refine g_tupT (Same.sqt s1 g1) rfl ?_
        walk_at "rd"
        refine g_dF ne_tg ?_
        walk_at "rd"
        refine g_dT rfl ?_
        walk_at "rd"
        refine ⟨Nat.zero_le _, fun m hm => ?_⟩
        have sm := same_new hm (.lst [])
        have hown := hG p (hmm p List.mem_cons_self) k4
        have hctl : (ctn cs p).length = (plc (row cs p)).length := by
          unfold ctn
          rw [List.length_map]
        have hpll : (plc (row cs p)).length = cel cs (p + 1) - 2 := plc_len _
        have h30 := hC.len
        have hyl : ys.length = (plc (row cs p)).length := by rw [hYX.length, List.length_map]
        walk_at "rd"
        refine ⟨ty, rfl, ⟨_, Same.sqt (s1.trans sm) hY⟩, for_it walk_tup (fun j σ H' => (∃ v8 v9, σ = [some (.ref t), some (.ref a), some (.ref N), some (.bl fr), some (.ref l), some (.str "table"), some (.ref ty), some (.ref m), v8, v9, none]) ∧ Same H2 H' ∧
            ∃ ac, H' m = some (.lst ac) ∧ TpAll K H' ac (((ctn cs p).map (tgd rs)).take j) ∧ ac.length = j)
          ⟨⟨_, _, rfl⟩, sm, [], upd_same, .nil, rfl⟩ (fun i σ H' _ z => Same.sqt (s1.trans z.2.1) hY) ?_ ?_⟩
        · rintro j x2 σ H3 H4 hj ⟨⟨v8', v9', rfl⟩, u1, ac, u2, u3, u4⟩ ⟨rfl, hx2⟩
          obtain ⟨d2, e5, e6⟩ := hYX.get hx2
          obtain ⟨c, hc, rfl⟩ : ∃ c, (plc (row cs p))[j]? = some c ∧ x2 = vn c := by
            rw [List.getElem?_map] at e5
            cases hc : (plc (row cs p))[j]? with
            | none =>
              rw [hc] at e5
              cases e5
            | some c =>
              rw [hc] at e5
              cases e5
              cases e6
              exact ⟨c, rfl, rfl⟩
          have hcm := plc_mem (List.mem_of_getElem? hc)
          have rw1 : (row cs p).1 = p + 2 := rfl
          have rw2 : (row cs p).2 = cel cs (p + 1) - 2 := rfl
          have hcc : (ctn cs p)[j]? = some (cel cs c) := by
            unfold ctn
            rw [List.getElem?_map, hc]
            rfl
          obtain ⟨i0, j0, hO⟩ := own_iff.mp (hown _ (List.mem_of_getElem? hcc))
          have S4 : Same H H4 := s1.trans u1
          have nt4 := hNt.same S4
          have hC4 := hC.same S4
          obtain ⟨qs, hD4, hql, hqs⟩ := nt4.gq
          obtain ⟨r0, hr0, hr1, hr2, rfl⟩ := id hO
          obtain ⟨z0, hz0, hz1⟩ := hqs i0 r0 hr0
          walk_at "rd"
          refine ⟨N, _, rfl, nt4.gD, ?_⟩
          refine ⟨D, rfl, ⟨_, SqL.of hD4⟩, fun J hJ => ?_⟩
          refine lc_it walk_list (fun k H' => Same H4 H' ∧ H' J = some (.lst (if i0 < k then [.ref z0] else []))) ⟨same_new hJ _, by rw [upd_same, if_neg (Nat.not_lt_zero _)]⟩ (fun k H' _ z => z.1.seq (SqL.of hD4)) ?_ ?_
          · rintro k x3 H5 H6 hk ⟨w1, w2⟩ ⟨rfl, hx3⟩
            rw [List.length_map] at hk
            obtain ⟨rk, hrk⟩ : ∃ rk, rs[k]? = some rk := ⟨_, List.getElem?_eq_getElem (by omega)⟩
            obtain ⟨zk, hzk, hzk1⟩ := hqs k rk hrk
            obtain rfl : x3 = .ref zk := by
              rw [List.getElem?_map, hzk] at hx3
              exact (Option.some.inj hx3).symm
            walk_at "rd"
            refine ⟨rfl, ?_⟩
            refine ⟨_, rfl, _, rfl, ?_⟩
            refine (hC4.same w1).ix c rfl (by omega) ?_
            refine ⟨_, rfl, zk, _, rfl, .inl (SqL.of (w1 _ _ hzk1)), rfl, flat_vn _, _, rfl, ?_⟩
            show if (inV (vn (cel cs c)) ((plc rk).map vn)) = true then _ else _
            rw [inV_has]
            by_cases hki : k = i0
            · subst hki
              rw [hr0] at hrk
              cases hrk
              rw [hz0] at hzk
              cases hzk
              have hb1 : has (cel cs c) r0 = true := by
                unfold has
                rw [decide_eq_true hr1, decide_eq_true hr2]
                rfl
              rw [hb1]
              refine iteT ?_
              rw [if_neg (Nat.lt_irrefl _)] at w2
              exact ⟨_, rfl, _, w2, small1000 (by show 0 ≤ 1000; omega), Same.putNew w1 hJ, by rw [upd_same, if_pos (Nat.lt_succ_self _)]; rfl⟩
            · have hb1 : has (cel cs c) rk = false := by
                cases hh : has (cel cs c) rk with
                | false => rfl
                | true =>
                  unfold has at hh
                  rw [Bool.and_eq_true, decide_eq_true_eq, decide_eq_true_eq] at hh
                  exact absurd (hA.one ⟨rk, hrk, hh.1, hh.2, rfl⟩ hO).1 hki
              rw [hb1]
              refine iteF ⟨w1, ?_⟩
              rw [w2]
              by_cases hlt : i0 < k
              · rw [if_pos hlt, if_pos (by omega)]
              · rw [if_neg hlt, if_neg (by omega)]
          · rintro H5 ⟨w1, w2⟩
            have hi0 : i0 < qs.length := (List.getElem?_eq_some_iff.mp hz0).1
            rw [List.length_map, if_pos hi0] at w2
            walk_at "rd"
            refine ⟨J, [V.ref z0], 0, V.ref z0, rfl, rfl, SqL.of w2, atI_nat (xs := [V.ref z0]) (j := 0) rfl, ?_⟩
            have nt5 := nt4.same w1
            have own0 : ∀ mm rm, rs[mm]? = some rm → plc rm = plc r0 → mm = i0 := fun mm rm h1 h2 => by
              have hcin : cel cs c ∈ plc r0 := by
                unfold plc
                exact List.mem_map.mpr ⟨cel cs c - r0.1, List.mem_range.mpr (by omega), by omega⟩
              have hz := plc_mem (by rw [h2]; exact hcin : cel cs c ∈ plc rm)
              exact (hA.one ⟨rm, h1, hz.1, hz.2, rfl⟩ hO).1
            walk_at "rd"
            refine ⟨ty_l (SqL.of (w1 _ _ u2)), ?_⟩
            walk_at "rd"
            refine ⟨N, _, rfl, nt5.gD, ty_l (SqL.of (w1 _ _ hD4)), ?_⟩
            walk_at "rd"
            refine ⟨D, .ref z0, rowD r0, rs.map rowD, i0, rowD r0, rfl, rfl, .lst (SqL.of (w1 _ _ hD4)) (dp_all (by rw [List.length_map, List.length_map]; omega) fun ii v hv => ?_), .lst (SqL.of (w1 _ _ hz1)) (TpAll.dp _ _ (TpAll.ints _)), shaped_rows _, shaped_row _, by rw [List.getElem?_map, hr0]; rfl, by rw [eqv_row]; exact decide_eq_true rfl, fun mm z' hmm2 hz' => ?_, ?_⟩
            · rw [List.getElem?_map] at hv
              cases hq : qs[ii]? with
              | none =>
                rw [hq] at hv
                cases hv
              | some zi =>
                rw [hq] at hv
                cases hv
                have hil : ii < rs.length := by
                  have := (List.getElem?_eq_some_iff.mp hq).1
                  omega
                obtain ⟨zk, hzk, hzk1⟩ := hqs ii _ (List.getElem?_eq_getElem hil)
                rw [hq] at hzk
                cases hzk
                exact ⟨rowD _, by rw [List.getElem?_map, List.getElem?_eq_getElem hil]; rfl, .lst (SqL.of (w1 _ _ hzk1)) (TpAll.dp _ _ (TpAll.ints _))⟩
            · rw [List.getElem?_map] at hz'
              cases hq : rs[mm]? with
              | none =>
                rw [hq] at hz'
                cases hz'
              | some rm =>
                rw [hq] at hz'
                cases hz'
                rw [eqv_row]
                exact decide_eq_false fun z => absurd (own0 mm rm hq z) (by omega)
            · walk_at "rd"
              refine ⟨ty_l (SqL.of (w1 _ _ hz1)), ?_⟩
              walk_at "rd"
              refine (hC4.same w1).ix c rfl (by omega) ?_
              have g0 : (plc r0)[cel cs c - r0.1]? = some (cel cs c) := by
                unfold plc
                rw [List.getElem?_map, List.getElem?_range (by omega)]
                show some (r0.1 + (cel cs c - r0.1)) = _
                rw [show r0.1 + (cel cs c - r0.1) = cel cs c by omega]
              walk_at "rd"
              refine ⟨z0, vn (cel cs c), pn (cel cs c), (plc r0).map pn, cel cs c - r0.1, pn (cel cs c), rfl, rfl, .lst (SqL.of (w1 _ _ hz1)) (TpAll.dp _ _ (TpAll.ints _)), .int _, shaped_row r0, rfl, by rw [List.getElem?_map, g0]; rfl, beq_self_eq_true _, fun mm z' hmm2 hz' => ?_, ?_⟩
              · rw [List.getElem?_map] at hz'
                cases hq : (plc r0)[mm]? with
                | none =>
                  rw [hq] at hz'
                  cases hz'
                | some cm =>
                  rw [hq] at hz'
                  cases hz'
                  have := plc_get hq
                  show ((cm : Int) == (cel cs c : Int)) = false
                  rw [beq_eq_false_iff_ne]
                  omega
              · walk_at "rd"
                refine ⟨(by show 2 ≤ sizeLine; decide), fun u hu => ?_⟩
                have t5 := same_new hu (.tup [V.int (i0 : Int), V.int ((cel cs c - r0.1 : Nat) : Int)])
                have w5 := w1.trans t5
                walk_at "rd"
                refine g_app (w5 _ _ u2) (by omega) ?_
                have etj : ((ctn cs p).map (tgd rs)).take (j + 1) = ((ctn cs p).map (tgd rs)).take j ++ [tgd rs (cel cs c)] := by
                  rw [List.take_add_one, List.getElem?_map, hcc]
                  rfl
                refine ⟨⟨_, _, rfl⟩, Same.putNew (u1.trans w5) hm, ac ++ [.ref u], upd_same, ?_, by rw [List.length_append, u4]; rfl⟩
                rw [etj]
                refine TpAll.mono (tk_lst (K := K) (w5 _ _ u2)) _ _ ((u3.same w5).snoc ?_)
                have etg : tgd rs (cel cs c) = .tuple [.int (i0 : Int), .int ((cel cs c - r0.1 : Nat) : Int)] := by
                  unfold tgd
                  rw [tgt_own hA hO]
                rw [etg]
                exact .tup upd_same (.cons (.int _) (.cons (.int _) .nil))
        · rintro σ H3 ⟨⟨v8', v9', rfl⟩, u1, ac, u2, u3, u4⟩
          rw [hyl, ← hctl, ← List.length_map (f := tgd rs), List.take_length] at u3
          walk_at "rd"
          refine ⟨ty_l (SqL.of (u1 _ _ s2)), ?_⟩
          walk_at "rd"
          refine ⟨m, _, rfl, .inl ⟨SqL.of u2, fun g hg => ?_⟩⟩
          have t2 := same_new hg (.tup ac)
          refine ⟨(by show 2 ≤ sizeLine; decide), fun u hu => ?_⟩
          have t3 := same_new hu (.tup [V.str "table", V.ref g])
          have t4 := t2.trans t3
          walk_at "rd"
          refine g_app (t4 _ _ (u1 _ _ s2)) (by omega) ?_
          refine ⟨⟨_, _, _, _, _, rfl⟩, put _ _ (u1.trans t4) (fun z => absurd (of_decide_eq_true z.2) (by omega)) ?_⟩
          rw [da1, if_neg k1, if_neg k2, if_neg k3]
          exact Tp.mono (tk_lst (K := K) (t4 _ _ (u1 _ _ s2))) _ _ (.pair upd_same (.tup (t3 _ _ upd_same) (u3.same t4)))
    · rintro σ H1 ⟨⟨v5, v6, v7, v8, v9, rfl⟩, s1, acc, s2, s3, s4⟩
      rw [hxl, List.take_length] at s3
      walk_at "rd"
      refine ⟨l, _, rfl, .inl ⟨SqL.of s2, fun u hu => ?_⟩⟩
      have t3 := same_new hu (.tup acc)
      exact q _ _ (s1.trans t3) (.tup upd_same (s3.same t3))
end
end Bx

namespace Bx
theorem prs_dep2 : ∀ (f : Nat) (cs : List Nat) (a e dp : Nat) (bs : List Bo), prs f cs a e dp = .ok bs → dp ≤ 2 → depL bs + dp ≤ 3
  | 0, _, _, _, _, _, h, hd => by
    rw [prs] at h
    cases h
    show 0 + _ ≤ 3
    omega
  | f + 1, cs, a, e, dp, bs, h, hd2 => by
    rcases prs_ok h with ⟨_, rfl⟩ | ⟨_, q, ks, r, i, j, rfl⟩
    · show 0 + _ ≤ 3
      omega
    · have hr := prs_dep2 f _ _ _ _ _ j hd2
      obtain ⟨z1, z2, z3, z4, z5, z6⟩ := hd_none q
      rw [depL, depB]
      by_cases g : cel cs a = 1
      · rw [if_pos g] at i
        have hk := prs_dep2 f _ _ _ _ _ i (by omega)
        omega
      · rw [if_neg g] at i
        cases i
        have : depL ([] : List Bo) = 0 := rfl
        omega
theorem strOk_gr : PyData.strOk "group" = true := by decide +kernel
theorem strOk_da : PyData.strOk "data" = true := by decide +kernel
theorem strOk_fr : PyData.strOk "free" = true := by decide +kernel
theorem strOk_ta : PyData.strOk "table" = true := by decide +kernel
theorem lay_tgd (rs : List (Nat × Nat)) (c : Nat) : PyData.canLay0 (tgd rs c) = true := by
  unfold tgd
  cases tgt rs c with
  | none => rfl
  | some p => rfl
theorem dep_tgd (rs : List (Nat × Nat)) (c : Nat) : PyData.depth (tgd rs c) ≤ 1 := by
  unfold tgd
  cases tgt rs c with
  | none => exact Nat.zero_le _
  | some p => exact Nat.le_refl _
theorem lay_tgs (rs : List (Nat × Nat)) : ∀ l : List Nat, PyData.canLayAll0 (l.map (tgd rs)) = true
  | [] => rfl
  | c :: r => by
    show (PyData.canLay0 (tgd rs c) && PyData.canLayAll0 (r.map (tgd rs))) = true
    rw [lay_tgd, lay_tgs rs r]
    rfl
theorem dep_tgs (rs : List (Nat × Nat)) : ∀ l : List Nat, PyData.depthAll (l.map (tgd rs)) ≤ 1
  | [] => Nat.zero_le _
  | c :: r => by
    show max (PyData.depth (tgd rs c)) (PyData.depthAll (r.map (tgd rs))) ≤ 1
    have h1 := dep_tgd rs c
    have h2 := dep_tgs rs r
    omega
theorem lay_pair {x : Str} {d : PyData} (hx : PyData.strOk x = true) (hd : PyData.canLay0 d = true) : PyData.canLay0 (.tuple [.str x, d]) = true := by
  show (PyData.strOk x && (PyData.canLay0 d && true)) = true
  rw [hx, hd]
  rfl
theorem dep_pair (x : Str) (d : PyData) : PyData.depth (.tuple [.str x, d]) = PyData.depth d + 1 := by
  show max 0 (max (PyData.depth d) 0) + 1 = _
  omega
mutual
theorem lay_da1 (fr : Bool) (cs : List Nat) (rs : List (Nat × Nat)) : ∀ b, PyData.canLay0 (da1 fr cs rs b) = true
  | .bx k p n ks => by
    rw [da1]
    split
    · exact lay_pair strOk_gr (lay_daL fr cs rs ks)
    · split
      · exact lay_pair strOk_da (lay_pn _)
      · split
        · exact lay_pair strOk_fr rfl
        · exact lay_pair strOk_ta (lay_tgs rs _)
theorem lay_daL (fr : Bool) (cs : List Nat) (rs : List (Nat × Nat)) : ∀ l, PyData.canLayAll0 (daL fr cs rs l) = true
  | [] => by
    rw [daL]
    rfl
  | b :: r => by
    rw [daL]
    split
    · exact lay_daL fr cs rs r
    · show (PyData.canLay0 (da1 fr cs rs b) && PyData.canLayAll0 (daL fr cs rs r)) = true
      rw [lay_da1 fr cs rs b, lay_daL fr cs rs r]
      rfl
end
mutual
theorem dep_da1 (fr : Bool) (cs : List Nat) (rs : List (Nat × Nat)) : ∀ b, PyData.depth (da1 fr cs rs b) ≤ 2 * depB b + 3
  | .bx k p n ks => by
    rw [da1, depB]
    split
    · rw [dep_pair]
      have := dep_daL fr cs rs ks
      show PyData.depthAll (daL fr cs rs ks) + 1 + 1 ≤ _
      omega
    · split
      · rw [dep_pair]
        show PyData.depthAll ((ctn cs p).map pn) + 1 + 1 ≤ _
        rw [dep_pn]
        omega
      · split
        · rw [dep_pair]
          show 0 + 1 ≤ _
          omega
        · rw [dep_pair]
          show PyData.depthAll ((ctn cs p).map (tgd rs)) + 1 + 1 ≤ _
          have := dep_tgs rs (ctn cs p)
          omega
theorem dep_daL (fr : Bool) (cs : List Nat) (rs : List (Nat × Nat)) : ∀ l, PyData.depthAll (daL fr cs rs l) ≤ 2 * depL l + 3
  | [] => by
    rw [daL]
    exact Nat.zero_le _
  | b :: r => by
    have h2 := dep_daL fr cs rs r
    rw [daL, depL]
    split
    · omega
    · have h1 := dep_da1 fr cs rs b
      show max (PyData.depth (da1 fr cs rs b)) (PyData.depthAll (daL fr cs rs r)) ≤ _
      omega
end
theorem shaped_daL {fr : Bool} {cs : List Nat} {rs : List (Nat × Nat)} {bs : List Bo} (h : depL bs ≤ 3) : SeqAt.shaped (.tuple (daL fr cs rs bs)) = true := by
  show (PyData.canLayAll0 _ && decide (PyData.depthAll _ + 1 ≤ 64)) = true
  have := dep_daL fr cs rs bs
  rw [lay_daL, decide_eq_true (by omega)]
  rfl
theorem eqv_daL (fr : Bool) (cs : List Nat) (rs : List (Nat × Nat)) (bs : List Bo) : PyData.eqv (.tuple (daL fr cs rs bs)) (.tuple (daL fr cs rs bs)) = true :=
  PySem.SeqAt.eqv_refl_plain _ (PyData.plain_of_canLay0 _ (show PyData.canLay0 (.tuple (daL fr cs rs bs)) = true from lay_daL fr cs rs bs))
theorem inV_mem (c : Nat) (l : List Nat) : inV (vn c) (l.map vn) = true ↔ c ∈ l := by
  unfold inV
  rw [List.any_eq_true]
  constructor
  · rintro ⟨v, hv, he⟩
    obtain ⟨n, hn, rfl⟩ := List.mem_map.mp hv
    have e : (n : Int) = (c : Int) := by
      have z : ((n : Int) == (c : Int)) = true := he
      exact eq_of_beq z
    have : n = c := by omega
    rw [← this]
    exact hn
  · intro h
    exact ⟨vn c, List.mem_map.mpr ⟨c, h, rfl⟩, by show ((c : Int) == (c : Int)) = true; exact beq_self_eq_true _⟩
theorem mem_plc {r : Nat × Nat} {c : Nat} : c ∈ plc r ↔ has c r = true := by
  rw [← inV_has, inV_mem]
theorem inV_own (c : Nat) (rs : List (Nat × Nat)) : inV (vn c) (((rs.map plc).flatten).map vn) = own rs c := by
  have key : inV (vn c) (((rs.map plc).flatten).map vn) = true ↔ own rs c = true := by
    rw [inV_mem, List.mem_flatten]
    unfold own
    rw [List.any_eq_true]
    constructor
    · rintro ⟨l, hl, hc⟩
      obtain ⟨r, hr, rfl⟩ := List.mem_map.mp hl
      exact ⟨r, hr, mem_plc.mp hc⟩
    · rintro ⟨r, hr, h⟩
      exact ⟨plc r, List.mem_map.mpr ⟨r, hr, rfl⟩, mem_plc.mpr h⟩
  cases h : own rs c with
  | true => exact key.mpr h
  | false =>
    cases h2 : inV (vn c) (((rs.map plc).flatten).map vn) with
    | false => rfl
    | true =>
      rw [key.mp h2] at h
      cases h
theorem flat_plc : ∀ l : List (Nat × Nat), (∀ r ∈ l, r.2 ≤ 100) → ((l.map plc).flatten).length ≤ l.length * 100
  | [], _ => Nat.zero_le _
  | r :: t, h => by
    have h1 := flat_plc t fun x hx => h x (List.mem_cons_of_mem _ hx)
    have h2 := h r List.mem_cons_self
    rw [List.map_cons, List.flatten_cons, List.length_append, plc_len, List.length_cons]
    omega
section
variable {P : Program} {w : World} {K : PySem.W.Frag} {mg : Str → Option Value} {base : Heap} {C : Addr}
def spLRight (K : PySem.W.Frag) : Sp := fun vs H Q _ => ∃ (a : Addr) (cs : List Nat), vs = [.ref a] ∧ Cells K H a cs ∧ H a ≠ none ∧ ∀ H', Same H H' → Q (.bl true) H'
theorem ok_lRight {f : Addr} {fd : FuncData} (F : Def K mg "_law_cells_right" sLCellsRight f fd) (b : Binds K fd ["_law_cells"] []) (T : Txt mg) (C_lWalk : Cal P w K mg base 32 "_law_walk" (spLWalk K 31) []) (C_lTold : Cal P w K mg base 5 "_law_told" (spLTold K 4) [])
    (C_firstWrong : Cal P w K mg base 33 "first_wrong" (spFirstWrong K) []) (C_read : CalX P w K mg base 64 "read" (spRead K C true)) (C_shapeOf : CalX P w K mg base 65 "shape_of" (spRead K C false)) (C_freeCells : CalX P w K mg base 35 "free_cells" (spFreeCells K C))
    (C_lPlace : Cal P w K mg base 66 "_law_place" (spLPlace P w K mg base C) []) : Cal P w K mg base 67 "_law_cells_right" (spLRight K) [] := by
  obtain ⟨fR, fdR, psR, FR, mR, kR, bR⟩ := C_read.ex
  obtain ⟨fS, fdS, psS, FS, mS, kS, bS⟩ := C_shapeOf.ex
  obtain ⟨fF, fdF, psF, FF, mF, kpF, bF⟩ := C_freeCells.ex
  have tR : Tells P w K mg base C fR := ⟨fdR, psR, (FR.mono (by decide)).imp fun vs H Q E ⟨a, cs, p, e1, e2, e3, e4⟩ => ⟨a, cs, e1, e2, (fun bs z => by rw [e3] at z; cases z), (fun p' z => by rw [e3] at z; cases z; exact e4)⟩, kR, bR⟩
  have tS : Tells P w K mg base C fS := ⟨fdS, psS, FS.imp fun vs H Q E ⟨a, cs, p, e1, e2, e3, e4⟩ => ⟨a, cs, e1, e2, (fun bs z => by rw [e3] at z; cases z), (fun p' z => by rw [e3] at z; cases z; exact e4)⟩, kS, bS⟩
  have tF : Tells P w K mg base C fF := ⟨fdF, psF, (FF.mono (by decide)).imp fun vs H Q E ⟨a, cs, p, e1, e2, e3, e4⟩ => ⟨a, cs, e1, e2, (fun bs z => by rw [e3] at z; cases z), (fun p' z => by rw [e3] at z; cases z; exact e4)⟩, kpF, bF⟩
  refine cal0 F b .nil scLCellsRight (fun vs H Q E h => ?_) (fun cdv A outer s H vs Q E hr h => ?_)
  · obtain ⟨a, cs, rfl, _⟩ := h
    rfl
  obtain ⟨a, cs, rfl, hC, ha, q⟩ := h
  have h30 := hC.len
  refine ⟨_, (pss_cons (ps_set (i := 1) scLCellsRight.nd rfl (Or.inl rfl) (pe_disp (pps_cons pe_str (pe_lst pa_nil) (pps_cons pe_str (pe_lst pa_nil) (pps_cons pe_str pe_int pps_nil))) (by rfl) (by rfl) (fun z => by cases z) (by decide)))
    (pss_cons (ps_set (i := 2) scLCellsRight.nd rfl (Or.inl rfl) (pe_c C_lWalk hr (by decide) rfl (pa_cons (pv 0) (pa_cons pe_int (pa_cons (pe_callB call_len_seq (by rfl) T.len b_len (pa_cons (pv 0) pa_nil)) (pa_cons pe_int (pa_cons (pv 1) pa_nil)))))))
    (pss_cons (ps_if (pt_not (pt_val (pe_callB call_isi (by rfl) T.isinstance b_isinstance (pa_cons (pv 2) (pa_cons (pe_bltn (v := .ty "int") (by rfl) T.int b_int rfl) pa_nil))))) 
      (pss_cons (ps_set (i := 3) scLCellsRight.nd rfl (Or.inr rfl) (pe_lst pa_nil))
      (pss_cons (ps_for PassesOwn.never rfl (pi_list (pe_dget (hu_of hr) (pv 1) pe_str (fun _ _ => rfl))) (pg_name (i := 4) scLCellsRight.nd rfl (.inl rfl)) 
        (pss_one (ps_set (i := 3) scLCellsRight.nd rfl (Or.inr rfl) (pe_op op_cat (pv 3) (pv 4)))))
      (pss_cons (ps_setLc (i := 5) (own := [("_law_place_here", 7)]) rfl scLCellsRight.nd rfl rfl (sw_true rfl rfl rfl (by decide +kernel)) (pi_list (pe_dget (hu_of hr) (pv 1) pe_str (fun _ _ => rfl))) (blkOk_by (own := [("_law_place_here", 7)]) (N := NLCellsRight) (sc := (fnScope sLCellsRight)) (by decide +kernel)) (fun _ _ _ _ _ => (pg_name (i := 7) scLCellsRight.nd rfl (.inl rfl))) (fun _ _ _ _ _ => (pts_one (pt_cmpR (notin_k (K := K) rfl) (pe_ix (seq_k (K := K) rfl) (pv 0) (pv 7) (fun _ _ => rfl)) (pv 3) rfl))) (fun _ _ _ _ _ => (pv 7)))
      (pss_cons (ps_if (pt_cmpR (op_eqD hr.units) (pv 5) (pe_lst pa_nil) (nomark _)) 
        (pss_cons (ps_if (PW.pt (pw_or (pt_cmpR op_notN (pe_c C_firstWrong hr (by decide) rfl (pa_cons (pv 0) pa_nil)) pe_non (nomark _)) (pw_or1 (pt_cmpR (op_neD hr.units) (pe_cN C_read hr (by decide) rfl (pa_cons (pv 0) pa_nil)) (pe_c C_lTold hr (by decide) rfl (pa_cons (pv 2) (pa_cons (pv 0) (pa_cons (pv 1) (pa_cons pe_bl pa_nil))))) (nomark _))))) 
          (pss_one (ps_ret pe_bl)) pss_nil)
        (pss_cons (ps_if (pt_not (pt_cmpR (op_eqD hr.units) (pe_cN C_shapeOf hr (by decide) rfl (pa_cons (pe_callTy call_tuple_of (by rfl) T.tuple b_tuple (pa_cons (pv 0) pa_nil)) pa_nil)) (pe_c C_lTold hr (by decide) rfl (pa_cons (pv 2) (pa_cons (pv 0) (pa_cons (pv 1) (pa_cons pe_bl pa_nil))))) (nomark _))) 
          (pss_one (ps_ret pe_bl)) pss_nil)
        (pss_one (ps_ret (pe_cmpR op_eq (pe_cN C_freeCells hr (by decide) rfl (pa_cons (pv 0) pa_nil)) (pe_dget (hu_of hr) (pv 1) pe_str (fun _ _ => rfl)) (nomark _)))))) pss_nil)
      (pss_one (ps_set (i := 2) scLCellsRight.nd rfl (Or.inl rfl) (pe_ix ix_list (pv 5) pe_int (fun _ _ => rfl)))))))) pss_nil)
    (pss_cons (ps_if (pt_cmpR op_ne (pe_c C_firstWrong hr (by decide) rfl (pa_cons (pv 0) pa_nil)) (pv 2) (nomark _)) 
      (pss_one (ps_ret pe_bl)) pss_nil)
    (pss_cons (ps_for PassesOwn.never rfl (pi_list (pe_lst (pa_cons (pe_glob (v := .ref fR) rfl mR rfl) (pa_cons (pe_glob (v := .ref fS) rfl mS rfl) (pa_cons (pe_glob (v := .ref fF) rfl mF rfl) pa_nil))))) (pg_name (i := 6) scLCellsRight.nd rfl (.inl rfl)) 
      (pss_one (ps_if (pt_cmpR op_ne (pe_c C_lPlace hr (by decide) rfl (pa_cons (pv 6) (pa_cons (pv 0) pa_nil))) (pv 2) (nomark _)) 
        (pss_one (ps_ret pe_bl)) pss_nil)))
    (pss_one (ps_ret pe_bl))))))), ?_⟩
  walk_at "rd"
  refine fun N hN => ?_
  refine ⟨Nat.zero_le _, fun D hD => ⟨Nat.zero_le _, fun L hL => ?_⟩⟩
  have nN : ∀ {b o}, H b = some o → b ≠ N := fun h => ne_of_none h hN
  have nDN : D ≠ N := fun z => by
    rw [z, upd_same] at hD
    cases hD
  have hD0 : H D = none := by
    rw [upd_ne nDN] at hD
    exact hD
  have nLD : L ≠ D := fun z => by
    rw [z, upd_same] at hL
    cases hL
  have nLN : L ≠ N := fun z => by
    rw [upd_ne nLD, z, upd_same] at hL
    cases hL
  have hL0 : H L = none := by
    rw [upd_ne nLD, upd_ne nLN] at hL
    exact hL
  refine ⟨by rw [upd_ne nLN.symm, upd_ne nDN.symm, upd_same], [(kD, .ref D), (kE, .ref L), (kF, vn 0)], rfl, by show 3 ≤ 15; decide, ?_⟩
  rw [show mergeK [] [(kD, V.ref D), (kE, V.ref L), (kF, vn 0)] = [(kD, V.ref D), (kE, V.ref L), (kF, vn 0)] by first | rfl | simp [mergeK, putK]]
  have S4 : Same H (upd (upd (upd (upd H N (.dK [])) D (.lst [])) L (.lst [])) N (.dK [(kD, .ref D), (kE, .ref L), (kF, vn 0)])) := Same.putNew (Same.putNew (Same.putNew (Same.putNew (Same.refl _) hN) hD0) hL0) hN
  have nt4 : Nt [] (upd (upd (upd (upd H N (.dK [])) D (.lst [])) L (.lst [])) N (.dK [(kD, .ref D), (kE, .ref L), (kF, vn 0)])) N D [] [] 0 :=
    ⟨fun s hs => absurd hs (by simp), by simp, by simp, L, [], upd_same, by rw [upd_ne nDN, upd_ne nLD.symm, upd_same]; rfl, by rw [upd_ne nLN, upd_same]; rfl, nLD, by simp, rfl, fun i r hr => absurd hr (by simp)⟩
  revert S4 nt4
  generalize upd (upd (upd (upd H N (.dK [])) D (.lst [])) L (.lst [])) N (.dK [(kD, .ref D), (kE, .ref L), (kF, vn 0)]) = H4
  intro S4 nt4
  have haN : a ∉ [N, D] := fun z => by
    rcases List.mem_cons.mp z with z | z
    · exact ha (by rw [z]; exact hN)
    · exact ha (by rw [List.mem_singleton.mp z]; exact hD0)
  have toS : ∀ {H5}, SameX [N, D] H4 H5 → Same H H5 := fun s5 b o hb => s5 b o (fun z => by
    rcases List.mem_cons.mp z with z | z
    · rw [z, hN] at hb
      cases hb
    · rw [List.mem_singleton.mp z, hD0] at hb
      cases hb) (S4 b o hb)
  walk_at "rd"
  refine ⟨_, _, rfl, (hC.same S4).sq, ?_⟩
  rw [List.length_map]
  walk_at "rd"
  refine ⟨a, N, D, [], cs, 0, cs.length, 0, 31, [], [], 0, rfl, hC.same S4, haN, by omega, by omega, by omega, by omega, by omega, nt4, Nat.le_refl _, Nat.le_refl _, fun p hpe H5 s5 => ?_, fun bs hbs v H5 s5 hv nt5 => ?_⟩
  · have S5 := toS s5
    have hp : fwr cs = some p := by
      unfold fwr
      rw [hpe]
    walk_at "rd"
    walk_at "rd"
    refine ⟨a, cs, rfl, hC.same S5, fun H6 s6 => ?_⟩
    rw [hp]
    have S6 := S5.trans s6
    walk_at "rd"
    refine g_ndF rfl ?_
    walk_at "rd"
    refine ⟨(by show 3 ≤ sizeLine; decide), fun W3 hW3 => ?_⟩
    have sW := same_new hW3 (.lst [V.ref fR, V.ref fS, V.ref fF])
    refine ⟨W3, rfl, ⟨_, SqL.of upd_same⟩, for_it walk_list (fun i σ H' => (∃ v3 v4 v5 v6, σ = [some (.ref a), some (.ref N), some (vn p), v3, v4, v5, v6, none]) ∧ Same H6 H' ∧ Same (upd H6 W3 (.lst [V.ref fR, V.ref fS, V.ref fF])) H')
      ⟨⟨_, _, _, _, rfl⟩, sW, Same.refl _⟩ (fun i σ H' _ z => z.2.2.seq (SqL.of upd_same)) ?_ ?_⟩
    · rintro i x σ H7 H8 hi ⟨⟨v3, v4, v5, v6, rfl⟩, t1, t2⟩ ⟨rfl, hx⟩
      obtain ⟨g, rfl, hg⟩ : ∃ g, x = .ref g ∧ Tells P w K mg base C g := by
        match i, hx with
        | 0, hx => cases hx; exact ⟨fR, rfl, tR⟩
        | 1, hx => cases hx; exact ⟨fS, rfl, tS⟩
        | 2, hx => cases hx; exact ⟨fF, rfl, tF⟩
        | i + 3, hx => simp at hx
      walk_at "rd"
      refine ⟨g, a, cs, p, rfl, hg, hC.same (S6.trans t1), hp, fun H9 s9 => ?_⟩
      walk_at "rd"
      refine g_ndF rfl ?_
      walk_at "rd"
      exact ⟨⟨_, _, _, _, rfl⟩, t1.trans s9, t2.trans s9⟩
    · rintro σ H7 ⟨⟨v3, v4, v5, v6, rfl⟩, t1, t2⟩
      walk_at "rd"
      exact q H7 (S6.trans t1)
  · have S5 := toS s5
    obtain ⟨t, xs, rfl, hT, hX⟩ := Tp.tup_inv hv
    have hfw : fwr cs = wre cs (hsL bs) := by
      unfold fwr
      rw [hbs]
    have hP := prs_pth 31 cs 0 cs.length 0 bs hbs (by omega) (Nat.zero_le _) (Nat.le_refl _)
    have hL := hP.len
    have hEL := ens_len hP
    have hRL := rws_len cs (hsL bs)
    rw [List.nil_append, List.nil_append, Nat.zero_add] at nt5
    walk_at "rd"
    refine isi_ti hT ?_
    walk_at "rd"
    refine ⟨Nat.zero_le _, fun g0 hg0 => ?_⟩
    have sg := same_new hg0 (.lst [])
    have hr2 : ∀ r ∈ rws cs (hsL bs), r.2 ≤ 100 := fun r hr => by
      unfold rws at hr
      obtain ⟨p, hp, rfl⟩ := List.mem_map.mp hr
      have := cel_top hC (p + 1)
      show cel cs (p + 1) - 2 ≤ 100
      omega
    obtain ⟨qs, hD5, hql, hqs⟩ := nt5.gq
    walk_at "rd"
    refine ⟨N, _, rfl, (nt5.same sg).gD, ?_⟩
    refine ⟨D, rfl, ⟨_, SqL.of (sg _ _ hD5)⟩, for_it walk_list (fun i σ H' => (∃ g v4, σ = [some (.ref a), some (.ref N), some (.ref t), some (.ref g), v4, none, none, none] ∧ H' g = some (.lst (((((rws cs (hsL bs)).take i).map plc).flatten).map vn))) ∧ Same H5 H')
      ⟨⟨g0, _, rfl, upd_same⟩, sg⟩ (fun i σ H' _ z => z.2.seq (SqL.of hD5)) ?_ ?_⟩
    · rintro i x σ H6 H7 hi ⟨⟨g, v4, rfl, hg⟩, t1⟩ ⟨rfl, hx⟩
      rw [List.length_map] at hi
      have hil : i < (rws cs (hsL bs)).length := by omega
      obtain ⟨zk, hzk, hzk1⟩ := hqs i _ (List.getElem?_eq_getElem hil)
      obtain rfl : x = .ref zk := by
        rw [List.getElem?_map, hzk] at hx
        exact (Option.some.inj hx).symm
      have hfl := flat_plc ((rws cs (hsL bs)).take i) fun r hr => hr2 r (List.mem_of_mem_take hr)
      rw [List.length_take] at hfl
      have hr1 := hr2 _ (List.getElem_mem hil)
      walk_at "rd"
      refine ⟨g, zk, _, _, rfl, rfl, hg, t1 _ _ hzk1, by rw [List.length_map, List.length_map, plc_len, sizeLine_eq]; omega, fun M hM => ?_⟩
      walk_at "rd"
      refine ⟨⟨M, _, rfl, ?_⟩, t1.trans (same_new hM _)⟩
      have etk : (rws cs (hsL bs)).take (i + 1) = (rws cs (hsL bs)).take i ++ [(rws cs (hsL bs))[i]] := by
        rw [List.take_add_one, List.getElem?_eq_getElem hil]
        rfl
      rw [upd_same, etk, List.map_append, List.flatten_append, List.map_append]
      show _ = some (HO.lst (_ ++ (plc _ ++ []).map vn))
      rw [List.append_nil]
    rintro σ H6 ⟨⟨g, v4, rfl, hg⟩, t1⟩
    rw [List.length_map, List.take_of_length_le (by omega)] at hg
    have S6 := S5.trans t1
    have nt6 := nt5.same t1
    have hC6 := hC.same S6
    obtain ⟨L2, hL2, hL3⟩ := nt6.gE
    walk_at "rd"
    refine ⟨N, _, rfl, hL2, ?_⟩
    refine ⟨L2, rfl, ⟨_, SqL.of hL3⟩, fun J hJ => ?_⟩
    refine lc_it walk_list (fun k H' => Same H6 H' ∧ H' J = some (.lst ((((ens cs (hsL bs)).take k).filter (bad cs (hsL bs))).map vn))) ⟨same_new hJ _, upd_same⟩ (fun i H' _ z => z.1.seq (SqL.of hL3)) ?_ ?_
    · rintro k x H7 H8 hk ⟨w1, w2⟩ ⟨rfl, hx⟩
      rw [List.length_map] at hk
      obtain ⟨n, hn, rfl⟩ := vn_get hx
      obtain ⟨p, hp1, hp2, hp3⟩ := ens_mem.mp (List.mem_of_getElem? hn)
      have hnl := ens_lt hP hp1 (by omega) hp3
      walk_at "rd"
      refine ⟨rfl, ?_⟩
      refine ⟨_, rfl, _, rfl, ?_⟩
      refine (hC6.same w1).ix n rfl hnl ?_
      refine ⟨_, rfl, g, _, rfl, .inl (SqL.of (w1 _ _ hg)), rfl, flat_vn _, _, rfl, ?_⟩
      show if (!inV (vn (cel cs n)) ((((rws cs (hsL bs)).map plc).flatten).map vn)) = true then _ else _
      rw [inV_own]
      have ebad : bad cs (hsL bs) n = !own (rws cs (hsL bs)) (cel cs n) := rfl
      rw [← ebad]
      have hfl : (((ens cs (hsL bs)).take k).filter (bad cs (hsL bs))).length ≤ k := Nat.le_trans (List.length_filter_le _ _) (List.length_take_le _ _)
      cases hb : bad cs (hsL bs) n with
      | true =>
        refine iteT ?_
        refine ⟨_, rfl, _, w2, small1000 (by rw [List.length_map]; omega), Same.putNew w1 hJ, ?_⟩
        rw [upd_same, List.take_add_one, hn, List.filter_append]
        show _ = some (HO.lst ((_ ++ ([n].filter _)).map vn))
        rw [List.filter_cons_of_pos hb, List.filter_nil, List.map_append]
        rfl
      | false =>
        refine iteF ⟨w1, ?_⟩
        rw [w2, List.take_add_one, hn, List.filter_append]
        show _ = some (HO.lst ((_ ++ ([n].filter _)).map vn))
        rw [List.filter_cons_of_neg (by rw [hb]; exact Bool.false_ne_true), List.filter_nil, List.append_nil]
    rintro H7 ⟨w1, w2⟩
    rw [List.length_map, List.take_of_length_le (Nat.le_refl _)] at w2
    have S7 := S6.trans w1
    have nt7 := nt6.same w1
    walk_at "rd"
    refine ⟨Nat.zero_le _, fun e0 he0 => ?_⟩
    have se := same_new he0 (.lst [])
    walk_at "rd"
    refine ⟨.list (((ens cs (hsL bs)).filter (bad cs (hsL bs))).map pn), .list [], .lst (SqL.of (se _ _ w2)) (TpAll.dp _ _ (TpAll.ints _)), .lst (SqL.of upd_same) .nil, shaped_nats _, shaped_nil, ?_⟩
    have hwre : wre cs (hsL bs) = ((ens cs (hsL bs)).filter (bad cs (hsL bs))).head? := (List.head?_filter ..).symm
    cases hl : (ens cs (hsL bs)).filter (bad cs (hsL bs)) with
    | nil =>
      rw [hl] at hwre
      have hfn : fwr cs = none := by rw [hfw, hwre]; rfl
      obtain ⟨bs', hbs', hGd⟩ := fwr_ok hfn
      rw [hbs] at hbs'
      cases hbs'
      have S8 := S7.trans se
      have nt8 := nt7.same se
      have hv8 : ∀ {H9 : Hp}, Same (upd H7 e0 (.lst [])) H9 → Tp K H9 (.ref t) (.tuple (waL cs bs)) := fun s9 => hv.same ((t1.trans w1).trans (se.trans s9))
      have hdp := prs_dep2 _ _ _ _ _ _ hbs (by omega)
      have hft := prs_fit _ _ _ _ _ _ hbs (Nat.le_refl _)
      have hdl : depL bs ≤ 3 := by omega
      rw [show PyData.eqv (.list (([] : List Nat).map pn)) (.list []) = true from rfl]
      walk_at "rd"
      refine ⟨a, cs, rfl, hC.same S8, fun H9 s9 => ?_⟩
      rw [hfn]
      have S9 := S8.trans s9
      walk_at "rd"
      refine g_ndF rfl ?_
      walk_at "rd"
      refine ⟨a, cs, rfl, hC.same S9, fun bs1 _ hb1 v1 H10 s10 hv1 => ?_, fun p e => by rw [hfn] at e; cases e⟩
      rw [hbs] at hb1
      cases hb1
      have S10 := S9.trans s10
      walk_at "rd"
      refine ⟨.ref t, a, N, D, cs, _, _, _, true, bs, rfl, hv8 (s9.trans s10), hC.same S10, nt8.same (s9.trans s10), by omega, hP.apart, hGd, hft, by omega, by omega, fun v2 H11 s11 hv2 => ?_⟩
      have S11 := S10.trans s11
      refine ⟨_, _, Tp.dp _ _ (hv1.same s11), Tp.dp _ _ hv2, shaped_daL hdl, shaped_daL hdl, ?_⟩
      rw [eqv_daL]
      walk_at "rd"
      have nt11 := nt8.same ((s9.trans s10).trans s11)
      -- the cells as a tuple
      have hC11 := hC.same S11
      rcases hC11.sq with z | z
      · refine ⟨a, _, rfl, .inl ⟨z, fun c hc => ?_⟩⟩
        have s12 := same_new hc (.tup (cs.map vn))
        have hC12 : Cells K (upd H11 c (.tup (cs.map vn))) c cs := ⟨.inr (SqT.of upd_same), hC.len, hC.top⟩
        have S12 := S11.trans s12
        walk_at "rd"
        refine ⟨c, cs, rfl, hC12, fun bs1 _ hb1 v3 H13 s13 hv3 => ?_, fun p e => by rw [hfn] at e; cases e⟩
        rw [hbs] at hb1
        cases hb1
        have S13 := S12.trans s13
        have nt13 := nt11.same (s12.trans s13)
        walk_at "rd"
        refine ⟨.ref t, a, N, D, cs, _, _, _, false, bs, rfl, hv8 (((s9.trans s10).trans s11).trans (s12.trans s13)), hC.same S13, nt13, by omega, hP.apart, hGd, hft, by omega, by omega, fun v4 H14 s14 hv4 => ?_⟩
        have S14 := S13.trans s14
        refine ⟨_, _, Tp.dp _ _ (hv3.same s14), Tp.dp _ _ hv4, shaped_daL hdl, shaped_daL hdl, ?_⟩
        rw [eqv_daL]
        walk_at "rd"
        refine ⟨a, cs, rfl, hC.same S14, fun bs1 _ hb1 H15 s15 => ?_, fun p e => by rw [hfn] at e; cases e⟩
        rw [hbs] at hb1
        cases hb1
        walk_at "rd"
        refine ⟨N, _, rfl, ((nt13.same s14).same s15).gF, ?_⟩
        walk_at "rd"
        show Q (V.bl (decide (vn (fre cs (hsL bs)) = vn (fre cs (hsL bs))))) H15
        rw [decide_eq_true rfl]
        exact q H15 (S14.trans s15)
      · refine ⟨a, _, rfl, .inr ⟨z, ?_⟩⟩
        have s12 := Same.refl H11
        have hC12 := hC11
        have S12 := S11.trans s12
        walk_at "rd"
        refine ⟨a, cs, rfl, hC12, fun bs1 _ hb1 v3 H13 s13 hv3 => ?_, fun p e => by rw [hfn] at e; cases e⟩
        rw [hbs] at hb1
        cases hb1
        have S13 := S12.trans s13
        have nt13 := nt11.same (s12.trans s13)
        walk_at "rd"
        refine ⟨.ref t, a, N, D, cs, _, _, _, false, bs, rfl, hv8 (((s9.trans s10).trans s11).trans (s12.trans s13)), hC.same S13, nt13, by omega, hP.apart, hGd, hft, by omega, by omega, fun v4 H14 s14 hv4 => ?_⟩
        have S14 := S13.trans s14
        refine ⟨_, _, Tp.dp _ _ (hv3.same s14), Tp.dp _ _ hv4, shaped_daL hdl, shaped_daL hdl, ?_⟩
        rw [eqv_daL]
        walk_at "rd"
        refine ⟨a, cs, rfl, hC.same S14, fun bs1 _ hb1 H15 s15 => ?_, fun p e => by rw [hfn] at e; cases e⟩
        rw [hbs] at hb1
        cases hb1
        walk_at "rd"
        refine ⟨N, _, rfl, ((nt13.same s14).same s15).gF, ?_⟩
        walk_at "rd"
        show Q (V.bl (decide (vn (fre cs (hsL bs)) = vn (fre cs (hsL bs))))) H15
        rw [decide_eq_true rfl]
        exact q H15 (S14.trans s15)
    | cons p rest =>
      rw [hl] at hwre w2
      have hp : fwr cs = some p := by rw [hfw, hwre]; rfl
      have S8 := S7.trans se
      rw [show PyData.eqv (.list ((p :: rest).map pn)) (.list []) = false from rfl]
      walk_at "rd"
      refine ⟨J, _, 0, _, rfl, rfl, SqL.of (se _ _ w2), atI_nat (j := 0) rfl, ?_⟩
      walk_at "rd"
      refine ⟨a, cs, rfl, hC.same S8, fun H6 s6 => ?_⟩
      rw [hp]
      have S6 := S8.trans s6
      walk_at "rd"
      refine g_ndF rfl ?_
      walk_at "rd"
      refine ⟨(by show 3 ≤ sizeLine; decide), fun W3 hW3 => ?_⟩
      have sW := same_new hW3 (.lst [V.ref fR, V.ref fS, V.ref fF])
      refine ⟨W3, rfl, ⟨_, SqL.of upd_same⟩, for_it walk_list (fun i σ H' => (∃ v3 v4 v5 v6, σ = [some (.ref a), some (.ref N), some (vn p), v3, v4, v5, v6, none]) ∧ Same H6 H' ∧ Same (upd H6 W3 (.lst [V.ref fR, V.ref fS, V.ref fF])) H')
        ⟨⟨_, _, _, _, rfl⟩, sW, Same.refl _⟩ (fun i σ H' _ z => z.2.2.seq (SqL.of upd_same)) ?_ ?_⟩
      · rintro i x σ H7 H8 hi ⟨⟨v3, v4, v5, v6, rfl⟩, t1, t2⟩ ⟨rfl, hx⟩
        obtain ⟨g, rfl, hg⟩ : ∃ g, x = .ref g ∧ Tells P w K mg base C g := by
          match i, hx with
          | 0, hx => cases hx; exact ⟨fR, rfl, tR⟩
          | 1, hx => cases hx; exact ⟨fS, rfl, tS⟩
          | 2, hx => cases hx; exact ⟨fF, rfl, tF⟩
          | i + 3, hx => simp at hx
        walk_at "rd"
        refine ⟨g, a, cs, p, rfl, hg, hC.same (S6.trans t1), hp, fun H9 s9 => ?_⟩
        walk_at "rd"
        refine g_ndF rfl ?_
        walk_at "rd"
        exact ⟨⟨_, _, _, _, rfl⟩, t1.trans s9, t2.trans s9⟩
      · rintro σ H7 ⟨⟨v3, v4, v5, v6, rfl⟩, t1, t2⟩
        walk_at "rd"
        exact q H7 (S6.trans t1)
end
end Bx

namespace Bx
theorem kinds_ok : ∀ ks ∈ kinds1 ++ kinds2, dpkL ks ≤ 2 ∧ szkL ks ≤ 5 ∧ cntL ks ≤ 2 ∧ ks ≠ [] := by
  intro ks h
  simp only [kinds1, kinds2, List.cons_append, List.nil_append, List.mem_cons, List.not_mem_nil, or_false] at h
  rcases h with rfl | rfl | rfl | rfl | rfl | rfl | rfl | rfl | rfl | rfl | rfl | rfl <;> exact ⟨by decide, by decide, by decide, fun z => nomatch z⟩
mutual
theorem gp_le1 : ∀ s : Sh, gp1 s ≤ ln1 s
  | .dat c => by
    rw [gp1, ln1]
    omega
  | .tab c => by
    rw [gp1, ln1]
    omega
  | .grp ks => by
    have := gp_leL ks
    rw [gp1, ln1]
    omega
theorem gp_leL : ∀ l : List Sh, gpL l ≤ lnL l + 1
  | [] => by
    rw [gpL, lnL]
    omega
  | s :: r => by
    have h1 := gp_le1 s
    have h2 := gp_leL r
    rw [gpL, lnL]
    omega
end
theorem ln_pos : ∀ l : List Sh, l ≠ [] → 2 ≤ lnL l
  | [], h => absurd rfl h
  | s :: r, _ => by
    have : 2 ≤ ln1 s := by
      cases s <;> rw [ln1] <;> omega
    rw [lnL]
    omega
theorem fit_ne {szs : List Nat} : ∀ {ks : List Kd} {ss : List Sh} {i i' : Nat}, fitL szs ks ss i i' → ks ≠ [] → ss ≠ []
  | [], _, _, _, _, h => absurd rfl h
  | _ :: _, [], _, _, h, _ => by
    rw [fitL] at h
    exact h.elim
  | _ :: _, _ :: _, _, _, _, _ => fun z => nomatch z
theorem cut_lo {cs : List Nat} {p : Nat} (h : p ≤ cs.length) : cutV (cs.map vn) none (some (p : Int)) = (cs.take p).map vn := by
  unfold cutV
  rw [HT.sIx_none, HT.sIx_nat, List.drop_zero, List.length_map, Nat.min_eq_left h, Nat.sub_zero, List.map_take]
theorem cut_hi {cs : List Nat} {p : Nat} (h : p ≤ cs.length) : cutV (cs.map vn) (some (p : Int)) none = (cs.drop p).map vn := by
  unfold cutV
  rw [HT.sIx_none, HT.sIx_nat, List.length_map, Nat.min_eq_left h, List.map_drop, List.take_of_length_le (by rw [List.length_drop, List.length_map]; omega)]
section
variable {P : Program} {w : World} {K : PySem.W.Frag} {mg : Str → Option Value} {base : Heap}
def spLaw (K : PySem.W.Frag) : Sp := fun vs H Q _ => ∃ (S : Addr) (ns : List Int), vs = [.ref S] ∧ Scr K H S ns ∧ ∀ H', Same H H' → Q (.bl true) H'
theorem ok_law {f : Addr} {fd : FuncData} (F : Def K mg "law" sLaw f fd) (b : Binds K fd ["_law_script"] []) (T : Txt mg) (C_lCellAt : Cal P w K mg base 1 "_law_cell_at" (spCellAt K) []) (C_lPick : Cal P w K mg base 2 "_law_pick" (spPick K) []) (C_lKinds : Cal P w K mg base 1 "_law_kinds" (spKinds K) [])
    (C_lShape : Cal P w K mg base 14 "_law_shape" (spShape K) []) (C_lFile : Cal P w K mg base 13 "_law_file" (spFile K) []) (C_lGaps : Cal P w K mg base 2 "_law_gaps" (spGaps K) []) (C_lGapsIn : Cal P w K mg base 11 "_law_gaps_in" (spGapsIn K 10) [])
    (C_lLength : Cal P w K mg base 11 "_law_length" (spLength K 10) []) (C_lCellsRight : Cal P w K mg base 67 "_law_cells_right" (spLRight K) []) : FnOk P w K mg base C8.CX0 68 f fd ["_law_script"] (spLaw K) := by
  refine fn0 F.fn scLaw (fun vs H Q E h => ?_) (fun cdv A outer s H vs Q E hr h => ?_)
  · obtain ⟨S, ns, rfl, _⟩ := h
    rfl
  obtain ⟨S, ns, rfl, hS, q⟩ := h
  refine ⟨_, (pss_cons (ps_set (i := 1) scLaw.nd rfl (Or.inl rfl) (pe_c C_lShape hr (by decide) rfl (pa_cons (pv 0) (pa_cons pe_int (pa_cons (pe_c C_lPick hr (by decide) rfl (pa_cons (pv 0) (pa_cons pe_int (pa_cons (pe_c0 C_lKinds hr (by decide) rfl) pa_nil)))) pa_nil)))))
    (pss_cons (ps_set (i := 2) scLaw.nd rfl (Or.inl rfl) (pe_callTy call_list_of (by rfl) T.list b_list (pa_cons (pe_c C_lFile hr (by decide) rfl (pa_cons (pe_tup pa_nil) (pa_cons (pv 1) (pa_cons (pe_c C_lGaps hr (by decide) rfl (pa_cons (pv 0) (pa_cons pe_int (pa_cons (pe_c C_lGapsIn hr (by decide) rfl (pa_cons (pv 1) pa_nil)) (pa_cons (pe_op op_sub pe_int (pe_c C_lLength hr (by decide) rfl (pa_cons (pv 1) pa_nil))) pa_nil))))) pa_nil)))) pa_nil)))
    (pss_cons (ps_if (PW.pt (pw_or (pt_not (pt_val (pe_c C_lCellsRight hr (by decide) rfl (pa_cons (pv 2) pa_nil)))) (pw_or1 (pt_not (pt_val (pe_c C_lCellsRight hr (by decide) rfl (pa_cons (pe_callTy call_tuple_of (by rfl) T.tuple b_tuple (pa_cons (pv 2) pa_nil)) pa_nil))))))) 
      (pss_one (ps_ret pe_bl)) pss_nil)
    (pss_cons (ps_for PassesOwn.never rfl (pi_range1 (by rfl) T.range (pa_cons pe_int pa_nil)) (pg_name (i := 3) scLaw.nd rfl (.inl rfl)) 
      (pss_cons (ps_par (i := 4) (j := 5) (by rfl) scLaw.nd rfl rfl (by decide) rfl rfl (pa_cons (pe_callTy call_list_of (by rfl) T.list b_list (pa_cons (pv 2) pa_nil)) (pa_cons (pe_c C_lCellAt hr (by decide) rfl (pa_cons (pv 0) (pa_cons (pe_op op_add pe_int (pv 3)) pa_nil))) pa_nil)) (by rfl))
      (pss_cons (ps_set (i := 6) scLaw.nd rfl (Or.inl rfl) (pe_op op_mod (pe_callTy call_int1 (by rfl) T.int b_int (pa_cons (pe_op op_fdiv (pv 5) pe_int) pa_nil)) (pe_callB call_len_seq (by rfl) T.len b_len (pa_cons (pv 4) pa_nil))))
      (pss_cons (ps_if (pt_cmpR op_eq (pe_op op_mod (pe_callTy call_int1 (by rfl) T.int b_int (pa_cons (pv 5) pa_nil)) pe_int) pe_int (nomark _)) 
        (pss_one (ps_asg (pe_op op_mod (pe_callTy call_int1 (by rfl) T.int b_int (pa_cons (pe_c C_lCellAt hr (by decide) rfl (pa_cons (pv 0) (pa_cons (pe_op op_add pe_int (pv 3)) pa_nil))) pa_nil)) pe_int) (pg_sub (pv 4) (pv 6) set_list))) 
        (pss_one (ps_if (pt_cmpR op_eq (pe_op op_mod (pe_callTy call_int1 (by rfl) T.int b_int (pa_cons (pv 5) pa_nil)) pe_int) pe_int (nomark _)) 
          (pss_one (ps_set (i := 4) scLaw.nd rfl (Or.inl rfl) (pe_op op_cat (pe_slice sl_list (pv 4) po_none (po_some (pv 6))) (pe_slice sl_list (pv 4) (po_some (pe_op op_add (pv 6) pe_int)) po_none)))) 
          (pss_one (ps_if (pt_cmpR op_lt (pe_callB call_len_seq (by rfl) T.len b_len (pa_cons (pv 4) pa_nil)) pe_int (nomark _)) 
            (pss_one (ps_set (i := 4) scLaw.nd rfl (Or.inl rfl) (pe_op op_cat (pe_op op_cat (pe_slice sl_list (pv 4) po_none (po_some (pv 6))) (pe_lst (pa_cons (pe_op op_mod (pe_callTy call_int1 (by rfl) T.int b_int (pa_cons (pe_c C_lCellAt hr (by decide) rfl (pa_cons (pv 0) (pa_cons (pe_op op_add pe_int (pv 3)) pa_nil))) pa_nil)) pe_int) pa_nil))) (pe_slice sl_list (pv 4) (po_some (pv 6)) po_none)))) pss_nil)))))
      (pss_one (ps_if (pt_not (pt_val (pe_c C_lCellsRight hr (by decide) rfl (pa_cons (pv 4) pa_nil)))) 
        (pss_one (ps_ret pe_bl)) pss_nil))))))
    (pss_one (ps_ret (pe_and (pe_c C_lCellsRight hr (by decide) rfl (pa_cons (pe_lst pa_nil) pa_nil)) (pe_one (pe_c C_lCellsRight hr (by decide) rfl (pa_cons (pe_lc (own := [("_law_turn", 3)]) rfl scLaw.nd (pi_range1 (by rfl) T.range (pa_cons pe_int pa_nil)) (blkOk_by (own := [("_law_turn", 3)]) (N := NLaw) (sc := (fnScope sLaw)) (by decide +kernel)) (fun _ _ _ _ _ => (pg_name (i := 3) scLaw.nd rfl (.inl rfl))) (fun _ _ _ _ _ => pts_nil) (fun _ _ _ _ _ => (pe_op op_mod (pe_callTy call_int1 (by rfl) T.int b_int (pa_cons (pe_c C_lCellAt hr (by decide) rfl (pa_cons (pv 0) (pa_cons (pe_op op_add pe_int (pv 3)) pa_nil))) pa_nil)) pe_int))) pa_nil)))))))))), ?_⟩
  walk_at "rd"
  refine ⟨rfl, fun l xs H1 s1 hl hl1 hX => ?_⟩
  have hxl : xs.length = 12 := by rw [hX.length]; rfl
  walk_at "rd"
  refine ⟨S, l, ns, 0, xs, rfl, hS.same s1, by omega, SqL.of hl1, by omega, fun H2 j v s2 hj hv => ?_⟩
  obtain ⟨d, hd1, hd2⟩ := hX.get hv
  obtain ⟨ks, hks, rfl⟩ : ∃ ks ∈ kinds1 ++ kinds2, d = .tuple (kdL ks) := by
    unfold kdT at hd1
    obtain ⟨ks, h1, h2⟩ := List.mem_map.mp (List.mem_of_getElem? hd1)
    exact ⟨ks, h1, h2.symm⟩
  obtain ⟨k1, k2, k3, k4⟩ := kinds_ok ks hks
  walk_at "rd"
  refine ⟨S, ns, 10, v, ks, rfl, hS.same (s1.trans s2), by omega, hd2.same s2, by omega, by omega, by omega, fun v' H3 ss szs s3 z1 z2 z3 z4 => ?_⟩
  obtain ⟨y1, y2, y3⟩ := fitL_ln szs z2 ks ss 0 _ z3
  have y4 := gp_leL ss
  have y5 := ln_pos ss (fit_ne z3 k4)
  have S3 := (s1.trans s2).trans s3
  walk_at "rd"
  refine ⟨Nat.zero_le _, fun B hB => ?_⟩
  have sB := same_new hB (.tup [])
  walk_at "rd"
  refine ⟨v', ss, rfl, z4.same sB, by omega, by omega, fun H4 s4 => ?_⟩
  walk_at "rd"
  refine ⟨v', ss, rfl, (z4.same sB).same s4, by omega, by omega, fun H5 s5 => ?_⟩
  have S5 := ((S3.trans sB).trans s4).trans s5
  walk_at "rd"
  refine ⟨S, ns, 60, gpL ss, 30 - lnL ss, by rw [show (30 : Int) - (lnL ss : Int) = ((30 - lnL ss : Nat) : Int) by omega]; rfl, hS.same S5, by omega, by omega, fun Gp H6 gs s6 hGp hg1 hg2 hg3 => ?_⟩
  have hz : fitL szs ks ss 0 szs.length := by rw [z1]; exact z3
  obtain ⟨x1, x2⟩ := kn_all (bef := []) (szs := szs) hz (fun n => by rw [List.getD_nil]; omega) hg1 (by omega)
  have hgl : ∀ g ∈ gs, g ≤ 90 := fun g hg => by
    obtain ⟨a, b, e⟩ := List.append_of_mem hg
    rw [e, List.sum_append, List.sum_cons] at hg2
    omega
  walk_at "rd"
  refine ⟨B, Gp, v', [], gs, ss, rfl, SqT.of ((s4.trans (s5.trans s6)) _ _ upd_same), (z4.same sB).same (s4.trans (s5.trans s6)), by omega, by omega, hGp, by omega, hgl, by omega, fun n hn => ⟨_, (x2 n hn).choose_spec.1⟩, fun c H7 s7 hc => ?_⟩
  have S7 := (S5.trans s6).trans s7
  have hfl : (fil [] ss gs).length = lnL ss + gs.sum := by
    unfold fil
    rw [List.length_map, List.length_range, x1]
  have hft : ∀ n ∈ fil [] ss gs, n ≤ 99 := fun n hn => by
    unfold fil at hn
    obtain ⟨m, hm, rfl⟩ := List.mem_map.mp hn
    obtain ⟨v, hv1, hv2⟩ := x2 m (List.mem_range.mp hm)
    rw [hv1]
    exact hv2
  generalize fil [] ss gs = cs at hc hfl hft
  walk_at "rd"
  refine ⟨c, _, rfl, .inr (SqT.of hc), fun Cl hCl => ?_⟩
  have sC := same_new hCl (.lst (cs.map vn))
  have S8 := S7.trans sC
  have hCc : Cells K (upd H7 Cl (.lst (cs.map vn))) Cl cs := ⟨.inl (SqL.of upd_same), by omega, hft⟩
  have hCt : (upd H7 Cl (.lst (cs.map vn))) Cl = some (.lst (cs.map vn)) := upd_same
  revert sC S8 hCc hCt
  generalize upd H7 Cl (.lst (cs.map vn)) = H8
  intro sC S8 hCc hCt
  walk_at "rd"
  refine ⟨Cl, cs, rfl, hCc, (by rw [hCt]; exact fun z => nomatch z), fun H9 s9 => ?_⟩
  walk_at "rd"
  refine ⟨Cl, _, rfl, .inl ⟨SqL.of (s9 _ _ hCt), fun tu htu => ?_⟩⟩
  have st := same_new htu (.tup (cs.map vn))
  refine ⟨tu, cs, rfl, ⟨.inr (SqT.of upd_same), by omega, hft⟩, (by rw [upd_same]; exact fun z => nomatch z), fun H10 s10 => ?_⟩
  have s8 := (s9.trans st).trans s10
  have S10 := S8.trans s8
  walk_at "rd"
  refine ⟨6, rfl, by decide, by decide, for_it walk_range (fun i σ H' => (∃ v3 v4 v5 v6, σ = [some (.ref S), some v', some (.ref Cl), v3, v4, v5, v6]) ∧ Same H8 H')
    ⟨⟨_, _, _, _, rfl⟩, s8⟩ (fun _ _ _ _ _ => True.intro) ?_ ?_⟩
  · rintro i x σ H11 H12 hi ⟨⟨v3, v4, v5, v6, rfl⟩, t1⟩ ⟨rfl, rfl⟩
    have hi6 : i < 6 := hi
    walk_at "rd"
    refine ⟨Cl, _, rfl, .inl (SqL.of (t1 _ _ hCt)), fun Bn hBn => ?_⟩
    have sb := same_new hBn (.lst (cs.map vn))
    walk_at "rd"
    refine ⟨S, ns, 80 + i, congrArg (fun z => [V.ref S, V.int z]) (by omega), (hS.same (S8.trans t1)).same sb, by omega, fun H13 s13 => ?_⟩
    have bN : H13 Bn = some (.lst (cs.map vn)) := s13 _ _ upd_same
    have t13 := (t1.trans sb).trans s13
    walk_at "rd"
    refine ⟨_, _, rfl, ?_⟩
    walk_at "rd"
    refine g_I ⟨by decide, by decide⟩ ?_
    walk_at "rd"
    refine ⟨Bn, _, rfl, .inl (SqL.of bN), ?_⟩
    rw [List.length_map]
    walk_at "rd"
    refine g_I (by show (0 : Int) < _; omega) ?_
    walk_at "rd"
    refine g_I (by show (0 : Int) < _; decide) ?_
    have hB8 : H8 Bn = none := t1.free hBn
    have hlen : 0 < cs.length := by omega
    have pe : cat ns (80 + i) / 3 % (cs.length : Int) = (((cat ns (80 + i) / 3 % (cs.length : Int)).toNat : Nat) : Int) := (Int.toNat_of_nonneg (Int.emod_nonneg _ (by omega))).symm
    have pl : (cat ns (80 + i) / 3 % (cs.length : Int)).toNat < cs.length := by
      have := Int.emod_lt_of_pos (cat ns (80 + i) / 3) (show (0 : Int) < (cs.length : Int) by omega)
      omega
    rw [pe]
    revert pl
    generalize (cat ns (80 + i) / 3 % (cs.length : Int)).toNat = pN
    intro pl
    have md : ∀ (z : Int) (m : Nat), 0 < m → m ≤ 90 → ∃ u : Nat, z % (m : Int) = (u : Int) ∧ u ≤ 99 := fun z m h0 h9 => by
      have h1 := Int.emod_nonneg z (show (m : Int) ≠ 0 by omega)
      have h2 := Int.emod_lt_of_pos z (show (0 : Int) < (m : Int) by omega)
      exact ⟨(z % (m : Int)).toNat, (Int.toNat_of_nonneg h1).symm, by omega⟩
    walk_at "rd"
    refine g_ite (fun h1 => ?_) (fun h1 => ?_)
    · walk_at "rd"
      refine ⟨S, ns, 90 + i, congrArg (fun z => [V.ref S, V.int z]) (by omega), hS.same (S8.trans t13), by omega, fun H14 s14 => ?_⟩
      walk_at "rd"
      refine g_I (by show (0 : Int) < _; decide) ?_
      obtain ⟨u, hu1, hu2⟩ := md (cat ns (90 + i)) 9 (by decide) (by decide)
      have hu1 : cat ns (90 + i) % 9 = (u : Int) := hu1
      rw [hu1]
      walk_at "rd"
      refine g_setL pN (s14 _ _ bN) rfl (by rw [List.length_map]; exact pl) ?_
      rw [show (cs.map vn).set pN (V.int (u : Int)) = (cs.set pN u).map vn from List.map_set.symm]
      walk_at "rd"
      refine ⟨Bn, cs.set pN u, rfl, ⟨.inl (SqL.of upd_same), by rw [List.length_set]; omega, fun n hn => ?_⟩, (by rw [upd_same]; exact fun z => nomatch z), fun H15 s15 => ?_⟩
      · rcases List.mem_or_eq_of_mem_set hn with hn | hn
        · exact hft n hn
        · omega
      · walk_at "rd"
        exact ⟨⟨_, _, _, _, rfl⟩, (Same.putNew (t13.trans s14) hB8).trans s15⟩
    · walk_at "rd"
      refine g_I (by show (0 : Int) < _; decide) ?_
      walk_at "rd"
      refine g_ite (fun h2 => ?_) (fun h2 => ?_)
      · walk_at "rd"
        refine ⟨Bn, _, rfl, SqL.of bN, fun A1 hA1 => ?_⟩
        rw [cut_lo (Nat.le_of_lt pl)]
        have a1 := same_new hA1 (.lst ((cs.take pN).map vn))
        walk_at "rd"
        refine ⟨Bn, _, rfl, SqL.of (a1 _ _ bN), fun A2 hA2 => ?_⟩
        rw [show ((pN : Int) + 1) = ((pN + 1 : Nat) : Int) from rfl, cut_hi pl]
        have a2 := same_new hA2 (.lst ((cs.drop (pN + 1)).map vn))
        walk_at "rd"
        refine ⟨A1, A2, _, _, rfl, rfl, a2 _ _ upd_same, upd_same, small (by rw [List.length_map, List.length_map, List.length_take, List.length_drop]; omega), fun A3 hA3 => ?_⟩
        rw [← List.map_append]
        walk_at "rd"
        refine ⟨A3, cs.take pN ++ cs.drop (pN + 1), rfl, ⟨.inl (SqL.of upd_same), by rw [List.length_append, List.length_take, List.length_drop]; omega, fun n hn => ?_⟩, (by rw [upd_same]; exact fun z => nomatch z), fun H15 s15 => ?_⟩
        · rcases List.mem_append.mp hn with hn | hn
          · exact hft n (List.mem_of_mem_take hn)
          · exact hft n (List.mem_of_mem_drop hn)
        · walk_at "rd"
          exact ⟨⟨_, _, _, _, rfl⟩, (((t13.trans a1).trans a2).trans (same_new hA3 _)).trans s15⟩
      · walk_at "rd"
        refine ⟨Bn, _, rfl, .inl (SqL.of bN), ?_⟩
        rw [List.length_map]
        walk_at "rd"
        refine g_ite (fun h3 => ?_) (fun h3 => ?_)
        · walk_at "rd"
          refine ⟨Bn, _, rfl, SqL.of bN, fun A1 hA1 => ?_⟩
          rw [cut_lo (Nat.le_of_lt pl)]
          have a1 := same_new hA1 (.lst ((cs.take pN).map vn))
          walk_at "rd"
          refine ⟨S, ns, 90 + i, congrArg (fun z => [V.ref S, V.int z]) (by omega), hS.same (S8.trans (t13.trans a1)), by omega, fun H14 s14 => ?_⟩
          walk_at "rd"
          refine g_I (by show (0 : Int) < _; decide) ?_
          obtain ⟨u, hu1, hu2⟩ := md (cat ns (90 + i)) 6 (by decide) (by decide)
          have hu1 : cat ns (90 + i) % 6 = (u : Int) := hu1
          rw [hu1]
          walk_at "rd"
          refine ⟨(by show 1 ≤ sizeLine; decide), fun A2 hA2 => ?_⟩
          have a2 := s14.trans (same_new hA2 (.lst [V.int (u : Int)]))
          refine ⟨A1, A2, _, _, rfl, rfl, a2 _ _ upd_same, upd_same, small (by rw [List.length_map, List.length_take]; show _ + 1 ≤ 1000; omega), fun A3 hA3 => ?_⟩
          rw [show (cs.take pN).map vn ++ [V.int (u : Int)] = (cs.take pN ++ [u]).map vn by rw [List.map_append]; rfl]
          have a3 := a2.trans (same_new hA3 (.lst ((cs.take pN ++ [u]).map vn)))
          walk_at "rd"
          refine ⟨Bn, _, rfl, SqL.of ((a1.trans a3) _ _ bN), fun A4 hA4 => ?_⟩
          rw [cut_hi (Nat.le_of_lt pl)]
          have a4 := same_new hA4 (.lst ((cs.drop pN).map vn))
          walk_at "rd"
          refine ⟨A3, A4, _, _, rfl, rfl, a4 _ _ upd_same, upd_same, small (by rw [List.length_map, List.length_map, List.length_append, List.length_take, List.length_drop]; show _ + 1 + _ ≤ 1000; omega), fun A5 hA5 => ?_⟩
          rw [← List.map_append]
          walk_at "rd"
          refine ⟨A5, (cs.take pN ++ [u]) ++ cs.drop pN, rfl, ⟨.inl (SqL.of upd_same), by rw [List.length_append, List.length_append, List.length_take, List.length_drop]; show _ + 1 + _ ≤ 30; omega, fun n hn => ?_⟩, (by rw [upd_same]; exact fun z => nomatch z), fun H15 s15 => ?_⟩
          · rcases List.mem_append.mp hn with hn | hn
            · rcases List.mem_append.mp hn with hn | hn
              · exact hft n (List.mem_of_mem_take hn)
              · have := List.mem_singleton.mp hn
                omega
            · exact hft n (List.mem_of_mem_drop hn)
          · walk_at "rd"
            exact ⟨⟨_, _, _, _, rfl⟩, ((((t13.trans a1).trans a3).trans a4).trans (same_new hA5 _)).trans s15⟩
        · walk_at "rd"
          refine ⟨Bn, cs, rfl, ⟨.inl (SqL.of bN), by omega, hft⟩, (by rw [bN]; exact fun z => nomatch z), fun H15 s15 => ?_⟩
          walk_at "rd"
          exact ⟨⟨_, _, _, _, rfl⟩, t13.trans s15⟩
  · rintro σ H11 ⟨⟨v3, v4, v5, v6, rfl⟩, t1⟩
    have S11 := S8.trans t1
    walk_at "rd"
    refine ⟨Nat.zero_le _, fun E1 hE1 => ?_⟩
    have e1 := same_new hE1 (.lst [])
    walk_at "rd"
    refine ⟨E1, [], rfl, ⟨.inl (SqL.of upd_same), Nat.zero_le _, fun n hn => by cases hn⟩, (by rw [upd_same]; exact fun z => nomatch z), fun H13 s13 => ⟨true, rfl, iteT ?_⟩⟩
    have S13 := (S11.trans e1).trans s13
    walk_at "rd"
    refine ⟨8, rfl, by decide, by decide, ?_⟩
    intro J hJ
    refine lc_it walk_range (fun i H' => Same H13 H' ∧ ∃ us : List Nat, us.length = i ∧ (∀ n ∈ us, n ≤ 99) ∧ H' J = some (.lst (us.map vn))) ⟨same_new hJ _, [], rfl, (fun n hn => by cases hn), upd_same⟩ (fun _ _ _ _ => True.intro) ?_ ?_
    · rintro i x H14 H15 hi ⟨w1, us, w2, w3, w4⟩ ⟨rfl, rfl⟩
      have hi8 : i < 8 := hi
      walk_at "rd"
      refine ⟨rfl, ?_⟩
      walk_at "rd"
      refine ⟨S, ns, 99 + i, congrArg (fun z => [V.ref S, V.int z]) (by omega), hS.same (S13.trans w1), by omega, fun H16 s16 => ?_⟩
      walk_at "rd"
      refine g_I (by show (0 : Int) < _; decide) ?_
      have h1 := Int.emod_nonneg (cat ns (99 + i)) (show (5 : Int) ≠ 0 by decide)
      have h2 := Int.emod_lt_of_pos (cat ns (99 + i)) (show (0 : Int) < 5 by decide)
      obtain ⟨u, hu⟩ : ∃ u : Nat, cat ns (99 + i) % 5 = (u : Int) := ⟨_, (Int.toNat_of_nonneg h1).symm⟩
      rw [hu] at h2 ⊢
      refine ⟨_, s16 _ _ w4, small1000 (by rw [List.length_map]; omega), Same.putNew (w1.trans s16) hJ, us ++ [u], by rw [List.length_append, w2]; rfl, fun n hn => ?_, by rw [upd_same, List.map_append]; rfl⟩
      rcases List.mem_append.mp hn with hn | hn
      · exact w3 n hn
      · have := List.mem_singleton.mp hn
        omega
    · rintro H14 ⟨w1, us, w2, w3, w4⟩
      have w2' : us.length = 8 := w2
      walk_at "rd"
      exact ⟨J, us, rfl, ⟨.inl (SqL.of w4), by omega, w3⟩, (by rw [w4]; exact fun z => nomatch z), fun H15 s15 => q H15 ((S13.trans w1).trans s15)⟩
end
end Bx

namespace Bx
theorem exm_self {K : PySem.W.Frag} {S : Addr} (h1 : PySem.W.subIn K (.ref S) (.type "BaseException") = some true) (h2 : PySem.W.isClsIn K S = true) (h3 : PySem.W.typeIn K (.ref S) = some (.type "type")) (h4 : PySem.W.subIn K (.ref S) (.ref S) = some true) :
    PySem.W.exmOne K (.ref S) (.ref S) = some true := by
  have e1 : (PySem.W.subIn K (.ref S) (.type "BaseException") == some true) = true := by rw [h1] <;> rfl
  have e2 : ((PySem.W.clsIn K S).isSome && PySem.W.typeIn K (.ref S) == some (.type "type")) = true := by
    have h2' : (PySem.W.clsIn K S).isSome = true := h2
    rw [h2', h3] <;> rfl
  show (if (PySem.W.subIn K (.ref S) (.type "BaseException") == some true) = true then (if ((PySem.W.clsIn K S).isSome && PySem.W.typeIn K (.ref S) == some (.type "type")) = true then PySem.W.subIn K (.ref S) (.ref S) else none) else none) = some true
  rw [if_pos e1, if_pos e2]
  exact h4
/-- BadFile's __init__, out of the text -/
def clsB : Stmt → List Stmt
  | .ClassDef (body := b) .. => b
  | _ => []
def sInit : Stmt := (clsB (top 2)).getD 0 (.Pass ⟨0, 0, 0, 0⟩)
abbrev inA : Arguments := fnArgs sInit
abbrev inB : List Stmt := fnBody sInit
abbrev inS : Scope := fnScope sInit
theorem supI : SupI "place" inS := ⟨rfl, rfl, rfl, rfl, rfl, rfl, rfl, by decide, by decide +kernel, by decide +kernel, by decide, by decide⟩
theorem law_ok {P : Program} {w : World} {K : PySem.W.Frag} {h : Heap} {mg : Str → Option Value} {fa C BE fI cc cda NC : Addr} (X : K.In h) (G : h.Ns mainGlobals mg) (hfa : mg "law" = some (.ref fa))
    {f1 f2 f3 f4 f5 f6 f7 f8 f9 f10 f11 f12 f13 f14 f15 f16 f17 f18 f19 f20 f21 f22 f23 f24 f25 f26 f27 f28 f29 f30 f31 f32 f33 f34 : Addr} {od1 an1 od2 an2 od3 an3 od4 an4 od5 an5 od6 an6 od7 an7 od8 an8 od9 an9 od10 an10 od11 an11 od12 an12 od13 an13 od14 an14 od15 an15 od16 an16 od17 an17 od18 an18 od19 an19 od20 an20 od21 an21 od22 an22 od23 an23 od24 an24 od25 an25 od26 an26 od27 an27 od28 an28 od29 an29 od30 an30 od31 an31 od32 an32 od33 an33 od34 an34 : Option Addr} {sl1 sl2 sl3 sl4 sl5 sl6 sl7 sl8 sl9 sl10 sl11 sl12 sl13 sl14 sl15 sl16 sl17 sl18 sl19 sl20 sl21 sl22 sl23 sl24 sl25 sl26 sl27 sl28 sl29 sl30 sl31 sl32 sl33 sl34 : Array (Option Value)} {oc1 kV1 dc1 pm1 cd1 ct1 oc2 kV2 dc2 pm2 cd2 ct2 oc3 kV3 dc3 pm3 cd3 ct3 oc4 kV4 dc4 pm4 cd4 ct4 oc5 kV5 dc5 pm5 cd5 ct5 oc6 kV6 dc6 pm6 cd6 ct6 oc7 kV7 dc7 pm7 cd7 ct7 oc8 kV8 dc8 pm8 cd8 ct8 oc9 kV9 dc9 pm9 cd9 ct9 oc10 kV10 dc10 pm10 cd10 ct10 oc11 kV11 dc11 pm11 cd11 ct11 oc12 kV12 dc12 pm12 cd12 ct12 oc13 kV13 dc13 pm13 cd13 ct13 oc14 kV14 dc14 pm14 cd14 ct14 oc15 kV15 dc15 pm15 cd15 ct15 oc16 kV16 dc16 pm16 cd16 ct16 oc17 kV17 dc17 pm17 cd17 ct17 oc18 kV18 dc18 pm18 cd18 ct18 oc19 kV19 dc19 pm19 cd19 ct19 oc20 kV20 dc20 pm20 cd20 ct20 oc21 kV21 dc21 pm21 cd21 ct21 oc22 kV22 dc22 pm22 cd22 ct22 oc23 kV23 dc23 pm23 cd23 ct23 oc24 kV24 dc24 pm24 cd24 ct24 oc25 kV25 dc25 pm25 cd25 ct25 oc26 kV26 dc26 pm26 cd26 ct26 oc27 kV27 dc27 pm27 cd27 ct27 oc28 kV28 dc28 pm28 cd28 ct28 oc29 kV29 dc29 pm29 cd29 ct29 oc30 kV30 dc30 pm30 cd30 ct30 oc31 kV31 dc31 pm31 cd31 ct31 oc32 kV32 dc32 pm32 cd32 ct32 oc33 kV33 dc33 pm33 cd33 ct33 oc34 kV34 dc34 pm34 cd34 ct34 : Value} {tGROUP tDATA tFREE tTABLE tHEAD tMOST_CELLS tLARGEST_CELL tMOST_GROUPS_AROUND : PySem.Tok}
    {nmC qC : Str} {bsC : List Value} {snC : List Str} {sbC : List Value} {abC : Bool} {colC : Option Bool} {ddC : Option Addr} {m0 m1 m2 m3 m5 : Option Value} {ocI kVI dcI pmI ctI oc0 ocD : Value} {odI anI od0 odD : Option Addr} {slI sl0 slD : Array (Option Value)} {vsD : Array Value} {fileD : Str} {tfD : PySem.Tok}
    (a1 : PySem.W.nsIn K mainGlobals "is_between" = some (some (.ref f1))) (l1 : K.lookup f1 = some ⟨oc1, od1, .func (PySem.W.fnOf "is_between" "is_between" (fnArgs sIsBetween) (fnBody sIsBetween) (fnScope sIsBetween) .none kV1 dc1 pm1 an1 cd1 ct1), sl1⟩) (c1 : PySem.W.codeIn K cd1 "is_between" = true) (k1 : PySem.W.keepIn K (.ref f1) = true)
    (a2 : PySem.W.nsIn K mainGlobals "read" = some (some (.ref f2))) (l2 : K.lookup f2 = some ⟨oc2, od2, .func (PySem.W.fnOf "read" "read" (fnArgs sRead) (fnBody sRead) (fnScope sRead) .none kV2 dc2 pm2 an2 cd2 ct2), sl2⟩) (c2 : PySem.W.codeIn K cd2 "read" = true) (k2 : PySem.W.keepIn K (.ref f2) = true)
    (a3 : PySem.W.nsIn K mainGlobals "shape_of" = some (some (.ref f3))) (l3 : K.lookup f3 = some ⟨oc3, od3, .func (PySem.W.fnOf "shape_of" "shape_of" (fnArgs sShapeOf) (fnBody sShapeOf) (fnScope sShapeOf) .none kV3 dc3 pm3 an3 cd3 ct3), sl3⟩) (c3 : PySem.W.codeIn K cd3 "shape_of" = true) (k3 : PySem.W.keepIn K (.ref f3) = true)
    (a4 : PySem.W.nsIn K mainGlobals "free_cells" = some (some (.ref f4))) (l4 : K.lookup f4 = some ⟨oc4, od4, .func (PySem.W.fnOf "free_cells" "free_cells" (fnArgs sFreeCells) (fnBody sFreeCells) (fnScope sFreeCells) .none kV4 dc4 pm4 an4 cd4 ct4), sl4⟩) (c4 : PySem.W.codeIn K cd4 "free_cells" = true) (k4 : PySem.W.keepIn K (.ref f4) = true)
    (a5 : PySem.W.nsIn K mainGlobals "first_wrong" = some (some (.ref f5))) (l5 : K.lookup f5 = some ⟨oc5, od5, .func (PySem.W.fnOf "first_wrong" "first_wrong" (fnArgs sFirstWrong) (fnBody sFirstWrong) (fnScope sFirstWrong) .none kV5 dc5 pm5 an5 cd5 ct5), sl5⟩) (c5 : PySem.W.codeIn K cd5 "first_wrong" = true) (k5 : PySem.W.keepIn K (.ref f5) = true)
    (a6 : PySem.W.nsIn K mainGlobals "check_file" = some (some (.ref f6))) (l6 : K.lookup f6 = some ⟨oc6, od6, .func (PySem.W.fnOf "check_file" "check_file" (fnArgs sCheckFile) (fnBody sCheckFile) (fnScope sCheckFile) .none kV6 dc6 pm6 an6 cd6 ct6), sl6⟩) (c6 : PySem.W.codeIn K cd6 "check_file" = true) (k6 : PySem.W.keepIn K (.ref f6) = true)
    (a7 : PySem.W.nsIn K mainGlobals "check_cells" = some (some (.ref f7))) (l7 : K.lookup f7 = some ⟨oc7, od7, .func (PySem.W.fnOf "check_cells" "check_cells" (fnArgs sCheckCells) (fnBody sCheckCells) (fnScope sCheckCells) .none kV7 dc7 pm7 an7 cd7 ct7), sl7⟩) (c7 : PySem.W.codeIn K cd7 "check_cells" = true) (k7 : PySem.W.keepIn K (.ref f7) = true)
    (a8 : PySem.W.nsIn K mainGlobals "is_cell" = some (some (.ref f8))) (l8 : K.lookup f8 = some ⟨oc8, od8, .func (PySem.W.fnOf "is_cell" "is_cell" (fnArgs sIsCell) (fnBody sIsCell) (fnScope sIsCell) .none kV8 dc8 pm8 an8 cd8 ct8), sl8⟩) (c8 : PySem.W.codeIn K cd8 "is_cell" = true) (k8 : PySem.W.keepIn K (.ref f8) = true)
    (a9 : PySem.W.nsIn K mainGlobals "wrong_box" = some (some (.ref f9))) (l9 : K.lookup f9 = some ⟨oc9, od9, .func (PySem.W.fnOf "wrong_box" "wrong_box" (fnArgs sWrongBox) (fnBody sWrongBox) (fnScope sWrongBox) .none kV9 dc9 pm9 an9 cd9 ct9), sl9⟩) (c9 : PySem.W.codeIn K cd9 "wrong_box" = true) (k9 : PySem.W.keepIn K (.ref f9) = true)
    (a10 : PySem.W.nsIn K mainGlobals "wrong_head" = some (some (.ref f10))) (l10 : K.lookup f10 = some ⟨oc10, od10, .func (PySem.W.fnOf "wrong_head" "wrong_head" (fnArgs sWrongHead) (fnBody sWrongHead) (fnScope sWrongHead) .none kV10 dc10 pm10 an10 cd10 ct10), sl10⟩) (c10 : PySem.W.codeIn K cd10 "wrong_head" = true) (k10 : PySem.W.keepIn K (.ref f10) = true)
    (a11 : PySem.W.nsIn K mainGlobals "wrong_entry" = some (some (.ref f11))) (l11 : K.lookup f11 = some ⟨oc11, od11, .func (PySem.W.fnOf "wrong_entry" "wrong_entry" (fnArgs sWrongEntry) (fnBody sWrongEntry) (fnScope sWrongEntry) .none kV11 dc11 pm11 an11 cd11 ct11), sl11⟩) (c11 : PySem.W.codeIn K cd11 "wrong_entry" = true) (k11 : PySem.W.keepIn K (.ref f11) = true)
    (a12 : PySem.W.nsIn K mainGlobals "box_places" = some (some (.ref f12))) (l12 : K.lookup f12 = some ⟨oc12, od12, .func (PySem.W.fnOf "box_places" "box_places" (fnArgs sBoxPlaces) (fnBody sBoxPlaces) (fnScope sBoxPlaces) .none kV12 dc12 pm12 an12 cd12 ct12), sl12⟩) (c12 : PySem.W.codeIn K cd12 "box_places" = true) (k12 : PySem.W.keepIn K (.ref f12) = true)
    (a13 : PySem.W.nsIn K mainGlobals "content_places" = some (some (.ref f13))) (l13 : K.lookup f13 = some ⟨oc13, od13, .func (PySem.W.fnOf "content_places" "content_places" (fnArgs sContentPlaces) (fnBody sContentPlaces) (fnScope sContentPlaces) .none kV13 dc13 pm13 an13 cd13 ct13), sl13⟩) (c13 : PySem.W.codeIn K cd13 "content_places" = true) (k13 : PySem.W.keepIn K (.ref f13) = true)
    (a14 : PySem.W.nsIn K mainGlobals "data_targets" = some (some (.ref f14))) (l14 : K.lookup f14 = some ⟨oc14, od14, .func (PySem.W.fnOf "data_targets" "data_targets" (fnArgs sDataTargets) (fnBody sDataTargets) (fnScope sDataTargets) .none kV14 dc14 pm14 an14 cd14 ct14), sl14⟩) (c14 : PySem.W.codeIn K cd14 "data_targets" = true) (k14 : PySem.W.keepIn K (.ref f14) = true)
    (a15 : PySem.W.nsIn K mainGlobals "boxes_between" = some (some (.ref f15))) (l15 : K.lookup f15 = some ⟨oc15, od15, .func (PySem.W.fnOf "boxes_between" "boxes_between" (fnArgs sBoxesBetween) (fnBody sBoxesBetween) (fnScope sBoxesBetween) .none kV15 dc15 pm15 an15 cd15 ct15), sl15⟩) (c15 : PySem.W.codeIn K cd15 "boxes_between" = true) (k15 : PySem.W.keepIn K (.ref f15) = true)
    (a16 : PySem.W.nsIn K mainGlobals "box_at" = some (some (.ref f16))) (l16 : K.lookup f16 = some ⟨oc16, od16, .func (PySem.W.fnOf "box_at" "box_at" (fnArgs sBoxAt) (fnBody sBoxAt) (fnScope sBoxAt) .none kV16 dc16 pm16 an16 cd16 ct16), sl16⟩) (c16 : PySem.W.codeIn K cd16 "box_at" = true) (k16 : PySem.W.keepIn K (.ref f16) = true)
    (a17 : PySem.W.nsIn K mainGlobals "without_free" = some (some (.ref f17))) (l17 : K.lookup f17 = some ⟨oc17, od17, .func (PySem.W.fnOf "without_free" "without_free" (fnArgs sWithoutFree) (fnBody sWithoutFree) (fnScope sWithoutFree) .none kV17 dc17 pm17 an17 cd17 ct17), sl17⟩) (c17 : PySem.W.codeIn K cd17 "without_free" = true) (k17 : PySem.W.keepIn K (.ref f17) = true)
    (a18 : PySem.W.nsIn K mainGlobals "_law_cell_at" = some (some (.ref f18))) (l18 : K.lookup f18 = some ⟨oc18, od18, .func (PySem.W.fnOf "_law_cell_at" "_law_cell_at" (fnArgs sLCellAt) (fnBody sLCellAt) (fnScope sLCellAt) .none kV18 dc18 pm18 an18 cd18 ct18), sl18⟩) (c18 : PySem.W.codeIn K cd18 "_law_cell_at" = true) (k18 : PySem.W.keepIn K (.ref f18) = true)
    (a19 : PySem.W.nsIn K mainGlobals "_law_pick" = some (some (.ref f19))) (l19 : K.lookup f19 = some ⟨oc19, od19, .func (PySem.W.fnOf "_law_pick" "_law_pick" (fnArgs sLPick) (fnBody sLPick) (fnScope sLPick) .none kV19 dc19 pm19 an19 cd19 ct19), sl19⟩) (c19 : PySem.W.codeIn K cd19 "_law_pick" = true) (k19 : PySem.W.keepIn K (.ref f19) = true)
    (a20 : PySem.W.nsIn K mainGlobals "_law_kinds" = some (some (.ref f20))) (l20 : K.lookup f20 = some ⟨oc20, od20, .func (PySem.W.fnOf "_law_kinds" "_law_kinds" (fnArgs sLKinds) (fnBody sLKinds) (fnScope sLKinds) .none kV20 dc20 pm20 an20 cd20 ct20), sl20⟩) (c20 : PySem.W.codeIn K cd20 "_law_kinds" = true) (k20 : PySem.W.keepIn K (.ref f20) = true)
    (a21 : PySem.W.nsIn K mainGlobals "_law_count" = some (some (.ref f21))) (l21 : K.lookup f21 = some ⟨oc21, od21, .func (PySem.W.fnOf "_law_count" "_law_count" (fnArgs sLCount) (fnBody sLCount) (fnScope sLCount) .none kV21 dc21 pm21 an21 cd21 ct21), sl21⟩) (c21 : PySem.W.codeIn K cd21 "_law_count" = true) (k21 : PySem.W.keepIn K (.ref f21) = true)
    (a22 : PySem.W.nsIn K mainGlobals "_law_made" = some (some (.ref f22))) (l22 : K.lookup f22 = some ⟨oc22, od22, .func (PySem.W.fnOf "_law_made" "_law_made" (fnArgs sLMade) (fnBody sLMade) (fnScope sLMade) .none kV22 dc22 pm22 an22 cd22 ct22), sl22⟩) (c22 : PySem.W.codeIn K cd22 "_law_made" = true) (k22 : PySem.W.keepIn K (.ref f22) = true)
    (a23 : PySem.W.nsIn K mainGlobals "_law_shape" = some (some (.ref f23))) (l23 : K.lookup f23 = some ⟨oc23, od23, .func (PySem.W.fnOf "_law_shape" "_law_shape" (fnArgs sLShape) (fnBody sLShape) (fnScope sLShape) .none kV23 dc23 pm23 an23 cd23 ct23), sl23⟩) (c23 : PySem.W.codeIn K cd23 "_law_shape" = true) (k23 : PySem.W.keepIn K (.ref f23) = true)
    (a24 : PySem.W.nsIn K mainGlobals "_law_gaps_in" = some (some (.ref f24))) (l24 : K.lookup f24 = some ⟨oc24, od24, .func (PySem.W.fnOf "_law_gaps_in" "_law_gaps_in" (fnArgs sLGapsIn) (fnBody sLGapsIn) (fnScope sLGapsIn) .none kV24 dc24 pm24 an24 cd24 ct24), sl24⟩) (c24 : PySem.W.codeIn K cd24 "_law_gaps_in" = true) (k24 : PySem.W.keepIn K (.ref f24) = true)
    (a25 : PySem.W.nsIn K mainGlobals "_law_length" = some (some (.ref f25))) (l25 : K.lookup f25 = some ⟨oc25, od25, .func (PySem.W.fnOf "_law_length" "_law_length" (fnArgs sLLength) (fnBody sLLength) (fnScope sLLength) .none kV25 dc25 pm25 an25 cd25 ct25), sl25⟩) (c25 : PySem.W.codeIn K cd25 "_law_length" = true) (k25 : PySem.W.keepIn K (.ref f25) = true)
    (a26 : PySem.W.nsIn K mainGlobals "_law_gaps" = some (some (.ref f26))) (l26 : K.lookup f26 = some ⟨oc26, od26, .func (PySem.W.fnOf "_law_gaps" "_law_gaps" (fnArgs sLGaps) (fnBody sLGaps) (fnScope sLGaps) .none kV26 dc26 pm26 an26 cd26 ct26), sl26⟩) (c26 : PySem.W.codeIn K cd26 "_law_gaps" = true) (k26 : PySem.W.keepIn K (.ref f26) = true)
    (a27 : PySem.W.nsIn K mainGlobals "_law_tokens" = some (some (.ref f27))) (l27 : K.lookup f27 = some ⟨oc27, od27, .func (PySem.W.fnOf "_law_tokens" "_law_tokens" (fnArgs sLTokens) (fnBody sLTokens) (fnScope sLTokens) .none kV27 dc27 pm27 an27 cd27 ct27), sl27⟩) (c27 : PySem.W.codeIn K cd27 "_law_tokens" = true) (k27 : PySem.W.keepIn K (.ref f27) = true)
    (a28 : PySem.W.nsIn K mainGlobals "_law_known" = some (some (.ref f28))) (l28 : K.lookup f28 = some ⟨oc28, od28, .func (PySem.W.fnOf "_law_known" "_law_known" (fnArgs sLKnown) (fnBody sLKnown) (fnScope sLKnown) .none kV28 dc28 pm28 an28 cd28 ct28), sl28⟩) (c28 : PySem.W.codeIn K cd28 "_law_known" = true) (k28 : PySem.W.keepIn K (.ref f28) = true)
    (a29 : PySem.W.nsIn K mainGlobals "_law_file" = some (some (.ref f29))) (l29 : K.lookup f29 = some ⟨oc29, od29, .func (PySem.W.fnOf "_law_file" "_law_file" (fnArgs sLFile) (fnBody sLFile) (fnScope sLFile) .none kV29 dc29 pm29 an29 cd29 ct29), sl29⟩) (c29 : PySem.W.codeIn K cd29 "_law_file" = true) (k29 : PySem.W.keepIn K (.ref f29) = true)
    (a30 : PySem.W.nsIn K mainGlobals "_law_walk" = some (some (.ref f30))) (l30 : K.lookup f30 = some ⟨oc30, od30, .func (PySem.W.fnOf "_law_walk" "_law_walk" (fnArgs sLWalk) (fnBody sLWalk) (fnScope sLWalk) .none kV30 dc30 pm30 an30 cd30 ct30), sl30⟩) (c30 : PySem.W.codeIn K cd30 "_law_walk" = true) (k30 : PySem.W.keepIn K (.ref f30) = true)
    (a31 : PySem.W.nsIn K mainGlobals "_law_told" = some (some (.ref f31))) (l31 : K.lookup f31 = some ⟨oc31, od31, .func (PySem.W.fnOf "_law_told" "_law_told" (fnArgs sLTold) (fnBody sLTold) (fnScope sLTold) .none kV31 dc31 pm31 an31 cd31 ct31), sl31⟩) (c31 : PySem.W.codeIn K cd31 "_law_told" = true) (k31 : PySem.W.keepIn K (.ref f31) = true)
    (a32 : PySem.W.nsIn K mainGlobals "_law_cells_right" = some (some (.ref f32))) (l32 : K.lookup f32 = some ⟨oc32, od32, .func (PySem.W.fnOf "_law_cells_right" "_law_cells_right" (fnArgs sLCellsRight) (fnBody sLCellsRight) (fnScope sLCellsRight) .none kV32 dc32 pm32 an32 cd32 ct32), sl32⟩) (c32 : PySem.W.codeIn K cd32 "_law_cells_right" = true) (k32 : PySem.W.keepIn K (.ref f32) = true)
    (a33 : PySem.W.nsIn K mainGlobals "_law_place" = some (some (.ref f33))) (l33 : K.lookup f33 = some ⟨oc33, od33, .func (PySem.W.fnOf "_law_place" "_law_place" (fnArgs sLPlace) (fnBody sLPlace) (fnScope sLPlace) .none kV33 dc33 pm33 an33 cd33 ct33), sl33⟩) (c33 : PySem.W.codeIn K cd33 "_law_place" = true) (k33 : PySem.W.keepIn K (.ref f33) = true)
    (a34 : PySem.W.nsIn K mainGlobals "law" = some (some (.ref f34))) (l34 : K.lookup f34 = some ⟨oc34, od34, .func (PySem.W.fnOf "law" "law" (fnArgs sLaw) (fnBody sLaw) (fnScope sLaw) .none kV34 dc34 pm34 an34 cd34 ct34), sl34⟩) (c34 : PySem.W.codeIn K cd34 "law" = true) (k34 : PySem.W.keepIn K (.ref f34) = true)
    (gGROUP : PySem.W.nsIn K mainGlobals "GROUP" = some (some (.int 1 tGROUP)))
    (gDATA : PySem.W.nsIn K mainGlobals "DATA" = some (some (.int 2 tDATA)))
    (gFREE : PySem.W.nsIn K mainGlobals "FREE" = some (some (.int 3 tFREE)))
    (gTABLE : PySem.W.nsIn K mainGlobals "TABLE" = some (some (.int 4 tTABLE)))
    (gHEAD : PySem.W.nsIn K mainGlobals "HEAD" = some (some (.int 2 tHEAD)))
    (gMOST_CELLS : PySem.W.nsIn K mainGlobals "MOST_CELLS" = some (some (.int 30 tMOST_CELLS)))
    (gLARGEST_CELL : PySem.W.nsIn K mainGlobals "LARGEST_CELL" = some (some (.int 99 tLARGEST_CELL)))
    (gMOST_GROUPS_AROUND : PySem.W.nsIn K mainGlobals "MOST_GROUPS_AROUND" = some (some (.int 1 tMOST_GROUPS_AROUND)))
    (z_len : PySem.W.nsIn K mainGlobals "len" = some none)
    (z_isinstance : PySem.W.nsIn K mainGlobals "isinstance" = some none)
    (z_sum : PySem.W.nsIn K mainGlobals "sum" = some none)
    (z_int : PySem.W.nsIn K mainGlobals "int" = some none)
    (z_bool : PySem.W.nsIn K mainGlobals "bool" = some none)
    (z_list : PySem.W.nsIn K mainGlobals "list" = some none)
    (z_tuple : PySem.W.nsIn K mainGlobals "tuple" = some none)
    (z_range : PySem.W.nsIn K mainGlobals "range" = some none)
    (z_enumerate : PySem.W.nsIn K mainGlobals "enumerate" = some none)
    (z_super : PySem.W.nsIn K mainGlobals "super" = some none)
    (aC : PySem.W.nsIn K mainGlobals "BadFile" = some (some (.ref C)))
    (xC : K.lookup C = some (excClassObj nmC qC C NC bsC [.ref BE, .type "ValueError", .type "Exception", .type "BaseException", .type "object"] true snC sbC abC colC ddC m0 m1 m2 m3 m5 "ValueError.__new__"))
    (saC : PySem.W.findIn K (.ref C) "__setattr__" = some (some (.builtin "object.__setattr__"))) (gaC : PySem.W.findIn K (.ref C) "__getattribute__" = some (some (.builtin "BaseException.__getattribute__"))) (ggC : PySem.W.findIn K (.ref C) "__getattr__" = some none) (nbC : PySem.W.findIn K (.ref C) "place" = some none)
    (iC : PySem.W.findIn K (.ref C) "__init__" = some (some (.ref fI))) (tI : PySem.W.typeIn K (.ref fI) = some (.type "function"))
    (lI : K.lookup fI = some ⟨ocI, odI, .func (PySem.W.ksFn "__init__" "BadFile.__init__" inA inB inS .none kVI dcI pmI anI (.ref cda) ctI cc), slI⟩) (cI : PySem.W.codeIn K (.ref cda) "BadFile.__init__" = true)
    (lC : K.lookup cc = some ⟨oc0, od0, .cell (some (.ref C)), sl0⟩) (lD : K.lookup cda = some ⟨ocD, odD, .fields vsD, slD⟩) (vD : vsD[2]? = some (.str fileD tfD)) (hfD : ((P.main.file : Str) == fileD) = true)
    (suC : PySem.W.mroIn K C (.ref C) = some true) (spC : PySem.W.ks_superIn K C C "__init__" = some (some (.builtin "ValueError.__init__"))) (veC : PySem.W.subIn K (.ref C) (.type "ValueError") = some true) (opC : PySem.W.nsIn K cStatics "thirdparty.any" = some none) (tpC : (P.main.scope.names.lookup ("super" : Str)).isSome = false)
    (kC : PySem.W.keepIn K (.ref C) = true) (eC : PySem.W.subIn K (.ref C) (.type "BaseException") = some true) (tC : PySem.W.typeIn K (.ref C) = some (.type "type")) (hC : PySem.W.hasDictIn K C = true) (isC : PySem.W.isClsIn K C = true) (sC : PySem.W.subIn K (.ref C) (.ref C) = some true) :
    ∃ fd : FuncData, (∀ (s : Shared) (u : Value), BindsTo s fd ⟨[u], []⟩ [("_law_script", u)]) ∧ ∀ base : Heap, K.In base → base.Ns mainGlobals mg → FnOk P w K mg base C8.CX0 68 fa fd ["_law_script"] (spLaw K) := by
  have e := hfa.symm.trans (PySem.W.mg_of X G a34)
  cases e
  have F1 : Def K mg "is_between" sIsBetween _ _ := ⟨⟨_, _, _, _, _, _, _, _, _, _, rfl, l1, c1⟩, PySem.W.mg_of X G a1, k1⟩
  have b1 : Binds K _ ["value", "least", "most"] [] := F1.fn.binds rfl fun _ _ _ _ _ _ us hl => match us, hl with | [_, _, _], _ => rfl
  have F2 : Def K mg "read" sRead _ _ := ⟨⟨_, _, _, _, _, _, _, _, _, _, rfl, l2, c2⟩, PySem.W.mg_of X G a2, k2⟩
  have b2 : Binds K _ ["cells"] [] := F2.fn.binds rfl fun _ _ _ _ _ _ us hl => match us, hl with | [_], _ => rfl
  have F3 : Def K mg "shape_of" sShapeOf _ _ := ⟨⟨_, _, _, _, _, _, _, _, _, _, rfl, l3, c3⟩, PySem.W.mg_of X G a3, k3⟩
  have b3 : Binds K _ ["cells"] [] := F3.fn.binds rfl fun _ _ _ _ _ _ us hl => match us, hl with | [_], _ => rfl
  have F4 : Def K mg "free_cells" sFreeCells _ _ := ⟨⟨_, _, _, _, _, _, _, _, _, _, rfl, l4, c4⟩, PySem.W.mg_of X G a4, k4⟩
  have b4 : Binds K _ ["cells"] [] := F4.fn.binds rfl fun _ _ _ _ _ _ us hl => match us, hl with | [_], _ => rfl
  have F5 : Def K mg "first_wrong" sFirstWrong _ _ := ⟨⟨_, _, _, _, _, _, _, _, _, _, rfl, l5, c5⟩, PySem.W.mg_of X G a5, k5⟩
  have b5 : Binds K _ ["cells"] [] := F5.fn.binds rfl fun _ _ _ _ _ _ us hl => match us, hl with | [_], _ => rfl
  have F6 : Def K mg "check_file" sCheckFile _ _ := ⟨⟨_, _, _, _, _, _, _, _, _, _, rfl, l6, c6⟩, PySem.W.mg_of X G a6, k6⟩
  have b6 : Binds K _ ["cells"] [] := F6.fn.binds rfl fun _ _ _ _ _ _ us hl => match us, hl with | [_], _ => rfl
  have F7 : Def K mg "check_cells" sCheckCells _ _ := ⟨⟨_, _, _, _, _, _, _, _, _, _, rfl, l7, c7⟩, PySem.W.mg_of X G a7, k7⟩
  have b7 : Binds K _ ["cells"] [] := F7.fn.binds rfl fun _ _ _ _ _ _ us hl => match us, hl with | [_], _ => rfl
  have F8 : Def K mg "is_cell" sIsCell _ _ := ⟨⟨_, _, _, _, _, _, _, _, _, _, rfl, l8, c8⟩, PySem.W.mg_of X G a8, k8⟩
  have b8 : Binds K _ ["value"] [] := F8.fn.binds rfl fun _ _ _ _ _ _ us hl => match us, hl with | [_], _ => rfl
  have F9 : Def K mg "wrong_box" sWrongBox _ _ := ⟨⟨_, _, _, _, _, _, _, _, _, _, rfl, l9, c9⟩, PySem.W.mg_of X G a9, k9⟩
  have b9 : Binds K _ ["cells", "begin", "end", "around"] [] := F9.fn.binds rfl fun _ _ _ _ _ _ us hl => match us, hl with | [_, _, _, _], _ => rfl
  have F10 : Def K mg "wrong_head" sWrongHead _ _ := ⟨⟨_, _, _, _, _, _, _, _, _, _, rfl, l10, c10⟩, PySem.W.mg_of X G a10, k10⟩
  have b10 : Binds K _ ["cells", "at", "end", "around"] [] := F10.fn.binds rfl fun _ _ _ _ _ _ us hl => match us, hl with | [_, _, _, _], _ => rfl
  have F11 : Def K mg "wrong_entry" sWrongEntry _ _ := ⟨⟨_, _, _, _, _, _, _, _, _, _, rfl, l11, c11⟩, PySem.W.mg_of X G a11, k11⟩
  have b11 : Binds K _ ["cells"] [] := F11.fn.binds rfl fun _ _ _ _ _ _ us hl => match us, hl with | [_], _ => rfl
  have F12 : Def K mg "box_places" sBoxPlaces _ _ := ⟨⟨_, _, _, _, _, _, _, _, _, _, rfl, l12, c12⟩, PySem.W.mg_of X G a12, k12⟩
  have b12 : Binds K _ ["cells", "kind"] [] := F12.fn.binds rfl fun _ _ _ _ _ _ us hl => match us, hl with | [_, _], _ => rfl
  have F13 : Def K mg "content_places" sContentPlaces _ _ := ⟨⟨_, _, _, _, _, _, _, _, _, _, rfl, l13, c13⟩, PySem.W.mg_of X G a13, k13⟩
  have b13 : Binds K _ ["cells", "at"] [] := F13.fn.binds rfl fun _ _ _ _ _ _ us hl => match us, hl with | [_, _], _ => rfl
  have F14 : Def K mg "data_targets" sDataTargets _ _ := ⟨⟨_, _, _, _, _, _, _, _, _, _, rfl, l14, c14⟩, PySem.W.mg_of X G a14, k14⟩
  have b14 : Binds K _ ["cells"] [] := F14.fn.binds rfl fun _ _ _ _ _ _ us hl => match us, hl with | [_], _ => rfl
  have F15 : Def K mg "boxes_between" sBoxesBetween _ _ := ⟨⟨_, _, _, _, _, _, _, _, _, _, rfl, l15, c15⟩, PySem.W.mg_of X G a15, k15⟩
  have b15 : Binds K _ ["cells", "begin", "end", "targets"] [] := F15.fn.binds rfl fun _ _ _ _ _ _ us hl => match us, hl with | [_, _, _, _], _ => rfl
  have F16 : Def K mg "box_at" sBoxAt _ _ := ⟨⟨_, _, _, _, _, _, _, _, _, _, rfl, l16, c16⟩, PySem.W.mg_of X G a16, k16⟩
  have b16 : Binds K _ ["cells", "at", "targets"] [] := F16.fn.binds rfl fun _ _ _ _ _ _ us hl => match us, hl with | [_, _, _], _ => rfl
  have F17 : Def K mg "without_free" sWithoutFree _ _ := ⟨⟨_, _, _, _, _, _, _, _, _, _, rfl, l17, c17⟩, PySem.W.mg_of X G a17, k17⟩
  have b17 : Binds K _ ["boxes"] [] := F17.fn.binds rfl fun _ _ _ _ _ _ us hl => match us, hl with | [_], _ => rfl
  have F18 : Def K mg "_law_cell_at" sLCellAt _ _ := ⟨⟨_, _, _, _, _, _, _, _, _, _, rfl, l18, c18⟩, PySem.W.mg_of X G a18, k18⟩
  have b18 : Binds K _ ["_law_script", "_law_k"] [] := F18.fn.binds rfl fun _ _ _ _ _ _ us hl => match us, hl with | [_, _], _ => rfl
  have F19 : Def K mg "_law_pick" sLPick _ _ := ⟨⟨_, _, _, _, _, _, _, _, _, _, rfl, l19, c19⟩, PySem.W.mg_of X G a19, k19⟩
  have b19 : Binds K _ ["_law_script", "_law_at", "_law_row"] [] := F19.fn.binds rfl fun _ _ _ _ _ _ us hl => match us, hl with | [_, _, _], _ => rfl
  have F20 : Def K mg "_law_kinds" sLKinds _ _ := ⟨⟨_, _, _, _, _, _, _, _, _, _, rfl, l20, c20⟩, PySem.W.mg_of X G a20, k20⟩
  have b20 : Binds K _ [] [] := F20.fn.binds rfl fun _ _ _ _ _ _ us hl => match us, hl with | [], _ => rfl
  have F21 : Def K mg "_law_count" sLCount _ _ := ⟨⟨_, _, _, _, _, _, _, _, _, _, rfl, l21, c21⟩, PySem.W.mg_of X G a21, k21⟩
  have b21 : Binds K _ ["_law_kinds_here"] [] := F21.fn.binds rfl fun _ _ _ _ _ _ us hl => match us, hl with | [_], _ => rfl
  have F22 : Def K mg "_law_made" sLMade _ _ := ⟨⟨_, _, _, _, _, _, _, _, _, _, rfl, l22, c22⟩, PySem.W.mg_of X G a22, k22⟩
  have b22 : Binds K _ ["_law_script", "_law_at", "_law_kinds_here", "_law_sizes", "_law_taken"] [] := F22.fn.binds rfl fun _ _ _ _ _ _ us hl => match us, hl with | [_, _, _, _, _], _ => rfl
  have F23 : Def K mg "_law_shape" sLShape _ _ := ⟨⟨_, _, _, _, _, _, _, _, _, _, rfl, l23, c23⟩, PySem.W.mg_of X G a23, k23⟩
  have b23 : Binds K _ ["_law_script", "_law_at", "_law_kinds_here"] [] := F23.fn.binds rfl fun _ _ _ _ _ _ us hl => match us, hl with | [_, _, _], _ => rfl
  have F24 : Def K mg "_law_gaps_in" sLGapsIn _ _ := ⟨⟨_, _, _, _, _, _, _, _, _, _, rfl, l24, c24⟩, PySem.W.mg_of X G a24, k24⟩
  have b24 : Binds K _ ["_law_boxes"] [] := F24.fn.binds rfl fun _ _ _ _ _ _ us hl => match us, hl with | [_], _ => rfl
  have F25 : Def K mg "_law_length" sLLength _ _ := ⟨⟨_, _, _, _, _, _, _, _, _, _, rfl, l25, c25⟩, PySem.W.mg_of X G a25, k25⟩
  have b25 : Binds K _ ["_law_boxes"] [] := F25.fn.binds rfl fun _ _ _ _ _ _ us hl => match us, hl with | [_], _ => rfl
  have F26 : Def K mg "_law_gaps" sLGaps _ _ := ⟨⟨_, _, _, _, _, _, _, _, _, _, rfl, l26, c26⟩, PySem.W.mg_of X G a26, k26⟩
  have b26 : Binds K _ ["_law_script", "_law_at", "_law_many", "_law_spare"] [] := F26.fn.binds rfl fun _ _ _ _ _ _ us hl => match us, hl with | [_, _, _, _], _ => rfl
  have F27 : Def K mg "_law_tokens" sLTokens _ _ := ⟨⟨_, _, _, _, _, _, _, _, _, _, rfl, l27, c27⟩, PySem.W.mg_of X G a27, k27⟩
  have b27 : Binds K _ ["_law_boxes"] [] := F27.fn.binds rfl fun _ _ _ _ _ _ us hl => match us, hl with | [_], _ => rfl
  have F28 : Def K mg "_law_known" sLKnown _ _ := ⟨⟨_, _, _, _, _, _, _, _, _, _, rfl, l28, c28⟩, PySem.W.mg_of X G a28, k28⟩
  have b28 : Binds K _ ["_law_before", "_law_shape_here", "_law_gaps_here"] [] := F28.fn.binds rfl fun _ _ _ _ _ _ us hl => match us, hl with | [_, _, _], _ => rfl
  have F29 : Def K mg "_law_file" sLFile _ _ := ⟨⟨_, _, _, _, _, _, _, _, _, _, rfl, l29, c29⟩, PySem.W.mg_of X G a29, k29⟩
  have b29 : Binds K _ ["_law_before", "_law_shape_here", "_law_gaps_here"] [] := F29.fn.binds rfl fun _ _ _ _ _ _ us hl => match us, hl with | [_, _, _], _ => rfl
  have F30 : Def K mg "_law_walk" sLWalk _ _ := ⟨⟨_, _, _, _, _, _, _, _, _, _, rfl, l30, c30⟩, PySem.W.mg_of X G a30, k30⟩
  have b30 : Binds K _ ["_law_cells", "_law_begin", "_law_end", "_law_depth", "_law_notes"] [] := F30.fn.binds rfl fun _ _ _ _ _ _ us hl => match us, hl with | [_, _, _, _, _], _ => rfl
  have F31 : Def K mg "_law_told" sLTold _ _ := ⟨⟨_, _, _, _, _, _, _, _, _, _, rfl, l31, c31⟩, PySem.W.mg_of X G a31, k31⟩
  have b31 : Binds K _ ["_law_boxes", "_law_cells", "_law_notes", "_law_with_free"] [] := F31.fn.binds rfl fun _ _ _ _ _ _ us hl => match us, hl with | [_, _, _, _], _ => rfl
  have F32 : Def K mg "_law_cells_right" sLCellsRight _ _ := ⟨⟨_, _, _, _, _, _, _, _, _, _, rfl, l32, c32⟩, PySem.W.mg_of X G a32, k32⟩
  have b32 : Binds K _ ["_law_cells"] [] := F32.fn.binds rfl fun _ _ _ _ _ _ us hl => match us, hl with | [_], _ => rfl
  have F33 : Def K mg "_law_place" sLPlace _ _ := ⟨⟨_, _, _, _, _, _, _, _, _, _, rfl, l33, c33⟩, PySem.W.mg_of X G a33, k33⟩
  have b33 : Binds K _ ["_law_call", "_law_cells"] [] := F33.fn.binds rfl fun _ _ _ _ _ _ us hl => match us, hl with | [_, _], _ => rfl
  have F34 : Def K mg "law" sLaw _ _ := ⟨⟨_, _, _, _, _, _, _, _, _, _, rfl, l34, c34⟩, PySem.W.mg_of X G a34, k34⟩
  have b34 : Binds K _ ["_law_script"] [] := F34.fn.binds rfl fun _ _ _ _ _ _ us hl => match us, hl with | [_], _ => rfl
  have T : Txt mg := ⟨PySem.W.mg_none_of X G z_len, PySem.W.mg_none_of X G z_isinstance, PySem.W.mg_none_of X G z_sum, PySem.W.mg_none_of X G z_int, PySem.W.mg_none_of X G z_bool, PySem.W.mg_none_of X G z_list, PySem.W.mg_none_of X G z_tuple, PySem.W.mg_none_of X G z_range, PySem.W.mg_none_of X G z_enumerate, ⟨_, PySem.W.mg_of X G gGROUP, _, rfl⟩, ⟨_, PySem.W.mg_of X G gDATA, _, rfl⟩, ⟨_, PySem.W.mg_of X G gFREE, _, rfl⟩, ⟨_, PySem.W.mg_of X G gTABLE, _, rfl⟩, ⟨_, PySem.W.mg_of X G gHEAD, _, rfl⟩, ⟨_, PySem.W.mg_of X G gMOST_CELLS, _, rfl⟩, ⟨_, PySem.W.mg_of X G gLARGEST_CELL, _, rfl⟩, ⟨_, PySem.W.mg_of X G gMOST_GROUPS_AROUND, _, rfl⟩⟩
  refine ⟨PySem.W.fnOf "law" "law" (fnArgs sLaw) (fnBody sLaw) (fnScope sLaw) .none kV34 dc34 pm34 an34 cd34 ct34, fun s u => .of_eq rfl, fun base _ _ => ?_⟩
  have oe : OexC K C := ⟨⟨nmC, qC, NC, bsC, _, snC, sbC, abC, colC, ddC, m0, m1, m2, m3, m5, xC, rfl⟩, saC, eC, tC, kC⟩
  have su : SupT P K mg "place" txtF "BadFile.__init__" inS inA C cc (.ref cda) := ⟨supI, ⟨_, rfl, rfl⟩, ⟨cda, _, _, _, _, _, _, rfl, lD, vD, hfD⟩, ⟨_, _, _, lC⟩, oe, suC, spC, veC, opC, PySem.W.mg_none_of X G z_super, tpC, nbC⟩
  have bI : Binds K _ ["self", "place"] [] := .all (fd := PySem.W.ksFn "__init__" "BadFile.__init__" inA inB inS .none kVI dcI pmI anI (.ref cda) ctI cc) fun us hl => match us, hl with | [_, _], _ => rfl
  have B : BfT P w K mg base C := ⟨oe, PySem.W.mg_of X G aC, ⟨fI, _, iC, tI, bI, fn_sup (k := 1) (txt := txtF) (p := "place") (by rfl) lI cI su (by decide) (by decide)⟩, gaC, ggC, nbC, hC, exm_self eC isC tC sC⟩
  have C_isBetween := ok_isBetween (P := P) (w := w) (K := K) (mg := mg) (base := base) F1 b1 T  
  have C_isCell := ok_isCell (P := P) (w := w) (K := K) (mg := mg) (base := base) F8 b8 T C_isBetween 
  have C_checkCells := ok_checkCells (P := P) (w := w) (K := K) (mg := mg) (base := base) F7 b7 T C_isCell 
  have C_wrongHead := ok_wrongHead (P := P) (w := w) (K := K) (mg := mg) (base := base) F10 b10 T  
  have C_wrongBox := ok_wrongBox (P := P) (w := w) (K := K) (mg := mg) (base := base) F9 b9 T C_wrongHead 31
  have C_boxPlaces := ok_boxPlaces (P := P) (w := w) (K := K) (mg := mg) (base := base) F12 b12 T  
  have C_contentPlaces := ok_contentPlaces (P := P) (w := w) (K := K) (mg := mg) (base := base) F13 b13 T  
  have C_dataTargets := ok_dataTargets (P := P) (w := w) (K := K) (mg := mg) (base := base) F14 b14 T C_boxPlaces C_contentPlaces 
  have C_wrongEntry := ok_wrongEntry (P := P) (w := w) (K := K) (mg := mg) (base := base) F11 b11 T C_dataTargets C_boxPlaces C_contentPlaces 
  have C_firstWrong := ok_firstWrong (P := P) (w := w) (K := K) (mg := mg) (base := base) F5 b5 T C_checkCells C_wrongBox C_wrongEntry 
  have C_boxesBetween := ok_bb (P := P) (w := w) (K := K) (mg := mg) (base := base) F15 b15 F16 b16 T 31
  have C_withoutFree := ok_withoutFree (P := P) (w := w) (K := K) (mg := mg) (base := base) F17 b17 T  32
  have C_checkFile := ok_checkFile (P := P) (w := w) (K := K) (mg := mg) (base := base) F6 b6 T B C_firstWrong 
  have C_read := ok_read (P := P) (w := w) (K := K) (mg := mg) (base := base) F2 b2 T C_checkFile C_boxesBetween C_dataTargets 
  have C_shapeOf := ok_shapeOf (P := P) (w := w) (K := K) (mg := mg) (base := base) F3 b3 T C_read C_withoutFree 
  have C_freeCells := ok_freeCells (P := P) (w := w) (K := K) (mg := mg) (base := base) F4 b4 T C_checkFile C_boxPlaces 
  have C_lCellAt := ok_lCellAt (P := P) (w := w) (K := K) (mg := mg) (base := base) F18 b18 T  
  have C_lPick := ok_lPick (P := P) (w := w) (K := K) (mg := mg) (base := base) F19 b19 T C_lCellAt 
  have C_lKinds := ok_lKinds (P := P) (w := w) (K := K) (mg := mg) (base := base) F20 b20 T  
  have C_lCount := ok_lCount (P := P) (w := w) (K := K) (mg := mg) (base := base) F21 b21 T  10
  have C_lMade := ok_lMade (P := P) (w := w) (K := K) (mg := mg) (base := base) F22 b22 T C_lCellAt C_lPick 10
  have C_lShape := ok_lShape (P := P) (w := w) (K := K) (mg := mg) (base := base) F23 b23 T C_lCellAt C_lCount C_lMade 
  have C_lGapsIn := ok_lGapsIn (P := P) (w := w) (K := K) (mg := mg) (base := base) F24 b24 T  10
  have C_lLength := ok_lLength (P := P) (w := w) (K := K) (mg := mg) (base := base) F25 b25 T  10
  have C_lGaps := ok_lGaps (P := P) (w := w) (K := K) (mg := mg) (base := base) F26 b26 T C_lCellAt 
  have C_lTokens := ok_lTokens (P := P) (w := w) (K := K) (mg := mg) (base := base) F27 b27 T  10
  have C_lKnown := ok_lKnown (P := P) (w := w) (K := K) (mg := mg) (base := base) F28 b28 T C_lTokens 
  have C_lFile := ok_lFile (P := P) (w := w) (K := K) (mg := mg) (base := base) F29 b29 T C_lKnown 
  have C_lWalk := ok_lWalk (P := P) (w := w) (K := K) (mg := mg) (base := base) F30 b30 T  31
  have C_lTold := ok_lTold (P := P) (w := w) (K := K) (mg := mg) (base := base) F31 b31 T  4
  have C_lPlace := ok_lPlace (P := P) (w := w) (K := K) (mg := mg) (base := base) F33 b33 T B 
  have C_lCellsRight := ok_lRight (P := P) (w := w) (K := K) (mg := mg) (base := base) F32 b32 T C_lWalk C_lTold C_firstWrong C_read C_shapeOf C_freeCells C_lPlace 
  exact ok_law F34 b34 T C_lCellAt C_lPick C_lKinds C_lShape C_lFile C_lGaps C_lGapsIn C_lLength C_lCellsRight
theorem law_walk {l : PySem.W.OpenLaw} {q : Program} {loose : List Str} {XP : (Str → Option Value) → Heap → Prop} {YP : World → Heap → Prop} {d : DefRec} {K : Params → PySem.W.Frag} (hn : l.most = some 63) (hdf : d.params.defaults = [])
    (hY : ∀ (w : World) (h : Heap), YP w h → (K w.params).In h)
    (F : ∀ (w : World) (mg : Str → Option Value) (fa : Addr) (h : Heap), (K w.params).In h → h.Ns mainGlobals mg → mg d.name = some (.ref fa) →
      ∃ fd : FuncData, (∀ (s : Shared) (u : Value), BindsTo s fd ⟨[u], []⟩ [("_law_script", u)]) ∧ ∀ base : Heap, (K w.params).In base → base.Ns mainGlobals mg → FnOk l.prog w (K w.params) mg base C8.CX0 68 fa fd ["_law_script"] (spLaw (K w.params))) :
    PySem.W.WalkO q loose XP YP l.row.toRowW d [] (fun f vs => PySem.call f vs) :=
  L2.walk_of (n := 63) (k := 68) (x := "_law_script") (CX := fun _ => C8.CX0) (sp := fun w => spLaw (K w.params)) hn (by decide) hdf ⟨rfl, by decide, by decide⟩ hY F (fun _ _ a ns hl _ hS => ⟨a, ns, rfl, ⟨hS, hl⟩, fun _ _ => rfl⟩) fun _ _ _ _ _ z => z
end Bx


end
open PySem PySem.W PyProof.Rows
set_option maxRecDepth 100000 in
set_option maxHeartbeats 0 in
theorem PySem.Challenge.cw_boxshift_k01_whole_reading_holds : PySem.Challenge.rw_boxshift_k01_whole_reading.Holds := by
  w_on; o_law; k_head; (case hw => w_witness2)
  k_fill
  refine Bx.law_walk (l := PySem.Challenge.rw_boxshift_k01_whole_reading) rfl rfl (fun w h Y => PySem.W.kIn_of Y) ?F
  case F =>
    intro w mg fa h KX G hmg
    refine' Bx.law_ok KX G hmg ?a1 ?l1 ?c1 ?k1 ?a2 ?l2 ?c2 ?k2 ?a3 ?l3 ?c3 ?k3 ?a4 ?l4 ?c4 ?k4 ?a5 ?l5 ?c5 ?k5 ?a6 ?l6 ?c6 ?k6 ?a7 ?l7 ?c7 ?k7 ?a8 ?l8 ?c8 ?k8 ?a9 ?l9 ?c9 ?k9 ?a10 ?l10 ?c10 ?k10 ?a11 ?l11 ?c11 ?k11 ?a12 ?l12 ?c12 ?k12 ?a13 ?l13 ?c13 ?k13 ?a14 ?l14 ?c14 ?k14 ?a15 ?l15 ?c15 ?k15 ?a16 ?l16 ?c16 ?k16 ?a17 ?l17 ?c17 ?k17 ?a18 ?l18 ?c18 ?k18 ?a19 ?l19 ?c19 ?k19 ?a20 ?l20 ?c20 ?k20 ?a21 ?l21 ?c21 ?k21 ?a22 ?l22 ?c22 ?k22 ?a23 ?l23 ?c23 ?k23 ?a24 ?l24 ?c24 ?k24 ?a25 ?l25 ?c25 ?k25 ?a26 ?l26 ?c26 ?k26 ?a27 ?l27 ?c27 ?k27 ?a28 ?l28 ?c28 ?k28 ?a29 ?l29 ?c29 ?k29 ?a30 ?l30 ?c30 ?k30 ?a31 ?l31 ?c31 ?k31 ?a32 ?l32 ?c32 ?k32 ?a33 ?l33 ?c33 ?k33 ?a34 ?l34 ?c34 ?k34 ?gGROUP ?gDATA ?gFREE ?gTABLE ?gHEAD ?gMOST_CELLS ?gLARGEST_CELL ?gMOST_GROUPS_AROUND ?z_len ?z_isinstance ?z_sum ?z_int ?z_bool ?z_list ?z_tuple ?z_range ?z_enumerate ?z_super ?aC ?xC ?saC ?gaC ?ggC ?nbC ?iC ?tI ?lI ?cI ?lC ?lD ?vD ?hfD ?suC ?spC ?veC ?opC ?tpC ?kC ?eC ?tC ?hC ?isC ?sC
    (case a1 => k_is)
    (case l1 => k_is)
    (case c1 => k_is)
    (case k1 => k_is)
    (case a2 => k_is)
    (case l2 => k_is)
    (case c2 => k_is)
    (case k2 => k_is)
    (case a3 => k_is)
    (case l3 => k_is)
    (case c3 => k_is)
    (case k3 => k_is)
    (case a4 => k_is)
    (case l4 => k_is)
    (case c4 => k_is)
    (case k4 => k_is)
    (case a5 => k_is)
    (case l5 => k_is)
    (case c5 => k_is)
    (case k5 => k_is)
    (case a6 => k_is)
    (case l6 => k_is)
    (case c6 => k_is)
    (case k6 => k_is)
    (case a7 => k_is)
    (case l7 => k_is)
    (case c7 => k_is)
    (case k7 => k_is)
    (case a8 => k_is)
    (case l8 => k_is)
    (case c8 => k_is)
    (case k8 => k_is)
    (case a9 => k_is)
    (case l9 => k_is)
    (case c9 => k_is)
    (case k9 => k_is)
    (case a10 => k_is)
    (case l10 => k_is)
    (case c10 => k_is)
    (case k10 => k_is)
    (case a11 => k_is)
    (case l11 => k_is)
    (case c11 => k_is)
    (case k11 => k_is)
    (case a12 => k_is)
    (case l12 => k_is)
    (case c12 => k_is)
    (case k12 => k_is)
    (case a13 => k_is)
    (case l13 => k_is)
    (case c13 => k_is)
    (case k13 => k_is)
    (case a14 => k_is)
    (case l14 => k_is)
    (case c14 => k_is)
    (case k14 => k_is)
    (case a15 => k_is)
    (case l15 => k_is)
    (case c15 => k_is)
    (case k15 => k_is)
    (case a16 => k_is)
    (case l16 => k_is)
    (case c16 => k_is)
    (case k16 => k_is)
    (case a17 => k_is)
    (case l17 => k_is)
    (case c17 => k_is)
    (case k17 => k_is)
    (case a18 => k_is)
    (case l18 => k_is)
    (case c18 => k_is)
    (case k18 => k_is)
    (case a19 => k_is)
    (case l19 => k_is)
    (case c19 => k_is)
    (case k19 => k_is)
    (case a20 => k_is)
    (case l20 => k_is)
    (case c20 => k_is)
    (case k20 => k_is)
    (case a21 => k_is)
    (case l21 => k_is)
    (case c21 => k_is)
    (case k21 => k_is)
    (case a22 => k_is)
    (case l22 => k_is)
    (case c22 => k_is)
    (case k22 => k_is)
    (case a23 => k_is)
    (case l23 => k_is)
    (case c23 => k_is)
    (case k23 => k_is)
    (case a24 => k_is)
    (case l24 => k_is)
    (case c24 => k_is)
    (case k24 => k_is)
    (case a25 => k_is)
    (case l25 => k_is)
    (case c25 => k_is)
    (case k25 => k_is)
    (case a26 => k_is)
    (case l26 => k_is)
    (case c26 => k_is)
    (case k26 => k_is)
    (case a27 => k_is)
    (case l27 => k_is)
    (case c27 => k_is)
    (case k27 => k_is)
    (case a28 => k_is)
    (case l28 => k_is)
    (case c28 => k_is)
    (case k28 => k_is)
    (case a29 => k_is)
    (case l29 => k_is)
    (case c29 => k_is)
    (case k29 => k_is)
    (case a30 => k_is)
    (case l30 => k_is)
    (case c30 => k_is)
    (case k30 => k_is)
    (case a31 => k_is)
    (case l31 => k_is)
    (case c31 => k_is)
    (case k31 => k_is)
    (case a32 => k_is)
    (case l32 => k_is)
    (case c32 => k_is)
    (case k32 => k_is)
    (case a33 => k_is)
    (case l33 => k_is)
    (case c33 => k_is)
    (case k33 => k_is)
    (case a34 => k_is)
    (case l34 => k_is)
    (case c34 => k_is)
    (case k34 => k_is)
    (case gGROUP => k_is)
    (case gDATA => k_is)
    (case gFREE => k_is)
    (case gTABLE => k_is)
    (case gHEAD => k_is)
    (case gMOST_CELLS => k_is)
    (case gLARGEST_CELL => k_is)
    (case gMOST_GROUPS_AROUND => k_is)
    (case z_len => k_is)
    (case z_isinstance => k_is)
    (case z_sum => k_is)
    (case z_int => k_is)
    (case z_bool => k_is)
    (case z_list => k_is)
    (case z_tuple => k_is)
    (case z_range => k_is)
    (case z_enumerate => k_is)
    (case z_super => k_is)
    (case aC => k_is)
    (case xC => k_is)
    (case saC => k_is)
    (case gaC => k_is)
    (case ggC => k_is)
    (case nbC => k_is)
    (case iC => k_is)
    (case tI => k_is)
    (case lI => k_is)
    (case cI => k_is)
    (case lC => k_is)
    (case lD => k_is)
    (case vD => rfl)
    (case hfD => first | rfl | decide +kernel)
    (case suC => k_is)
    (case spC => ks_is)
    (case veC => k_is)
    (case opC => k_is)
    (case tpC => first | rfl | decide +kernel)
    (case kC => k_is)
    (case eC => k_is)
    (case tC => k_is)
    (case hC => k_is)
    (case isC => k_is)
    (case sC => first | rfl | k_is)
#print axioms PySem.Challenge.cw_boxshift_k01_whole_reading_holds

