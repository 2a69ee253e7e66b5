import Derived.Test.YtjjajleiladbhaaGreatDoorKAW
import Derived.Test.YtjjajleiladbhaaGreatDoorKBD
import Derived.Test.YtjjajleiladbhaaGreatDoorRows
import Derived.KernelRfl
import Derived.Laws.StructEq
section
/- Package machine: Mirror, over this seat's translation (written by ax_mm.py). -/
namespace Go.Proofs.YtjjajleiladbhaaGreatDoor
set_option linter.unusedVariables false
set_option linter.unusedSimpArgs false
open Go.RowKit

/-- a list of items in cells of which the first k are turned already -/
def trn {α : Type} (m : α → α) (enc : α → List Value) (zs : List α) (sp : List Value) (k : Nat) : List Value := ((zs.take k).map m ++ zs.drop k).flatMap enc ++ sp
theorem trn_zero {α : Type} (m : α → α) (enc : α → List Value) (zs : List α) (sp : List Value) : trn m enc zs sp 0 = zs.flatMap enc ++ sp := by simp [trn]
theorem trn_all {α : Type} (m : α → α) (enc : α → List Value) (zs : List α) (sp : List Value) (k : Nat) (h : zs.length ≤ k) : trn m enc zs sp k = (zs.map m).flatMap enc ++ sp := by
  unfold trn; rw [List.take_of_length_le h, List.drop_eq_nil_of_le h, List.append_nil]
theorem flat_len {α : Type} {enc : α → List Value} {z : Nat} (hl : ∀ x, (enc x).length = z) : ∀ zs : List α, (zs.flatMap enc).length = zs.length * z
  | [] => by simp
  | x :: r => by rw [List.flatMap_cons, List.length_append, hl, flat_len hl r, List.length_cons, Nat.add_mul]; omega
theorem flat_setAt {α : Type} {enc : α → List Value} {z : Nat} (hl : ∀ x, (enc x).length = z) (i : Nat) (hi : i < z) (v : Value) (x y : α) (e : enc y = (enc x).set i v) : ∀ (zs : List α) (k : Nat), zs[k]? = some x → (zs.flatMap enc).set (k * z + i) v = (zs.set k y).flatMap enc
  | [], k, h => by simp at h
  | a :: r, 0, h => by
    obtain rfl : a = x := by simpa using h
    rw [List.flatMap_cons, Nat.zero_mul, Nat.zero_add, List.set_append_left _ _ (by rw [hl]; exact hi), List.set_cons_zero, List.flatMap_cons, e]
  | a :: r, k + 1, h => by
    rw [List.flatMap_cons, List.set_append_right _ _ (by rw [hl, Nat.add_mul]; omega), hl, List.set_cons_succ, List.flatMap_cons]
    rw [show (k + 1) * z + i - z = k * z + i by rw [Nat.add_mul]; omega, flat_setAt hl i hi v x y e r k (by simpa using h)]
theorem trn_len {α : Type} (m : α → α) {enc : α → List Value} {z : Nat} (hl : ∀ x, (enc x).length = z) (zs : List α) (sp : List Value) (k : Nat) : (trn m enc zs sp k).length = zs.length * z + sp.length := by
  unfold trn
  rw [List.length_append, flat_len hl]
  simp only [List.length_append, List.length_map, List.length_take, List.length_drop]
  congr 2; omega
theorem trn_item {α : Type} (m : α → α) (zs : List α) (k : Nat) (x : α) (h : zs[k]? = some x) : ((zs.take k).map m ++ zs.drop k)[k]? = some x := by
  have hk := (List.getElem?_eq_some_iff.1 h).1
  rw [List.getElem?_append_right (by simp; omega)]
  simp only [List.length_map, List.length_take, List.getElem?_drop]
  rw [show k + (k - min k zs.length) = k by omega]; exact h
theorem trn_get {α : Type} (m : α → α) {enc : α → List Value} {z : Nat} (hl : ∀ x, (enc x).length = z) {zs : List α} (sp : List Value) {k : Nat} {x : α} (h : zs[k]? = some x) {i : Nat} {v : Value} (hv : (enc x)[i]? = some v) : (trn m enc zs sp k)[0 + k * z + i]? = some v := by
  have h1 := flat_get hl _ k x (trn_item m zs k x h) i v hv
  unfold trn
  rw [Nat.zero_add, List.getElem?_append_left (List.getElem?_eq_some_iff.1 h1).1]; exact h1
theorem trn_step {α : Type} (m : α → α) {enc : α → List Value} {z : Nat} (hl : ∀ x, (enc x).length = z) {zs : List α} (sp : List Value) {k : Nat} {x : α} (h : zs[k]? = some x) {i : Nat} {v : Value} (hi : i < z) (e : enc (m x) = (enc x).set i v) : (trn m enc zs sp k).set (0 + k * z + i) v = trn m enc zs sp (k + 1) := by
  have hk := (List.getElem?_eq_some_iff.1 h).1
  have h1 := flat_get hl _ k x (trn_item m zs k x h) 0 ((enc x)[0]'(by rw [hl]; omega)) (by rw [List.getElem?_eq_getElem])
  unfold trn
  have hlt : 0 + k * z + i < (((zs.take k).map m ++ zs.drop k).flatMap enc).length := by
    rw [flat_len hl]; simp only [List.length_append, List.length_map, List.length_take, List.length_drop]
    have : (k + 1) * z ≤ (min k zs.length + (zs.length - k)) * z := Nat.mul_le_mul_right _ (by omega)
    rw [Nat.add_mul] at this; omega
  rw [List.set_append_left _ _ hlt, Nat.zero_add, flat_setAt hl i hi v x (m x) e _ k (trn_item m zs k x h)]
  congr 2
  rw [List.set_append_right _ _ (by simp; omega)]
  simp only [List.length_map, List.length_take]
  rw [show k - min k zs.length = 0 by omega, List.drop_eq_getElem_cons hk, List.set_cons_zero]
  obtain ⟨_, rfl⟩ := List.getElem?_eq_some_iff.1 h
  rw [List.take_succ_eq_append_getElem hk, List.map_append, List.append_assoc]; rfl

set_option maxRecDepth 100000 in
theorem turned_coil_nil (cap : Nat) (w : World) : Calls Tryz.prog 114 #[(.slice none 0 cap), (.func (.func 115) #[] #[])] w (fun e w' => ∃ A' c', e = .returned (.slice A' 0 c') ∧ NewT 8 CoilD.cells w.heap.size w' A' 0 c' ([] : List CoilD) ∧ Below w.heap.size w w') := by
  refine calls_ax (vs := [(.slice none 0 cap), (.func (.func 115) #[] #[])]) Tryz.func114 rfl rfl ?_
  refine ac_seq ?_
  refine ac_region ?_
  refine al_q (q_assign rfl) rfl rfl rfl ?_
  refine al_end ?_
  refine aq_then ?_
  refine ac_seq ?_
  refine ac_region ?_
  refine al_q (q_move rfl) rfl rfl rfl ?_
  refine al_inl Tryz.call135 (.cons rfl .nil) rfl rfl Tryz.func135 rfl rfl ?_
  refine ac_seq ?_
  refine ac_region ?_
  refine al_q (q_assign rfl) rfl rfl rfl ?_
  refine al_end ?_
  refine aq_then ?_
  refine ac_seq ?_
  refine ac_seq ?_
  refine ac_region ?_
  refine al_q (q_move rfl) rfl rfl rfl ?_
  refine al_q (q_eqlNil0 rfl Tryz.underlying22) rfl rfl rfl ?_
  refine al_end ?_
  refine aq_then ?_
  refine ac_condT rfl ?_
  refine ac_seq ?_
  refine ac_region ?_
  refine al_q (q_assign rfl) rfl rfl rfl ?_
  refine al_end ?_
  refine aq_then ?_
  refine ac_ret ?_
  refine aq_thenR ?_
  refine retI Tryz.results135 (.tmp rfl .nil) .one ?_
  refine al_q (q_assign rfl) rfl rfl rfl ?_
  refine al_end ?_
  refine aq_then ?_
  refine ac_seq ?_
  refine ac_seq ?_
  refine ac_region ?_
  refine al_q (q_move rfl) rfl rfl rfl ?_
  refine al_q (q_lenS rfl Tryz.runUnderlying22) rfl rfl rfl ?_
  refine al_q (q_move rfl) rfl rfl rfl ?_
  refine al_end ?_
  refine aq_then ?_
  refine ac_block ?_
  refine ac_loop (β := Unit) (fun _ => True) (fun _ => [(0, (.slice none 0 0)), (1, (.func (.func 115) #[] #[])), (4, (.slice none 0 0)), (9, (.int .i64 ((0 : Nat) : Int))), (10, (.int .i64 0))]) (fun _ => _) (fun _ => []) (fun _ => 0) () trivial ⟨rfl, rfl, rfl, rfl, rfl, trivial⟩ (fun w9 hs => hs) (fun _ hF1 => ?_)
  refine ac_seq ?_
  refine ac_region ?_
  refine al_q (q_lss rfl rfl) rfl rfl rfl ?_
  refine al_end ?_
  refine aq_then ?_
  refine ac_seq ?_
  refine ac_cond rfl (fun h1 => ?_) (fun h1 => ?_)
  · exfalso; have := of_decide_eq_true h1; omega
  · refine ac_exit ?_
    refine aq_thenE ?_
    refine aq_thenE ?_
    refine aq_hit ?_
    refine aq_then ?_
    refine ac_seq ?_
    refine ac_region ?_
    refine al_q (q_move rfl) rfl rfl rfl ?_
    refine al_q (q_assign rfl) rfl rfl rfl ?_
    refine al_end ?_
    refine aq_then ?_
    refine ac_ret ?_
    refine ret1 Tryz.results114 rfl (fun w9 hs => ?_)
    exact ⟨none, 0, rfl, ⟨IsT.nil _ _ _ _, (fun b off e => by cases e), by omega, by omega⟩, hs.below⟩

theorem mcm_bs_apiCoil_0_ : ∀ w, (Instr.buildSlice 22 0 #[]).run Tryz.prog w = .ok (.slice (some ⟨w.heap.size, 0, none⟩) 0 0) (w.alloc (.cells [].toArray 75)) := by
  intro w; (simp [Instr.buildSlice, Instr.fill, cells_agg, newRow, Tryz.runUnderlying22, Tryz.zeroValue75, Tryz.sizeOf75] <;> (rw [(by kernel_rfl : Array.range 0 = #[])]; simp [Value.cells]))

set_option maxRecDepth 100000 in
theorem turned_coil_some (a : Addr) (len cap : Nat) (zs : List CoilD) (w : World) (hI : IsT 8 CoilD.cells w (some a) len zs) (hl : len ≤ 1000) (hb : ∀ x ∈ zs, -60 ≤ x.z ∧ x.z ≤ 60) : Calls Tryz.prog 114 #[(.slice (some a) len cap), (.func (.func 115) #[] #[])] w (fun e w' => ∃ A' c', e = .returned (.slice A' len c') ∧ NewT 8 CoilD.cells w.heap.size w' A' len c' (zs.map mirCoil) ∧ Below w.heap.size w w') := by
  refine calls_ax (vs := [(.slice (some a) len cap), (.func (.func 115) #[] #[])]) Tryz.func114 rfl rfl ?_
  refine ac_seq ?_
  refine ac_region ?_
  refine al_q (q_assign rfl) rfl rfl rfl ?_
  refine al_end ?_
  refine aq_then ?_
  refine ac_seq ?_
  refine ac_region ?_
  refine al_q (q_move rfl) rfl rfl rfl ?_
  refine al_inl Tryz.call135 (.cons rfl .nil) rfl rfl Tryz.func135 rfl rfl ?_
  refine ac_seq ?_
  refine ac_region ?_
  refine al_q (q_assign rfl) rfl rfl rfl ?_
  refine al_end ?_
  refine aq_then ?_
  refine ac_seq ?_
  refine ac_seq ?_
  refine ac_region ?_
  refine al_q (q_move rfl) rfl rfl rfl ?_
  refine al_q (q_eqlNil1 rfl Tryz.underlying22) rfl rfl rfl ?_
  refine al_end ?_
  refine aq_then ?_
  refine ac_condF rfl ?_
  refine ac_skip ?_
  refine aq_then ?_
  refine ac_seq ?_
  refine ac_region ?_
  refine al_new (fun b => .slice (some ⟨b, 0, none⟩) 0 0) (r_buildSlice .nil (mcm_bs_apiCoil_0_)) rfl rfl rfl ?_
  intro b1
  refine al_q (q_move rfl) rfl rfl rfl ?_
  refine al_appendS (i := 0) (z := 8) (bytes := 72) (zv := (.agg #[.string { data := #[] }, .int .i64 0, .int .i64 0, .int .i64 0, .int .i64 0, .int .i64 0, .int .i64 0, .int .i64 0])) (xs := []) (sp := []) (vs := (zs.flatMap CoilD.cells)) rfl rfl (by simp) (by simp) (by omega) (by omega) rfl (Sor.list (enc := CoilD.cells) (zs := zs) (fun _ => rfl) (fun _ => rfl) hI.1 (fun w9 hs => hI.below hs.below)) Tryz.underlying22 (by kernel_rfl) rfl (by omega) (by decide) rfl rfl (fun b2 c_b2 sp_b2 hc_b2 hk_b2 hl_b2 => ?_)
  refine ⟨_, .k0, ?_⟩
  refine al_q (q_assign rfl) rfl rfl rfl ?_
  refine al_end ?_
  refine aq_then ?_
  refine ac_ret ?_
  refine retI Tryz.results135 (.tmp rfl .nil) .one ?_
  refine al_q (q_assign rfl) rfl rfl rfl ?_
  refine al_end ?_
  refine aq_then ?_
  refine ac_seq ?_
  refine ac_seq ?_
  refine ac_region ?_
  refine al_q (q_move rfl) rfl rfl rfl ?_
  refine al_q (q_lenS rfl Tryz.runUnderlying22) rfl rfl rfl ?_
  refine al_q (q_move rfl) rfl rfl rfl ?_
  refine al_end ?_
  refine aq_then ?_
  refine ac_block ?_
  refine ac_loop (β := Nat) (fun k => k ≤ len) (fun k => [(0, (.slice (some ⟨b2, 0, none⟩) (0 + len) c_b2)), (1, (.func (.func 115) #[] #[])), (4, (.slice none 0 0)), (9, (.int .i64 ((0 + len : Nat) : Int))), (10, (.int .i64 (k : Int)))]) (fun _ => _) (fun k => [(b2, .cells (trn mirCoil CoilD.cells zs sp_b2 k))]) (fun k => len - k) 0 (by omega) ⟨rfl, rfl, rfl, rfl, rfl, trivial⟩ (fun w9 hs => (by rw [trn_zero]; simpa using hs)) (fun k hF1 => ?_)
  refine ac_seq ?_
  refine ac_region ?_
  refine al_q (q_lss rfl rfl) rfl rfl rfl ?_
  refine al_end ?_
  refine aq_then ?_
  refine ac_seq ?_
  refine ac_cond rfl (fun h1 => ?_) (fun h1 => ?_)
  · have hkl : k < len := by have := of_decide_eq_true h1; omega
    obtain ⟨x, hx⟩ : ∃ x, zs[k]? = some x := ⟨_, List.getElem?_eq_getElem (by rw [hI.1]; omega)⟩
    have hxb := hb x (List.mem_of_getElem? hx)
    refine ac_skip ?_
    refine aq_then ?_
    refine ac_seq ?_
    refine ac_block ?_
    refine ac_seq ?_
    refine ac_region ?_
    refine al_q (q_move rfl) rfl rfl rfl ?_
    refine al_q (q_assign rfl) rfl rfl rfl ?_
    refine al_end ?_
    refine aq_then ?_
    refine ac_region ?_
    refine al_q (q_move rfl) rfl rfl rfl ?_
    refine al_q (q_move rfl) rfl rfl rfl ?_
    refine al_q (q_move rfl) rfl rfl rfl ?_
    refine al_q (q_indexAddr (i := k) (0 + k * 8) rfl rfl rfl (by omega) Tryz.runUnderlying22 Tryz.sizeOf75 rfl) rfl rfl rfl ?_
    refine al_inlV (fi := []) (ca := []) rfl Tryz.call115 (.cons rfl .nil) rfl rfl Tryz.func115 rfl rfl ?_
    refine ac_seq ?_
    refine ac_region ?_
    refine al_q (q_assign rfl) rfl rfl rfl ?_
    refine al_end ?_
    refine aq_then ?_
    refine ac_seq ?_
    refine ac_region ?_
    refine al_q (q_move rfl) rfl rfl rfl ?_
    refine al_q (q_nilCheckP rfl) rfl rfl rfl ?_
    refine al_q (q_fieldAddr (0 + k * 8 + 2) rfl Tryz.runUnderlying75 rfl Tryz.sizeOf3 (by decide) rfl) rfl rfl rfl ?_
    refine al_q (q_assign rfl) rfl rfl rfl ?_
    refine al_end ?_
    refine aq_then ?_
    refine ac_ret ?_
    refine retI Tryz.results115 (.tmp rfl .nil) .one ?_
    refine al_q (q_nilCheckP rfl) rfl rfl rfl ?_
    refine al_q (q_load (i := 0) rfl rfl (trn_get mirCoil (enc := CoilD.cells) (z := 8) (fun _ => rfl) sp_b2 hx (i := 2) rfl) Tryz.isAgg3) rfl rfl rfl ?_
    refine al_q (q_mul rfl rfl (by omega)) rfl rfl rfl ?_
    refine al_q (q_nilCheckP rfl) rfl rfl rfl ?_
    refine al_store1 (i := 0) rfl rfl rfl rfl Tryz.sizeOf3 (SetAt.ofSet (by rw [trn_len mirCoil (z := 8) (fun _ => rfl), hI.1]; omega)) .k0 rfl ?_
    refine al_end ?_
    refine aq_inN ?_
    refine aq_then ?_
    refine ac_region ?_
    refine al_q (q_add rfl rfl (by omega)) rfl rfl rfl ?_
    refine al_q (q_move rfl) rfl rfl rfl ?_
    refine al_end ?_
    refine aq_then ?_
    skip
    refine aq_round (k + 1) (by omega) (by omega) ⟨rfl, rfl, rfl, rfl, rfl, trivial⟩ (fun w9 hs => (by have h9 := hs; rw [trn_step mirCoil (z := 8) (fun _ => rfl) sp_b2 hx (i := 2) (by omega) (by simp [mirCoil, CoilD.cells, Int.mul_neg_one])] at h9; exact h9))
  · have hkl : ¬ k < len := by have := of_decide_eq_false h1; omega
    refine ac_exit ?_
    refine aq_thenE ?_
    refine aq_thenE ?_
    refine aq_hit ?_
    refine aq_then ?_
    refine ac_seq ?_
    refine ac_region ?_
    refine al_q (q_move rfl) rfl rfl rfl ?_
    refine al_q (q_assign rfl) rfl rfl rfl ?_
    refine al_end ?_
    refine aq_then ?_
    refine ac_ret ?_
    refine ret1 Tryz.results114 rfl (fun w9 hs => ?_)
    exact ⟨_, _, by rw [Nat.zero_add], ⟨isT_box (n := 8) (enc := CoilD.cells) (zs := zs.map mirCoil) (fun _ => rfl) (by have h9 := hs.at 0 rfl; rw [trn_all mirCoil CoilD.cells zs _ _ (by rw [hI.1]; omega)] at h9; exact h9) rfl (by rw [List.length_map, hI.1]), fun b off e => hs.new 0 rfl b off e, by omega, hk_b2⟩, hs.below⟩

set_option maxRecDepth 100000 in
theorem turned_shell_nil (cap : Nat) (w : World) : Calls Tryz.prog 116 #[(.slice none 0 cap), (.func (.func 117) #[] #[])] w (fun e w' => ∃ A' c', e = .returned (.slice A' 0 c') ∧ NewT 4 ShellD.cells w.heap.size w' A' 0 c' ([] : List ShellD) ∧ Below w.heap.size w w') := by
  refine calls_ax (vs := [(.slice none 0 cap), (.func (.func 117) #[] #[])]) Tryz.func116 rfl rfl ?_
  refine ac_seq ?_
  refine ac_region ?_
  refine al_q (q_assign rfl) rfl rfl rfl ?_
  refine al_end ?_
  refine aq_then ?_
  refine ac_seq ?_
  refine ac_region ?_
  refine al_q (q_move rfl) rfl rfl rfl ?_
  refine al_inl Tryz.call136 (.cons rfl .nil) rfl rfl Tryz.func136 rfl rfl ?_
  refine ac_seq ?_
  refine ac_region ?_
  refine al_q (q_assign rfl) rfl rfl rfl ?_
  refine al_end ?_
  refine aq_then ?_
  refine ac_seq ?_
  refine ac_seq ?_
  refine ac_region ?_
  refine al_q (q_move rfl) rfl rfl rfl ?_
  refine al_q (q_eqlNil0 rfl Tryz.underlying23) rfl rfl rfl ?_
  refine al_end ?_
  refine aq_then ?_
  refine ac_condT rfl ?_
  refine ac_seq ?_
  refine ac_region ?_
  refine al_q (q_assign rfl) rfl rfl rfl ?_
  refine al_end ?_
  refine aq_then ?_
  refine ac_ret ?_
  refine aq_thenR ?_
  refine retI Tryz.results136 (.tmp rfl .nil) .one ?_
  refine al_q (q_assign rfl) rfl rfl rfl ?_
  refine al_end ?_
  refine aq_then ?_
  refine ac_seq ?_
  refine ac_seq ?_
  refine ac_region ?_
  refine al_q (q_move rfl) rfl rfl rfl ?_
  refine al_q (q_lenS rfl Tryz.runUnderlying23) rfl rfl rfl ?_
  refine al_q (q_move rfl) rfl rfl rfl ?_
  refine al_end ?_
  refine aq_then ?_
  refine ac_block ?_
  refine ac_loop (β := Unit) (fun _ => True) (fun _ => [(0, (.slice none 0 0)), (1, (.func (.func 117) #[] #[])), (4, (.slice none 0 0)), (9, (.int .i64 ((0 : Nat) : Int))), (10, (.int .i64 0))]) (fun _ => _) (fun _ => []) (fun _ => 0) () trivial ⟨rfl, rfl, rfl, rfl, rfl, trivial⟩ (fun w9 hs => hs) (fun _ hF1 => ?_)
  refine ac_seq ?_
  refine ac_region ?_
  refine al_q (q_lss rfl rfl) rfl rfl rfl ?_
  refine al_end ?_
  refine aq_then ?_
  refine ac_seq ?_
  refine ac_cond rfl (fun h1 => ?_) (fun h1 => ?_)
  · exfalso; have := of_decide_eq_true h1; omega
  · refine ac_exit ?_
    refine aq_thenE ?_
    refine aq_thenE ?_
    refine aq_hit ?_
    refine aq_then ?_
    refine ac_seq ?_
    refine ac_region ?_
    refine al_q (q_move rfl) rfl rfl rfl ?_
    refine al_q (q_assign rfl) rfl rfl rfl ?_
    refine al_end ?_
    refine aq_then ?_
    refine ac_ret ?_
    refine ret1 Tryz.results116 rfl (fun w9 hs => ?_)
    exact ⟨none, 0, rfl, ⟨IsT.nil _ _ _ _, (fun b off e => by cases e), by omega, by omega⟩, hs.below⟩

theorem mcm_bs_apiShell_0_ : ∀ w, (Instr.buildSlice 23 0 #[]).run Tryz.prog w = .ok (.slice (some ⟨w.heap.size, 0, none⟩) 0 0) (w.alloc (.cells [].toArray 79)) := by
  intro w; (simp [Instr.buildSlice, Instr.fill, cells_agg, newRow, Tryz.runUnderlying23, Tryz.zeroValue79, Tryz.sizeOf79] <;> (rw [(by kernel_rfl : Array.range 0 = #[])]; simp [Value.cells]))

set_option maxRecDepth 100000 in
theorem turned_shell_some (a : Addr) (len cap : Nat) (zs : List ShellD) (w : World) (hI : IsT 4 ShellD.cells w (some a) len zs) (hl : len ≤ 1000) (hb : ∀ x ∈ zs, -60 ≤ x.z ∧ x.z ≤ 60) : Calls Tryz.prog 116 #[(.slice (some a) len cap), (.func (.func 117) #[] #[])] w (fun e w' => ∃ A' c', e = .returned (.slice A' len c') ∧ NewT 4 ShellD.cells w.heap.size w' A' len c' (zs.map mirShell) ∧ Below w.heap.size w w') := by
  refine calls_ax (vs := [(.slice (some a) len cap), (.func (.func 117) #[] #[])]) Tryz.func116 rfl rfl ?_
  refine ac_seq ?_
  refine ac_region ?_
  refine al_q (q_assign rfl) rfl rfl rfl ?_
  refine al_end ?_
  refine aq_then ?_
  refine ac_seq ?_
  refine ac_region ?_
  refine al_q (q_move rfl) rfl rfl rfl ?_
  refine al_inl Tryz.call136 (.cons rfl .nil) rfl rfl Tryz.func136 rfl rfl ?_
  refine ac_seq ?_
  refine ac_region ?_
  refine al_q (q_assign rfl) rfl rfl rfl ?_
  refine al_end ?_
  refine aq_then ?_
  refine ac_seq ?_
  refine ac_seq ?_
  refine ac_region ?_
  refine al_q (q_move rfl) rfl rfl rfl ?_
  refine al_q (q_eqlNil1 rfl Tryz.underlying23) rfl rfl rfl ?_
  refine al_end ?_
  refine aq_then ?_
  refine ac_condF rfl ?_
  refine ac_skip ?_
  refine aq_then ?_
  refine ac_seq ?_
  refine ac_region ?_
  refine al_new (fun b => .slice (some ⟨b, 0, none⟩) 0 0) (r_buildSlice .nil (mcm_bs_apiShell_0_)) rfl rfl rfl ?_
  intro b1
  refine al_q (q_move rfl) rfl rfl rfl ?_
  refine al_appendS (i := 0) (z := 4) (bytes := 32) (zv := (.agg #[.int .i64 0, .int .i64 0, .int .i64 0, .int .i64 0])) (xs := []) (sp := []) (vs := (zs.flatMap ShellD.cells)) rfl rfl (by simp) (by simp) (by omega) (by omega) rfl (Sor.list (enc := ShellD.cells) (zs := zs) (fun _ => rfl) (fun _ => rfl) hI.1 (fun w9 hs => hI.below hs.below)) Tryz.underlying23 (by kernel_rfl) rfl (by omega) (by decide) rfl rfl (fun b2 c_b2 sp_b2 hc_b2 hk_b2 hl_b2 => ?_)
  refine ⟨_, .k0, ?_⟩
  refine al_q (q_assign rfl) rfl rfl rfl ?_
  refine al_end ?_
  refine aq_then ?_
  refine ac_ret ?_
  refine retI Tryz.results136 (.tmp rfl .nil) .one ?_
  refine al_q (q_assign rfl) rfl rfl rfl ?_
  refine al_end ?_
  refine aq_then ?_
  refine ac_seq ?_
  refine ac_seq ?_
  refine ac_region ?_
  refine al_q (q_move rfl) rfl rfl rfl ?_
  refine al_q (q_lenS rfl Tryz.runUnderlying23) rfl rfl rfl ?_
  refine al_q (q_move rfl) rfl rfl rfl ?_
  refine al_end ?_
  refine aq_then ?_
  refine ac_block ?_
  refine ac_loop (β := Nat) (fun k => k ≤ len) (fun k => [(0, (.slice (some ⟨b2, 0, none⟩) (0 + len) c_b2)), (1, (.func (.func 117) #[] #[])), (4, (.slice none 0 0)), (9, (.int .i64 ((0 + len : Nat) : Int))), (10, (.int .i64 (k : Int)))]) (fun _ => _) (fun k => [(b2, .cells (trn mirShell ShellD.cells zs sp_b2 k))]) (fun k => len - k) 0 (by omega) ⟨rfl, rfl, rfl, rfl, rfl, trivial⟩ (fun w9 hs => (by rw [trn_zero]; simpa using hs)) (fun k hF1 => ?_)
  refine ac_seq ?_
  refine ac_region ?_
  refine al_q (q_lss rfl rfl) rfl rfl rfl ?_
  refine al_end ?_
  refine aq_then ?_
  refine ac_seq ?_
  refine ac_cond rfl (fun h1 => ?_) (fun h1 => ?_)
  · have hkl : k < len := by have := of_decide_eq_true h1; omega
    obtain ⟨x, hx⟩ : ∃ x, zs[k]? = some x := ⟨_, List.getElem?_eq_getElem (by rw [hI.1]; omega)⟩
    have hxb := hb x (List.mem_of_getElem? hx)
    refine ac_skip ?_
    refine aq_then ?_
    refine ac_seq ?_
    refine ac_block ?_
    refine ac_seq ?_
    refine ac_region ?_
    refine al_q (q_move rfl) rfl rfl rfl ?_
    refine al_q (q_assign rfl) rfl rfl rfl ?_
    refine al_end ?_
    refine aq_then ?_
    refine ac_region ?_
    refine al_q (q_move rfl) rfl rfl rfl ?_
    refine al_q (q_move rfl) rfl rfl rfl ?_
    refine al_q (q_move rfl) rfl rfl rfl ?_
    refine al_q (q_indexAddr (i := k) (0 + k * 4) rfl rfl rfl (by omega) Tryz.runUnderlying23 Tryz.sizeOf79 rfl) rfl rfl rfl ?_
    refine al_inlV (fi := []) (ca := []) rfl Tryz.call117 (.cons rfl .nil) rfl rfl Tryz.func117 rfl rfl ?_
    refine ac_seq ?_
    refine ac_region ?_
    refine al_q (q_assign rfl) rfl rfl rfl ?_
    refine al_end ?_
    refine aq_then ?_
    refine ac_seq ?_
    refine ac_region ?_
    refine al_q (q_move rfl) rfl rfl rfl ?_
    refine al_q (q_nilCheckP rfl) rfl rfl rfl ?_
    refine al_q (q_fieldAddr (0 + k * 4 + 1) rfl Tryz.runUnderlying79 rfl Tryz.sizeOf3 (by decide) rfl) rfl rfl rfl ?_
    refine al_q (q_assign rfl) rfl rfl rfl ?_
    refine al_end ?_
    refine aq_then ?_
    refine ac_ret ?_
    refine retI Tryz.results117 (.tmp rfl .nil) .one ?_
    refine al_q (q_nilCheckP rfl) rfl rfl rfl ?_
    refine al_q (q_load (i := 0) rfl rfl (trn_get mirShell (enc := ShellD.cells) (z := 4) (fun _ => rfl) sp_b2 hx (i := 1) rfl) Tryz.isAgg3) rfl rfl rfl ?_
    refine al_q (q_mul rfl rfl (by omega)) rfl rfl rfl ?_
    refine al_q (q_nilCheckP rfl) rfl rfl rfl ?_
    refine al_store1 (i := 0) rfl rfl rfl rfl Tryz.sizeOf3 (SetAt.ofSet (by rw [trn_len mirShell (z := 4) (fun _ => rfl), hI.1]; omega)) .k0 rfl ?_
    refine al_end ?_
    refine aq_inN ?_
    refine aq_then ?_
    refine ac_region ?_
    refine al_q (q_add rfl rfl (by omega)) rfl rfl rfl ?_
    refine al_q (q_move rfl) rfl rfl rfl ?_
    refine al_end ?_
    refine aq_then ?_
    skip
    refine aq_round (k + 1) (by omega) (by omega) ⟨rfl, rfl, rfl, rfl, rfl, trivial⟩ (fun w9 hs => (by have h9 := hs; rw [trn_step mirShell (z := 4) (fun _ => rfl) sp_b2 hx (i := 1) (by omega) (by simp [mirShell, ShellD.cells, Int.mul_neg_one])] at h9; exact h9))
  · have hkl : ¬ k < len := by have := of_decide_eq_false h1; omega
    refine ac_exit ?_
    refine aq_thenE ?_
    refine aq_thenE ?_
    refine aq_hit ?_
    refine aq_then ?_
    refine ac_seq ?_
    refine ac_region ?_
    refine al_q (q_move rfl) rfl rfl rfl ?_
    refine al_q (q_assign rfl) rfl rfl rfl ?_
    refine al_end ?_
    refine aq_then ?_
    refine ac_ret ?_
    refine ret1 Tryz.results116 rfl (fun w9 hs => ?_)
    exact ⟨_, _, by rw [Nat.zero_add], ⟨isT_box (n := 4) (enc := ShellD.cells) (zs := zs.map mirShell) (fun _ => rfl) (by have h9 := hs.at 0 rfl; rw [trn_all mirShell ShellD.cells zs _ _ (by rw [hI.1]; omega)] at h9; exact h9) rfl (by rw [List.length_map, hI.1]), fun b off e => hs.new 0 rfl b off e, by omega, hk_b2⟩, hs.below⟩

set_option maxRecDepth 100000 in
theorem turned_point_nil (cap : Nat) (w : World) : Calls Tryz.prog 118 #[(.slice none 0 cap), (.func (.func 119) #[] #[])] w (fun e w' => ∃ A' c', e = .returned (.slice A' 0 c') ∧ NewT 2 PointD.cells w.heap.size w' A' 0 c' ([] : List PointD) ∧ Below w.heap.size w w') := by
  refine calls_ax (vs := [(.slice none 0 cap), (.func (.func 119) #[] #[])]) Tryz.func118 rfl rfl ?_
  refine ac_seq ?_
  refine ac_region ?_
  refine al_q (q_assign rfl) rfl rfl rfl ?_
  refine al_end ?_
  refine aq_then ?_
  refine ac_seq ?_
  refine ac_region ?_
  refine al_q (q_move rfl) rfl rfl rfl ?_
  refine al_inl Tryz.call137 (.cons rfl .nil) rfl rfl Tryz.func137 rfl rfl ?_
  refine ac_seq ?_
  refine ac_region ?_
  refine al_q (q_assign rfl) rfl rfl rfl ?_
  refine al_end ?_
  refine aq_then ?_
  refine ac_seq ?_
  refine ac_seq ?_
  refine ac_region ?_
  refine al_q (q_move rfl) rfl rfl rfl ?_
  refine al_q (q_eqlNil0 rfl Tryz.underlying24) rfl rfl rfl ?_
  refine al_end ?_
  refine aq_then ?_
  refine ac_condT rfl ?_
  refine ac_seq ?_
  refine ac_region ?_
  refine al_q (q_assign rfl) rfl rfl rfl ?_
  refine al_end ?_
  refine aq_then ?_
  refine ac_ret ?_
  refine aq_thenR ?_
  refine retI Tryz.results137 (.tmp rfl .nil) .one ?_
  refine al_q (q_assign rfl) rfl rfl rfl ?_
  refine al_end ?_
  refine aq_then ?_
  refine ac_seq ?_
  refine ac_seq ?_
  refine ac_region ?_
  refine al_q (q_move rfl) rfl rfl rfl ?_
  refine al_q (q_lenS rfl Tryz.runUnderlying24) rfl rfl rfl ?_
  refine al_q (q_move rfl) rfl rfl rfl ?_
  refine al_end ?_
  refine aq_then ?_
  refine ac_block ?_
  refine ac_loop (β := Unit) (fun _ => True) (fun _ => [(0, (.slice none 0 0)), (1, (.func (.func 119) #[] #[])), (4, (.slice none 0 0)), (9, (.int .i64 ((0 : Nat) : Int))), (10, (.int .i64 0))]) (fun _ => _) (fun _ => []) (fun _ => 0) () trivial ⟨rfl, rfl, rfl, rfl, rfl, trivial⟩ (fun w9 hs => hs) (fun _ hF1 => ?_)
  refine ac_seq ?_
  refine ac_region ?_
  refine al_q (q_lss rfl rfl) rfl rfl rfl ?_
  refine al_end ?_
  refine aq_then ?_
  refine ac_seq ?_
  refine ac_cond rfl (fun h1 => ?_) (fun h1 => ?_)
  · exfalso; have := of_decide_eq_true h1; omega
  · refine ac_exit ?_
    refine aq_thenE ?_
    refine aq_thenE ?_
    refine aq_hit ?_
    refine aq_then ?_
    refine ac_seq ?_
    refine ac_region ?_
    refine al_q (q_move rfl) rfl rfl rfl ?_
    refine al_q (q_assign rfl) rfl rfl rfl ?_
    refine al_end ?_
    refine aq_then ?_
    refine ac_ret ?_
    refine ret1 Tryz.results118 rfl (fun w9 hs => ?_)
    exact ⟨none, 0, rfl, ⟨IsT.nil _ _ _ _, (fun b off e => by cases e), by omega, by omega⟩, hs.below⟩

theorem mcm_bs_apiPoint_0_ : ∀ w, (Instr.buildSlice 24 0 #[]).run Tryz.prog w = .ok (.slice (some ⟨w.heap.size, 0, none⟩) 0 0) (w.alloc (.cells [].toArray 40)) := by
  intro w; (simp [Instr.buildSlice, Instr.fill, cells_agg, newRow, Tryz.runUnderlying24, Tryz.zeroValue40, Tryz.sizeOf40] <;> (rw [(by kernel_rfl : Array.range 0 = #[])]; simp [Value.cells]))

set_option maxRecDepth 100000 in
theorem turned_point_some (a : Addr) (len cap : Nat) (zs : List PointD) (w : World) (hI : IsT 2 PointD.cells w (some a) len zs) (hl : len ≤ 1000) (hb : ∀ x ∈ zs, -60 ≤ x.z ∧ x.z ≤ 60) : Calls Tryz.prog 118 #[(.slice (some a) len cap), (.func (.func 119) #[] #[])] w (fun e w' => ∃ A' c', e = .returned (.slice A' len c') ∧ NewT 2 PointD.cells w.heap.size w' A' len c' (zs.map mirPoint) ∧ Below w.heap.size w w') := by
  refine calls_ax (vs := [(.slice (some a) len cap), (.func (.func 119) #[] #[])]) Tryz.func118 rfl rfl ?_
  refine ac_seq ?_
  refine ac_region ?_
  refine al_q (q_assign rfl) rfl rfl rfl ?_
  refine al_end ?_
  refine aq_then ?_
  refine ac_seq ?_
  refine ac_region ?_
  refine al_q (q_move rfl) rfl rfl rfl ?_
  refine al_inl Tryz.call137 (.cons rfl .nil) rfl rfl Tryz.func137 rfl rfl ?_
  refine ac_seq ?_
  refine ac_region ?_
  refine al_q (q_assign rfl) rfl rfl rfl ?_
  refine al_end ?_
  refine aq_then ?_
  refine ac_seq ?_
  refine ac_seq ?_
  refine ac_region ?_
  refine al_q (q_move rfl) rfl rfl rfl ?_
  refine al_q (q_eqlNil1 rfl Tryz.underlying24) rfl rfl rfl ?_
  refine al_end ?_
  refine aq_then ?_
  refine ac_condF rfl ?_
  refine ac_skip ?_
  refine aq_then ?_
  refine ac_seq ?_
  refine ac_region ?_
  refine al_new (fun b => .slice (some ⟨b, 0, none⟩) 0 0) (r_buildSlice .nil (mcm_bs_apiPoint_0_)) rfl rfl rfl ?_
  intro b1
  refine al_q (q_move rfl) rfl rfl rfl ?_
  refine al_appendS (i := 0) (z := 2) (bytes := 16) (zv := (.agg #[.int .i64 0, .int .i64 0])) (xs := []) (sp := []) (vs := (zs.flatMap PointD.cells)) rfl rfl (by simp) (by simp) (by omega) (by omega) rfl (Sor.list (enc := PointD.cells) (zs := zs) (fun _ => rfl) (fun _ => rfl) hI.1 (fun w9 hs => hI.below hs.below)) Tryz.underlying24 (by kernel_rfl) rfl (by omega) (by decide) rfl rfl (fun b2 c_b2 sp_b2 hc_b2 hk_b2 hl_b2 => ?_)
  refine ⟨_, .k0, ?_⟩
  refine al_q (q_assign rfl) rfl rfl rfl ?_
  refine al_end ?_
  refine aq_then ?_
  refine ac_ret ?_
  refine retI Tryz.results137 (.tmp rfl .nil) .one ?_
  refine al_q (q_assign rfl) rfl rfl rfl ?_
  refine al_end ?_
  refine aq_then ?_
  refine ac_seq ?_
  refine ac_seq ?_
  refine ac_region ?_
  refine al_q (q_move rfl) rfl rfl rfl ?_
  refine al_q (q_lenS rfl Tryz.runUnderlying24) rfl rfl rfl ?_
  refine al_q (q_move rfl) rfl rfl rfl ?_
  refine al_end ?_
  refine aq_then ?_
  refine ac_block ?_
  refine ac_loop (β := Nat) (fun k => k ≤ len) (fun k => [(0, (.slice (some ⟨b2, 0, none⟩) (0 + len) c_b2)), (1, (.func (.func 119) #[] #[])), (4, (.slice none 0 0)), (9, (.int .i64 ((0 + len : Nat) : Int))), (10, (.int .i64 (k : Int)))]) (fun _ => _) (fun k => [(b2, .cells (trn mirPoint PointD.cells zs sp_b2 k))]) (fun k => len - k) 0 (by omega) ⟨rfl, rfl, rfl, rfl, rfl, trivial⟩ (fun w9 hs => (by rw [trn_zero]; simpa using hs)) (fun k hF1 => ?_)
  refine ac_seq ?_
  refine ac_region ?_
  refine al_q (q_lss rfl rfl) rfl rfl rfl ?_
  refine al_end ?_
  refine aq_then ?_
  refine ac_seq ?_
  refine ac_cond rfl (fun h1 => ?_) (fun h1 => ?_)
  · have hkl : k < len := by have := of_decide_eq_true h1; omega
    obtain ⟨x, hx⟩ : ∃ x, zs[k]? = some x := ⟨_, List.getElem?_eq_getElem (by rw [hI.1]; omega)⟩
    have hxb := hb x (List.mem_of_getElem? hx)
    refine ac_skip ?_
    refine aq_then ?_
    refine ac_seq ?_
    refine ac_block ?_
    refine ac_seq ?_
    refine ac_region ?_
    refine al_q (q_move rfl) rfl rfl rfl ?_
    refine al_q (q_assign rfl) rfl rfl rfl ?_
    refine al_end ?_
    refine aq_then ?_
    refine ac_region ?_
    refine al_q (q_move rfl) rfl rfl rfl ?_
    refine al_q (q_move rfl) rfl rfl rfl ?_
    refine al_q (q_move rfl) rfl rfl rfl ?_
    refine al_q (q_indexAddr (i := k) (0 + k * 2) rfl rfl rfl (by omega) Tryz.runUnderlying24 Tryz.sizeOf40 rfl) rfl rfl rfl ?_
    refine al_inlV (fi := []) (ca := []) rfl Tryz.call119 (.cons rfl .nil) rfl rfl Tryz.func119 rfl rfl ?_
    refine ac_seq ?_
    refine ac_region ?_
    refine al_q (q_assign rfl) rfl rfl rfl ?_
    refine al_end ?_
    refine aq_then ?_
    refine ac_seq ?_
    refine ac_region ?_
    refine al_q (q_move rfl) rfl rfl rfl ?_
    refine al_q (q_nilCheckP rfl) rfl rfl rfl ?_
    refine al_q (q_fieldAddr (0 + k * 2 + 1) rfl Tryz.runUnderlying40 rfl Tryz.sizeOf3 (by decide) rfl) rfl rfl rfl ?_
    refine al_q (q_assign rfl) rfl rfl rfl ?_
    refine al_end ?_
    refine aq_then ?_
    refine ac_ret ?_
    refine retI Tryz.results119 (.tmp rfl .nil) .one ?_
    refine al_q (q_nilCheckP rfl) rfl rfl rfl ?_
    refine al_q (q_load (i := 0) rfl rfl (trn_get mirPoint (enc := PointD.cells) (z := 2) (fun _ => rfl) sp_b2 hx (i := 1) rfl) Tryz.isAgg3) rfl rfl rfl ?_
    refine al_q (q_mul rfl rfl (by omega)) rfl rfl rfl ?_
    refine al_q (q_nilCheckP rfl) rfl rfl rfl ?_
    refine al_store1 (i := 0) rfl rfl rfl rfl Tryz.sizeOf3 (SetAt.ofSet (by rw [trn_len mirPoint (z := 2) (fun _ => rfl), hI.1]; omega)) .k0 rfl ?_
    refine al_end ?_
    refine aq_inN ?_
    refine aq_then ?_
    refine ac_region ?_
    refine al_q (q_add rfl rfl (by omega)) rfl rfl rfl ?_
    refine al_q (q_move rfl) rfl rfl rfl ?_
    refine al_end ?_
    refine aq_then ?_
    skip
    refine aq_round (k + 1) (by omega) (by omega) ⟨rfl, rfl, rfl, rfl, rfl, trivial⟩ (fun w9 hs => (by have h9 := hs; rw [trn_step mirPoint (z := 2) (fun _ => rfl) sp_b2 hx (i := 1) (by omega) (by simp [mirPoint, PointD.cells, Int.mul_neg_one])] at h9; exact h9))
  · have hkl : ¬ k < len := by have := of_decide_eq_false h1; omega
    refine ac_exit ?_
    refine aq_thenE ?_
    refine aq_thenE ?_
    refine aq_hit ?_
    refine aq_then ?_
    refine ac_seq ?_
    refine ac_region ?_
    refine al_q (q_move rfl) rfl rfl rfl ?_
    refine al_q (q_assign rfl) rfl rfl rfl ?_
    refine al_end ?_
    refine aq_then ?_
    refine ac_ret ?_
    refine ret1 Tryz.results118 rfl (fun w9 hs => ?_)
    exact ⟨_, _, by rw [Nat.zero_add], ⟨isT_box (n := 2) (enc := PointD.cells) (zs := zs.map mirPoint) (fun _ => rfl) (by have h9 := hs.at 0 rfl; rw [trn_all mirPoint PointD.cells zs _ _ (by rw [hI.1]; omega)] at h9; exact h9) rfl (by rw [List.length_map, hI.1]), fun b off e => hs.new 0 rfl b off e, by omega, hk_b2⟩, hs.below⟩

set_option maxRecDepth 100000 in
theorem turned_sensor_nil (cap : Nat) (w : World) : Calls Tryz.prog 120 #[(.slice none 0 cap), (.func (.func 121) #[] #[])] w (fun e w' => ∃ A' c', e = .returned (.slice A' 0 c') ∧ NewT 5 SensorD.cells w.heap.size w' A' 0 c' ([] : List SensorD) ∧ Below w.heap.size w w') := by
  refine calls_ax (vs := [(.slice none 0 cap), (.func (.func 121) #[] #[])]) Tryz.func120 rfl rfl ?_
  refine ac_seq ?_
  refine ac_region ?_
  refine al_q (q_assign rfl) rfl rfl rfl ?_
  refine al_end ?_
  refine aq_then ?_
  refine ac_seq ?_
  refine ac_region ?_
  refine al_q (q_move rfl) rfl rfl rfl ?_
  refine al_inl Tryz.call138 (.cons rfl .nil) rfl rfl Tryz.func138 rfl rfl ?_
  refine ac_seq ?_
  refine ac_region ?_
  refine al_q (q_assign rfl) rfl rfl rfl ?_
  refine al_end ?_
  refine aq_then ?_
  refine ac_seq ?_
  refine ac_seq ?_
  refine ac_region ?_
  refine al_q (q_move rfl) rfl rfl rfl ?_
  refine al_q (q_eqlNil0 rfl Tryz.underlying27) rfl rfl rfl ?_
  refine al_end ?_
  refine aq_then ?_
  refine ac_condT rfl ?_
  refine ac_seq ?_
  refine ac_region ?_
  refine al_q (q_assign rfl) rfl rfl rfl ?_
  refine al_end ?_
  refine aq_then ?_
  refine ac_ret ?_
  refine aq_thenR ?_
  refine retI Tryz.results138 (.tmp rfl .nil) .one ?_
  refine al_q (q_assign rfl) rfl rfl rfl ?_
  refine al_end ?_
  refine aq_then ?_
  refine ac_seq ?_
  refine ac_seq ?_
  refine ac_region ?_
  refine al_q (q_move rfl) rfl rfl rfl ?_
  refine al_q (q_lenS rfl Tryz.runUnderlying27) rfl rfl rfl ?_
  refine al_q (q_move rfl) rfl rfl rfl ?_
  refine al_end ?_
  refine aq_then ?_
  refine ac_block ?_
  refine ac_loop (β := Unit) (fun _ => True) (fun _ => [(0, (.slice none 0 0)), (1, (.func (.func 121) #[] #[])), (4, (.slice none 0 0)), (9, (.int .i64 ((0 : Nat) : Int))), (10, (.int .i64 0))]) (fun _ => _) (fun _ => []) (fun _ => 0) () trivial ⟨rfl, rfl, rfl, rfl, rfl, trivial⟩ (fun w9 hs => hs) (fun _ hF1 => ?_)
  refine ac_seq ?_
  refine ac_region ?_
  refine al_q (q_lss rfl rfl) rfl rfl rfl ?_
  refine al_end ?_
  refine aq_then ?_
  refine ac_seq ?_
  refine ac_cond rfl (fun h1 => ?_) (fun h1 => ?_)
  · exfalso; have := of_decide_eq_true h1; omega
  · refine ac_exit ?_
    refine aq_thenE ?_
    refine aq_thenE ?_
    refine aq_hit ?_
    refine aq_then ?_
    refine ac_seq ?_
    refine ac_region ?_
    refine al_q (q_move rfl) rfl rfl rfl ?_
    refine al_q (q_assign rfl) rfl rfl rfl ?_
    refine al_end ?_
    refine aq_then ?_
    refine ac_ret ?_
    refine ret1 Tryz.results120 rfl (fun w9 hs => ?_)
    exact ⟨none, 0, rfl, ⟨IsT.nil _ _ _ _, (fun b off e => by cases e), by omega, by omega⟩, hs.below⟩

theorem mcm_bs_apiSensor_0_ : ∀ w, (Instr.buildSlice 27 0 #[]).run Tryz.prog w = .ok (.slice (some ⟨w.heap.size, 0, none⟩) 0 0) (w.alloc (.cells [].toArray 85)) := by
  intro w; (simp [Instr.buildSlice, Instr.fill, cells_agg, newRow, Tryz.runUnderlying27, Tryz.zeroValue85, Tryz.sizeOf85] <;> (rw [(by kernel_rfl : Array.range 0 = #[])]; simp [Value.cells]))

set_option maxRecDepth 100000 in
theorem turned_sensor_some (a : Addr) (len cap : Nat) (zs : List SensorD) (w : World) (hI : IsT 5 SensorD.cells w (some a) len zs) (hl : len ≤ 1000) (hb : ∀ x ∈ zs, -60 ≤ x.z ∧ x.z ≤ 60) : Calls Tryz.prog 120 #[(.slice (some a) len cap), (.func (.func 121) #[] #[])] w (fun e w' => ∃ A' c', e = .returned (.slice A' len c') ∧ NewT 5 SensorD.cells w.heap.size w' A' len c' (zs.map mirSensor) ∧ Below w.heap.size w w') := by
  refine calls_ax (vs := [(.slice (some a) len cap), (.func (.func 121) #[] #[])]) Tryz.func120 rfl rfl ?_
  refine ac_seq ?_
  refine ac_region ?_
  refine al_q (q_assign rfl) rfl rfl rfl ?_
  refine al_end ?_
  refine aq_then ?_
  refine ac_seq ?_
  refine ac_region ?_
  refine al_q (q_move rfl) rfl rfl rfl ?_
  refine al_inl Tryz.call138 (.cons rfl .nil) rfl rfl Tryz.func138 rfl rfl ?_
  refine ac_seq ?_
  refine ac_region ?_
  refine al_q (q_assign rfl) rfl rfl rfl ?_
  refine al_end ?_
  refine aq_then ?_
  refine ac_seq ?_
  refine ac_seq ?_
  refine ac_region ?_
  refine al_q (q_move rfl) rfl rfl rfl ?_
  refine al_q (q_eqlNil1 rfl Tryz.underlying27) rfl rfl rfl ?_
  refine al_end ?_
  refine aq_then ?_
  refine ac_condF rfl ?_
  refine ac_skip ?_
  refine aq_then ?_
  refine ac_seq ?_
  refine ac_region ?_
  refine al_new (fun b => .slice (some ⟨b, 0, none⟩) 0 0) (r_buildSlice .nil (mcm_bs_apiSensor_0_)) rfl rfl rfl ?_
  intro b1
  refine al_q (q_move rfl) rfl rfl rfl ?_
  refine al_appendS (i := 0) (z := 5) (bytes := 48) (zv := (.agg #[.string { data := #[] }, .int .i64 0, .int .i64 0, .int .i64 0, .int .i64 0])) (xs := []) (sp := []) (vs := (zs.flatMap SensorD.cells)) rfl rfl (by simp) (by simp) (by omega) (by omega) rfl (Sor.list (enc := SensorD.cells) (zs := zs) (fun _ => rfl) (fun _ => rfl) hI.1 (fun w9 hs => hI.below hs.below)) Tryz.underlying27 (by kernel_rfl) rfl (by omega) (by decide) rfl rfl (fun b2 c_b2 sp_b2 hc_b2 hk_b2 hl_b2 => ?_)
  refine ⟨_, .k0, ?_⟩
  refine al_q (q_assign rfl) rfl rfl rfl ?_
  refine al_end ?_
  refine aq_then ?_
  refine ac_ret ?_
  refine retI Tryz.results138 (.tmp rfl .nil) .one ?_
  refine al_q (q_assign rfl) rfl rfl rfl ?_
  refine al_end ?_
  refine aq_then ?_
  refine ac_seq ?_
  refine ac_seq ?_
  refine ac_region ?_
  refine al_q (q_move rfl) rfl rfl rfl ?_
  refine al_q (q_lenS rfl Tryz.runUnderlying27) rfl rfl rfl ?_
  refine al_q (q_move rfl) rfl rfl rfl ?_
  refine al_end ?_
  refine aq_then ?_
  refine ac_block ?_
  refine ac_loop (β := Nat) (fun k => k ≤ len) (fun k => [(0, (.slice (some ⟨b2, 0, none⟩) (0 + len) c_b2)), (1, (.func (.func 121) #[] #[])), (4, (.slice none 0 0)), (9, (.int .i64 ((0 + len : Nat) : Int))), (10, (.int .i64 (k : Int)))]) (fun _ => _) (fun k => [(b2, .cells (trn mirSensor SensorD.cells zs sp_b2 k))]) (fun k => len - k) 0 (by omega) ⟨rfl, rfl, rfl, rfl, rfl, trivial⟩ (fun w9 hs => (by rw [trn_zero]; simpa using hs)) (fun k hF1 => ?_)
  refine ac_seq ?_
  refine ac_region ?_
  refine al_q (q_lss rfl rfl) rfl rfl rfl ?_
  refine al_end ?_
  refine aq_then ?_
  refine ac_seq ?_
  refine ac_cond rfl (fun h1 => ?_) (fun h1 => ?_)
  · have hkl : k < len := by have := of_decide_eq_true h1; omega
    obtain ⟨x, hx⟩ : ∃ x, zs[k]? = some x := ⟨_, List.getElem?_eq_getElem (by rw [hI.1]; omega)⟩
    have hxb := hb x (List.mem_of_getElem? hx)
    refine ac_skip ?_
    refine aq_then ?_
    refine ac_seq ?_
    refine ac_block ?_
    refine ac_seq ?_
    refine ac_region ?_
    refine al_q (q_move rfl) rfl rfl rfl ?_
    refine al_q (q_assign rfl) rfl rfl rfl ?_
    refine al_end ?_
    refine aq_then ?_
    refine ac_region ?_
    refine al_q (q_move rfl) rfl rfl rfl ?_
    refine al_q (q_move rfl) rfl rfl rfl ?_
    refine al_q (q_move rfl) rfl rfl rfl ?_
    refine al_q (q_indexAddr (i := k) (0 + k * 5) rfl rfl rfl (by omega) Tryz.runUnderlying27 Tryz.sizeOf85 rfl) rfl rfl rfl ?_
    refine al_inlV (fi := []) (ca := []) rfl Tryz.call121 (.cons rfl .nil) rfl rfl Tryz.func121 rfl rfl ?_
    refine ac_seq ?_
    refine ac_region ?_
    refine al_q (q_assign rfl) rfl rfl rfl ?_
    refine al_end ?_
    refine aq_then ?_
    refine ac_seq ?_
    refine ac_region ?_
    refine al_q (q_move rfl) rfl rfl rfl ?_
    refine al_q (q_nilCheckP rfl) rfl rfl rfl ?_
    refine al_q (q_fieldAddr (0 + k * 5 + 3) rfl Tryz.runUnderlying85 rfl Tryz.sizeOf3 (by decide) rfl) rfl rfl rfl ?_
    refine al_q (q_assign rfl) rfl rfl rfl ?_
    refine al_end ?_
    refine aq_then ?_
    refine ac_ret ?_
    refine retI Tryz.results121 (.tmp rfl .nil) .one ?_
    refine al_q (q_nilCheckP rfl) rfl rfl rfl ?_
    refine al_q (q_load (i := 0) rfl rfl (trn_get mirSensor (enc := SensorD.cells) (z := 5) (fun _ => rfl) sp_b2 hx (i := 3) rfl) Tryz.isAgg3) rfl rfl rfl ?_
    refine al_q (q_mul rfl rfl (by omega)) rfl rfl rfl ?_
    refine al_q (q_nilCheckP rfl) rfl rfl rfl ?_
    refine al_store1 (i := 0) rfl rfl rfl rfl Tryz.sizeOf3 (SetAt.ofSet (by rw [trn_len mirSensor (z := 5) (fun _ => rfl), hI.1]; omega)) .k0 rfl ?_
    refine al_end ?_
    refine aq_inN ?_
    refine aq_then ?_
    refine ac_region ?_
    refine al_q (q_add rfl rfl (by omega)) rfl rfl rfl ?_
    refine al_q (q_move rfl) rfl rfl rfl ?_
    refine al_end ?_
    refine aq_then ?_
    skip
    refine aq_round (k + 1) (by omega) (by omega) ⟨rfl, rfl, rfl, rfl, rfl, trivial⟩ (fun w9 hs => (by have h9 := hs; rw [trn_step mirSensor (z := 5) (fun _ => rfl) sp_b2 hx (i := 3) (by omega) (by simp [mirSensor, SensorD.cells, Int.mul_neg_one])] at h9; exact h9))
  · have hkl : ¬ k < len := by have := of_decide_eq_false h1; omega
    refine ac_exit ?_
    refine aq_thenE ?_
    refine aq_thenE ?_
    refine aq_hit ?_
    refine aq_then ?_
    refine ac_seq ?_
    refine ac_region ?_
    refine al_q (q_move rfl) rfl rfl rfl ?_
    refine al_q (q_assign rfl) rfl rfl rfl ?_
    refine al_end ?_
    refine aq_then ?_
    refine ac_ret ?_
    refine ret1 Tryz.results120 rfl (fun w9 hs => ?_)
    exact ⟨_, _, by rw [Nat.zero_add], ⟨isT_box (n := 5) (enc := SensorD.cells) (zs := zs.map mirSensor) (fun _ => rfl) (by have h9 := hs.at 0 rfl; rw [trn_all mirSensor SensorD.cells zs _ _ (by rw [hI.1]; omega)] at h9; exact h9) rfl (by rw [List.length_map, hI.1]), fun b off e => hs.new 0 rfl b off e, by omega, hk_b2⟩, hs.below⟩

theorem turned_coil_any (A : Option Addr) (len cap : Nat) (zs : List CoilD) (w : World) (hI : IsT 8 CoilD.cells w A len zs) (hl : len ≤ 1000) (hb : ∀ x ∈ zs, -60 ≤ x.z ∧ x.z ≤ 60) : Calls Tryz.prog 114 #[.slice A len cap, .func (.func 115) #[] #[]] w (fun e w' => ∃ A' c', e = .returned (.slice A' len c') ∧ NewT 8 CoilD.cells w.heap.size w' A' len c' (zs.map mirCoil) ∧ Below w.heap.size w w') := by
  rcases A with _ | a
  · have h0 : len = 0 := by
      rcases Nat.eq_zero_or_pos len with h | h
      · exact h
      · obtain ⟨b, o, e, -⟩ := hI.2 h; cases e
    subst h0
    have hz : zs = [] := List.length_eq_zero_iff.1 hI.1
    subst hz
    exact turned_coil_nil cap w
  · exact turned_coil_some a len cap zs w hI hl hb

theorem turned_shell_any (A : Option Addr) (len cap : Nat) (zs : List ShellD) (w : World) (hI : IsT 4 ShellD.cells w A len zs) (hl : len ≤ 1000) (hb : ∀ x ∈ zs, -60 ≤ x.z ∧ x.z ≤ 60) : Calls Tryz.prog 116 #[.slice A len cap, .func (.func 117) #[] #[]] w (fun e w' => ∃ A' c', e = .returned (.slice A' len c') ∧ NewT 4 ShellD.cells w.heap.size w' A' len c' (zs.map mirShell) ∧ Below w.heap.size w w') := by
  rcases A with _ | a
  · have h0 : len = 0 := by
      rcases Nat.eq_zero_or_pos len with h | h
      · exact h
      · obtain ⟨b, o, e, -⟩ := hI.2 h; cases e
    subst h0
    have hz : zs = [] := List.length_eq_zero_iff.1 hI.1
    subst hz
    exact turned_shell_nil cap w
  · exact turned_shell_some a len cap zs w hI hl hb

theorem turned_point_any (A : Option Addr) (len cap : Nat) (zs : List PointD) (w : World) (hI : IsT 2 PointD.cells w A len zs) (hl : len ≤ 1000) (hb : ∀ x ∈ zs, -60 ≤ x.z ∧ x.z ≤ 60) : Calls Tryz.prog 118 #[.slice A len cap, .func (.func 119) #[] #[]] w (fun e w' => ∃ A' c', e = .returned (.slice A' len c') ∧ NewT 2 PointD.cells w.heap.size w' A' len c' (zs.map mirPoint) ∧ Below w.heap.size w w') := by
  rcases A with _ | a
  · have h0 : len = 0 := by
      rcases Nat.eq_zero_or_pos len with h | h
      · exact h
      · obtain ⟨b, o, e, -⟩ := hI.2 h; cases e
    subst h0
    have hz : zs = [] := List.length_eq_zero_iff.1 hI.1
    subst hz
    exact turned_point_nil cap w
  · exact turned_point_some a len cap zs w hI hl hb

theorem turned_sensor_any (A : Option Addr) (len cap : Nat) (zs : List SensorD) (w : World) (hI : IsT 5 SensorD.cells w A len zs) (hl : len ≤ 1000) (hb : ∀ x ∈ zs, -60 ≤ x.z ∧ x.z ≤ 60) : Calls Tryz.prog 120 #[.slice A len cap, .func (.func 121) #[] #[]] w (fun e w' => ∃ A' c', e = .returned (.slice A' len c') ∧ NewT 5 SensorD.cells w.heap.size w' A' len c' (zs.map mirSensor) ∧ Below w.heap.size w w') := by
  rcases A with _ | a
  · have h0 : len = 0 := by
      rcases Nat.eq_zero_or_pos len with h | h
      · exact h
      · obtain ⟨b, o, e, -⟩ := hI.2 h; cases e
    subst h0
    have hz : zs = [] := List.length_eq_zero_iff.1 hI.1
    subst hz
    exact turned_sensor_nil cap w
  · exact turned_sensor_some a len cap zs w hI hl hb

end Go.Proofs.YtjjajleiladbhaaGreatDoor
end
