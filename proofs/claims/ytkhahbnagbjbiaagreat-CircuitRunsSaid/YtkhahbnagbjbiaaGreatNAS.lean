import Derived.Test.YtkhahbnagbjbiaaGreatNAB
import Derived.Test.YtkhahbnagbjbiaaGreatNAM
import Derived.Test.YtkhahbnagbjbiaaGreatNAQ
import Derived.Test.YtkhahbnagbjbiaaGreatNAR
import Derived.Test.YtkhahbnagbjbiaaGreatRows
import Derived.KernelRfl
import Derived.Laws.StructEq
section
/- Package circuit: applied, over this seat's translation (written by ax_ci2.py). -/
namespace Go.Proofs.YtkhahbnagbjbiaaGreat
set_option linter.unusedVariables false
set_option linter.unusedSimpArgs false
open Go.RowKit

set_option maxRecDepth 100000 in
theorem applied_any (R : MachR) (M : MachD) (RS : StR) (S : StD) (A : Option Addr) (len cap : Nat) (ch : List Int) (w : World) (hM : IsM w R M) (hS : IsS w RS S) (hF : FitS M S) (hI : IsT 1 intCells w A len ch) (hc : validCh M ch 1000000000000000 = true) : Calls Tryz.prog 127 #[(.agg (machCells R M)), (RS.v S.tick), (.slice A len cap)] w (fun e w' => ∃ A' c, e = .returned (.slice A' R.la c) ∧ NewT 1 intCells w.heap.size w' A' R.la c (appL M S ch) ∧ Below w.heap.size w w') := by
  have n1 := hM.coils.1
  have n2 := hS.cur.coils.1
  have n3 := hS.trip.1
  have n4 := hI.1
  have hv := validCh_iff.1 hc
  have n5 := (sound_of hF.cur.check).coils.1
  have n6 := hF.cur.coils.1
  have n7 := hF.trip
  refine calls_ax (vs := [(.agg (machCells R M)), (RS.v S.tick), (.slice A len cap)]) Tryz.func127 rfl rfl ?_
  refine ac_seq (ac_region ?_)
  refine al_new (fun b => .pointer (some ⟨b, 0, none⟩)) (r_box rfl rfl) rfl rfl rfl ?_
  intro b1
  refine al_new (fun b => .pointer (some ⟨b, 0, none⟩)) (r_box rfl rfl) rfl rfl rfl ?_
  intro b2
  refine al_p (q_assign rfl) ?_
  refine al_end (aq_then ?_)
  refine ac_seq (ac_region ?_)
  refine al_p (q_fieldAddr 1 rfl Tryz.runUnderlying29 rfl Tryz.sizeOf22 (by decide) rfl) ?_
  refine al_p (q_load (i := 1) rfl rfl rfl Tryz.isAgg22) ?_
  refine al_p (q_lenS rfl Tryz.runUnderlying22) ?_
  refine al_makeInts (n := R.la) (z := (.int .i64 0)) (bytes := 8) rfl rfl rfl Tryz.underlying30 (by kernel_rfl) rfl (by omega) (by decide) rfl rfl ?_
  intro b3
  refine al_p (q_assign rfl) ?_
  refine al_end (aq_then ?_)
  refine ac_seq ?_
  refine ac_seq (ac_region ?_)
  refine al_p (q_fieldAddr 1 rfl Tryz.runUnderlying29 rfl Tryz.sizeOf22 (by decide) rfl) ?_
  refine al_p (q_load (i := 2) rfl rfl rfl Tryz.isAgg22) ?_
  refine al_p (q_lenS rfl Tryz.runUnderlying22) ?_
  refine al_p (q_move rfl) ?_
  refine al_end (aq_then ?_)
  refine ac_block ?_
  refine ac_loop (β := Nat) (fun x => x ≤ R.la) (fun x => [(2, (.slice A len cap)), (4, (.pointer (some ⟨b2, 0, none⟩))), (6, (.slice none 0 0)), (7, (.slice (some ⟨b3, 0, none⟩) (R.la) (R.la))), (17, (.slice (R.A) R.la R.ca)), (18, (.int .i64 (R.la : Int))), (19, (.int .i64 (x : Int)))]) (fun _ => _) (fun x => [(b3, .cells (mixC R.la x (fun j => .int .i64 (appA M S ch j)) (fun _ => .int .i64 0))), (b2, _), (b1, _)]) (fun x => R.la - x) 0 (by omega) ⟨rfl, rfl, rfl, rfl, rfl, rfl, rfl, trivial⟩ (fun w9 hs => (by rw [mixC_zero, ← rep_lst]; exact hs)) (fun x hF1 => ?_)
  refine ac_seq (ac_region ?_)
  refine al_p (q_lss rfl rfl) ?_
  refine al_end (aq_then ?_)
  refine ac_seq ?_
  refine ac_cond rfl (fun h1 => ?_) (fun h1 => ?_)
  · have hxl : x < R.la := by have := of_decide_eq_true h1; omega
    obtain ⟨b11, o11, hA1, hlt1, hget1⟩ := hM.coils.2 (by omega)
    have hx1 := cA_get (M := M) (k := x) (by omega)
    obtain ⟨b21, o21, hA2, hlt2, hget2⟩ := hS.cur.coils.2 (by omega)
    have hx2 := iA_get (l := S.C.coils) (k := x) (by omega)
    obtain ⟨b31, o31, hA3, hlt3, hget3⟩ := hS.trip.2 (by omega)
    have hx3 := bA_get (l := S.trip) (k := x) (by omega)
    obtain ⟨b41, o41, hA4, hlt4, hget4⟩ := hI.2 (by omega)
    have hx4 := iA_get (l := ch) (k := x) (by omega)
    have hco := cA_ok hF.cur.check (k := x) (by omega)
    have q1 := hco.step
    have q2 := hco.cur
    have q3 := hF.cur.coils.2 _ (List.mem_of_getElem? hx2)
    have q4 := hv.2 _ (List.mem_of_getElem? hx4)
    have q5 := cutI_bd (n := (iA ch x)) (most := (cA M x).step) (by omega)
    have q6 := cutI_bd (n := ((iA S.C.coils x) + cutI (iA ch x) (cA M x).step)) (most := (cA M x).cur) (by omega)
    refine ac_skip ?_
    refine aq_then ?_
    refine ac_seq ?_
    refine ac_block ?_
    refine ac_seq (ac_region ?_)
    refine al_p (q_move rfl) ?_
    refine al_p (q_indexAddrA (i := x) (o11 + x * 8 + 0) hA1 rfl rfl rfl (by omega) Tryz.runUnderlying22 Tryz.sizeOf88 rfl) ?_
    refine al_p (q_loadXs (CoilD.cells (cA M x)) rfl Tryz.isAgg88 Tryz.sizeOf88 (fun w9 hs j9 v9 h9 => by rw [addr_add]; exact (hs.below.cell (p := ⟨_, _, none⟩) hlt1).trans ((hget1 x _ hx1) j9 v9 h9)) rfl) ?_
    refine al_new (fun b => .pointer (some ⟨b, 0, none⟩)) (r_alloc Tryz.zeroValue88 rfl) rfl rfl rfl ?_
    intro b4
    refine al_p (q_assign rfl) ?_
    refine al_storeAll (i := 0) rfl rfl rfl rfl Tryz.sizeOf88 rfl rfl .k0 rfl ?_
    refine al_end (aq_then ?_)
    refine ac_seq (ac_region ?_)
    refine al_p (q_fieldAddr 1 rfl Tryz.runUnderlying35 rfl Tryz.sizeOf32 (by decide) rfl) ?_
    refine al_p (q_fieldAddr 1 rfl Tryz.runUnderlying32 rfl Tryz.sizeOf30 (by decide) rfl) ?_
    refine al_p (q_load (i := 2) rfl rfl rfl Tryz.isAgg30) ?_
    refine al_p (q_move rfl) ?_
    refine al_p (q_indexAddrA (i := x) (o21 + x * 1 + 0) hA2 rfl rfl rfl (by omega) Tryz.runUnderlying30 Tryz.sizeOf3 rfl) ?_
    refine al_p (q_loadX rfl Tryz.isAgg3 (fun w9 hs => (hs.below.cell (p := ⟨_, _, none⟩) hlt2).trans ((hget2 x _ hx2) 0 _ rfl))) ?_
    refine al_p (q_assign rfl) ?_
    refine al_end (aq_then ?_)
    refine ac_seq ?_
    refine ac_seq (ac_region ?_)
    refine al_p (q_fieldAddr 5 rfl Tryz.runUnderlying35 rfl Tryz.sizeOf33 (by decide) rfl) ?_
    refine al_p (q_load (i := 2) rfl rfl rfl Tryz.isAgg33) ?_
    refine al_p (q_move rfl) ?_
    refine al_p (q_indexAddrA (i := x) (o31 + x * 1 + 0) hA3 rfl rfl rfl (by omega) Tryz.runUnderlying33 Tryz.sizeOf4 rfl) ?_
    refine al_p (q_loadX rfl Tryz.isAgg4 (fun w9 hs => (hs.below.cell (p := ⟨_, _, none⟩) hlt3).trans ((hget3 x _ hx3) 0 _ rfl))) ?_
    refine al_end (aq_then ?_)
    refine ac_cond rfl (fun h2 => ?_) (fun h2 => ?_)
    · have hval : cutI (-(iA S.C.coils x)) (cA M x).step = appA M S ch x := by simp [appA, appI, show bA S.trip x = true from h2]
      refine ac_seq (ac_region ?_)
      refine al_p (q_move rfl) ?_
      refine al_p (q_move rfl) ?_
      refine al_p (q_move rfl) ?_
      refine al_p (q_neg rfl (by omega)) ?_
      refine al_p (q_fieldAddr 5 rfl Tryz.runUnderlying88 rfl Tryz.sizeOf3 (by decide) rfl) ?_
      refine al_p (q_load (i := 0) rfl rfl rfl Tryz.isAgg3) ?_
      refine al_call Tryz.call129 (.cons rfl (.cons rfl .nil)) rfl rfl (fun w1 hs1 => ?_)
      refine (ccut_any (-(iA S.C.coils x)) (cA M x).step _ (by omega)).mono ?_
      rintro e u1 ⟨rfl, hb_1⟩
      refine ⟨_, rfl, hb_1, ?_⟩
      clear hs1
      refine al_p (q_indexAddr (i := x) (x) rfl rfl rfl hxl Tryz.runUnderlying30 Tryz.sizeOf3 (by omega)) ?_
      refine al_store1 (i := 1) rfl rfl rfl rfl Tryz.sizeOf3 (SetAt.ofSet (by rw [mixC_len]; exact hxl)) .k1 rfl ?_
      refine al_end (aq_then ?_)
      refine ac_exit ?_
      refine aq_thenE ?_
      refine aq_hit ?_
      refine aq_then ?_
      refine ac_region ?_
      refine al_p (q_add rfl rfl (by omega)) ?_
      refine al_p (q_move rfl) ?_
      refine al_end (aq_then ?_)
      skip
      refine aq_round (x + 1) (by omega) (by omega) ⟨rfl, rfl, rfl, rfl, rfl, rfl, rfl, trivial⟩ (fun w9 hs => (by have h9 := ((hs.fewer 1 rfl).tail 1 rfl); rw [hval, mixC_set R.la x _ _ hxl] at h9; exact h9))
    · have hval : cutI (cutI ((iA S.C.coils x) + cutI (iA ch x) (cA M x).step) (cA M x).cur - (iA S.C.coils x)) (cA M x).step = appA M S ch x := by simp [appA, appI, show bA S.trip x = false from h2]
      refine ac_skip ?_
      refine aq_then ?_
      refine ac_seq ?_
      refine ac_draw 12 (by kernel_rfl) (by kernel_rfl) ?_
      refine ah_t 0 (fun w9 hs => hs) rfl rfl (by kernel_rfl) (q_move rfl) ?_
      refine ah_t 1 (fun w9 hs => hs) rfl rfl (by kernel_rfl) (q_move rfl) ?_
      refine ah_t 2 (fun w9 hs => hs) rfl rfl (by kernel_rfl) (q_move rfl) ?_
      refine ah_t 3 (fun w9 hs => hs) rfl rfl (by kernel_rfl) (q_indexAddrA (i := x) (o41 + x * 1 + 0) hA4 rfl rfl rfl (by omega) Tryz.runUnderlying30 Tryz.sizeOf3 rfl) ?_
      refine ah_t 4 (fun w9 hs => hs) rfl rfl (by kernel_rfl) (q_loadX rfl Tryz.isAgg3 (fun w9 hs => (hs.below.cell (p := ⟨_, _, none⟩) hlt4).trans ((hget4 x _ hx4) 0 _ rfl))) ?_
      refine ah_t 5 (fun w9 hs => hs) rfl rfl (by kernel_rfl) (q_fieldAddr 5 rfl Tryz.runUnderlying88 rfl Tryz.sizeOf3 (by decide) rfl) ?_
      refine ah_t 6 (fun w9 hs => hs) rfl rfl (by kernel_rfl) (q_load (i := 0) rfl rfl rfl Tryz.isAgg3) ?_
      refine ah_t 9 (fun w9 hs => hs) rfl rfl (by kernel_rfl) (q_fieldAddr 4 rfl Tryz.runUnderlying88 rfl Tryz.sizeOf3 (by decide) rfl) ?_
      refine ah_t 10 (fun w9 hs => hs) rfl rfl (by kernel_rfl) (q_load (i := 0) rfl rfl rfl Tryz.isAgg3) ?_
      refine ah_one 7 rfl (by kernel_rfl) (fun hok1 hcl1 => ?_)
      refine al_call Tryz.call129 (.cons rfl (.cons rfl .nil)) rfl rfl (fun w2 hs2 => ?_)
      refine (ccut_any (iA ch x) (cA M x).step _ (by omega)).mono ?_
      rintro e u2 ⟨rfl, hb_2⟩
      refine ⟨_, rfl, hb_2, ?_⟩
      clear hs2
      refine al_end (ah_back hok1 hcl1 (fun w9 hs => (hs.fewer 1 rfl)) ?_)
      refine ah_t 8 (fun w9 hs => (hs.fewer 1 rfl)) rfl rfl (by kernel_rfl) (q_add rfl rfl (by omega)) ?_
      refine ah_one 11 rfl (by kernel_rfl) (fun hok2 hcl2 => ?_)
      refine al_call Tryz.call129 (.cons rfl (.cons rfl .nil)) rfl rfl (fun w3 hs3 => ?_)
      refine (ccut_any ((iA S.C.coils x) + cutI (iA ch x) (cA M x).step) (cA M x).cur _ (by omega)).mono ?_
      rintro e u3 ⟨rfl, hb_3⟩
      refine ⟨_, rfl, hb_3, ?_⟩
      clear hs3
      refine al_end (ah_back hok2 hcl2 (fun w9 hs => (hs.fewer 2 rfl)) ?_)
      refine ah_one 12 rfl (by kernel_rfl) (fun hok3 hcl3 => ?_)
      refine al_p (q_assign rfl) ?_
      refine al_end (ah_last (by kernel_rfl) ?_)
      refine aq_then ?_
      refine ac_region ?_
      refine al_p (q_move rfl) ?_
      refine al_p (q_move rfl) ?_
      refine al_p (q_move rfl) ?_
      refine al_p (q_move rfl) ?_
      refine al_p (q_sub rfl rfl (by omega)) ?_
      refine al_p (q_fieldAddr 5 rfl Tryz.runUnderlying88 rfl Tryz.sizeOf3 (by decide) rfl) ?_
      refine al_p (q_load (i := 0) rfl rfl rfl Tryz.isAgg3) ?_
      refine al_call Tryz.call129 (.cons rfl (.cons rfl .nil)) rfl rfl (fun w4 hs4 => ?_)
      refine (ccut_any (cutI ((iA S.C.coils x) + cutI (iA ch x) (cA M x).step) (cA M x).cur - (iA S.C.coils x)) (cA M x).step _ (by omega)).mono ?_
      rintro e u4 ⟨rfl, hb_4⟩
      refine ⟨_, rfl, hb_4, ?_⟩
      clear hs4
      refine al_p (q_indexAddr (i := x) (x) rfl rfl rfl hxl Tryz.runUnderlying30 Tryz.sizeOf3 (by omega)) ?_
      refine al_store1 (i := 1) rfl rfl rfl rfl Tryz.sizeOf3 (SetAt.ofSet (by rw [mixC_len]; exact hxl)) .k1 rfl ?_
      refine al_end ?_
      refine aq_inN ?_
      refine aq_then ?_
      refine ac_region ?_
      refine al_p (q_add rfl rfl (by omega)) ?_
      refine al_p (q_move rfl) ?_
      refine al_end (aq_then ?_)
      skip
      refine aq_round (x + 1) (by omega) (by omega) ⟨rfl, rfl, rfl, rfl, rfl, rfl, rfl, trivial⟩ (fun w9 hs => (by have h9 := ((hs.fewer 3 rfl).tail 1 rfl); rw [hval, mixC_set R.la x _ _ hxl] at h9; exact h9))
  · have hxe : x = R.la := by have := of_decide_eq_false h1; omega
    refine ac_exit ?_
    refine aq_thenE ?_
    refine aq_thenE ?_
    refine aq_hit ?_
    refine aq_then ?_
    refine ac_seq (ac_region ?_)
    refine al_p (q_move rfl) ?_
    refine al_p (q_assign rfl) ?_
    refine al_end (aq_then ?_)
    refine ac_ret ?_
    refine ret1 Tryz.results127 rfl (fun w9 hs => ?_)
    rw [hxe, mixC_all] at hs
    exact ⟨some ⟨b3, 0, none⟩, R.la, rfl, by rw [appL, n1]; exact new_lst hs (i := 0) rfl (by omega), hs.below⟩

end Go.Proofs.YtkhahbnagbjbiaaGreat
end
section
/- Abstract walking: lists of structs that are made and filled; rows of rows in grown lists. -/
namespace Go.Proofs.YtkhahbnagbjbiaaGreat
set_option linter.unusedVariables false
set_option linter.unusedSimpArgs false
set_option autoImplicit false
open Go.RowKit

def mixF (n k : Nat) (F G : Nat → List Value) : List Value := (List.range n).flatMap fun j => if j < k then F j else G j
theorem flatMap_len {α : Type} {z : Nat} (l : List α) {F : α → List Value} (hF : ∀ j, (F j).length = z) : (l.flatMap F).length = l.length * z := by
  induction l with
  | nil => simp
  | cons x r ih => rw [List.flatMap_cons, List.length_append, hF, ih, List.length_cons, Nat.add_mul]; omega
theorem flatMap_ext {α : Type} {l : List α} {F G : α → List Value} (h : ∀ x ∈ l, F x = G x) : l.flatMap F = l.flatMap G := by
  induction l with
  | nil => rfl
  | cons x r ih => rw [List.flatMap_cons, List.flatMap_cons, h x (by simp), ih (fun y hy => h y (by simp [hy]))]
theorem mixF_len {n k z : Nat} {F G : Nat → List Value} (hF : ∀ j, (F j).length = z) (hG : ∀ j, (G j).length = z) : (mixF n k F G).length = n * z := by
  have := flatMap_len (z := z) (List.range n) (F := fun j => if j < k then F j else G j) (fun j => by split <;> simp [hF, hG])
  rw [List.length_range] at this; exact this
theorem mixF_zero (n : Nat) (F G : Nat → List Value) : mixF n 0 F G = (List.range n).flatMap G := by simp [mixF]
theorem range_at {n k : Nat} (hk : k < n) : List.range n = List.range k ++ k :: List.range' (k + 1) (n - (k + 1)) := by
  have h : n = k + ((n - (k + 1)) + 1) := by omega
  conv => lhs; rw [h, List.range_add, List.range_succ_eq_map]
  rw [List.map_cons, List.map_map, Nat.add_zero, List.range'_eq_map_range]
  congr 2
  apply List.map_congr_left
  intro a _
  simp only [Function.comp_def]
  omega
theorem mixF_store {n k z : Nat} {F G : Nat → List Value} (hF : ∀ j, (F j).length = z) (hG : ∀ j, (G j).length = z) (hk : k < n) : mixF n (k + 1) F G = (mixF n k F G).take (k * z) ++ F k ++ (mixF n k F G).drop (k * z + (F k).length) := by
  have e1 : mixF n k F G = (List.range k).flatMap F ++ (G k ++ (List.range' (k + 1) (n - (k + 1))).flatMap G) := by
    unfold mixF
    rw [range_at hk, List.flatMap_append, List.flatMap_cons, if_neg (by omega)]
    congr 1
    · exact flatMap_ext fun j hj => by rw [if_pos (List.mem_range.1 hj)]
    · congr 1
      exact flatMap_ext fun j hj => by rw [List.mem_range'_1] at hj; rw [if_neg (by omega)]
  have e2 : mixF n (k + 1) F G = (List.range k).flatMap F ++ (F k ++ (List.range' (k + 1) (n - (k + 1))).flatMap G) := by
    unfold mixF
    rw [range_at hk, List.flatMap_append, List.flatMap_cons, if_pos (by omega)]
    congr 1
    · exact flatMap_ext fun j hj => by rw [if_pos (by have := List.mem_range.1 hj; omega)]
    · congr 1
      exact flatMap_ext fun j hj => by rw [List.mem_range'_1] at hj; rw [if_neg (by omega)]
  have hA : ((List.range k).flatMap F).length = k * z := by rw [flatMap_len _ hF, List.length_range]
  rw [e1, e2, List.take_left' hA, ← List.append_assoc ((List.range k).flatMap F) (G k), List.drop_left' (by rw [List.length_append, hA, hG, hF]), List.append_assoc]
theorem mixF_old {n k z : Nat} {F G : Nat → List Value} (hF : ∀ j, (F j).length = z) (hG : ∀ j, (G j).length = z) {j : Nat} (hj : j < n) {i : Nat} {v : Value} (hv : (if j < k then F j else G j)[i]? = some v) : (mixF n k F G)[j * z + i]? = some v :=
  flat_get (n := z) (enc := fun j => if j < k then F j else G j) (fun j => by split <;> simp [hF, hG]) (List.range n) j j (by simp [hj]) i v hv
theorem made_flat (zs : List Value) (n : Nat) (hz : 0 < zs.length) : (madeCells zs.toArray (n * zs.length)).toList = (List.range n).flatMap (fun _ => zs) := by
  apply List.ext_getElem?
  intro i
  rcases Nat.lt_or_ge i (n * zs.length) with h | h
  · have hm : i % zs.length < zs.length := Nat.mod_lt _ hz
    have hd : i / zs.length < n := Nat.div_lt_of_lt_mul (by rw [Nat.mul_comm]; exact h)
    have e := flat_get (n := zs.length) (enc := fun _ : Nat => zs) (fun _ => rfl) (List.range n) (i / zs.length) (i / zs.length) (by simp [hd]) (i % zs.length) _ (List.getElem?_eq_getElem hm)
    rw [Nat.div_add_mod'] at e
    rw [e]
    simp [madeCells, h, hm]
  · rw [List.getElem?_eq_none (by rw [Array.length_toList, size_madeCells]; exact h), List.getElem?_eq_none (by rw [flatMap_len (z := zs.length) _ (fun _ => rfl), List.length_range]; exact h)]
section
variable {P : Program} {e0 : Cfg} {U : Snaps} {l : Slots} {L : Boxes} {ops : Array Oper} {Q : Exit → Act → World → Prop} {rest : List Oper} {d : Nat} {v : Value}
variable {ty : TypeId} {pos : String} {af : Array Edge} {g : Option (Nat × Bool)} {dd : Option Nat}
/-- make of n structs -/
theorem al_makeAgg {t e bytes n z : Nat} (zs : List Value) {zv : Value} {x : Int} {ol oc : Operand} (hl : E l ol = some (.int .i64 x)) (hc : E l oc = some (.int .i64 x)) (hx : x = (n : Int)) (hu : P.underlying t = some (.slice e)) (hinfo : (P.info? e).map (fun i => (i.zero, i.size, i.bytes)) = some (some zv, z, bytes)) (hz1 : zv.cells = zs.toArray) (hz : zs.length = z) (h0 : Nat.blt 0 z = true) (hm : n ≤ 1000000) (hb : bytes ≤ 10000)
    (hn : Nat.blt d e0.n = true) (hw : want ops l g = some true)
    (k : ∀ b, AL P ops Q e0 U ((d, .slice (some ⟨b, 0, none⟩) n n) :: l) ((b, .cells ((List.range n).flatMap fun _ => zs)) :: L) rest) :
    AL P ops Q e0 U l L (⟨some d, .makeSlice t ol oc, ty, pos, af, g⟩ :: rest) :=
  al_run2 (K := True) hw rfl hn (fun a w hf hs => by
    subst hx
    obtain ⟨i, hi, hzz, h1, rfl⟩ := info_split hinfo
    have hnb : i.bytes * n ≤ 10000 * 1000000 := Nat.mul_le_mul hb hm
    have hb' : (i.bytes : Int) * (n : Int) ≤ 281474976710656 := by
      have h : ((i.bytes * n : Nat) : Int) ≤ 281474976710656 := by omega
      rwa [Int.natCast_mul] at h
    have hr := run_make (P := P) w t e i zv hu hi hzz .i64 .i64 (n : Int) (n : Int) (by omega) (Int.le_refl _) hb' (by omega)
    simp only [Int.toNat_natCast, h1, hz1] at hr
    have hq := made_flat zs n (by rw [hz]; simpa [Nat.blt_eq] using h0)
    rw [hz] at hq
    have hA : madeCells zs.toArray (n * z) = ((List.range n).flatMap fun _ => zs).toArray := Array.ext' (by simpa using hq)
    rw [hA] at hr
    exact ⟨_, _, U, _, by simp [execOp, hf.ev hl, hf.ev hc, hr], hs.alloc _ e, k _⟩)
/-- a struct stored in a list in an own box -/
theorem al_storeV {t b off i z : Nat} {cs cs' vs : List Value} {L' : Boxes} {ox oy : Operand} (hx : E l ox = some (.pointer (some ⟨b, off, none⟩))) (hy : E l oy = some (.agg vs.toArray)) (hi : L[i]? = some (b, .cells cs))
    (hz : ∀ w, (sizeOf t).run P w = .ok z w) (hz' : vs.length = z) (hl : off + z ≤ cs.length) (hone : vs.all (fun v => v.oneCell') = true) (hc : cs' = cs.take off ++ vs ++ cs.drop (off + vs.length)) (hL : SetAt i (b, .cells cs') L L') (hw : want ops l g = some true)
    (k : AL P ops Q e0 U l L' rest) : AL P ops Q e0 U l L (⟨none, .store t ox oy, ty, pos, af, g⟩ :: rest) :=
  al_store (cs' := cs') hx hy rfl hi hz hz' (by simpa using hl) hone hc _ hL.eq hw k
end

/-! ### rows of rows -/
def RowsF (F : Nat → List Int) (m : Nat) (G : Boxes) (rows : List (Option Addr × Nat)) : Prop := ∀ (i : Nat) r, rows[i]? = some r → ∃ b sp, r.1 = some ⟨b, 0, none⟩ ∧ (b, Cont.cells ((F i).map (Value.int .i64) ++ sp)) ∈ G ∧ (F i).length = m ∧ m ≤ r.2 ∧ r.2 ≤ 9223372036854775807
theorem RowsF.nil (F : Nat → List Int) (m : Nat) (G : Boxes) : RowsF F m G [] := fun i r h => by simp at h
theorem RowsF.snoc {F : Nat → List Int} {m : Nat} {G : Boxes} {rows : List (Option Addr × Nat)} (h : RowsF F m G rows) {o : Gr} {cs : List Value} (hg : gok o m 1 cs) (hn : 0 < m) (hl : (F rows.length).length = m) (hcs : cs = (F rows.length).map (Value.int .i64)) : RowsF F m (gt o cs ++ G) (rows ++ [(gA o, gC o)]) := by
  intro i r hr
  rcases Nat.lt_or_ge i rows.length with g1 | g1
  · rw [List.getElem?_append_left g1] at hr
    obtain ⟨b, sp, e, hm, h1⟩ := h i r hr
    exact ⟨b, sp, e, List.mem_append_right _ hm, h1⟩
  · rw [List.getElem?_append_right g1] at hr
    have hi : i - rows.length = 0 := by
      have := (List.getElem?_eq_some_iff.1 hr).1
      simp only [List.length_cons, List.length_nil] at this; omega
    rw [hi] at hr
    obtain rfl : (gA o, gC o) = r := by simpa using hr
    obtain ⟨b, c, sp, rfl⟩ := hg.some hn
    obtain ⟨h1, h2, h3⟩ := hg.own b c sp rfl
    obtain rfl : i = rows.length := by omega
    refine ⟨b, sp, rfl, List.mem_append_left _ ?_, hl, h1, h2⟩
    rw [← hcs]; simp [gt]
theorem Sta.rowF {N : Nat} {D : List Deferred} {w0 w : World} {U : Snaps} {L G : Boxes} {F : Nat → List Int} {m : Nat} {rows : List (Option Addr × Nat)} (h : Sta ⟨N, D, w0, []⟩ U L w) (hG : ∀ x ∈ G, x ∈ L) (hr : RowsF F m G rows) : ∀ (i : Nat) r, rows[i]? = some r → NewT 1 intCells w0.heap.size w r.1 m r.2 (F i) := by
  intro i r hi
  obtain ⟨b, sp, e, hm, hl, h1, h2⟩ := hr i r hi
  obtain ⟨j, hj⟩ := List.getElem?_of_mem (hG _ hm)
  refine ⟨?_, fun b' off e' => ?_, h1, h2⟩
  · rw [e]; exact isT_box (n := 1) (enc := intCells) (fun _ => rfl) (h.at j hj) (flat_int _) hl
  · rw [e] at e'; cases e'
    rcases (h.box j _ _ hj).1 with g1 | g1
    · exact g1
    · cases g1
/-- the outer list while its rows grow: rows that are done, one that grows, and nil -/
def outK (N m : Nat) (rows : List (Option Addr × Nat)) : List Value := rows.map (fun r => Value.slice r.1 m r.2) ++ List.replicate (N - rows.length) (.slice none 0 0)
def linkC (N m : Nat) (rows : List (Option Addr × Nat)) (o : Gr) (n : Nat) : List Value := rows.map (fun r => Value.slice r.1 m r.2) ++ Value.slice (gA o) n (gC o) :: List.replicate (N - (rows.length + 1)) (.slice none 0 0)
theorem outK_nil (N m : Nat) : outK N m [] = List.replicate N (.slice none 0 0) := by simp [outK]
theorem outK_link {N m : Nat} {rows : List (Option Addr × Nat)} (h : rows.length < N) : outK N m rows = linkC N m rows none 0 := by
  unfold outK linkC
  obtain ⟨k, hk⟩ : ∃ k, N - rows.length = k + 1 := ⟨N - rows.length - 1, by omega⟩
  rw [hk, List.replicate_succ, show N - (rows.length + 1) = k by omega]; rfl
theorem linkC_set (N m : Nat) (rows : List (Option Addr × Nat)) (o o' : Gr) (n n' : Nat) : (linkC N m rows o n).set rows.length (.slice (gA o') n' (gC o')) = linkC N m rows o' n' := by
  unfold linkC
  rw [List.set_append_right _ _ (by simp)]; simp
theorem linkC_get (N m : Nat) (rows : List (Option Addr × Nat)) (o : Gr) (n : Nat) : (linkC N m rows o n)[rows.length]? = some (.slice (gA o) n (gC o)) := by
  unfold linkC
  rw [List.getElem?_append_right (by simp)]; simp
theorem linkC_len (N m : Nat) (rows : List (Option Addr × Nat)) (o : Gr) (n : Nat) (h : rows.length < N) : (linkC N m rows o n).length = N := by
  unfold linkC; simp; omega
theorem linkC_out (N m : Nat) (rows : List (Option Addr × Nat)) (o : Gr) : linkC N m rows o m = outK N m (rows ++ [(gA o, gC o)]) := by
  unfold linkC outK; simp
theorem outK_all {N m : Nat} {rows : List (Option Addr × Nat)} (h : rows.length = N) : outK N m rows = rows.flatMap (slcs m) := by
  unfold outK
  rw [h, Nat.sub_self]
  have : ∀ l : List (Option Addr × Nat), l.map (fun r => Value.slice r.1 m r.2) = l.flatMap (slcs m) := fun l => by
    induction l with
    | nil => rfl
    | cons x r ih => rw [List.map_cons, List.flatMap_cons, ih]; rfl
  rw [this]; simp

end Go.Proofs.YtkhahbnagbjbiaaGreat
end
section
/- The specification of package machine: contracts of within, placed, Name, over this seat's translation. -/
namespace Go.Proofs.YtkhahbnagbjbiaaGreat
set_option linter.unusedVariables false
set_option linter.unusedSimpArgs false
open Go.RowKit

theorem IsT.get {α : Type} {n : Nat} {enc : α → List Value} {w : World} {b o len : Nat} {zs : List α} (h : IsT n enc w (some ⟨b, o, none⟩) len zs) {j : Nat} {x : α} (hx : zs[j]? = some x) {i : Nat} {v : Value} (hv : (enc x)[i]? = some v) : w.cell? ⟨b, o + j * n + i, none⟩ = some v := by
  have hj := (List.getElem?_eq_some_iff.1 hx).1
  obtain ⟨b', o', e, _, hc⟩ := h.2 (by rw [← h.1]; omega)
  injection e with e
  injection e with e1 e2
  subst e1 e2
  exact hc j x hx i v hv

set_option maxHeartbeats 400000 in
theorem rwithin2_any (n a b : Int) (w : World) :
    Calls Tryz.prog 88 #[.int .i64 n, .int .i64 a, .int .i64 b] w fun e w' => e = .returned (.bool (wthn n a b)) ∧ w = w' := by
  go_enter Tryz.func88, Tryz.ntmps88
  go_wp2
  all_goals go_ret
  all_goals (simp [wthn]; try omega)

set_option maxHeartbeats 400000 in
theorem rplaced_any (r z : Int) (w : World) :
    Calls Tryz.prog 89 #[.int .i64 r, .int .i64 z] w fun e w' => e = .returned (.bool (nearB r z 60)) ∧ w = w' := by
  have HE : Hid (nearB r z 60 = (wthn r (-60) 60 && wthn z (-60) 60)) := Lib.hid rfl
  cases h : wthn r (-60) 60
  all_goals go_enter Tryz.func89, Tryz.ntmps89
  all_goals go_wp2_with (go_at_call 88; refine (rwithin2_any _ _ _ _).mono ?_; rintro e w1 ⟨rfl, rfl⟩)
  all_goals go_ret
  all_goals exact ⟨by rw [HE.out, h]; rfl, rfl⟩

theorem nameByte_ways {x : Int} (h0 : 0 ≤ x) (h1 : x < 256) :
    (x < 48 ∧ nameByte x = false) ∨ (48 ≤ x ∧ x ≤ 57 ∧ nameByte x = true) ∨ (57 < x ∧ x < 95 ∧ nameByte x = false) ∨ (x = 95 ∧ nameByte x = true) ∨ (95 < x ∧ x < 97 ∧ nameByte x = false) ∨ (97 ≤ x ∧ x ≤ 122 ∧ nameByte x = true) ∨ (122 < x ∧ nameByte x = false) := by
  have e : nameByte x = true ↔ (97 ≤ x ∧ x ≤ 122) ∨ x = 95 ∨ (48 ≤ x ∧ x ≤ 57) := by simp [nameByte, smallB]
  have f : nameByte x = false ↔ ¬((97 ≤ x ∧ x ≤ 122) ∨ x = 95 ∨ (48 ≤ x ∧ x ≤ 57)) := by rw [← e]; simp
  rw [e, f]
  omega

set_option maxHeartbeats 4000000 in
theorem rname_any (s : ByteArray) (w : World) :
    Calls Tryz.prog 84 #[.string s] w fun e w' => e = .returned (.bool (nameB s.data.toList)) ∧ w = w' := by
  have hz : s.data.toList.length = s.size := Array.length_toList
  cases hL : s.data.toList with
  | nil =>
    rw [hL] at hz
    have h1 : s.size = 0 := hz.symm
    clear hz hL
    go_enter Tryz.func84, Tryz.ntmps84
    go_wp2
    go_ret
    exact ⟨rfl, rfl⟩
  | cons c r =>
    rw [hL] at hz
    have hz1 : s.size = r.length + 1 := by rw [← hz]; rfl
    have ix0 : ∀ W : World, (Instr.index 9 (.string s) (.int .i64 0)).run Tryz.prog W = .ok (.int .u8 (c.toNat : Int)) W := fun W => indexS_any s (c :: r) hL 0 (by simp) W
    have HG : Hid (nameB (c :: r) = (decide (r.length < 16) && (smallB c.toNat && (c :: r).all fun b => nameByte b.toNat))) := Lib.hid rfl
    generalize nameB (c :: r) = G at *
    have hs1 : 1 ≤ s.size := by omega
    have hs0 : ¬((s.size : Int) < 1) := by omega
    by_cases h16 : r.length < 16
    · have hs2 : s.size ≤ 16 := by omega
      have c0 : (0 : Int) ≤ c.toNat := by omega
      by_cases hsm : smallB c.toNat = true
      · have HN : Hid (G = (c :: r).all fun b => nameByte b.toNat) := Lib.hid (by rw [HG.out, decide_eq_true h16, hsm]; simp)
        obtain ⟨s1, s2⟩ : (97 : Int) ≤ c.toNat ∧ (c.toNat : Int) ≤ 122 := by simpa [smallB] using hsm
        obtain ⟨l, hl⟩ : ∃ l, c :: r = l := ⟨_, rfl⟩
        rw [hl] at HN hL hz
        clear HG hl hz1 hsm
        generalize (c.toNat : Int) = ci at *
        have HL := Lib.hid hL
        have HZ := Lib.hid hz
        clear hL hz
        go_enter Tryz.func84, Tryz.ntmps84
        go_wp2_with fail
        clear ix0 s1 s2
        go_loop [3, 4] (fun i _ => ∃ k : Nat, k ≤ s.size ∧ i = .int .i64 k ∧ Hid (((l.drop k).all fun b => nameByte b.toNat) = G)) (fun i _ => s.size - (intOf i).toNat)
        case atStart => exact ⟨0, Nat.zero_le _, rfl, Lib.hid (by rw [HN.out]; rfl)⟩
        case round =>
          obtain ⟨k, hk, rfl, hG⟩ := hrel
          by_cases hlt : k < s.size
          · have hkl : k < l.length := by rw [HZ.out]; exact hlt
            have ix := indexS_any s l HL.out k hkl
            have HS := Lib.hid (show (nameByte l[k].toNat && ((l.drop (k + 1)).all fun b => nameByte b.toNat)) = G from by rw [← hG.out, List.drop_eq_getElem_cons hkl]; rfl)
            have c255 : l[k].toNat < 256 := l[k].toNat_lt
            obtain ⟨x, hxe⟩ : ∃ x : Int, (l[k].toNat : Int) = x := ⟨_, rfl⟩
            rw [hxe] at ix HS
            have hx0 : 0 ≤ x := by omega
            have hx1 : x < 256 := by omega
            clear hkl hxe c255
            rcases nameByte_ways hx0 hx1 with ⟨h1, hnb⟩ | ⟨h1, h2, hnb⟩ | ⟨h1, h2, hnb⟩ | ⟨rfl, hnb⟩ | ⟨h1, h2, hnb⟩ | ⟨h1, h2, hnb⟩ | ⟨h1, hnb⟩
            · rw [hnb] at HS; clear hnb
              have h95 : (x == 95) = false := by rw [beq_eq_false_iff_ne]; omega
              go_wp2_with fail
              go_ret
              exact ⟨by rw [← HS.out]; rfl, rfl⟩
            · rw [hnb] at HS; clear hnb
              have HT : Hid (((l.drop (k + 1)).all fun b => nameByte b.toNat) = G) := Lib.hid (by have h := HS.out; rwa [Bool.true_and] at h)
              have h95 : (x == 95) = false := by rw [beq_eq_false_iff_ne]; omega
              go_wp2_with fail
              all_goals go_round
              all_goals first | exact ⟨k + 1, by omega, by go_num, HT⟩ | (simp [intOf]; omega)
            · rw [hnb] at HS; clear hnb
              have d57 : decide (x ≤ 57) = false := decide_eq_false (by omega)
              have h95 : (x == 95) = false := by rw [beq_eq_false_iff_ne]; omega
              go_wp2_with fail
              go_ret
              exact ⟨by rw [← HS.out]; rfl, rfl⟩
            · rw [hnb] at HS; clear hnb
              have HT : Hid (((l.drop (k + 1)).all fun b => nameByte b.toNat) = G) := Lib.hid (by have h := HS.out; rwa [Bool.true_and] at h)
              go_wp2_with fail
              all_goals go_round
              all_goals first | exact ⟨k + 1, by omega, by go_num, HT⟩ | (simp [intOf]; omega)
            · rw [hnb] at HS; clear hnb
              have d57 : decide (x ≤ 57) = false := decide_eq_false (by omega)
              have h95 : (x == 95) = false := by rw [beq_eq_false_iff_ne]; omega
              go_wp2_with fail
              go_ret
              exact ⟨by rw [← HS.out]; rfl, rfl⟩
            · rw [hnb] at HS; clear hnb
              have HT : Hid (((l.drop (k + 1)).all fun b => nameByte b.toNat) = G) := Lib.hid (by have h := HS.out; rwa [Bool.true_and] at h)
              have h95 : (x == 95) = false := by rw [beq_eq_false_iff_ne]; omega
              go_wp2_with fail
              all_goals go_round
              all_goals first | exact ⟨k + 1, by omega, by go_num, HT⟩ | (simp [intOf]; omega)
            · rw [hnb] at HS; clear hnb
              have d57 : decide (x ≤ 57) = false := decide_eq_false (by omega)
              have d122 : decide (x ≤ 122) = false := decide_eq_false (by omega)
              have h95 : (x == 95) = false := by rw [beq_eq_false_iff_ne]; omega
              go_wp2_with fail
              go_ret
              exact ⟨by rw [← HS.out]; rfl, rfl⟩
          · have HT : Hid (G = true) := Lib.hid (by rw [← hG.out, List.drop_of_length_le (by rw [HZ.out]; omega)]; rfl)
            go_wp2
            go_ret
            exact ⟨by rw [HT.out]; rfl, rfl⟩
      · have hsf : smallB c.toNat = false := by simpa using hsm
        have HN : Hid (G = false) := Lib.hid (by rw [HG.out, hsf]; simp)
        have hw : (c.toNat : Int) < 97 ∨ ((97 : Int) ≤ c.toNat ∧ 122 < (c.toNat : Int)) := by
          simp [smallB] at hsf; omega
        clear hz hz1 hL HG hsm hsf
        generalize (c.toNat : Int) = ci at *
        rcases hw with hw | ⟨hw1, hw2⟩
        all_goals go_enter Tryz.func84, Tryz.ntmps84
        all_goals go_wp2_with fail
        all_goals go_ret
        all_goals exact ⟨by rw [HN.out]; rfl, rfl⟩
    · have hs2 : 16 < s.size := by omega
      have HN : Hid (G = false) := Lib.hid (by rw [HG.out, decide_eq_false h16]; rfl)
      clear hz hz1 hL HG h16
      go_enter Tryz.func84, Tryz.ntmps84
      go_wp2_with fail
      go_ret
      exact ⟨by rw [HN.out]; rfl, rfl⟩

end Go.Proofs.YtkhahbnagbjbiaaGreat
end
section
/- The specification of package machine: the contract of coils, over this seat's translation (written by mk_ref.py). -/
namespace Go.Proofs.YtkhahbnagbjbiaaGreat
set_option linter.unusedVariables false
set_option linter.unusedSimpArgs false
open Go.RowKit Go.Shelf

set_option maxRecDepth 100000 in
set_option maxHeartbeats 16000000 in
theorem rcoils_any (name : ByteArray) (A B C D : Option Addr) (la ca lb cb lc cc ld cd : Nat) (r z nr nz step : Int) (zs : List CoilD) (w : World) (hI : IsT 8 CoilD.cells w A la zs) :
    Calls Tryz.prog 85 #[.agg #[.string name, .slice A la ca, .slice B lb cb, .slice C lc cc, .int .i64 r, .int .i64 z, .int .i64 nr, .int .i64 nz, .int .i64 step, .slice D ld cd]] w (Ret (.int .i64 (eachC coilC 12 zs)) w) := by
  have HI := Lib.hid hI
  have hz := hI.1
  by_cases hm : 12 < la
  · have HG : Hid (eachC coilC 12 zs = 4) := Lib.hid (by unfold eachC; rw [if_pos (by omega)])
    clear hI hz
    generalize eachC coilC 12 zs = G at *
    go_enter Tryz.func85, Tryz.ntmps85
    go_wp2_with fail
    go_ret
    exact ⟨by rw [HG.out]; rfl, by (with_reducible repeat first | exact Below.refl _ _ | assumption | ((first | refine Below.setCell ?_ ?_ _ | refine Below.alloc ?_ ?_ _); rotate_left; exact (by first | omega | (simp; done) | (simp; omega))) | refine Below.drew ?_ | refine Below_drewN ?_ _)⟩
  have hl : la ≤ 1000000000000000 := by omega
  have HG : Hid (eachC coilC 12 zs = eachGo coilC [] zs) := Lib.hid (by unfold eachC; rw [if_neg (by omega)])
  generalize eachC coilC 12 zs = G at *
  clear hI hz
  go_enter Tryz.func85, Tryz.ntmps85
  go_wp2_with fail
  go_loopw [3, 4, 5] (fun i _ _ wr => ∃ j : Nat, j ≤ la ∧ i = .int .i64 j ∧ Hid (eachGo coilC (zs.take j) (zs.drop j) = G) ∧ Below w.heap.size w wr ∧ w.heap.size < wr.heap.size ∧ wr.cell? ⟨w.heap.size, 1, none⟩ = some (.slice A la ca)) (fun i _ _ _ => la - (intOf i).toNat)
  case atStart => exact ⟨0, Nat.zero_le _, rfl, Lib.hid HG.out.symm, by (with_reducible repeat first | exact Below.refl _ _ | assumption | ((first | refine Below.setCell ?_ ?_ _ | refine Below.alloc ?_ ?_ _); rotate_left; exact (by first | omega | (simp; done) | (simp; omega))) | refine Below.drew ?_ | refine Below_drewN ?_ _), by simp, by go_simp⟩
  case round =>
    obtain ⟨j, hj, rfl, hG, hB, hq, q1⟩ := hrel
    by_cases hlt : j < la
    · obtain ⟨hzl, hcl⟩ := HI.out.below hB
      obtain ⟨b, o, rfl, hb0, hcl⟩ := hcl (by omega)
      obtain ⟨x, hx⟩ : ∃ x, zs[j]? = some x := ⟨_, List.getElem?_eq_getElem (by omega)⟩
      have HS := Lib.hid (hG.out.symm.trans (eachGo_step coilC hx))
      have x0 : wr.cell? ⟨b, o + j * 8, none⟩ = some (.string x.name) := by have h := hcl j x hx 0 _ rfl; simpa using h
      have x1 : wr.cell? ⟨b, o + j * 8 + 1, none⟩ = some (.int .i64 x.r) := by have h := hcl j x hx 1 _ rfl; simpa using h
      have x2 : wr.cell? ⟨b, o + j * 8 + 2, none⟩ = some (.int .i64 x.z) := by have h := hcl j x hx 2 _ rfl; simpa using h
      have x3 : wr.cell? ⟨b, o + j * 8 + 3, none⟩ = some (.int .i64 x.turns) := by have h := hcl j x hx 3 _ rfl; simpa using h
      have x4 : wr.cell? ⟨b, o + j * 8 + 4, none⟩ = some (.int .i64 x.cur) := by have h := hcl j x hx 4 _ rfl; simpa using h
      have x5 : wr.cell? ⟨b, o + j * 8 + 5, none⟩ = some (.int .i64 x.step) := by have h := hcl j x hx 5 _ rfl; simpa using h
      have x6 : wr.cell? ⟨b, o + j * 8 + 6, none⟩ = some (.int .i64 x.heat) := by have h := hcl j x hx 6 _ rfl; simpa using h
      have x7 : wr.cell? ⟨b, o + j * 8 + 7, none⟩ = some (.int .i64 x.cool) := by have h := hcl j x hx 7 _ rfl; simpa using h
      have hsz := hB.size
      clear hcl hx hzl hG
      have jc : (0 : Int) ≤ j := by omega
      have jn : ((j : Int)).toNat = j := by omega
      cases hnm : nameB x.name.data.toList
      · have HF : Hid ((1 : Int) = G) := Lib.hid (by rw [HS.out]; unfold coilC; rw [hnm]; simp)
        clear HS
        go_wp2_with (go_at_call 84; refine (rname_any _ _).mono ?_; rintro e w1 ⟨rfl, rfl⟩)
        go_ret
        exact ⟨by rw [← HF.out]; rfl, by (with_reducible repeat first | exact Below.refl _ _ | assumption | ((first | refine Below.setCell ?_ ?_ _ | refine Below.alloc ?_ ?_ _); rotate_left; exact (by first | omega | (simp; done) | (simp; omega))) | refine Below.drew ?_ | refine Below_drewN ?_ _)⟩
      · have HK0 : Hid (coilC x (zs.take j) = if (zs.take j).any (fun y => decide (y.name = x.name)) = true then 6 else rng (nearB x.r x.z 60 && (wthn x.turns 1 100 && (wthn x.cur 1 1000000 && (wthn x.step 1 1000000 && (wthn x.heat 1 1000000000000 && wthn x.cool 0 1000000000)))))) := Lib.hid (by unfold coilC; rw [hnm]; rfl)
        go_wp2_with (go_at_call 84; refine (rname_any _ _).mono ?_; rintro e w1 ⟨rfl, rfl⟩)
        clear hnm x0
        obtain ⟨wo, hwo⟩ : ∃ wo, wo = wr := ⟨_, rfl⟩
        subst hwo
        go_loopw [5] (fun k wr => ∃ t : Nat, t ≤ j ∧ k = .int .i64 t ∧ Hid (∀ y ∈ zs.take t, y.name ≠ x.name) ∧ Below w.heap.size w wr ∧ wo.heap.size < wr.heap.size ∧ wr.cell? ⟨w.heap.size, 1, none⟩ = some (.slice (some ⟨b, o, none⟩) la ca) ∧ wr.cell? ⟨wo.heap.size, 0, none⟩ = some (.string x.name) ∧ wr.cell? ⟨wo.heap.size, 1, none⟩ = some (.int .i64 x.r) ∧ wr.cell? ⟨wo.heap.size, 2, none⟩ = some (.int .i64 x.z) ∧ wr.cell? ⟨wo.heap.size, 3, none⟩ = some (.int .i64 x.turns) ∧ wr.cell? ⟨wo.heap.size, 4, none⟩ = some (.int .i64 x.cur) ∧ wr.cell? ⟨wo.heap.size, 5, none⟩ = some (.int .i64 x.step) ∧ wr.cell? ⟨wo.heap.size, 6, none⟩ = some (.int .i64 x.heat) ∧ wr.cell? ⟨wo.heap.size, 7, none⟩ = some (.int .i64 x.cool)) (fun k _ => j - (intOf k).toNat)
        case atStart => exact ⟨0, Nat.zero_le _, rfl, Lib.hid (fun y hy => by simp at hy), by (with_reducible repeat first | exact Below.refl _ _ | assumption | ((first | refine Below.setCell ?_ ?_ _ | refine Below.alloc ?_ ?_ _); rotate_left; exact (by first | omega | (simp; done) | (simp; omega))) | refine Below.drew ?_ | refine Below_drewN ?_ _), by simp, by go_simp, by go_simp, by go_simp, by go_simp, by go_simp, by go_simp, by go_simp, by go_simp, by go_simp⟩
        case round =>
          obtain ⟨t, ht, rfl, hU, hBx, hwx, q2, c0, c1, c2, c3, c4, c5, c6, c7⟩ := hrel
          have hqx : w.heap.size < wr.heap.size := by omega
          by_cases htj : t < j
          · obtain ⟨y, hy⟩ : ∃ y, zs[t]? = some y := ⟨_, List.getElem?_eq_getElem (by rw [HI.out.1]; omega)⟩
            have y0 : wr.cell? ⟨b, o + t * 8, none⟩ = some (.string y.name) := by have h := (HI.out.below hBx).get hy (i := 0) rfl; simpa using h
            have hyt : zs.take (t + 1) = zs.take t ++ [y] := by
              obtain ⟨hk, rfl⟩ := List.getElem?_eq_some_iff.1 hy
              exact List.take_succ_eq_append_getElem hk
            have hym : y ∈ zs.take j := List.mem_take_iff_getElem.2 ⟨t, by rw [HI.out.1]; omega, by
              obtain ⟨hk, rfl⟩ := List.getElem?_eq_some_iff.1 hy
              rfl⟩
            have HYT := Lib.hid hyt
            clear hy hyt
            have hsb := str_beq y.name x.name
            have tc : (0 : Int) ≤ t := by omega
            have tn : ((t : Int)).toNat = t := by omega
            by_cases e : y.name = x.name
            · have HF : Hid ((6 : Int) = G) := Lib.hid (by
                rw [HS.out, HK0.out, if_pos (List.any_eq_true.2 ⟨y, hym, decide_eq_true e⟩)]; rfl)
              rw [decide_eq_true e] at hsb
              clear e HS HK0 HYT hym
              obtain ⟨yn, hyn⟩ : ∃ yn, y.name = yn := ⟨_, rfl⟩
              rw [hyn] at y0 hsb
              obtain ⟨xn, hxn⟩ : ∃ xn, x.name = xn := ⟨_, rfl⟩
              rw [hxn] at c0 hsb
              clear hyn hxn
              go_wp2_with fail
              go_quiet (fail)
              go_wp2_with fail
              go_ret
              exact ⟨by rw [← HF.out]; rfl, by (with_reducible repeat first | exact Below.refl _ _ | assumption | ((first | refine Below.setCell ?_ ?_ _ | refine Below.alloc ?_ ?_ _); rotate_left; exact (by first | omega | (simp; done) | (simp; omega))) | refine Below.drew ?_ | refine Below_drewN ?_ _)⟩
            · have HU2 : Hid (∀ u ∈ zs.take (t + 1), u.name ≠ x.name) := Lib.hid (by
                rw [HYT.out]; intro u hu
                rcases List.mem_append.1 hu with hu | hu
                · exact hU.out u hu
                · obtain rfl : u = y := by simpa using hu
                  exact e)
              rw [decide_eq_false e] at hsb
              clear e HYT hym
              go_wp2_with fail
              go_quiet (fail)
              go_wp2_with fail
              go_roundw
              case rel => exact ⟨t + 1, by omega, by go_num, HU2, by (with_reducible repeat first | exact Below.refl _ _ | assumption | ((first | refine Below.setCell ?_ ?_ _ | refine Below.alloc ?_ ?_ _); rotate_left; exact (by first | omega | (simp; done) | (simp; omega))) | refine Below.drew ?_ | refine Below_drewN ?_ _), by simpa using hwx, by go_simp, by go_simp, by go_simp, by go_simp, by go_simp, by go_simp, by go_simp, by go_simp, by go_simp⟩
              case measure => simp [intOf]; omega
          · obtain rfl : t = j := by omega
            have HK : Hid (coilC x (zs.take t) = rng (nearB x.r x.z 60 && (wthn x.turns 1 100 && (wthn x.cur 1 1000000 && (wthn x.step 1 1000000 && (wthn x.heat 1 1000000000000 && wthn x.cool 0 1000000000)))))) := Lib.hid (by
              rw [HK0.out, if_neg (by
                intro h
                obtain ⟨u, hu, hd⟩ := List.any_eq_true.1 h
                exact hU.out u hu (of_decide_eq_true hd))])
            clear HK0
            cases p1 : nearB x.r x.z 60
            · have HF : Hid ((7 : Int) = G) := Lib.hid (by rw [HS.out, HK.out, p1]; simp [rng])
              clear HS HK
              go_wp2_with (first | (go_at_call 88; refine (rwithin2_any _ _ _ _).mono ?_; rintro e w1 ⟨rfl, rfl⟩) | (go_at_call 89; refine (rplaced_any _ _ _).mono ?_; rintro e w1 ⟨rfl, rfl⟩))
              go_ret
              exact ⟨by rw [← HF.out]; rfl, by (with_reducible repeat first | exact Below.refl _ _ | assumption | ((first | refine Below.setCell ?_ ?_ _ | refine Below.alloc ?_ ?_ _); rotate_left; exact (by first | omega | (simp; done) | (simp; omega))) | refine Below.drew ?_ | refine Below_drewN ?_ _)⟩
            cases p2 : wthn x.turns 1 100
            · have HF : Hid ((7 : Int) = G) := Lib.hid (by rw [HS.out, HK.out, p1, p2]; simp [rng])
              clear HS HK
              go_wp2_with (first | (go_at_call 88; refine (rwithin2_any _ _ _ _).mono ?_; rintro e w1 ⟨rfl, rfl⟩) | (go_at_call 89; refine (rplaced_any _ _ _).mono ?_; rintro e w1 ⟨rfl, rfl⟩))
              go_ret
              exact ⟨by rw [← HF.out]; rfl, by (with_reducible repeat first | exact Below.refl _ _ | assumption | ((first | refine Below.setCell ?_ ?_ _ | refine Below.alloc ?_ ?_ _); rotate_left; exact (by first | omega | (simp; done) | (simp; omega))) | refine Below.drew ?_ | refine Below_drewN ?_ _)⟩
            cases p3 : wthn x.cur 1 1000000
            · have HF : Hid ((7 : Int) = G) := Lib.hid (by rw [HS.out, HK.out, p1, p2, p3]; simp [rng])
              clear HS HK
              go_wp2_with (first | (go_at_call 88; refine (rwithin2_any _ _ _ _).mono ?_; rintro e w1 ⟨rfl, rfl⟩) | (go_at_call 89; refine (rplaced_any _ _ _).mono ?_; rintro e w1 ⟨rfl, rfl⟩))
              go_ret
              exact ⟨by rw [← HF.out]; rfl, by (with_reducible repeat first | exact Below.refl _ _ | assumption | ((first | refine Below.setCell ?_ ?_ _ | refine Below.alloc ?_ ?_ _); rotate_left; exact (by first | omega | (simp; done) | (simp; omega))) | refine Below.drew ?_ | refine Below_drewN ?_ _)⟩
            cases p4 : wthn x.step 1 1000000
            · have HF : Hid ((7 : Int) = G) := Lib.hid (by rw [HS.out, HK.out, p1, p2, p3, p4]; simp [rng])
              clear HS HK
              go_wp2_with (first | (go_at_call 88; refine (rwithin2_any _ _ _ _).mono ?_; rintro e w1 ⟨rfl, rfl⟩) | (go_at_call 89; refine (rplaced_any _ _ _).mono ?_; rintro e w1 ⟨rfl, rfl⟩))
              go_ret
              exact ⟨by rw [← HF.out]; rfl, by (with_reducible repeat first | exact Below.refl _ _ | assumption | ((first | refine Below.setCell ?_ ?_ _ | refine Below.alloc ?_ ?_ _); rotate_left; exact (by first | omega | (simp; done) | (simp; omega))) | refine Below.drew ?_ | refine Below_drewN ?_ _)⟩
            cases p5 : wthn x.heat 1 1000000000000
            · have HF : Hid ((7 : Int) = G) := Lib.hid (by rw [HS.out, HK.out, p1, p2, p3, p4, p5]; simp [rng])
              clear HS HK
              go_wp2_with (first | (go_at_call 88; refine (rwithin2_any _ _ _ _).mono ?_; rintro e w1 ⟨rfl, rfl⟩) | (go_at_call 89; refine (rplaced_any _ _ _).mono ?_; rintro e w1 ⟨rfl, rfl⟩))
              go_ret
              exact ⟨by rw [← HF.out]; rfl, by (with_reducible repeat first | exact Below.refl _ _ | assumption | ((first | refine Below.setCell ?_ ?_ _ | refine Below.alloc ?_ ?_ _); rotate_left; exact (by first | omega | (simp; done) | (simp; omega))) | refine Below.drew ?_ | refine Below_drewN ?_ _)⟩
            cases p6 : wthn x.cool 0 1000000000
            · have HF : Hid ((7 : Int) = G) := Lib.hid (by rw [HS.out, HK.out, p1, p2, p3, p4, p5, p6]; simp [rng])
              clear HS HK
              go_wp2_with (first | (go_at_call 88; refine (rwithin2_any _ _ _ _).mono ?_; rintro e w1 ⟨rfl, rfl⟩) | (go_at_call 89; refine (rplaced_any _ _ _).mono ?_; rintro e w1 ⟨rfl, rfl⟩))
              go_ret
              exact ⟨by rw [← HF.out]; rfl, by (with_reducible repeat first | exact Below.refl _ _ | assumption | ((first | refine Below.setCell ?_ ?_ _ | refine Below.alloc ?_ ?_ _); rotate_left; exact (by first | omega | (simp; done) | (simp; omega))) | refine Below.drew ?_ | refine Below_drewN ?_ _)⟩
            have HN : Hid (eachGo coilC (zs.take (t + 1)) (zs.drop (t + 1)) = G) := Lib.hid (by rw [HS.out, HK.out, p1, p2, p3, p4, p5, p6]; simp [rng])
            clear HS HK
            go_wp2_with (first | (go_at_call 88; refine (rwithin2_any _ _ _ _).mono ?_; rintro e w1 ⟨rfl, rfl⟩) | (go_at_call 89; refine (rplaced_any _ _ _).mono ?_; rintro e w1 ⟨rfl, rfl⟩))
            go_roundw
            case rel => exact ⟨t + 1, by omega, by go_num, HN, by (with_reducible repeat first | exact Below.refl _ _ | assumption | ((first | refine Below.setCell ?_ ?_ _ | refine Below.alloc ?_ ?_ _); rotate_left; exact (by first | omega | (simp; done) | (simp; omega))) | refine Below.drew ?_ | refine Below_drewN ?_ _), hqx, by go_simp⟩
            case measure => simp [intOf]; omega
    · have HN : Hid ((0 : Int) = G) := Lib.hid (by rw [← hG.out, List.drop_of_length_le (by rw [HI.out.1]; omega)]; rfl)
      go_wp2
      go_ret
      exact ⟨by rw [← HN.out]; rfl, by (with_reducible repeat first | exact Below.refl _ _ | assumption | ((first | refine Below.setCell ?_ ?_ _ | refine Below.alloc ?_ ?_ _); rotate_left; exact (by first | omega | (simp; done) | (simp; omega))) | refine Below.drew ?_ | refine Below_drewN ?_ _)⟩

end Go.Proofs.YtkhahbnagbjbiaaGreat
end
