import Derived.Test.YtjjajleiladbhaaGreatDoorJAN
import Derived.Test.YtjjajleiladbhaaGreatDoorRows
import Derived.KernelRfl
import Derived.Laws.StructEq
import Derived.Handy
section
/- Package machine: divide, force, Force, Linked, over this seat's translation (written by ax_mg.py). -/
namespace Go.Proofs.YtjjajleiladbhaaGreatDoor
set_option linter.unusedVariables false
set_option linter.unusedSimpArgs false
open Go.RowKit

theorem tdiv_nano (a : Int) : a.tdiv 1000000000 = (if a.tmod 1000000000 < 0 then a / 1000000000 + 1 else a / 1000000000) ∧ a.tmod 1000000000 = (if a.tmod 1000000000 < 0 then a % 1000000000 - 1000000000 else a % 1000000000) := by
  have e := Int.mul_tdiv_add_tmod a 1000000000
  rcases Int.le_total 0 a with h | h
  · have h1 := Int.tmod_nonneg 1000000000 h
    have h2 := Int.tmod_lt_of_pos a (show (0 : Int) < 1000000000 by omega)
    rw [if_neg (by omega), if_neg (by omega)]
    omega
  · have h1 := Int.tmod_lt_of_pos (-a) (show (0 : Int) < 1000000000 by omega)
    have h2 := Int.tmod_nonneg 1000000000 (show 0 ≤ -a by omega)
    rw [Int.neg_tmod] at h1 h2
    split <;> omega

theorem mul_bdd {a b A B : Int} (a0 : -A ≤ a) (a1 : a ≤ A) (b0 : -B ≤ b) (b1 : b ≤ B) : -(A * B) ≤ a * b ∧ a * b ≤ A * B := by
  have hA : 0 ≤ A := by omega
  have hB : 0 ≤ B := by omega
  have h1 : (A - a) * (B + b) ≥ 0 := Int.mul_nonneg (by omega) (by omega)
  have h2 : (A + a) * (B - b) ≥ 0 := Int.mul_nonneg (by omega) (by omega)
  have h3 : (A - a) * (B - b) ≥ 0 := Int.mul_nonneg (by omega) (by omega)
  have h4 : (A + a) * (B + b) ≥ 0 := Int.mul_nonneg (by omega) (by omega)
  simp only [Int.sub_mul, Int.mul_sub, Int.add_mul, Int.mul_add] at h1 h2 h3 h4
  omega
set_option maxRecDepth 100000 in
theorem divide_any (a : Int) (w : World) (ha : -9000000000000000000 ≤ a) (hb : a ≤ 9000000000000000000) : Calls Tryz.prog 109 #[(.int .i64 a), (.int .i64 1000000000)] w (Ret (.tuple #[.int .i64 (a / 1000000000), .int .i64 (a % 1000000000)]) w) := by
  have ht := tdiv_nano a
  refine calls_ax (vs := [(.int .i64 a), (.int .i64 1000000000)]) Tryz.func109 rfl rfl ?_
  refine ac_seq ?_
  refine ac_region ?_
  refine al_q (q_assign rfl) rfl rfl rfl ?_
  refine al_q (q_assign rfl) rfl rfl rfl ?_
  refine al_end ?_
  refine aq_then ?_
  refine ac_seq ?_
  refine ac_draw 7 (by kernel_rfl) (by kernel_rfl) ?_
  refine ah_take 0 (fun w9 hs => hs) rfl rfl rfl (by kernel_rfl) (by kernel_rfl) (by kernel_rfl) (fun _ _ _ h => h) rfl (q_move rfl) ?_
  refine ah_take 1 (fun w9 hs => hs) rfl rfl rfl (by kernel_rfl) (by kernel_rfl) (by kernel_rfl) (fun _ _ _ h => h) rfl (q_move rfl) ?_
  refine ah_take 2 (fun w9 hs => hs) rfl rfl rfl (by kernel_rfl) (by kernel_rfl) (by kernel_rfl) (fun _ _ _ h => h) rfl (q_quo rfl rfl (by omega)) ?_
  refine ah_take 3 (fun w9 hs => hs) rfl rfl rfl (by kernel_rfl) (by kernel_rfl) (by kernel_rfl) (fun _ _ _ h => h) rfl (q_move rfl) ?_
  refine ah_take 4 (fun w9 hs => hs) rfl rfl rfl (by kernel_rfl) (by kernel_rfl) (by kernel_rfl) (fun _ _ _ h => h) rfl (q_move rfl) ?_
  refine ah_take 5 (fun w9 hs => hs) rfl rfl rfl (by kernel_rfl) (by kernel_rfl) (by kernel_rfl) (fun _ _ _ h => h) rfl (q_rem rfl rfl (by omega)) ?_
  refine ah_one 6 rfl (by kernel_rfl) (fun hok1 hcl1 => ?_)
  refine al_q (q_assign rfl) rfl rfl rfl ?_
  refine al_end (ah_back hok1 hcl1 (fun w9 hs => hs) ?_)
  refine ah_one 7 rfl (by kernel_rfl) (fun hok2 hcl2 => ?_)
  refine al_q (q_assign rfl) rfl rfl rfl ?_
  refine al_end (ah_last (by kernel_rfl) ?_)
  refine aq_then ?_
  refine ac_seq ?_
  refine ac_seq ?_
  refine ac_region ?_
  refine al_q (q_move rfl) rfl rfl rfl ?_
  refine al_q (q_lss rfl rfl) rfl rfl rfl ?_
  refine al_end ?_
  refine aq_then ?_
  refine ac_cond rfl (fun h1 => ?_) (fun h1 => ?_)
  · have hn : a.tmod 1000000000 < 0 := by simpa using h1
    rw [if_pos hn, if_pos hn] at ht
    refine ac_seq ?_
    refine ac_region ?_
    refine al_q (q_move rfl) rfl rfl rfl ?_
    refine al_q (q_sub rfl rfl (by omega)) rfl rfl rfl ?_
    refine al_q (q_move rfl) rfl rfl rfl ?_
    refine al_q (q_move rfl) rfl rfl rfl ?_
    refine al_q (q_add rfl rfl (by omega)) rfl rfl rfl ?_
    refine al_q (q_assign rfl) rfl rfl rfl ?_
    refine al_q (q_assign rfl) rfl rfl rfl ?_
    refine al_end ?_
    refine aq_then ?_
    refine ac_ret ?_
    refine aq_thenR ?_
    refine ret2 Tryz.results109 rfl rfl (fun w9 hs => ?_)
    refine ⟨?_, hs.below⟩; rw [ht.1, ht.2] <;> (simp; try omega)
  · have hn : ¬ a.tmod 1000000000 < 0 := by simpa using h1
    rw [if_neg hn, if_neg hn] at ht
    refine ac_skip ?_
    refine aq_then ?_
    refine ac_seq ?_
    refine ac_region ?_
    refine al_q (q_move rfl) rfl rfl rfl ?_
    refine al_q (q_move rfl) rfl rfl rfl ?_
    refine al_q (q_assign rfl) rfl rfl rfl ?_
    refine al_q (q_assign rfl) rfl rfl rfl ?_
    refine al_end ?_
    refine aq_then ?_
    refine ac_ret ?_
    refine ret2 Tryz.results109 rfl rfl (fun w9 hs => ?_)
    refine ⟨?_, hs.below⟩; rw [ht.1, ht.2] <;> (simp; try omega)

def forceP (t f : Int) : Int := t * (f / 1000000000) + t * (f % 1000000000) / 1000000000
theorem forceP_eq (t f : Int) : forceP t f = t * f / 1000000000 := by
  unfold forceP
  have e := Int.mul_ediv_add_emod f 1000000000
  have h : t * f = t * (f % 1000000000) + 1000000000 * (t * (f / 1000000000)) := by
    rw [← Int.mul_assoc, Int.mul_comm 1000000000 t, Int.mul_assoc, ← Int.mul_add]
    congr 1; omega
  rw [h, Int.add_mul_ediv_left _ _ (by omega)]
  omega

set_option maxRecDepth 100000 in
theorem force_any (t f : Int) (w : World) (t0 : -100000000 ≤ t) (t1 : t ≤ 100000000) (f0 : -1000000000000000000 ≤ f) (f1 : f ≤ 1000000000000000000) : Calls Tryz.prog 89 #[(.int .i64 t), (.int .i64 f)] w (Ret (.int .i64 (forceP t f)) w) := by
  have r0 := Int.emod_nonneg f (show (1000000000 : Int) ≠ 0 by omega)
  have r1 := Int.emod_lt_of_pos f (show (0 : Int) < 1000000000 by omega)
  have m1 := mul_bdd (a := t) (b := f % 1000000000) (A := 100000000) (B := 1000000000) t0 t1 (by omega) (by omega)
  have m2 := mul_bdd (a := t) (b := f / 1000000000) (A := 100000000) (B := 1000000000) t0 t1 (by omega) (by omega)
  refine calls_ax (vs := [(.int .i64 t), (.int .i64 f)]) Tryz.func89 rfl rfl ?_
  refine ac_seq ?_
  refine ac_region ?_
  refine al_q (q_assign rfl) rfl rfl rfl ?_
  refine al_end ?_
  refine aq_then ?_
  refine ac_seq ?_
  refine ac_region ?_
  refine al_q (q_move rfl) rfl rfl rfl ?_
  refine al_call Tryz.call109 (.cons rfl (.cons rfl .nil)) rfl rfl (fun w1 hs1 => ?_)
  refine (divide_any f _ (by omega) (by omega)).mono ?_
  rintro e u1 ⟨rfl, hb_1⟩
  refine ⟨_, rfl, hb_1, ?_⟩
  clear hs1
  refine al_q (q_move rfl) rfl rfl rfl ?_
  refine al_q (q_extract rfl rfl) rfl rfl rfl ?_
  refine al_q (q_extract rfl rfl) rfl rfl rfl ?_
  refine al_q (q_assign rfl) rfl rfl rfl ?_
  refine al_q (q_assign rfl) rfl rfl rfl ?_
  refine al_end ?_
  refine aq_then ?_
  refine ac_seq ?_
  refine ac_region ?_
  refine al_q (q_move rfl) rfl rfl rfl ?_
  refine al_q (q_move rfl) rfl rfl rfl ?_
  refine al_q (q_mul rfl rfl (by omega)) rfl rfl rfl ?_
  refine al_call Tryz.call109 (.cons rfl (.cons rfl .nil)) rfl rfl (fun w2 hs2 => ?_)
  refine (divide_any (t * (f % 1000000000)) _ (by omega) (by omega)).mono ?_
  rintro e u2 ⟨rfl, hb_2⟩
  refine ⟨_, rfl, hb_2, ?_⟩
  clear hs2
  refine al_q (q_move rfl) rfl rfl rfl ?_
  refine al_q (q_extract rfl rfl) rfl rfl rfl ?_
  refine al_q (q_extract rfl rfl) rfl rfl rfl ?_
  refine al_q (q_assign rfl) rfl rfl rfl ?_
  refine al_q (q_assign rfl) rfl rfl rfl ?_
  refine al_end ?_
  refine aq_then ?_
  refine ac_seq ?_
  refine ac_region ?_
  refine al_q (q_move rfl) rfl rfl rfl ?_
  refine al_q (q_move rfl) rfl rfl rfl ?_
  refine al_q (q_mul rfl rfl (by omega)) rfl rfl rfl ?_
  refine al_q (q_move rfl) rfl rfl rfl ?_
  refine al_q (q_add rfl rfl (by omega)) rfl rfl rfl ?_
  refine al_q (q_assign rfl) rfl rfl rfl ?_
  refine al_end ?_
  refine aq_then ?_
  refine ac_ret ?_
  refine ret1 Tryz.results89 rfl (fun w9 hs => ?_)
  exact ⟨rfl, hs.below⟩

def forceE (M : MachD) (C : CurD) (i : Int) : Int × Int × Int :=
  if validC M C = true then
    if wthn i 0 ((M.coils.length : Int) - 1) = true then
      match M.coils[i.toNat]?, C.coils[i.toNat]? with
      | some x, some c => (forceP (x.turns * c) (fieldP (x.r, x.z) (srcM M C)).2, forceP (-(x.turns * c)) (fieldP (x.r, x.z) (srcM M C)).1, 0)
      | _, _ => (0, 0, 0)
    else (0, 0, 7)
  else (0, 0, 1)

set_option maxRecDepth 100000 in
theorem mforce_bad (R : MachR) (M : MachD) (Q : CurR) (C : CurD) (i : Int) (w : World) (hM : IsM w R M) (hC : IsC w Q C) (i0 : -9223372036854775808 ≤ i) (i1 : i ≤ 9223372036854775807) (hb : validC M C = false ∨ wthn i 0 ((M.coils.length : Int) - 1) = false) : Calls Tryz.prog 48 #[(.agg (machCells R M)), Q.v, (.int .i64 i)] w (Ret (.tuple #[.int .i64 (forceE M C i).1, .int .i64 (forceE M C i).2.1, .int .i64 (forceE M C i).2.2]) w) := by
  have hl := hM.coils.1
  have hk := hM.ka
  rw [hl] at hb
  have hl2 : wthn i 0 ((M.coils.length : Int) - 1) = wthn i 0 ((R.la : Int) - 1) := by rw [hl]
  refine calls_ax (vs := [(.agg (machCells R M)), Q.v, (.int .i64 i)]) Tryz.func48 rfl rfl ?_
  refine ac_seq ?_
  refine ac_region ?_
  refine al_new (fun b => .pointer (some ⟨b, 0, none⟩)) (r_box rfl rfl) rfl rfl rfl ?_
  intro b1
  refine al_new (fun b => .pointer (some ⟨b, 0, none⟩)) (r_box rfl rfl) rfl rfl rfl ?_
  intro b2
  refine al_q (q_assign rfl) rfl rfl rfl ?_
  refine al_q (q_assign rfl) rfl rfl rfl ?_
  refine al_q (q_assign rfl) rfl rfl rfl ?_
  refine al_end ?_
  refine aq_then ?_
  refine ac_seq ?_
  refine ac_seq ?_
  refine ac_region ?_
  refine al_q (q_loadAll (i := 1) rfl rfl Tryz.isAgg29 Tryz.sizeOf29 rfl) rfl rfl rfl ?_
  refine al_q (q_loadAll (i := 0) rfl rfl Tryz.isAgg34 Tryz.sizeOf34 rfl) rfl rfl rfl ?_
  refine al_call Tryz.call38 (.cons rfl (.cons rfl .nil)) rfl rfl (fun w1 hs1 => ?_)
  refine (validCurrents_any R M Q C _ (hM.below hs1.below) (hC.below hs1.below)).mono ?_
  rintro e u1 ⟨rfl, hb_1⟩
  refine ⟨_, rfl, hb_1, ?_⟩
  clear hs1
  refine al_q (q_not rfl) rfl rfl rfl ?_
  refine al_end ?_
  refine aq_then ?_
  refine ac_cond rfl (fun h1 => ?_) (fun h1 => ?_)
  · refine ac_seq ?_
    refine ac_region ?_
    refine al_q (q_assign rfl) rfl rfl rfl ?_
    refine al_q (q_assign rfl) rfl rfl rfl ?_
    refine al_q (q_assign rfl) rfl rfl rfl ?_
    refine al_end ?_
    refine aq_then ?_
    refine ac_ret ?_
    refine aq_thenR ?_
    refine retR Tryz.results48 (.tmp rfl (.tmp rfl (.tmp rfl .nil))) .two (fun w9 hs => ?_)
    refine ⟨?_, hs.below⟩; simp_all [forceE]
  · refine ac_skip ?_
    refine aq_then ?_
    refine ac_seq ?_
    refine ac_seq ?_
    refine ac_region ?_
    refine al_q (q_move rfl) rfl rfl rfl ?_
    refine al_q (q_fieldAddr 1 rfl Tryz.runUnderlying29 rfl Tryz.sizeOf22 (by decide) rfl) rfl rfl rfl ?_
    refine al_q (q_load (i := 1) rfl rfl rfl Tryz.isAgg22) rfl rfl rfl ?_
    refine al_q (q_lenS rfl Tryz.runUnderlying22) rfl rfl rfl ?_
    refine al_q (q_sub rfl rfl (by omega)) rfl rfl rfl ?_
    refine al_call Tryz.call74 (.cons rfl (.cons rfl (.cons rfl .nil))) rfl rfl (fun w2 hs2 => ?_)
    refine (mwithin_any i 0 ((R.la : Int) - 1) _).mono ?_
    rintro e u2 ⟨rfl, rfl⟩
    refine ⟨_, rfl, (Below.refl _ _), ?_⟩
    clear hs2
    refine al_q (q_not rfl) rfl rfl rfl ?_
    refine al_end ?_
    refine aq_then ?_
    refine ac_cond rfl (fun h2 => ?_) (fun h2 => ?_)
    · refine ac_seq ?_
      refine ac_region ?_
      refine al_q (q_assign rfl) rfl rfl rfl ?_
      refine al_q (q_assign rfl) rfl rfl rfl ?_
      refine al_q (q_assign rfl) rfl rfl rfl ?_
      refine al_end ?_
      refine aq_then ?_
      refine ac_ret ?_
      refine aq_thenR ?_
      refine retR Tryz.results48 (.tmp rfl (.tmp rfl (.tmp rfl .nil))) .two (fun w9 hs => ?_)
      refine ⟨?_, hs.below⟩; simp_all [forceE]
    · simp_all

theorem mcg_bl_apiPoint_0_1 (a0 a1 : Value) (ha0 : a0.oneCell' = true) (ha1 : a1.oneCell' = true) : ∀ w, (Instr.build 40 #[(0, a0), (1, a1)]).run Tryz.prog w = .ok (.agg #[a0, a1]) w := by
  have ea0 : a0.cells = #[a0] := cells_one ha0
  have ea1 : a1.cells = #[a1] := cells_one ha1
  intro w; simp [Instr.build, Instr.fill, cells_agg, Tryz.runUnderlying40, Tryz.zeroValue40, Tryz.sizeOf3, ea0, ea1]

set_option maxRecDepth 100000 in
theorem mforce_val (R : MachR) (M : MachD) (Q : CurR) (C : CurD) (i : Nat) (x : CoilD) (c : Int) (w : World) (hM : IsM w R M) (hC : IsC w Q C) (hv : Fit2 M C) (hx : M.coils[i]? = some x) (hc : C.coils[i]? = some c) : Calls Tryz.prog 48 #[(.agg (machCells R M)), Q.v, (.int .i64 (i : Int))] w (Ret (.tuple #[.int .i64 (forceP (x.turns * c) (fieldP (x.r, x.z) (srcM M C)).2), .int .i64 (forceP (-(x.turns * c)) (fieldP (x.r, x.z) (srcM M C)).1), .int .i64 0]) w) := by
  have hl := hM.coils.1
  have hk := hM.ka
  have hil := (List.getElem?_eq_some_iff.1 hx).1
  have hl2 := hC.coils.1
  have hil2 := (List.getElem?_eq_some_iff.1 hc).1
  obtain ⟨b1, o1, hA1, hlt1, hget1⟩ := hM.coils.2 (by omega)
  obtain ⟨b2, o2, hA2, hlt2, hget2⟩ := hC.coils.2 (by omega)
  have hs0 := sound_of hv.check
  have hx0 := hs0.coils.2 x (List.mem_of_getElem? hx)
  have hc0 := hv.coils.2 c (List.mem_of_getElem? hc)
  have hm := mul_bdd (a := x.turns) (b := c) (A := 100) (B := 1000000) (by omega) (by omega) hc0.1 hc0.2
  have hbd := fun p => (small_of hv).bd p
  have hb1 := hbd (x.r, x.z - 1)
  have hb2 := hbd (x.r, x.z + 1)
  have hb3 := hbd (x.r + 1, x.z)
  have hb4 := hbd (x.r - 1, x.z)
  refine calls_ax (vs := [(.agg (machCells R M)), Q.v, (.int .i64 (i : Int))]) Tryz.func48 rfl rfl ?_
  refine ac_seq ?_
  refine ac_region ?_
  refine al_new (fun b => .pointer (some ⟨b, 0, none⟩)) (r_box rfl rfl) rfl rfl rfl ?_
  intro b1
  refine al_new (fun b => .pointer (some ⟨b, 0, none⟩)) (r_box rfl rfl) rfl rfl rfl ?_
  intro b2
  refine al_q (q_assign rfl) rfl rfl rfl ?_
  refine al_q (q_assign rfl) rfl rfl rfl ?_
  refine al_q (q_assign rfl) rfl rfl rfl ?_
  refine al_end ?_
  refine aq_then ?_
  refine ac_seq ?_
  refine ac_seq ?_
  refine ac_region ?_
  refine al_q (q_loadAll (i := 1) rfl rfl Tryz.isAgg29 Tryz.sizeOf29 rfl) rfl rfl rfl ?_
  refine al_q (q_loadAll (i := 0) rfl rfl Tryz.isAgg34 Tryz.sizeOf34 rfl) rfl rfl rfl ?_
  refine al_call Tryz.call38 (.cons rfl (.cons rfl .nil)) rfl rfl (fun w1 hs1 => ?_)
  refine (validCurrents_any R M Q C _ (hM.below hs1.below) (hC.below hs1.below)).mono ?_
  rintro e u1 ⟨rfl, hb_1⟩
  refine ⟨_, rfl, hb_1, ?_⟩
  clear hs1
  refine al_q (q_not rfl) rfl rfl rfl ?_
  refine al_end ?_
  refine aq_then ?_
  refine ac_cond rfl (fun h1 => ?_) (fun h1 => ?_)
  · simp [fit2_iff.2 hv] at h1
  · refine ac_skip ?_
    refine aq_then ?_
    refine ac_seq ?_
    refine ac_seq ?_
    refine ac_region ?_
    refine al_q (q_move rfl) rfl rfl rfl ?_
    refine al_q (q_fieldAddr 1 rfl Tryz.runUnderlying29 rfl Tryz.sizeOf22 (by decide) rfl) rfl rfl rfl ?_
    refine al_q (q_load (i := 1) rfl rfl rfl Tryz.isAgg22) rfl rfl rfl ?_
    refine al_q (q_lenS rfl Tryz.runUnderlying22) rfl rfl rfl ?_
    refine al_q (q_sub rfl rfl (by omega)) rfl rfl rfl ?_
    refine al_call Tryz.call74 (.cons rfl (.cons rfl (.cons rfl .nil))) rfl rfl (fun w2 hs2 => ?_)
    refine (mwithin_any (i : Int) 0 ((R.la : Int) - 1) _).mono ?_
    rintro e u2 ⟨rfl, rfl⟩
    refine ⟨_, rfl, (Below.refl _ _), ?_⟩
    clear hs2
    refine al_q (q_not rfl) rfl rfl rfl ?_
    refine al_end ?_
    refine aq_then ?_
    refine ac_cond rfl (fun h2 => ?_) (fun h2 => ?_)
    · simp [wthn] at h2; omega
    · refine ac_skip ?_
      refine aq_then ?_
      refine ac_seq ?_
      refine ac_region ?_
      refine al_q (q_fieldAddr 1 rfl Tryz.runUnderlying29 rfl Tryz.sizeOf22 (by decide) rfl) rfl rfl rfl ?_
      refine al_q (q_load (i := 1) rfl rfl rfl Tryz.isAgg22) rfl rfl rfl ?_
      refine al_q (q_move rfl) rfl rfl rfl ?_
      refine al_q (q_indexAddrA (i := i) (o1 + i * 8 + 0) hA1 rfl rfl rfl (by omega) Tryz.runUnderlying22 Tryz.sizeOf75 rfl) rfl rfl rfl ?_
      refine al_q (q_loadXs (CoilD.cells x) rfl Tryz.isAgg75 Tryz.sizeOf75 (fun w9 hs j9 v9 h9 => by rw [addr_add]; exact (hs.below.cell (p := ⟨_, _, none⟩) hlt1).trans ((hget1 i x hx) j9 v9 h9)) rfl) rfl rfl rfl ?_
      refine al_new (fun b => .pointer (some ⟨b, 0, none⟩)) (r_alloc Tryz.zeroValue75 rfl) rfl rfl rfl ?_
      intro b3
      refine al_storeAll (i := 0) rfl rfl rfl rfl Tryz.sizeOf75 rfl rfl .k0 rfl ?_
      refine al_end ?_
      refine aq_then ?_
      refine ac_seq ?_
      refine ac_region ?_
      refine al_q (q_loadAll (i := 2) rfl rfl Tryz.isAgg29 Tryz.sizeOf29 rfl) rfl rfl rfl ?_
      refine al_q (q_loadAll (i := 1) rfl rfl Tryz.isAgg34 Tryz.sizeOf34 rfl) rfl rfl rfl ?_
      refine al_q (q_fieldAddr 1 rfl Tryz.runUnderlying75 rfl Tryz.sizeOf3 (by decide) rfl) rfl rfl rfl ?_
      refine al_q (q_load (i := 0) rfl rfl rfl Tryz.isAgg3) rfl rfl rfl ?_
      refine al_q (q_fieldAddr 2 rfl Tryz.runUnderlying75 rfl Tryz.sizeOf3 (by decide) rfl) rfl rfl rfl ?_
      refine al_q (q_load (i := 0) rfl rfl rfl Tryz.isAgg3) rfl rfl rfl ?_
      refine al_q (q_build (.cons rfl (.cons rfl .nil)) (mcg_bl_apiPoint_0_1 _ _ rfl rfl)) rfl rfl rfl ?_
      refine al_call Tryz.call87 (.cons rfl (.cons rfl (.cons rfl .nil))) rfl rfl (fun w3 hs3 => ?_)
      refine (fieldAt_any R M Q C x.r x.z _ (hM.below hs3.below) (hC.below hs3.below) hv (by omega) (by omega) (by omega) (by omega)).mono ?_
      rintro e u3 ⟨rfl, hb_3⟩
      refine ⟨_, rfl, hb_3, ?_⟩
      clear hs3
      refine al_q (q_move rfl) rfl rfl rfl ?_
      refine al_q (q_extract rfl rfl) rfl rfl rfl ?_
      refine al_q (q_extract rfl rfl) rfl rfl rfl ?_
      refine al_q (q_assign rfl) rfl rfl rfl ?_
      refine al_q (q_assign rfl) rfl rfl rfl ?_
      refine al_end ?_
      refine aq_then ?_
      refine ac_seq ?_
      refine ac_draw 8 (by kernel_rfl) (by kernel_rfl) ?_
      refine ah_take 0 (fun w9 hs => hs) rfl rfl rfl (by kernel_rfl) (by kernel_rfl) (by kernel_rfl) (fun _ _ _ h => h) rfl (q_fieldAddr 3 rfl Tryz.runUnderlying75 rfl Tryz.sizeOf3 (by decide) rfl) ?_
      refine ah_take 1 (fun w9 hs => hs) rfl rfl rfl (by kernel_rfl) (by kernel_rfl) (by kernel_rfl) (fun _ _ _ h => h) rfl (q_load (i := 0) rfl rfl rfl Tryz.isAgg3) ?_
      refine ah_take 2 (fun w9 hs => hs) rfl rfl rfl (by kernel_rfl) (by kernel_rfl) (by kernel_rfl) (fun _ _ _ h => h) rfl (q_fieldAddr 0 rfl Tryz.runUnderlying34 rfl Tryz.sizeOf32 (by decide) rfl) ?_
      refine ah_take 3 (fun w9 hs => hs) rfl rfl rfl (by kernel_rfl) (by kernel_rfl) (by kernel_rfl) (fun _ _ _ h => h) rfl (q_load (i := 1) rfl rfl rfl Tryz.isAgg32) ?_
      refine ah_take 4 (fun w9 hs => hs) rfl rfl rfl (by kernel_rfl) (by kernel_rfl) (by kernel_rfl) (fun _ _ _ h => h) rfl (q_move rfl) ?_
      refine ah_take 5 (fun w9 hs => hs) rfl rfl rfl (by kernel_rfl) (by kernel_rfl) (by kernel_rfl) (fun _ _ _ h => h) rfl (q_indexAddrA (i := i) (o2 + i * 1 + 0) hA2 rfl rfl rfl (by omega) Tryz.runUnderlying32 Tryz.sizeOf3 rfl) ?_
      refine ah_take 6 (fun w9 hs => hs) rfl rfl rfl (by kernel_rfl) (by kernel_rfl) (by kernel_rfl) (fun _ _ _ h => h) rfl (q_loadX rfl Tryz.isAgg3 (fun w9 hs => (hs.below.cell (p := ⟨_, _, none⟩) hlt2).trans ((hget2 i c hc) 0 _ rfl))) ?_
      refine ah_take 7 (fun w9 hs => hs) rfl rfl rfl (by kernel_rfl) (by kernel_rfl) (by kernel_rfl) (fun _ _ _ h => h) rfl (q_mul rfl rfl (by omega)) ?_
      refine ah_one 8 rfl (by kernel_rfl) (fun hok1 hcl1 => ?_)
      refine al_q (q_assign rfl) rfl rfl rfl ?_
      refine al_end (ah_last (by kernel_rfl) ?_)
      refine aq_then ?_
      refine ac_seq ?_
      refine ac_region ?_
      refine al_q (q_move rfl) rfl rfl rfl ?_
      refine al_q (q_move rfl) rfl rfl rfl ?_
      refine al_call Tryz.call89 (.cons rfl (.cons rfl .nil)) rfl rfl (fun w4 hs4 => ?_)
      refine (force_any (x.turns * c) (fieldP (x.r, x.z) (srcM M C)).2 _ (by omega) (by omega) (by simp only [fieldP]; omega) (by simp only [fieldP]; omega)).mono ?_
      rintro e u4 ⟨rfl, hb_4⟩
      refine ⟨_, rfl, hb_4, ?_⟩
      clear hs4
      refine al_q (q_move rfl) rfl rfl rfl ?_
      refine al_q (q_neg rfl (by omega)) rfl rfl rfl ?_
      refine al_q (q_move rfl) rfl rfl rfl ?_
      refine al_call Tryz.call89 (.cons rfl (.cons rfl .nil)) rfl rfl (fun w5 hs5 => ?_)
      refine (force_any (-(x.turns * c)) (fieldP (x.r, x.z) (srcM M C)).1 _ (by omega) (by omega) (by simp only [fieldP]; omega) (by simp only [fieldP]; omega)).mono ?_
      rintro e u5 ⟨rfl, hb_5⟩
      refine ⟨_, rfl, hb_5, ?_⟩
      clear hs5
      refine al_q (q_assign rfl) rfl rfl rfl ?_
      refine al_q (q_assign rfl) rfl rfl rfl ?_
      refine al_q (q_assign rfl) rfl rfl rfl ?_
      refine al_end ?_
      refine aq_then ?_
      refine ac_ret ?_
      refine retR Tryz.results48 (.tmp rfl (.tmp rfl (.tmp rfl .nil))) .two (fun w9 hs => ?_)
      exact ⟨rfl, hs.below⟩

theorem mforce_any (R : MachR) (M : MachD) (Q : CurR) (C : CurD) (i : Int) (w : World) (hM : IsM w R M) (hC : IsC w Q C) (i0 : -9223372036854775808 ≤ i) (i1 : i ≤ 9223372036854775807) :
    Calls Tryz.prog 48 #[.agg (machCells R M), Q.v, .int .i64 i] w (Ret (.tuple #[.int .i64 (forceE M C i).1, .int .i64 (forceE M C i).2.1, .int .i64 (forceE M C i).2.2]) w) := by
  cases h1 : validC M C with
  | false => exact mforce_bad R M Q C i w hM hC i0 i1 (Or.inl h1)
  | true =>
    cases h2 : wthn i 0 ((M.coils.length : Int) - 1) with
    | false => exact mforce_bad R M Q C i w hM hC i0 i1 (Or.inr h2)
    | true =>
      have hw := wthn_iff.1 h2
      have hv := fit2_iff.1 h1
      have hn : i.toNat < M.coils.length := by omega
      have hn2 : i.toNat < C.coils.length := by rw [hv.coils.1]; exact hn
      have e : ((i.toNat : Nat) : Int) = i := by omega
      have h := mforce_val R M Q C i.toNat M.coils[i.toNat] C.coils[i.toNat] w hM hC hv (List.getElem?_eq_getElem hn) (List.getElem?_eq_getElem hn2)
      rw [e] at h
      simpa [forceE, h1, h2, List.getElem?_eq_getElem hn, List.getElem?_eq_getElem hn2] using h

end Go.Proofs.YtjjajleiladbhaaGreatDoor
end
section
/- Package machine: Linked, CellAt, over this seat's translation (written by ax_mh.py). -/
namespace Go.Proofs.YtjjajleiladbhaaGreatDoor
set_option linter.unusedVariables false
set_option linter.unusedSimpArgs false
open Go.RowKit

def midE (M : MachD) : Int := (M.grid.nr * M.grid.nz).tdiv 2
/-- the coils' currents alone -/
def aloneC (M : MachD) (C : CurD) : CurD := ⟨C.coils, List.replicate M.shells.length 0, List.replicate (M.grid.nr * M.grid.nz).toNat 0⟩
def linkedE (M : MachD) (C : CurD) : Int × Int := if validC M C = true then (fluxP (cellR M.grid (midE M), cellZ M.grid (midE M)) (srcM M (aloneC M C)), 0) else (0, 1)
theorem tot_zeros : ∀ n : Nat, tot 0 (List.replicate n (0 : Int)) = 0
  | 0 => rfl
  | n + 1 => by
    simp only [List.replicate_succ, tot]
    rw [show wrap64 (0 + 0) = 0 from by go_arith]
    exact tot_zeros n
theorem alone_fit {M : MachD} {C : CurD} (h : Fit2 M C) : Fit2 M (aloneC M C) := by
  have hg := cells_fine (sound_of h.check).grid
  refine ⟨h.check, h.coils, ⟨by simp [aloneC], fun x hx => ?_⟩, ⟨by simp [aloneC]; omega, fun x hx => ?_⟩, by simp [aloneC, tot_zeros]⟩
  · obtain ⟨_, rfl⟩ := List.mem_replicate.1 hx; omega
  · obtain ⟨_, rfl⟩ := List.mem_replicate.1 hx; omega
theorem flat_ints : ∀ n : Nat, (List.replicate n (0 : Int)).flatMap intCells = List.replicate n (.int .i64 0)
  | 0 => rfl
  | n + 1 => by rw [List.replicate_succ, List.replicate_succ, List.flatMap_cons, flat_ints n]; rfl

set_option maxRecDepth 100000 in
theorem linked_any (R : MachR) (M : MachD) (Q : CurR) (C : CurD) (w : World) (hM : IsM w R M) (hC : IsC w Q C) : Calls Tryz.prog 46 #[(.agg (machCells R M)), Q.v] w (Ret (.tuple #[.int .i64 (linkedE M C).1, .int .i64 (linkedE M C).2]) w) := by
  refine calls_ax (vs := [(.agg (machCells R M)), Q.v]) Tryz.func46 rfl rfl ?_
  refine ac_seq ?_
  refine ac_region ?_
  refine al_new (fun b => .pointer (some ⟨b, 0, none⟩)) (r_box rfl rfl) rfl rfl rfl ?_
  intro b1
  refine al_new (fun b => .pointer (some ⟨b, 0, none⟩)) (r_box rfl rfl) rfl rfl rfl ?_
  intro b2
  refine al_q (q_assign rfl) rfl rfl rfl ?_
  refine al_q (q_assign rfl) rfl rfl rfl ?_
  refine al_end ?_
  refine aq_then ?_
  refine ac_seq ?_
  refine ac_seq ?_
  refine ac_region ?_
  refine al_q (q_loadAll (i := 1) rfl rfl Tryz.isAgg29 Tryz.sizeOf29 rfl) rfl rfl rfl ?_
  refine al_q (q_loadAll (i := 0) rfl rfl Tryz.isAgg34 Tryz.sizeOf34 rfl) rfl rfl rfl ?_
  refine al_call Tryz.call38 (.cons rfl (.cons rfl .nil)) rfl rfl (fun w1 hs1 => ?_)
  refine (validCurrents_any R M Q C _ (hM.below hs1.below) (hC.below hs1.below)).mono ?_
  rintro e u1 ⟨rfl, hb_1⟩
  refine ⟨_, rfl, hb_1, ?_⟩
  clear hs1
  refine al_q (q_not rfl) rfl rfl rfl ?_
  refine al_end ?_
  refine aq_then ?_
  refine ac_cond rfl (fun h1 => ?_) (fun h1 => ?_)
  · refine ac_seq ?_
    refine ac_region ?_
    refine al_q (q_assign rfl) rfl rfl rfl ?_
    refine al_q (q_assign rfl) rfl rfl rfl ?_
    refine al_end ?_
    refine aq_then ?_
    refine ac_ret ?_
    refine aq_thenR ?_
    refine ret2 Tryz.results46 rfl rfl (fun w9 hs => ?_)
    refine ⟨?_, hs.below⟩; simp_all [linkedE]
  · have hv : Fit2 M C := fit2_iff.1 (by simpa using h1)
    have hs0 := sound_of hv.check
    have hg := cells_fine hs0.grid
    have hss := hs0.shells.1
    have hlb := hM.shells.1
    have hmid : 0 ≤ midE M ∧ midE M ≤ 1000 := by unfold midE; rw [Int.tdiv_eq_ediv_of_nonneg (by omega)]; omega
    refine ac_skip ?_
    refine aq_then ?_
    refine ac_seq ?_
    refine ac_region ?_
    refine al_q (q_loadAll (i := 1) rfl rfl Tryz.isAgg29 Tryz.sizeOf29 rfl) rfl rfl rfl ?_
    refine al_callS Tryz.call36 (.cons rfl .nil) rfl rfl (fun w2 hs2 => ?_)
    refine (quiet_ok R M _ (hM.below hs2.below) hv.check).mono ?_
    rintro e u2 ⟨x1, x2, x3, rfl, hb_2⟩
    refine ⟨_, _, _, rfl, hs2.gift hb_2, ?_⟩
    refine al_new (fun b => .pointer (some ⟨b, 0, none⟩)) (r_alloc Tryz.zeroValue34 rfl) rfl rfl rfl ?_
    intro b3
    refine al_storeAll (i := 0) rfl rfl rfl rfl Tryz.sizeOf34 rfl rfl .k0 rfl ?_
    refine al_end ?_
    refine aq_then ?_
    refine ac_seq ?_
    refine ac_region ?_
    refine al_q (q_fieldAddr 0 rfl Tryz.runUnderlying34 rfl Tryz.sizeOf32 (by decide) rfl) rfl rfl rfl ?_
    refine al_q (q_load (i := 4) rfl rfl rfl Tryz.isAgg32) rfl rfl rfl ?_
    refine al_q (q_fieldAddr 0 rfl Tryz.runUnderlying34 rfl Tryz.sizeOf32 (by decide) rfl) rfl rfl rfl ?_
    refine al_store1 (i := 0) rfl rfl rfl rfl Tryz.sizeOf32 .k0 .k0 rfl ?_
    refine al_end ?_
    refine aq_then ?_
    refine ac_seq ?_
    refine ac_draw 11 (by kernel_rfl) (by kernel_rfl) ?_
    refine ah_take 0 (fun w9 hs => hs) rfl rfl rfl (by kernel_rfl) (by kernel_rfl) (by kernel_rfl) (fun _ _ _ h => h) rfl (q_loadAll (i := 5) rfl rfl Tryz.isAgg29 Tryz.sizeOf29 rfl) ?_
    refine ah_take 1 (fun w9 hs => hs) rfl rfl rfl (by kernel_rfl) (by kernel_rfl) (by kernel_rfl) (fun _ _ _ h => h) rfl (q_loadAll (i := 0) rfl rfl Tryz.isAgg34 Tryz.sizeOf34 rfl) ?_
    refine ah_take 2 (fun w9 hs => hs) rfl rfl rfl (by kernel_rfl) (by kernel_rfl) (by kernel_rfl) (fun _ _ _ h => h) rfl (q_fieldAddr 4 rfl Tryz.runUnderlying29 rfl Tryz.sizeOf26 (by decide) rfl) ?_
    refine ah_take 3 (fun w9 hs => hs) rfl rfl rfl (by kernel_rfl) (by kernel_rfl) (by kernel_rfl) (fun _ _ _ h => h) rfl (q_loadSub (i := 5) rfl rfl Tryz.isAgg26 Tryz.sizeOf26 .k4 .k5) ?_
    refine ah_take 4 (fun w9 hs => hs) rfl rfl rfl (by kernel_rfl) (by kernel_rfl) (by kernel_rfl) (fun _ _ _ h => h) rfl (q_fieldAddr 4 rfl Tryz.runUnderlying29 rfl Tryz.sizeOf26 (by decide) rfl) ?_
    refine ah_take 5 (fun w9 hs => hs) rfl rfl rfl (by kernel_rfl) (by kernel_rfl) (by kernel_rfl) (fun _ _ _ h => h) rfl (q_loadSub (i := 5) rfl rfl Tryz.isAgg26 Tryz.sizeOf26 .k4 .k5) ?_
    refine ah_one 6 rfl (by kernel_rfl) (fun hok1 hcl1 => ?_)
    refine al_call Tryz.call75 (.cons rfl .nil) rfl rfl (fun w3 hs3 => ?_)
    refine (cells_any M.grid _ (by omega) (by omega)).mono ?_
    rintro e u3 ⟨rfl, hb_3⟩
    refine ⟨_, rfl, hb_3, ?_⟩
    clear hs3
    refine al_end (ah_back hok1 hcl1 (fun w9 hs => (hs.fewer 1 rfl)) ?_)
    refine ah_take 7 (fun w9 hs => (hs.fewer 1 rfl)) rfl rfl rfl (by kernel_rfl) (by kernel_rfl) (by kernel_rfl) (fun _ _ _ h => h) rfl (q_quo rfl rfl (by omega)) ?_
    refine ah_one 8 rfl (by kernel_rfl) (fun hok2 hcl2 => ?_)
    refine al_call Tryz.call76 (.cons rfl (.cons rfl .nil)) rfl rfl (fun w4 hs4 => ?_)
    refine (cellPlace_any M.grid (midE M) _ hs0.grid (by omega) (by omega)).mono ?_
    rintro e u4 ⟨rfl, hb_4⟩
    refine ⟨_, rfl, hb_4, ?_⟩
    clear hs4
    refine al_end (ah_back hok2 hcl2 (fun w9 hs => (hs.fewer 2 rfl)) ?_)
    refine ah_one 9 rfl (by kernel_rfl) (fun hok3 hcl3 => ?_)
    refine al_call Tryz.call84 (.cons rfl (.cons rfl (.cons rfl .nil))) rfl rfl (fun w5 hs5 => ?_)
    have hq : IsC w5 ⟨Q.A, some ⟨x2, 0, none⟩, some ⟨x3, 0, none⟩, Q.la, Q.ca, R.lb, R.lb, (M.grid.nr * M.grid.nz).toNat, (M.grid.nr * M.grid.nz).toNat⟩ (aloneC M C) :=
      ⟨hC.coils.below hs5.below, isT_box0 (n := 1) (enc := intCells) (fun _ => rfl) (hs5.at 2 rfl) (by rw [← hlb]; exact flat_ints _) (by simp [aloneC, hlb]), isT_box0 (n := 1) (enc := intCells) (fun _ => rfl) (hs5.at 3 rfl) (flat_ints _) (by simp [aloneC]), hC.la, Nat.le_refl _, Nat.le_refl _, hC.ca, by simp only; omega, by simp only; omega, hC.ka, by simp only; omega, by simp only; omega⟩
    refine (fluxAt_any R M _ (aloneC M C) _ _ _ (hM.below hs5.below) hq (alone_fit hv)).mono ?_
    rintro e u5 ⟨rfl, hb_5⟩
    refine ⟨_, rfl, hb_5, ?_⟩
    clear hs5
    refine al_end (ah_back hok3 hcl3 (fun w9 hs => (hs.fewer 3 rfl)) ?_)
    refine ah_one 10 rfl (by kernel_rfl) (fun hok4 hcl4 => ?_)
    refine al_q (q_assign rfl) rfl rfl rfl ?_
    refine al_end (ah_back hok4 hcl4 (fun w9 hs => (hs.fewer 3 rfl)) ?_)
    refine ah_one 11 rfl (by kernel_rfl) (fun hok5 hcl5 => ?_)
    refine al_q (q_assign rfl) rfl rfl rfl ?_
    refine al_end (ah_last (by kernel_rfl) ?_)
    refine aq_then ?_
    refine ac_ret ?_
    refine ret2 Tryz.results46 rfl rfl (fun w9 hs => ?_)
    refine ⟨?_, hs.below⟩; simp [linkedE, fit2_iff.2 hv]

def cellAtF (g : GridD) (p0 p1 : Int) (k : Nat) : Nat → Int
  | 0 => -1
  | f + 1 => if cellR g k = p0 ∧ cellZ g k = p1 then (k : Int) else cellAtF g p0 p1 (k + 1) f
def cellAtE (M : MachD) (p0 p1 : Int) : Int := cellAtF M.grid p0 p1 0 (cellsN M).toNat

set_option maxRecDepth 100000 in
theorem mch_eq_eql_apiPoint (a0 b0 : Int) (a1 b1 : Int) : ∀ w, (binOp .eql 40 (.agg #[.int .i64 a0, .int .i64 a1]) (.agg #[.int .i64 b0, .int .i64 b1])).run Tryz.prog w = .ok (.bool (decide (a0 = b0 ∧ a1 = b1))) w := by
  intro w
  have e : binOp .eql 40 (.agg #[.int .i64 a0, .int .i64 a1]) (.agg #[.int .i64 b0, .int .i64 b1]) = (do pure (.bool (← Op.equal 40 (.agg #[.int .i64 a0, .int .i64 a1]) (.agg #[.int .i64 b0, .int .i64 b1]))) : Sem Value) := rfl
  have h : ∀ w, (Op.equal 40 (.agg #[.int .i64 a0, .int .i64 a1]) (.agg #[.int .i64 b0, .int .i64 b1])).run Tryz.prog w = .ok (decide (a0 = b0 ∧ a1 = b1)) w := by
    intro w
    show (Op.equalIn 10000 40 _ _).run _ w = _
    rw [run_equalIn_struct w 9999 40 _ _ (by kernel_rfl) (by kernel_rfl)]
    simp [Program.fieldsOf, Tryz.underlying40, Op.eqFields, go_sem, Tryz.underlying3, Tryz.isAgg3, Tryz.sizeOf3, str_eq]
    by_cases h0 : a0 = b0 <;> by_cases h1 : a1 = b1 <;> simp [h0, h1]
  rw [e]; simp [h]

set_option maxRecDepth 100000 in
theorem cellAt_any (R : MachR) (M : MachD) (p0 p1 : Int) (w : World) (hM : IsM w R M) : Calls Tryz.prog 28 #[(.agg (machCells R M)), (.agg #[.int .i64 p0, .int .i64 p1])] w (Ret (.int .i64 (cellAtE M p0 p1)) w) := by
  have hN : 0 ≤ cellsN M ∧ cellsN M ≤ 64 := by
    unfold cellsN; split
    · rename_i hc; have := cells_fine (sound_of hc).grid; omega
    · omega
  have hpos : 0 < cellsN M → checkC M = 0 ∧ M.grid.Fine := fun h => by
    unfold cellsN at h; split at h
    · rename_i hc; exact ⟨hc, (sound_of hc).grid⟩
    · omega
  refine calls_ax (vs := [(.agg (machCells R M)), (.agg #[.int .i64 p0, .int .i64 p1])]) Tryz.func28 rfl rfl ?_
  refine ac_seq ?_
  refine ac_region ?_
  refine al_new (fun b => .pointer (some ⟨b, 0, none⟩)) (r_box rfl rfl) rfl rfl rfl ?_
  intro b1
  refine al_new (fun b => .pointer (some ⟨b, 0, none⟩)) (r_box rfl rfl) rfl rfl rfl ?_
  intro b2
  refine al_q (q_assign rfl) rfl rfl rfl ?_
  refine al_end ?_
  refine aq_then ?_
  refine ac_seq ?_
  refine ac_seq ?_
  refine ac_region ?_
  refine al_q (q_loadAll (i := 1) rfl rfl Tryz.isAgg29 Tryz.sizeOf29 rfl) rfl rfl rfl ?_
  refine al_call Tryz.call22 (.cons rfl .nil) rfl rfl (fun w1 hs1 => ?_)
  refine (mcells_any R M _ (hM.below hs1.below)).mono ?_
  rintro e u1 ⟨rfl, hb_1⟩
  refine ⟨_, rfl, hb_1, ?_⟩
  clear hs1
  refine al_q (q_move rfl) rfl rfl rfl ?_
  refine al_end ?_
  refine aq_then ?_
  refine ac_block ?_
  refine ac_loop (β := Nat) (fun k => (k : Int) ≤ cellsN M ∧ cellAtF M.grid p0 p1 k ((cellsN M).toNat - k) = cellAtE M p0 p1) (fun k => [(2, (.pointer (some ⟨b1, 0, none⟩))), (3, (.pointer (some ⟨b2, 0, none⟩))), (4, (.int .i64 0)), (7, (.int .i64 (cellsN M))), (8, (.int .i64 (k : Int)))]) (fun _ => _) (fun k => [(b2, _), (b1, _)]) (fun k => (cellsN M).toNat - k) 0 ⟨by omega, rfl⟩ ⟨rfl, rfl, rfl, rfl, rfl, trivial⟩ (fun w9 hs => hs) (fun k hF1 => ?_)
  obtain ⟨hk0, hk1⟩ := hF1
  refine ac_seq ?_
  refine ac_region ?_
  refine al_q (q_lss rfl rfl) rfl rfl rfl ?_
  refine al_end ?_
  refine aq_then ?_
  refine ac_seq ?_
  refine ac_cond rfl (fun h1 => ?_) (fun h1 => ?_)
  · have hlt : (k : Int) < cellsN M := by simpa using h1
    obtain ⟨hc, hg⟩ := hpos (by omega)
    rw [show (cellsN M).toNat - k = ((cellsN M).toNat - (k + 1)) + 1 by omega] at hk1
    simp only [cellAtF] at hk1
    refine ac_skip ?_
    refine aq_then ?_
    refine ac_seq ?_
    refine ac_block ?_
    refine ac_seq ?_
    refine ac_region ?_
    refine al_q (q_move rfl) rfl rfl rfl ?_
    refine al_q (q_assign rfl) rfl rfl rfl ?_
    refine al_end ?_
    refine aq_then ?_
    refine ac_seq ?_
    refine ac_draw 5 (by kernel_rfl) (by kernel_rfl) ?_
    refine ah_take 0 (fun w9 hs => hs) rfl rfl rfl (by kernel_rfl) (by kernel_rfl) (by kernel_rfl) (fun _ _ _ h => h) rfl (q_fieldAddr 4 rfl Tryz.runUnderlying29 rfl Tryz.sizeOf26 (by decide) rfl) ?_
    refine ah_take 1 (fun w9 hs => hs) rfl rfl rfl (by kernel_rfl) (by kernel_rfl) (by kernel_rfl) (fun _ _ _ h => h) rfl (q_loadSub (i := 1) rfl rfl Tryz.isAgg26 Tryz.sizeOf26 .k4 .k5) ?_
    refine ah_take 2 (fun w9 hs => hs) rfl rfl rfl (by kernel_rfl) (by kernel_rfl) (by kernel_rfl) (fun _ _ _ h => h) rfl (q_move rfl) ?_
    refine ah_take 4 (fun w9 hs => hs) rfl rfl rfl (by kernel_rfl) (by kernel_rfl) (by kernel_rfl) (fun _ _ _ h => h) rfl (q_loadAll (i := 0) rfl rfl Tryz.isAgg40 Tryz.sizeOf40 rfl) ?_
    refine ah_one 3 rfl (by kernel_rfl) (fun hok1 hcl1 => ?_)
    refine al_call Tryz.call76 (.cons rfl (.cons rfl .nil)) rfl rfl (fun w2 hs2 => ?_)
    refine (cellPlace_any M.grid (k : Int) _ hg (by omega) (by omega)).mono ?_
    rintro e u2 ⟨rfl, hb_2⟩
    refine ⟨_, rfl, hb_2, ?_⟩
    clear hs2
    refine al_end (ah_back hok1 hcl1 (fun w9 hs => (hs.fewer 1 rfl)) ?_)
    refine ah_take 5 (fun w9 hs => (hs.fewer 1 rfl)) rfl rfl rfl (by kernel_rfl) (by kernel_rfl) (by kernel_rfl) (fun _ _ _ h => h) rfl (q_cmpS rfl rfl (by kernel_rfl) (mch_eq_eql_apiPoint _ _ _ _)) ?_
    refine ah_done (by kernel_rfl) ?_
    refine aq_then ?_
    refine ac_cond rfl (fun h2 => ?_) (fun h2 => ?_)
    · have he : cellR M.grid k = p0 ∧ cellZ M.grid k = p1 := of_decide_eq_true h2
      rw [if_pos he] at hk1
      refine ac_seq ?_
      refine ac_region ?_
      refine al_q (q_move rfl) rfl rfl rfl ?_
      refine al_q (q_assign rfl) rfl rfl rfl ?_
      refine al_end ?_
      refine aq_then ?_
      refine ac_ret ?_
      refine aq_inR ?_
      refine aq_thenR ?_
      refine aq_thenR ?_
      refine aq_inR ?_
      refine aq_thenR ?_
      refine ret1 Tryz.results28 rfl (fun w9 hs => ?_)
      exact ⟨by rw [← hk1], hs.below⟩
    · have he : ¬ (cellR M.grid k = p0 ∧ cellZ M.grid k = p1) := of_decide_eq_false h2
      rw [if_neg he] at hk1
      have hnext : ((k + 1 : Nat) : Int) ≤ cellsN M ∧ cellAtF M.grid p0 p1 (k + 1) ((cellsN M).toNat - (k + 1)) = cellAtE M p0 p1 := ⟨by omega, hk1⟩
      refine ac_skip ?_
      refine aq_inN ?_
      refine aq_then ?_
      refine ac_region ?_
      refine al_q (q_add rfl rfl (by omega)) rfl rfl rfl ?_
      refine al_q (q_move rfl) rfl rfl rfl ?_
      refine al_end ?_
      refine aq_then ?_
      skip
      refine aq_round (k + 1) (by omega) hnext ⟨rfl, rfl, rfl, rfl, rfl, trivial⟩ (fun w9 hs => (hs.fewer 1 rfl))
  · have hge : ¬ (k : Int) < cellsN M := by simpa using h1
    rw [show (cellsN M).toNat - k = 0 by omega] at hk1
    simp only [cellAtF] at hk1
    refine ac_exit ?_
    refine aq_thenE ?_
    refine aq_thenE ?_
    refine aq_hit ?_
    refine aq_then ?_
    refine ac_seq ?_
    refine ac_region ?_
    refine al_q (q_assign rfl) rfl rfl rfl ?_
    refine al_end ?_
    refine aq_then ?_
    refine ac_ret ?_
    refine ret1 Tryz.results28 rfl (fun w9 hs => ?_)
    exact ⟨by rw [← hk1], hs.below⟩

end Go.Proofs.YtjjajleiladbhaaGreatDoor
end
