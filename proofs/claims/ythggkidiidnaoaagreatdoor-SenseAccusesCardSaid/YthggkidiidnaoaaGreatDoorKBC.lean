import Derived.Test.YthggkidiidnaoaaGreatDoorKAB
import Derived.Test.YthggkidiidnaoaaGreatDoorKAM
import Derived.Test.YthggkidiidnaoaaGreatDoorKAP
import Derived.Test.YthggkidiidnaoaaGreatDoorKAQ
import Derived.Test.YthggkidiidnaoaaGreatDoorKAX
import Derived.Test.YthggkidiidnaoaaGreatDoorKAZ
import Derived.Test.YthggkidiidnaoaaGreatDoorKBA
import Derived.Test.YthggkidiidnaoaaGreatDoorKBB
import Derived.Test.YthggkidiidnaoaaGreatDoorRows
import Derived.KernelRfl
import Derived.Laws.StructEq
namespace Go.Proofs.YthggkidiidnaoaaGreatDoor
set_option linter.unusedVariables false
set_option linter.unusedSimpArgs false
section
open Go.RowKit Go.Shelf
end
section
open Go.RowKit
theorem aq_pm {E : Cfg} {U : Snaps} {l : Slots} {L M : Boxes} {X : Act → World → Prop} (hp : Pm M L) (h : AQ E U l M X) : AQ E U l L X := fun a w hf hs => h a w hf (hs.pm hp)
theorem ah_few {P : Program} {e0 : Cfg} {u : Nat × World} {U U0 : Snaps} {l : Slots} {L L0 : Boxes} {ops : Array Oper} {Q : Exit → Act → World → Prop} {last fuel : Nat} {listed : Array Bool} (k : AH P ops Q U0 L0 last fuel listed e0 U l L) : AH P ops Q U0 L0 last fuel listed e0 (u :: U) l L := fun hok hc a w hf hs => k hok hc a w hf (hs.fewer 1 rfl)
theorem hm_bl_apiSpan_ : ∀ w, (Instr.build 67 #[]).run Tryz.prog w = .ok (.agg #[(.int .i64 0), (.int .i64 0)]) w := by
 intro w; simp [Instr.build, Instr.fill, cells_agg, Tryz.runUnderlying67, Tryz.zeroValue67, Tryz.sizeOf3]
theorem hm_bl_apiSpan_0_1 (a0 a1 : Value) (ha0 : a0.oneCell' = true) (ha1 : a1.oneCell' = true) : ∀ w, (Instr.build 67 #[(0, a0), (1, a1)]).run Tryz.prog w = .ok (.agg #[a0, a1]) w := by
 have ea0 : a0.cells = #[a0] := cells_one ha0
 have ea1 : a1.cells = #[a1] := cells_one ha1
 intro w; simp [Instr.build, Instr.fill, cells_agg, Tryz.runUnderlying67, Tryz.zeroValue67, Tryz.sizeOf3, ea0, ea1]
set_option maxRecDepth 100000 in
theorem meet9_any (a b c d : Int) (w : World) : Calls Tryz.prog 61 #[(.agg #[.int .i64 a, .int .i64 b]), (.agg #[.int .i64 c, .int .i64 d])] w (Ret (.tuple #[Sp (meetL a b c d).1 (meetL a b c d).2.1, .int .i64 (meetL a b c d).2.2]) w) := by
 refine calls_ax (vs := [(.agg #[.int .i64 a, .int .i64 b]), (.agg #[.int .i64 c, .int .i64 d])]) Tryz.func61 rfl rfl ?_
 refine ac_seq (ac_region ?_)
 refine al_new (fun b => .pointer (some ⟨b, 0, none⟩)) (r_box rfl rfl) rfl rfl rfl ?_
 intro b1
 refine al_new (fun b => .pointer (some ⟨b, 0, none⟩)) (r_box rfl rfl) rfl rfl rfl ?_
 intro b2
 refine al_new (fun b => .pointer (some ⟨b, 0, none⟩)) (r_alloc Tryz.zeroValue67 rfl) rfl rfl rfl ?_
 intro b3
 refine al_p (q_assign rfl) (al_end (aq_then ?_))
 refine ac_seq (ac_seq (ac_region ?_))
 refine al_p (q_loadAll (i := 2) rfl rfl Tryz.isAgg67 Tryz.sizeOf67 rfl) (al_call Tryz.call48 (.cons rfl .nil) rfl rfl (fun w1 hs1 => ?_))
 refine (valid_any a b _).mono ?_
 rintro e u1 ⟨rfl, hb_1⟩
 refine ⟨_, rfl, hb_1, ?_⟩
 clear hs1
 refine al_p (q_not rfl) (al_p (q_move rfl) ?_)
 refine aq_split 10 rfl (fun hb1 => ?_) (fun hb1 => ?_)
 ·have q1 : vld a b = false := by simpa using hb1
  refine al_skip rfl rfl rfl (al_skip rfl rfl rfl (al_skip rfl rfl rfl (al_p (q_pickT rfl rfl) (al_end (aq_then ?_)))))
  refine ac_condT rfl (ac_seq (ac_region ?_))
  refine al_p (q_build .nil (hm_bl_apiSpan_)) (al_storeAll (i := 0) rfl rfl rfl rfl Tryz.sizeOf67 rfl rfl .k0 rfl (al_p (q_assign rfl) (al_end (aq_then ?_))))
  refine ac_ret (aq_thenR (retR Tryz.results61 (.agg (i := 0) rfl rfl Tryz.isAgg67 Tryz.sizeOf67 rfl (.tmp rfl .nil)) .two (fun w9 hs => ?_)))
  rw [show meetL a b c d = (0, 0, 1) from by unfold meetL; simp [q1]]; exact ⟨rfl, hs.below⟩
 ·have q1 : vld a b = true := by simpa using hb1
  refine al_p (q_loadAll (i := 1) rfl rfl Tryz.isAgg67 Tryz.sizeOf67 rfl) (al_call Tryz.call48 (.cons rfl .nil) rfl rfl (fun w2 hs2 => ?_))
  refine (valid_any c d _).mono ?_
  rintro e u2 ⟨rfl, hb_2⟩
  refine ⟨_, rfl, hb_2, ?_⟩
  clear hs2
  refine al_p (q_not rfl) (al_p (q_pickF rfl rfl) (al_end (aq_then ?_)))
  refine ac_cond rfl (fun h1 => ?_) (fun h1 => ?_)
  ·have q2 : vld c d = false := by simpa using h1
   refine ac_seq (ac_region ?_)
   refine al_p (q_build .nil (hm_bl_apiSpan_)) (al_storeAll (i := 0) rfl rfl rfl rfl Tryz.sizeOf67 rfl rfl .k0 rfl (al_p (q_assign rfl) (al_end (aq_then ?_))))
   refine ac_ret (aq_thenR (retR Tryz.results61 (.agg (i := 0) rfl rfl Tryz.isAgg67 Tryz.sizeOf67 rfl (.tmp rfl .nil)) .two (fun w9 hs => ?_)))
   rw [show meetL a b c d = (0, 0, 1) from by unfold meetL; simp [q1, q2]]; exact ⟨rfl, hs.below⟩
  ·have q2 : vld c d = true := by simpa using h1
   refine ac_skip (aq_then (ac_seq (ac_region ?_)))
   refine al_p (q_fieldAddr 0 rfl Tryz.runUnderlying67 rfl Tryz.sizeOf3 (by decide) rfl) (al_p (q_load (i := 2) rfl rfl rfl Tryz.isAgg3) ?_)
   refine al_p (q_fieldAddr 0 rfl Tryz.runUnderlying67 rfl Tryz.sizeOf3 (by decide) rfl) (al_p (q_load (i := 1) rfl rfl rfl Tryz.isAgg3) (al_p (q_max rfl rfl) ?_))
   refine al_p (q_fieldAddr 1 rfl Tryz.runUnderlying67 rfl Tryz.sizeOf3 (by decide) rfl) (al_p (q_load (i := 2) rfl rfl rfl Tryz.isAgg3) ?_)
   refine al_p (q_fieldAddr 1 rfl Tryz.runUnderlying67 rfl Tryz.sizeOf3 (by decide) rfl) (al_p (q_load (i := 1) rfl rfl rfl Tryz.isAgg3) (al_p (q_min rfl rfl) (al_p (q_build (.cons rfl (.cons rfl .nil)) (hm_bl_apiSpan_0_1 _ _ rfl rfl)) (al_new (fun b => .pointer (some ⟨b, 0, none⟩)) (r_alloc Tryz.zeroValue67 rfl) rfl rfl rfl ?_))))
   intro b4
   refine al_storeAll (i := 0) rfl rfl rfl rfl Tryz.sizeOf67 rfl rfl .k0 rfl (al_end (aq_then ?_))
   refine ac_seq (ac_seq (ac_region ?_))
   refine al_p (q_loadAll (i := 0) rfl rfl Tryz.isAgg67 Tryz.sizeOf67 rfl) (al_call Tryz.call48 (.cons rfl .nil) rfl rfl (fun w3 hs3 => ?_))
   refine (valid_any (max a c) (min b d) _).mono ?_
   rintro e u3 ⟨rfl, hb_3⟩
   refine ⟨_, rfl, hb_3, ?_⟩
   clear hs3
   refine al_p (q_not rfl) (al_end (aq_then ?_))
   refine ac_cond rfl (fun h2 => ?_) (fun h2 => ?_)
   ·have q3 : ¬ max a c ≤ min b d := fun h9 => by rw [show vld (max a c) (min b d) = true from vld_iff.2 (by have := vld_iff.1 q1; have := vld_iff.1 q2; omega)] at h2; cases h2
    refine ac_seq (ac_region ?_)
    refine al_p (q_build .nil (hm_bl_apiSpan_)) (al_storeAll (i := 1) rfl rfl rfl rfl Tryz.sizeOf67 rfl rfl .k1 rfl (al_p (q_assign rfl) (al_end (aq_then ?_))))
    refine ac_ret (aq_thenR (retR Tryz.results61 (.agg (i := 1) rfl rfl Tryz.isAgg67 Tryz.sizeOf67 rfl (.tmp rfl .nil)) .two (fun w9 hs => ?_)))
    rw [show meetL a b c d = (0, 0, 8) from by unfold meetL; simp [q1, q2, q3]]; exact ⟨rfl, hs.below⟩
   ·have q3 : max a c ≤ min b d := by have := vld_iff.1 (by simpa using h2 : vld (max a c) (min b d) = true); omega
    refine ac_skip (aq_then (ac_seq (ac_region ?_)))
    refine al_p (q_loadAll (i := 0) rfl rfl Tryz.isAgg67 Tryz.sizeOf67 rfl) (al_storeAll (i := 1) rfl rfl rfl rfl Tryz.sizeOf67 rfl rfl .k1 rfl (al_p (q_assign rfl) (al_end (aq_then ?_))))
    refine ac_ret (retR Tryz.results61 (.agg (i := 1) rfl rfl Tryz.isAgg67 Tryz.sizeOf67 rfl (.tmp rfl .nil)) .two (fun w9 hs => ?_))
    rw [show meetL a b c d = (max a c, min b d, 0) from by unfold meetL; simp [q1, q2, q3]]; exact ⟨rfl, hs.below⟩
end
section
open Go.RowKit Go.Shelf
set_option maxHeartbeats 2000000 in
theorem validFaults_nil (R : MachR) (M : MachD) (w : World) (hM : IsM w R M) (hc : checkC M = 0) :
  Calls Tryz.prog 41 #[.agg (machCells R M), .slice none 0 0] w (Ret (.bool true) w) := by
 have H0 := Lib.hid (fun W (hb : Below w.heap.size w W) => by have := check_any R M W (hM.below hb); rw [hc] at this; exact this)
 have HF := Lib.hid (fun (c0 : Nat) W => containsFault1 76 c0 (fun _ => false) none 0 0 [] W (IsT.nil _ _ _ _) (by omega) (fun args W => enters_of Tryz.func76 (by kernel_rfl) rfl args W) (fun x W' hx => by cases hx))
 clear hM hc
 obtain ⟨A, B, C, D, la, ca, lb, cb, lc, cc, ld, cd⟩ := R
 obtain ⟨name, coils, shells, limits, ⟨r, z, nr, nz, step⟩, sensors⟩ := M
 have H0 := Lib.hid (show ∀ W, Below w.heap.size w W → Calls Tryz.prog 71 #[.agg #[.string name, .slice A la ca, .slice B lb cb, .slice C lc cc, .int .i64 r, .int .i64 z, .int .i64 nr, .int .i64 nz, .int .i64 step, .slice D ld cd]] W (Ret (.int .i64 0) W) from H0.out)
 show Calls Tryz.prog 41 #[.agg #[.string name, .slice A la ca, .slice B lb cb, .slice C lc cc, .int .i64 r, .int .i64 z, .int .i64 nr, .int .i64 nz, .int .i64 step, .slice D ld cd], .slice none 0 0] w _
 go_enter Tryz.func41, Tryz.ntmps41
 go_wp2_with (first | (go_at_call 71; refine (H0.out _ (by (repeat first | with_reducible exact Below.refl _ _ | (with_reducible refine Below.alloc ?_ ?_ _; rotate_left; exact (by omega))))).mono ?_; rintro e w1 ⟨rfl, hb⟩; have hB : Below w.heap.size w w1 := Below.trans (by (repeat first | with_reducible exact Below.refl _ _ | (with_reducible refine Below.alloc ?_ ?_ _; rotate_left; exact (by omega)))) (hb.mono (by (simp; done))); obtain ⟨hc, hf⟩ := bcell hb; have hs := hb.size; clear hb; (try simp only [World.size_alloc, World.size_setCell] at hc hf); (try simp only [World.size_alloc, World.size_setCell] at hs); (try have hs' := Nat.lt_of_succ_le hs); (try have hs0 : w.heap.size < w1.heap.size := by omega); (try have hs1 : w.heap.size + 1 < w1.heap.size := by omega); (try have hs2 : w.heap.size + 1 + 1 < w1.heap.size := by omega); (try have hs3 : w.heap.size + 1 + 1 + 1 < w1.heap.size := by omega)) | (go_at_call 75; refine (HF.out _ _).mono ?_; rintro e w1 ⟨rfl, hb⟩; have hB : Below w.heap.size w w1 := Below.trans (by (repeat with_reducible assumption)) (hb.mono (by omega)); obtain ⟨hc, hf⟩ := bcell hb; have hs := hb.size; clear hb; (try simp only [World.size_alloc, World.size_setCell] at hc hf); (try simp only [World.size_alloc, World.size_setCell] at hs); (try have hs' := Nat.lt_of_succ_le hs); (try have hs0 : w.heap.size < w1.heap.size := by omega); (try have hs1 : w.heap.size + 1 < w1.heap.size := by omega); (try have hs2 : w.heap.size + 1 + 1 < w1.heap.size := by omega); (try have hs3 : w.heap.size + 1 + 1 + 1 < w1.heap.size := by omega)))
 go_ret
 exact ⟨rfl, by (repeat with_reducible assumption)⟩
set_option maxHeartbeats 1000000 in
theorem faulty_nil (v k t : Int) (w : World) :
  Calls Tryz.prog 43 #[.int .i64 v, .slice none 0 0, .int .i64 k, .int .i64 t] w fun e w' => e = .returned (.int .i64 v) ∧ w = w' := by
 go_enter Tryz.func43, Tryz.ntmps43
 go_wp2
 go_loop [0, 13] (fun x i => x = .int .i64 v ∧ i = .int .i64 0) (fun _ _ => 0)
 case atStart => exact ⟨rfl, rfl⟩
 case round =>
  obtain ⟨rfl, rfl⟩ := hrel
  go_wp2
  go_ret
  exact ⟨rfl, rfl⟩
set_option maxHeartbeats 2000000 in
theorem mix_zero (w : World) :
  Calls Tryz.prog 44 #[.int .u32 0, .int .u32 0, .int .u32 0] w fun e w' => e = .returned (.int .u32 0) ∧ w = w' := by
 have i0 : ∀ w, (Instr.index 144 (.agg #[.int .u32 0, .int .u32 0]) (.int .i64 0)).run Tryz.prog w = .ok (.int .u32 0) w := fun _ => by kernel_rfl
 have i1 : ∀ w, (Instr.index 144 (.agg #[.int .u32 0, .int .u32 0]) (.int .i64 1)).run Tryz.prog w = .ok (.int .u32 0) w := fun _ => by kernel_rfl
 have hx : bits BinOp.xor IntKind.u32 0 0 = 0 := by kernel_rfl
 go_enter Tryz.func44, Tryz.ntmps44
 go_wp2
 go_loop [7, 9, 14] (fun h _ i => ∃ k : Nat, k ≤ 2 ∧ i = .int .i64 k ∧ h = .int .u32 0) (fun _ _ i => 2 - (intOf i).toNat)
 case atStart => exact ⟨0, by omega, rfl, rfl⟩
 case round =>
  obtain ⟨k, hk, rfl, rfl⟩ := hrel
  obtain rfl | rfl | rfl : k = 0 ∨ k = 1 ∨ k = 2 := by omega
  ·go_wp2
   go_round
   case rel => exact ⟨1, by omega, rfl, rfl⟩
   case measure => simp [intOf]
  ·go_wp2
   go_round
   case rel => exact ⟨2, by omega, rfl, rfl⟩
   case measure => simp [intOf]
  ·go_wp2
   go_ret
   exact ⟨rfl, rfl⟩
end
section
open Go.RowKit Go.Shelf
def exM : MachD := ⟨⟨#[97]⟩, [], [], [⟨9, 0⟩], ⟨3, 4, 1, 1, 1⟩, [⟨⟨#[115]⟩, 1, 0, 0, 0⟩]⟩
def exC : CurD := ⟨[], [], [2]⟩
theorem exM_ok : checkC exM = 0 := by kernel_rfl
theorem exC_ok : validC exM exC = true := by kernel_rfl
theorem ex_flux : fluxW (0, 0) 0 (cellSrc ⟨3, 4, 1, 1, 1⟩ [2] 1) = 68964 := by kernel_rfl
set_option maxRecDepth 100000 in
set_option maxHeartbeats 8000000 in
theorem read_ex (x y z : Nat) (w : World) (hM : IsM w ⟨none, none, some ⟨x, 0, none⟩, some ⟨y, 0, none⟩, 0, 0, 0, 0, 1, 1, 1, 1⟩ exM) (hC : IsC w ⟨none, none, some ⟨z, 0, none⟩, 0, 0, 0, 0, 1, 1⟩ exC) :
  Calls Tryz.prog 16 #[.agg #[.string ⟨#[97]⟩, .slice none 0 0, .slice none 0 0, .slice (some ⟨x, 0, none⟩) 1 1, .int .i64 3, .int .i64 4, .int .i64 1, .int .i64 1, .int .i64 1, .slice (some ⟨y, 0, none⟩) 1 1], .agg #[.slice none 0 0, .slice none 0 0, .slice (some ⟨z, 0, none⟩) 1 1], .agg #[.int .u32 0, .slice none 0 0, .slice none 0 0], .int .i64 0] w
   fun e w' => ∃ b, e = .returned (.tuple #[.slice (some ⟨b, 0, none⟩) 1 1, .int .i64 0]) ∧ w.heap.size ≤ b ∧ b < w'.heap.size ∧ w'.cell? ⟨b, 0, none⟩ = some (.int .i64 68964) ∧ w'.cell? ⟨b, 1, none⟩ = some (.int .i64 68964) ∧ Below w.heap.size w w' := by
 have HV := Lib.hid (fun W (hb : Below w.heap.size w W) => show Calls Tryz.prog 40 #[.agg #[.string ⟨#[97]⟩, .slice none 0 0, .slice none 0 0, .slice (some ⟨x, 0, none⟩) 1 1, .int .i64 3, .int .i64 4, .int .i64 1, .int .i64 1, .int .i64 1, .slice (some ⟨y, 0, none⟩) 1 1], .agg #[.slice none 0 0, .slice none 0 0, .slice (some ⟨z, 0, none⟩) 1 1]] W (Ret (.bool true) W) from by
  have := validCurrents_any _ _ _ _ W (hM.below hb) (hC.below hb); rw [exC_ok] at this; exact this)
 have HF := Lib.hid (fun W (hb : Below w.heap.size w W) => show Calls Tryz.prog 41 #[.agg #[.string ⟨#[97]⟩, .slice none 0 0, .slice none 0 0, .slice (some ⟨x, 0, none⟩) 1 1, .int .i64 3, .int .i64 4, .int .i64 1, .int .i64 1, .int .i64 1, .slice (some ⟨y, 0, none⟩) 1 1], .slice none 0 0] W (Ret (.bool true) W) from by
  have := validFaults_nil _ _ W (hM.below hb) exM_ok; exact this)
 have HE := Lib.hid (fun W (hb : Below w.heap.size w W) => show Calls Tryz.prog 42 #[.agg #[.string ⟨#[97]⟩, .slice none 0 0, .slice none 0 0, .slice (some ⟨x, 0, none⟩) 1 1, .int .i64 3, .int .i64 4, .int .i64 1, .int .i64 1, .int .i64 1, .slice (some ⟨y, 0, none⟩) 1 1], .agg #[.slice none 0 0, .slice none 0 0, .slice (some ⟨z, 0, none⟩) 1 1], .int .i64 0] W (Ret (.tuple #[.int .i64 68964, .int .i64 0]) W) from by
  have := exact_flux ⟨#[97]⟩ none none (some ⟨x, 0, none⟩) (some ⟨y, 0, none⟩) 0 0 1 1 1 1 ⟨3, 4, 1, 1, 1⟩ [⟨9, 0⟩] [⟨⟨#[115]⟩, 1, 0, 0, 0⟩] none none (some ⟨z, 0, none⟩) 0 0 0 0 1 1 [] [] [2] 0 ⟨⟨#[115]⟩, 1, 0, 0, 0⟩ W (hM.below hb) (hC.below hb) exC_ok rfl rfl
  rw [ex_flux] at this; exact this)
 have HY : Hid (y < w.heap.size ∧ w.cell? ⟨y, 0, none⟩ = some (.string ⟨#[115]⟩) ∧ w.cell? ⟨y, 1, none⟩ = some (.int .i64 1) ∧ w.cell? ⟨y, 2, none⟩ = some (.int .i64 0) ∧ w.cell? ⟨y, 3, none⟩ = some (.int .i64 0) ∧ w.cell? ⟨y, 4, none⟩ = some (.int .i64 0)) := by
  obtain ⟨b, o, hD, hb0, hcl⟩ := hM.sensors.2 (show 0 < 1 by omega)
  dsimp only at hD
  injection hD with hD
  injection hD with h1 h2 _
  subst h1
  subst h2
  have c0 := hcl 0 ⟨⟨#[115]⟩, 1, 0, 0, 0⟩ rfl 0 _ rfl
  have c1 := hcl 0 ⟨⟨#[115]⟩, 1, 0, 0, 0⟩ rfl 1 _ rfl
  have c2 := hcl 0 ⟨⟨#[115]⟩, 1, 0, 0, 0⟩ rfl 2 _ rfl
  have c3 := hcl 0 ⟨⟨#[115]⟩, 1, 0, 0, 0⟩ rfl 3 _ rfl
  have c4 := hcl 0 ⟨⟨#[115]⟩, 1, 0, 0, 0⟩ rfl 4 _ rfl
  exact Lib.hid ⟨hb0, by simpa using c0, by simpa using c1, by simpa using c2, by simpa using c3, by simpa using c4⟩
 clear hM hC
 have wt : wthn 0 0 1000000000 = true := by decide
 have hmk : ∀ w, (Instr.makeSlice 33 (.int .i64 1) (.int .i64 1)).run Tryz.prog w = .ok (.slice (some ⟨w.heap.size, 0, none⟩) 1 1) (w.alloc (.cells #[.int .i64 0, .int .i64 0] 67)) := fun _ => by kernel_rfl
 have hmk : ∀ w, (Instr.makeSlice 33 (.int .i64 1) (.int .i64 1)).run Tryz.prog w = .ok (.slice (some ⟨w.heap.size, 0, none⟩) 1 1) (w.alloc (.cells #[.int .i64 0, .int .i64 0] 67)) := fun _ => by kernel_rfl
 have hmk : ∀ w, (Instr.makeSlice 33 (.int .i64 1) (.int .i64 1)).run Tryz.prog w = .ok (.slice (some ⟨w.heap.size, 0, none⟩) 1 1) (w.alloc (.cells #[.int .i64 0, .int .i64 0] 67)) := fun _ => by kernel_rfl
 have hmk : ∀ w, (Instr.makeSlice 33 (.int .i64 1) (.int .i64 1)).run Tryz.prog w = .ok (.slice (some ⟨w.heap.size, 0, none⟩) 1 1) (w.alloc (.cells #[.int .i64 0, .int .i64 0] 67)) := fun _ => by kernel_rfl
 have hmk : ∀ w, (Instr.makeSlice 33 (.int .i64 1) (.int .i64 1)).run Tryz.prog w = .ok (.slice (some ⟨w.heap.size, 0, none⟩) 1 1) (w.alloc (.cells #[.int .i64 0, .int .i64 0] 67)) := fun _ => by kernel_rfl
 have hmk : ∀ w, (Instr.makeSlice 33 (.int .i64 1) (.int .i64 1)).run Tryz.prog w = .ok (.slice (some ⟨w.heap.size, 0, none⟩) 1 1) (w.alloc (.cells #[.int .i64 0, .int .i64 0] 67)) := fun _ => by kernel_rfl
 have hmk : ∀ w, (Instr.makeSlice 33 (.int .i64 1) (.int .i64 1)).run Tryz.prog w = .ok (.slice (some ⟨w.heap.size, 0, none⟩) 1 1) (w.alloc (.cells #[.int .i64 0, .int .i64 0] 67)) := fun _ => by kernel_rfl
 have hmk : ∀ w, (Instr.makeSlice 33 (.int .i64 1) (.int .i64 1)).run Tryz.prog w = .ok (.slice (some ⟨w.heap.size, 0, none⟩) 1 1) (w.alloc (.cells #[.int .i64 0, .int .i64 0] 67)) := fun _ => by kernel_rfl
 go_enter Tryz.func16, Tryz.ntmps16
 go_wp2_with (first | (go_at_call 40; refine (HV.out _ (by (repeat first | with_reducible exact Below.refl _ _ | (with_reducible refine Below.alloc ?_ ?_ _; rotate_left; exact (by first | omega | (simp; done) | (simp; omega)))))).mono ?_; rintro e w1 ⟨rfl, hb⟩; have hB : Below w.heap.size w w1 := Below.trans (by (repeat first | with_reducible exact Below.refl _ _ | (with_reducible refine Below.alloc ?_ ?_ _; rotate_left; exact (by first | omega | (simp; done) | (simp; omega))))) (hb.mono (by (simp; omega))); obtain ⟨hc, hf⟩ := bcell hb; have hs := hb.size; clear hb; (try simp only [World.size_alloc, World.size_setCell] at hc hf); (try simp only [World.size_alloc, World.size_setCell] at hs); (try have hs' := Nat.lt_of_succ_le hs); (try have hs0 : w.heap.size < w1.heap.size := by omega); (try have hs1 : w.heap.size + 1 < w1.heap.size := by omega); (try have hs2 : w.heap.size + 1 + 1 < w1.heap.size := by omega); (try have hs3 : w.heap.size + 1 + 1 + 1 < w1.heap.size := by omega)) | (go_at_call 41; refine (HF.out _ (by (repeat with_reducible assumption))).mono ?_; rintro e w1 ⟨rfl, hb⟩; have hB : Below w.heap.size w w1 := Below.trans (by (repeat with_reducible assumption)) (hb.mono (by omega)); obtain ⟨hc, hf⟩ := bcell hb; have hs := hb.size; clear hb; (try simp only [World.size_alloc, World.size_setCell] at hc hf); (try simp only [World.size_alloc, World.size_setCell] at hs); (try have hs' := Nat.lt_of_succ_le hs); (try have hs0 : w.heap.size < w1.heap.size := by omega); (try have hs1 : w.heap.size + 1 < w1.heap.size := by omega); (try have hs2 : w.heap.size + 1 + 1 < w1.heap.size := by omega); (try have hs3 : w.heap.size + 1 + 1 + 1 < w1.heap.size := by omega)) | (go_at_call 32; refine (swithin_any _ _ _ _).mono ?_; rintro e w1 ⟨rfl, rfl⟩))
 clear hmk
 obtain ⟨X, hX⟩ : ∃ X, w1.heap.size = X := ⟨_, rfl⟩
 have hX0 : w.heap.size + 1 + 1 < X := by omega
 rw [hX]
 have HX := Lib.hid hX
 clear hX
 go_loopw [11, 12, 13, 14, 36] (fun _ _ _ _ i wr => (i = .int .i64 0 ∧ (wr.cell? ⟨w.heap.size, 0, none⟩ = some (.string ⟨#[97]⟩) ∧ wr.cell? ⟨w.heap.size, 1, none⟩ = some (.slice none 0 0) ∧ wr.cell? ⟨w.heap.size, 2, none⟩ = some (.slice none 0 0) ∧ wr.cell? ⟨w.heap.size, 3, none⟩ = some (.slice (some ⟨x, 0, none⟩) 1 1) ∧ wr.cell? ⟨w.heap.size, 4, none⟩ = some (.int .i64 3) ∧ wr.cell? ⟨w.heap.size, 5, none⟩ = some (.int .i64 4) ∧ wr.cell? ⟨w.heap.size, 6, none⟩ = some (.int .i64 1) ∧ wr.cell? ⟨w.heap.size, 7, none⟩ = some (.int .i64 1) ∧ wr.cell? ⟨w.heap.size, 8, none⟩ = some (.int .i64 1) ∧ wr.cell? ⟨w.heap.size, 9, none⟩ = some (.slice (some ⟨y, 0, none⟩) 1 1) ∧ wr.cell? ⟨w.heap.size + 1, 0, none⟩ = some (.slice none 0 0) ∧ wr.cell? ⟨w.heap.size + 1, 1, none⟩ = some (.slice none 0 0) ∧ wr.cell? ⟨w.heap.size + 1, 2, none⟩ = some (.slice (some ⟨z, 0, none⟩) 1 1) ∧ wr.cell? ⟨w.heap.size + 1 + 1, 0, none⟩ = some (.int .u32 0) ∧ wr.cell? ⟨w.heap.size + 1 + 1, 1, none⟩ = some (.slice none 0 0)) ∧ Below w.heap.size w wr ∧ X < wr.heap.size ∧ ((wr).cell? ⟨X, 0, none⟩ = some (cur (wr) ⟨X, 0, none⟩) ∧ (wr).frozen? ⟨X, 0, none⟩ = false) ∧ ((wr).cell? ⟨X, 1, none⟩ = some (cur (wr) ⟨X, 1, none⟩) ∧ (wr).frozen? ⟨X, 1, none⟩ = false)) ∨ (i = .int .i64 1 ∧ Below w.heap.size w wr ∧ X < wr.heap.size ∧ wr.cell? ⟨X, 0, none⟩ = some (.int .i64 68964) ∧ wr.cell? ⟨X, 1, none⟩ = some (.int .i64 68964))) (fun _ _ _ _ i _ => 1 - (intOf i).toNat)
 case atStart =>
  have hX := HX.out
  subst hX
  exact .inl ⟨rfl, ⟨by go_simp, by go_simp, by go_simp, by go_simp, by go_simp, by go_simp, by go_simp, by go_simp, by go_simp, by go_simp, by go_simp, by go_simp, by go_simp, by go_simp, by go_simp⟩, by (repeat first | with_reducible assumption | (with_reducible refine Below.alloc ?_ ?_ _; rotate_left; exact (by omega))), (by ((try simp only [World.size_alloc, World.size_setCell, size_drew, size_drewN]); omega)), ⟨by simp only [cur_iff]; go_simp, by go_simp⟩, ⟨by simp only [cur_iff]; go_simp, by go_simp⟩⟩
 case round =>
  rcases hrel with ⟨rfl, ⟨m0, m1, m2, m3, m4, m5, m6, m7, m8, m9, c0, c1, c2, s0, s1⟩, hB', hXs, ⟨k0, q0⟩, ⟨k1, q1⟩⟩ | ⟨rfl, hB', hXs, v0, v1⟩
  ·obtain ⟨y0, Y0, Y1, Y2, Y3, Y4⟩ := HY.out
   have z0 := (hB'.cell (p := ⟨y, 0, none⟩) y0).trans Y0
   have z1 := (hB'.cell (p := ⟨y, 1, none⟩) y0).trans Y1
   have z2 := (hB'.cell (p := ⟨y, 2, none⟩) y0).trans Y2
   have z3 := (hB'.cell (p := ⟨y, 3, none⟩) y0).trans Y3
   have z4 := (hB'.cell (p := ⟨y, 4, none⟩) y0).trans Y4
   have g0 : w.heap.size < wr.heap.size := by omega
   have g1 : w.heap.size + 1 < wr.heap.size := by omega
   have g2 : w.heap.size + 1 + 1 < wr.heap.size := by omega
   clear Y0 Y1 Y2 Y3 Y4
   go_upto_region 11 with (first | (go_at_call 42; refine (HE.out _ (by (repeat first | with_reducible assumption | (with_reducible refine Below.alloc ?_ ?_ _; rotate_left; exact (by omega))))).mono ?_; rintro e w2 ⟨rfl, hb⟩; have hB2 : Below w.heap.size w w2 := Below.trans (by (repeat first | with_reducible assumption | (with_reducible refine Below.alloc ?_ ?_ _; rotate_left; exact (by omega)))) (hb.mono (by ((try simp only [World.size_alloc, World.size_setCell, size_drew, size_drewN]); omega))); obtain ⟨hc2, hf2⟩ := bcell hb; have hs2 := hb.size; (try simp only [World.size_alloc, World.size_setCell] at hc2 hf2 hs2); have X0 : (w2.cell? ⟨X, 0, none⟩).isSome = true := (by rw [hc2 X 0 (by omega)]; go_simp); have X1 : (w2.cell? ⟨X, 1, none⟩).isSome = true := (by rw [hc2 X 1 (by omega)]; go_simp); have Q0 : w2.frozen? ⟨X, 0, none⟩ = false := (by rw [hf2 X 0 (by omega)]; go_simp); have Q1 : w2.frozen? ⟨X, 1, none⟩ = false := (by rw [hf2 X 1 (by omega)]; go_simp); have S0 : w2.cell? ⟨w.heap.size + 1 + 1, 0, none⟩ = some (.int .u32 0) := (by rw [hc2 _ _ (by omega)]; go_simp); have S1 : w2.cell? ⟨w.heap.size + 1 + 1, 1, none⟩ = some (.slice none 0 0) := (by rw [hc2 _ _ (by omega)]; go_simp); have E4 : w2.cell? ⟨wr.heap.size, 4, none⟩ = some (.int .i64 0) := (by rw [hc2 _ _ (by omega)]; go_simp); clear hc2 hf2 hb) | (go_at_call 43; refine (faulty_nil _ _ _ _).mono ?_; rintro e w3 ⟨rfl, rfl⟩))
   go_cut [13] (fun s13 wx => s13 = .int .i64 68964 ∧ Below w.heap.size w wx ∧ X < wx.heap.size ∧ wx.cell? ⟨X, 0, none⟩ = some (cur wx ⟨X, 0, none⟩) ∧ wx.cell? ⟨X, 1, none⟩ = some (cur wx ⟨X, 1, none⟩) ∧ wx.frozen? ⟨X, 0, none⟩ = false ∧ wx.frozen? ⟨X, 1, none⟩ = false ∧ wx.cell? ⟨wr.heap.size, 4, none⟩ = some (.int .i64 0))
   case first =>
    have r1 : (0 : Int).tmod 1 = 0 := by decide
    have r2 : ((1 : Int) == 0) = false := by decide
    have r3 : ¬(1 : Int) = 0 := by decide
    have r4 : IntKind.i64.wrap 0 = 0 := by decide
    have r5 : IntKind.i64.wrap 1 = 1 := by decide
    have r6 : IntKind.i64.wrap 68964 = 68964 := by decide
    have HS : Hid (∀ w' : World, Reg (w2.heap.size) (w2) w' → (Reg (w2.heap.size) (w2) w' ∧ w'.cell? ⟨w.heap.size + 1 + 1, 0, none⟩ = some (.int .u32 0) ∧ w'.cell? ⟨wr.heap.size, 4, none⟩ = some (.int .i64 0))) := (fun w' h => by (have hc := h.cells; have hs := h.some; have hf := h.frozen; refine ⟨h, ?_⟩; (try simp only [World.size_alloc, World.size_setCell, size_drew, size_drewN] at hc hs hf); first | (simp (disch := omega) only [hc, hs, hf, cur_iff]; (try go_simp); done) | (simp (disch := first | omega | (simp; done)) only [hc, hs, hf, cur_iff]; (try go_simp); done) | (simp (maxDischargeDepth := 4) [hc, hs, hf, cur_iff, go_sem]; done) | (go_simp; done) | (simp (maxDischargeDepth := 4) [hc, hs, hf, cur_iff, go_sem]; go_simp))); go_region_held3 (fun w' => Reg (w2.heap.size) (w2) w' ∧ w'.cell? ⟨w.heap.size + 1 + 1, 0, none⟩ = some (.int .u32 0) ∧ w'.cell? ⟨wr.heap.size, 4, none⟩ = some (.int .i64 0)) (exact HS.out _ (by (repeat first | with_reducible exact Reg.refl _ _ | with_reducible exact (‹Reg _ _ _ ∧ _›).1 | with_reducible refine Reg.drew ?_))) ((go_at_call 44; refine (mix_zero _).mono ?_; rintro e w4 ⟨rfl, rfl⟩))
    all_goals go_wp2_with fail
    all_goals go_meet
    all_goals
     have hH := ‹Reg _ _ _ ∧ _›
     refine ⟨rfl, Reg.out hH.1 hB2 (by omega), Nat.lt_of_lt_of_le (by omega) hH.1.size, (by rw [cur_iff]; exact (hH.1.some _ _ (by omega)).trans X0), (by rw [cur_iff]; exact (hH.1.some _ _ (by omega)).trans X1), (hH.1.frozen _ _ (by omega)).trans Q0, (hH.1.frozen _ _ (by omega)).trans Q1, hH.2.2⟩
   case rest =>
    obtain ⟨rfl, hB3, hX3, x0, x1, f0, f1, e4⟩ := hcut
    go_wp2_with fail
    go_roundw
    case rel => exact .inr ⟨rfl, by (repeat first | with_reducible assumption | (with_reducible refine Below.setCell ?_ ?_ _; rotate_left; exact (by (simp; omega)))), (by ((try simp only [World.size_alloc, World.size_setCell, size_drew, size_drewN]); omega)), by go_simp, by go_simp⟩
    case measure => simp [intOf]
  ·go_wp2_with fail
   go_ret2
   exact ⟨X, rfl, by omega, hXs, v0, v1, hB'⟩
end
section
open Go.RowKit
set_option maxHeartbeats 2000000 in
theorem gains_pos (v lo hi : Int) (w : World) (hv : 0 < v) (v2 : v ≤ 1000000000000000) (l1 : -1000000000000000 ≤ lo) (l2 : lo ≤ 1000000000000000) (h1 : -1000000000000000 ≤ hi) (h2 : hi ≤ 1000000000000000) :
  Calls Tryz.prog 47 #[Pr (v, lo, hi)] w (Ret (Sp (flo (lo * 1000) v) (cei (hi * 1000) v)) w) := by
 have e1 : IntKind.i64.wrap (lo * 1000) = lo * 1000 := IntWalk.i64_in _ (by omega)
 have e2 : IntKind.i64.wrap (hi * 1000) = hi * 1000 := IntWalk.i64_in _ (by omega)
 have HD := Lib.hid (fun W => down_any (lo * 1000) v W (by omega) (by omega) (by omega) (by omega) (by omega))
 have HU := Lib.hid (fun W => up_any (hi * 1000) v W (by omega) (by omega) (by omega) (by omega) (by omega))
 go_enter Tryz.func47, Tryz.ntmps47
 go_upto_region 1 with fail
 go_cut [3, 4] (fun s3 s4 wx => s3 = .int .i64 (lo * 1000) ∧ s4 = .int .i64 (hi * 1000) ∧ wx.cell? ⟨w.heap.size, 0, none⟩ = some (.int .i64 v) ∧ w.heap.size + 1 < wx.heap.size ∧ Below w.heap.size w wx ∧ (wx).cell? ⟨w.heap.size + 1, 0, none⟩ = some (cur (wx) ⟨w.heap.size + 1, 0, none⟩) ∧ (wx).frozen? ⟨w.heap.size + 1, 0, none⟩ = false ∧ (wx).cell? ⟨w.heap.size + 1, 1, none⟩ = some (cur (wx) ⟨w.heap.size + 1, 1, none⟩) ∧ (wx).frozen? ⟨w.heap.size + 1, 1, none⟩ = false)
 case first =>
  go_quiet (fail)
  go_wp2_with fail
  go_meet
  exact ⟨rfl, rfl, (by go_simp), (by ((try simp only [World.size_alloc, World.size_setCell, size_drew, size_drewN]); omega)), (by (repeat first | with_reducible exact Below.refl _ _ | (with_reducible refine Below.alloc ?_ ?_ _; rotate_left; exact (by first | omega | (simp; done))) | with_reducible refine Below_drewN ?_ _)), (by simp only [cur_iff]; go_simp), (by go_simp), (by simp only [cur_iff]; go_simp), (by go_simp)⟩
 case rest =>
  obtain ⟨rfl, rfl, c0, hs, hB, k0, q0, k1, q1⟩ := hcut
  clear e1 e2
  generalize lo * 1000 = L at *
  generalize hi * 1000 = U at *
  go_wp2_with fail
  have HS : Hid (∀ w' : World, Reg (w.heap.size + 1) (wc) w' → (Reg (w.heap.size + 1) (wc) w' ∧ w'.cell? ⟨w.heap.size, 0, none⟩ = some (.int .i64 v))) := (fun w' h => by (have hc := h.cells; have hs := h.some; have hf := h.frozen; refine ⟨h, ?_⟩; (try simp only [World.size_alloc, World.size_setCell, size_drew, size_drewN] at hc hs hf); first | (simp (disch := omega) only [hc, hs, hf, cur_iff]; (try go_simp); done) | (simp (disch := first | omega | (simp; done)) only [hc, hs, hf, cur_iff]; (try go_simp); done) | (simp (maxDischargeDepth := 4) [hc, hs, hf, cur_iff, go_sem]; done) | (go_simp; done) | (simp (maxDischargeDepth := 4) [hc, hs, hf, cur_iff, go_sem]; go_simp))); go_region_held3 (fun w' => Reg (w.heap.size + 1) (wc) w' ∧ w'.cell? ⟨w.heap.size, 0, none⟩ = some (.int .i64 v)) (exact HS.out _ (by (repeat first | with_reducible exact Reg.refl _ _ | with_reducible exact (‹Reg _ _ _ ∧ _›).1 | (with_reducible refine Reg.setCell ?_ ?_ _; rotate_left; exact (by (simp; done))) | with_reducible refine Reg.drew ?_))) (first | (go_at_call 83; refine (HD.out _).mono ?_; rintro e w1 ⟨rfl, rfl⟩) | (go_at_call 84; refine (HU.out _).mono ?_; rintro e w1 ⟨rfl, rfl⟩))
  all_goals go_wp2_with fail
  all_goals exact bodyPost_ret (resF Tryz.results47 _ _ _ _ _ rfl (by (try simp only [isSome_setCell]); first | assumption | go_simp) (by (try simp only [isSome_setCell]); first | assumption | go_simp)) rfl ⟨rfl, by (repeat first | with_reducible assumption | (with_reducible refine Below.setCell ?_ ?_ _; rotate_left; exact (by (simp; done))) | with_reducible refine Below.drew ?_)⟩
end
section
open Go.RowKit
set_option maxHeartbeats 2000000 in
theorem gains_neg (v lo hi : Int) (w : World) (hv : v < 0) (v2 : -1000000000000000 ≤ v) (l1 : -1000000000000000 ≤ lo) (l2 : lo ≤ 1000000000000000) (h1 : -1000000000000000 ≤ hi) (h2 : hi ≤ 1000000000000000) :
  Calls Tryz.prog 47 #[Pr (v, lo, hi)] w (Ret (Sp (flo (hi * 1000) v) (cei (lo * 1000) v)) w) := by
 have e1 : IntKind.i64.wrap (lo * 1000) = lo * 1000 := IntWalk.i64_in _ (by omega)
 have e2 : IntKind.i64.wrap (hi * 1000) = hi * 1000 := IntWalk.i64_in _ (by omega)
 have HD := Lib.hid (fun W => down_any (hi * 1000) v W (by omega) (by omega) (by omega) (by omega) (by omega))
 have HU := Lib.hid (fun W => up_any (lo * 1000) v W (by omega) (by omega) (by omega) (by omega) (by omega))
 go_enter Tryz.func47, Tryz.ntmps47
 go_upto_region 1 with fail
 go_cut [3, 4] (fun s3 s4 wx => s3 = .int .i64 (lo * 1000) ∧ s4 = .int .i64 (hi * 1000) ∧ wx.cell? ⟨w.heap.size, 0, none⟩ = some (.int .i64 v) ∧ w.heap.size + 1 < wx.heap.size ∧ Below w.heap.size w wx ∧ (wx).cell? ⟨w.heap.size + 1, 0, none⟩ = some (cur (wx) ⟨w.heap.size + 1, 0, none⟩) ∧ (wx).frozen? ⟨w.heap.size + 1, 0, none⟩ = false ∧ (wx).cell? ⟨w.heap.size + 1, 1, none⟩ = some (cur (wx) ⟨w.heap.size + 1, 1, none⟩) ∧ (wx).frozen? ⟨w.heap.size + 1, 1, none⟩ = false)
 case first =>
  go_quiet (fail)
  go_wp2_with fail
  go_meet
  exact ⟨rfl, rfl, (by go_simp), (by ((try simp only [World.size_alloc, World.size_setCell, size_drew, size_drewN]); omega)), (by (repeat first | with_reducible exact Below.refl _ _ | (with_reducible refine Below.alloc ?_ ?_ _; rotate_left; exact (by first | omega | (simp; done))) | with_reducible refine Below_drewN ?_ _)), (by simp only [cur_iff]; go_simp), (by go_simp), (by simp only [cur_iff]; go_simp), (by go_simp)⟩
 case rest =>
  obtain ⟨rfl, rfl, c0, hs, hB, k0, q0, k1, q1⟩ := hcut
  clear e1 e2
  generalize lo * 1000 = L at *
  generalize hi * 1000 = U at *
  go_wp2_with fail
  have HS : Hid (∀ w' : World, Reg (w.heap.size + 1) (wc) w' → (Reg (w.heap.size + 1) (wc) w' ∧ w'.cell? ⟨w.heap.size, 0, none⟩ = some (.int .i64 v))) := (fun w' h => by (have hc := h.cells; have hs := h.some; have hf := h.frozen; refine ⟨h, ?_⟩; (try simp only [World.size_alloc, World.size_setCell, size_drew, size_drewN] at hc hs hf); first | (simp (disch := omega) only [hc, hs, hf, cur_iff]; (try go_simp); done) | (simp (disch := first | omega | (simp; done)) only [hc, hs, hf, cur_iff]; (try go_simp); done) | (simp (maxDischargeDepth := 4) [hc, hs, hf, cur_iff, go_sem]; done) | (go_simp; done) | (simp (maxDischargeDepth := 4) [hc, hs, hf, cur_iff, go_sem]; go_simp))); go_region_held3 (fun w' => Reg (w.heap.size + 1) (wc) w' ∧ w'.cell? ⟨w.heap.size, 0, none⟩ = some (.int .i64 v)) (exact HS.out _ (by (repeat first | with_reducible exact Reg.refl _ _ | with_reducible exact (‹Reg _ _ _ ∧ _›).1 | (with_reducible refine Reg.setCell ?_ ?_ _; rotate_left; exact (by (simp; done))) | with_reducible refine Reg.drew ?_))) (first | (go_at_call 83; refine (HD.out _).mono ?_; rintro e w1 ⟨rfl, rfl⟩) | (go_at_call 84; refine (HU.out _).mono ?_; rintro e w1 ⟨rfl, rfl⟩))
  all_goals go_wp2_with fail
  all_goals exact bodyPost_ret (resF Tryz.results47 _ _ _ _ _ rfl (by (try simp only [isSome_setCell]); first | assumption | go_simp) (by (try simp only [isSome_setCell]); first | assumption | go_simp)) rfl ⟨rfl, by (repeat first | with_reducible assumption | (with_reducible refine Below.setCell ?_ ?_ _; rotate_left; exact (by (simp; done))) | with_reducible refine Below.drew ?_)⟩
end
section
open Go.RowKit
set_option maxHeartbeats 2000000 in
theorem gains_zero (lo hi a b : Int) (w : World) (hg : (cont lo hi 0 = true ∧ a = -1000000000 ∧ b = 1000000000) ∨ (cont lo hi 0 = false ∧ a = 1 ∧ b = 0)) (l1 : -1000000000000000 ≤ lo) (l2 : lo ≤ 1000000000000000) (h1 : -1000000000000000 ≤ hi) (h2 : hi ≤ 1000000000000000) :
  Calls Tryz.prog 47 #[Pr (0, lo, hi)] w (Ret (Sp a b) w) := by
 have e1 : IntKind.i64.wrap (lo * 1000) = lo * 1000 := IntWalk.i64_in _ (by omega)
 have e2 : IntKind.i64.wrap (hi * 1000) = hi * 1000 := IntWalk.i64_in _ (by omega)
 go_enter Tryz.func47, Tryz.ntmps47
 go_upto_region 1 with fail
 go_cut [] (fun wx => wx.cell? ⟨w.heap.size, 0, none⟩ = some (.int .i64 0) ∧ wx.cell? ⟨w.heap.size, 1, none⟩ = some (.int .i64 lo) ∧ wx.cell? ⟨w.heap.size, 2, none⟩ = some (.int .i64 hi) ∧ w.heap.size + 1 < wx.heap.size ∧ Below w.heap.size w wx ∧ (wx).cell? ⟨w.heap.size + 1, 0, none⟩ = some (cur (wx) ⟨w.heap.size + 1, 0, none⟩) ∧ (wx).frozen? ⟨w.heap.size + 1, 0, none⟩ = false ∧ (wx).cell? ⟨w.heap.size + 1, 1, none⟩ = some (cur (wx) ⟨w.heap.size + 1, 1, none⟩) ∧ (wx).frozen? ⟨w.heap.size + 1, 1, none⟩ = false)
 case first =>
  go_quiet (fail)
  go_wp2_with fail
  go_meet
  exact ⟨(by go_simp), (by go_simp), (by go_simp), (by ((try simp only [World.size_alloc, World.size_setCell, size_drew, size_drewN]); omega)), (by (repeat first | with_reducible exact Below.refl _ _ | (with_reducible refine Below.alloc ?_ ?_ _; rotate_left; exact (by first | omega | (simp; done))) | with_reducible refine Below_drewN ?_ _)), (by simp only [cur_iff]; go_simp), (by go_simp), (by simp only [cur_iff]; go_simp), (by go_simp)⟩
 case rest =>
  obtain ⟨c0, c1, c2, hs, hB, k0, q0, k1, q1⟩ := hcut
  clear e1 e2
  rcases hg with ⟨hc, rfl, rfl⟩ | ⟨hc, rfl, rfl⟩
  ·go_wp2_with (first | (go_at_call 68; refine (contains_any _ _ _ _).mono ?_; rintro e w1 ⟨rfl, hb⟩; have hB : Below w.heap.size w w1 := Below.trans (by (repeat with_reducible assumption)) (hb.mono (by omega)); obtain ⟨hc, hf⟩ := bcell hb; have hs := hb.size; clear hb; (try simp only [World.size_alloc, World.size_setCell] at hc hf); (try simp only [World.size_alloc, World.size_setCell] at hs); (try have hs' := Nat.lt_of_succ_le hs); (try have hs0 : w.heap.size < w1.heap.size := by omega); (try have hs1 : w.heap.size + 1 < w1.heap.size := by omega); (try have hs2 : w.heap.size + 1 + 1 < w1.heap.size := by omega); (try have hs3 : w.heap.size + 1 + 1 + 1 < w1.heap.size := by omega); (try have iso : (w1.cell? ⟨w.heap.size, 0, none⟩).isSome = true := by (rw [hc _ _ (by omega)]; (try simp only [isSome_setCell]); first | assumption | go_simp)); (try have iso : (w1.cell? ⟨w.heap.size, 1, none⟩).isSome = true := by (rw [hc _ _ (by omega)]; (try simp only [isSome_setCell]); first | assumption | go_simp)); (try have iso : (w1.cell? ⟨w.heap.size + 1, 0, none⟩).isSome = true := by (rw [hc _ _ (by omega)]; (try simp only [isSome_setCell]); first | assumption | go_simp)); (try have iso : (w1.cell? ⟨w.heap.size + 1, 1, none⟩).isSome = true := by (rw [hc _ _ (by omega)]; (try simp only [isSome_setCell]); first | assumption | go_simp)); (try have iso : (w1.cell? ⟨w.heap.size + 1 + 1, 0, none⟩).isSome = true := by (rw [hc _ _ (by first | omega | (simp; done) | (simp; omega))]; (try simp only [isSome_setCell]); first | assumption | go_simp)); (try have iso : (w1.cell? ⟨w.heap.size + 1 + 1, 1, none⟩).isSome = true := by (rw [hc _ _ (by first | omega | (simp; done) | (simp; omega))]; (try simp only [isSome_setCell]); first | assumption | go_simp))) | (go_at_call 85; refine (everyGain_any _).mono ?_; rintro e w1 ⟨rfl, hb⟩; have hB : Below w.heap.size w w1 := Below.trans (by (repeat with_reducible assumption)) (hb.mono (by omega)); obtain ⟨hc, hf⟩ := bcell hb; have hs := hb.size; clear hb; (try simp only [World.size_alloc, World.size_setCell] at hc hf); (try simp only [World.size_alloc, World.size_setCell] at hs); (try have hs' := Nat.lt_of_succ_le hs); (try have hs0 : w.heap.size < w1.heap.size := by omega); (try have hs1 : w.heap.size + 1 < w1.heap.size := by omega); (try have hs2 : w.heap.size + 1 + 1 < w1.heap.size := by omega); (try have hs3 : w.heap.size + 1 + 1 + 1 < w1.heap.size := by omega); (try have iso : (w1.cell? ⟨w.heap.size, 0, none⟩).isSome = true := by (rw [hc _ _ (by omega)]; (try simp only [isSome_setCell]); first | assumption | go_simp)); (try have iso : (w1.cell? ⟨w.heap.size, 1, none⟩).isSome = true := by (rw [hc _ _ (by omega)]; (try simp only [isSome_setCell]); first | assumption | go_simp)); (try have iso : (w1.cell? ⟨w.heap.size + 1, 0, none⟩).isSome = true := by (rw [hc _ _ (by omega)]; (try simp only [isSome_setCell]); first | assumption | go_simp)); (try have iso : (w1.cell? ⟨w.heap.size + 1, 1, none⟩).isSome = true := by (rw [hc _ _ (by omega)]; (try simp only [isSome_setCell]); first | assumption | go_simp)); (try have iso : (w1.cell? ⟨w.heap.size + 1 + 1, 0, none⟩).isSome = true := by (rw [hc _ _ (by first | omega | (simp; done) | (simp; omega))]; (try simp only [isSome_setCell]); first | assumption | go_simp)); (try have iso : (w1.cell? ⟨w.heap.size + 1 + 1, 1, none⟩).isSome = true := by (rw [hc _ _ (by first | omega | (simp; done) | (simp; omega))]; (try simp only [isSome_setCell]); first | assumption | go_simp))))
   exact bodyPost_ret (resS Tryz.results47 _ _ _ _ _ rfl (by (try simp only [isSome_setCell]); first | assumption | go_simp) (by (try simp only [isSome_setCell]); first | assumption | go_simp)) rfl ⟨rfl, by (repeat first | with_reducible assumption | (with_reducible refine Below.setCell ?_ ?_ _; rotate_left; exact (by (simp; done))))⟩
  ·go_wp2_with (go_at_call 68; refine (contains_any _ _ _ _).mono ?_; rintro e w1 ⟨rfl, hb⟩; have hB : Below w.heap.size w w1 := Below.trans (by (repeat with_reducible assumption)) (hb.mono (by omega)); obtain ⟨hc, hf⟩ := bcell hb; have hs := hb.size; clear hb; (try simp only [World.size_alloc, World.size_setCell] at hc hf); (try simp only [World.size_alloc, World.size_setCell] at hs); (try have hs' := Nat.lt_of_succ_le hs); (try have hs0 : w.heap.size < w1.heap.size := by omega); (try have hs1 : w.heap.size + 1 < w1.heap.size := by omega); (try have hs2 : w.heap.size + 1 + 1 < w1.heap.size := by omega); (try have hs3 : w.heap.size + 1 + 1 + 1 < w1.heap.size := by omega); (try have iso : (w1.cell? ⟨w.heap.size, 0, none⟩).isSome = true := by (rw [hc _ _ (by omega)]; (try simp only [isSome_setCell]); first | assumption | go_simp)); (try have iso : (w1.cell? ⟨w.heap.size, 1, none⟩).isSome = true := by (rw [hc _ _ (by omega)]; (try simp only [isSome_setCell]); first | assumption | go_simp)); (try have iso : (w1.cell? ⟨w.heap.size + 1, 0, none⟩).isSome = true := by (rw [hc _ _ (by omega)]; (try simp only [isSome_setCell]); first | assumption | go_simp)); (try have iso : (w1.cell? ⟨w.heap.size + 1, 1, none⟩).isSome = true := by (rw [hc _ _ (by omega)]; (try simp only [isSome_setCell]); first | assumption | go_simp)); (try have iso : (w1.cell? ⟨w.heap.size + 1 + 1, 0, none⟩).isSome = true := by (rw [hc _ _ (by first | omega | (simp; done) | (simp; omega))]; (try simp only [isSome_setCell]); first | assumption | go_simp)); (try have iso : (w1.cell? ⟨w.heap.size + 1 + 1, 1, none⟩).isSome = true := by (rw [hc _ _ (by first | omega | (simp; done) | (simp; omega))]; (try simp only [isSome_setCell]); first | assumption | go_simp)))
   exact bodyPost_ret (resS Tryz.results47 _ _ _ _ _ rfl (by (try simp only [isSome_setCell]); first | assumption | go_simp) (by (try simp only [isSome_setCell]); first | assumption | go_simp)) rfl ⟨rfl, by (repeat first | with_reducible assumption | (with_reducible refine Below.setCell ?_ ?_ _; rotate_left; exact (by (simp; done))))⟩
end
section
open Go.RowKit
theorem gains_any (v lo hi : Int) (w : World) (hk : okP (v, lo, hi) = true) :
  Calls Tryz.prog 47 #[Pr (v, lo, hi)] w (Ret (Sp (gLo (v, lo, hi)) (gHi (v, lo, hi))) w) := by
 obtain ⟨⟨v1, v2⟩, hle, l1, h2⟩ := okP_iff.1 hk
 dsimp only at v1 v2 hle l1 h2
 unfold gLo gHi
 dsimp only
 by_cases p : 0 < v
 ·rw [if_pos p, if_pos p]; exact gains_pos v lo hi w p v2 l1 (by omega) (by omega) h2
 ·by_cases n : v < 0
  ·rw [if_neg p, if_neg p, if_pos n, if_pos n]; exact gains_neg v lo hi w n v1 l1 (by omega) (by omega) h2
  ·obtain rfl : v = 0 := by omega
   rw [if_neg p, if_neg p, if_neg n, if_neg n]
   have hvl : vld lo hi = true := vld_iff.2 ⟨hle, l1, h2⟩
   by_cases c : lo ≤ 0 ∧ 0 ≤ hi
   ·rw [if_pos c, if_pos c]; exact gains_zero lo hi _ _ w (.inl ⟨by simp [cont, hvl, c], rfl, rfl⟩) l1 (by omega) (by omega) h2
   ·rw [if_neg c, if_neg c]; exact gains_zero lo hi _ _ w (.inr ⟨by simp [cont]; omega, rfl, rfl⟩) l1 (by omega) (by omega) h2
end
end Go.Proofs.YthggkidiidnaoaaGreatDoor
