import Derived.Test.YtjjajleiladbhaaGreatDoorJAM
import Derived.Test.YtjjajleiladbhaaGreatDoorJAQ
import Derived.Test.YtjjajleiladbhaaGreatDoorJAV
import Derived.Test.YtjjajleiladbhaaGreatDoorJBA
import Derived.Test.YtjjajleiladbhaaGreatDoorRows
import Derived.KernelRfl
import Derived.Laws.StructEq
section
/- Plain facts about flux: it is linear in the currents (P2.2); a coil alone has no force on itself (P2.5). -/
namespace Go.Proofs.YtjjajleiladbhaaGreatDoor
set_option linter.unusedVariables false
set_option linter.unusedSimpArgs false
open Go.RowKit Go.Shelf

/-- the currents of one coil alone -/
def oneC (M : MachD) (i : Nat) (x : Int) : CurD := ⟨(List.replicate M.coils.length 0).set i x, List.replicate M.shells.length 0, List.replicate (M.grid.nr * M.grid.nz).toNat 0⟩
theorem flux_none {S : List Src} (p : Int × Int) (h : ∀ x ∈ S, x.2 = 0) : fluxP p S = 0 := by
  induction S with
  | nil => rfl
  | cons x r ih => simp only [fluxP]; rw [h x (by simp), ih (fun y hy => h y (List.mem_cons_of_mem _ hy))]; simp
theorem zip_zero {α : Type} (p : Int × Int) (f : α → Int × Int) (g : α → Int) : ∀ (l : List α) (n : Nat), fluxP p (List.zipWith (fun c x => (f c, g c * x)) l (List.replicate n 0)) = 0
  | [], n => by simp [fluxP]
  | c :: l, 0 => by simp [fluxP]
  | c :: l, n + 1 => by simp only [List.replicate_succ, List.zipWith_cons_cons, fluxP]; rw [zip_zero p f g l n]; simp
theorem zip_one {α : Type} (p : Int × Int) (f : α → Int × Int) (g : α → Int) : ∀ (l : List α) (n i : Nat) (x : Int) (c : α), l.length = n → l[i]? = some c → fluxP p (List.zipWith (fun c x => (f c, g c * x)) l ((List.replicate n 0).set i x)) = infl p.1 p.2 (f c).1 (f c).2 * (g c * x)
  | [], n, i, x, c, _, h => by simp at h
  | d :: l, 0, i, x, c, h, _ => by simp at h
  | d :: l, n + 1, 0, x, c, hn, h => by
    obtain rfl : d = c := by simpa using h
    simp only [List.replicate_succ, List.set_cons_zero, List.zipWith_cons_cons, fluxP]
    rw [zip_zero]; omega
  | d :: l, n + 1, i + 1, x, c, hn, h => by
    simp only [List.replicate_succ, List.set_cons_succ, List.zipWith_cons_cons, fluxP]
    rw [zip_one p f g l n i x c (by simpa using hn) (by simpa using h)]; simp
theorem flux_one (p : Int × Int) (M : MachD) (i : Nat) (x : Int) (c : CoilD) (h : M.coils[i]? = some c) : fluxP p (srcM M (oneC M i x)) = infl p.1 p.2 c.r c.z * (c.turns * x) := by
  unfold srcM srcL oneC
  simp only [fluxP_append]
  rw [zip_one p (fun c : CoilD => (c.r, c.z)) (fun c => c.turns) M.coils M.coils.length i x c rfl h]
  have h2 := zip_zero p (fun s : ShellD => (s.r, s.z)) (fun _ => 1) M.shells M.shells.length
  simp only [Int.one_mul] at h2
  rw [h2, flux_none (S := cellSrc _ _ _) p (fun y hy => by
    unfold cellSrc at hy
    obtain ⟨j, hj, rfl⟩ := List.mem_map.1 hy
    have hj1 : j < (M.grid.nr * M.grid.nz).toNat := by simpa using hj
    simp [List.getElem?_replicate, hj1])]
  simp
theorem infl_sym {r z d : Int} (hr : -60 ≤ r ∧ r ≤ 60) (hz : -60 ≤ z ∧ z ≤ 60) : infl r (z - 1) r z = infl r (z + 1) r z ∧ infl (r + 1) z r z = infl (r - 1) z r z := by
  have n0 : nearB r z 1000 = true := near_iff.2 ⟨⟨by omega, by omega⟩, by omega, by omega⟩
  have n1 : nearB r (z - 1) 1000 = true := near_iff.2 ⟨⟨by omega, by omega⟩, by omega, by omega⟩
  have n2 : nearB r (z + 1) 1000 = true := near_iff.2 ⟨⟨by omega, by omega⟩, by omega, by omega⟩
  have n3 : nearB (r + 1) z 1000 = true := near_iff.2 ⟨⟨by omega, by omega⟩, by omega, by omega⟩
  have n4 : nearB (r - 1) z 1000 = true := near_iff.2 ⟨⟨by omega, by omega⟩, by omega, by omega⟩
  unfold infl
  rw [if_pos ⟨n1, n0⟩, if_pos ⟨n2, n0⟩, if_pos ⟨n3, n0⟩, if_pos ⟨n4, n0⟩]
  have e1 : z - 1 - z = -1 := by omega
  have e2 : z + 1 - z = 1 := by omega
  have e3 : r + 1 - r = 1 := by omega
  have e4 : r - 1 - r = -1 := by omega
  rw [e1, e2, e3, e4]
  exact ⟨rfl, rfl⟩
theorem field_one (M : MachD) (i : Nat) (x : Int) (c : CoilD) (h : M.coils[i]? = some c) (hr : -60 ≤ c.r ∧ c.r ≤ 60) (hz : -60 ≤ c.z ∧ c.z ≤ 60) : fieldP (c.r, c.z) (srcM M (oneC M i x)) = (0, 0) := by
  unfold fieldP
  simp only [flux_one _ M i x c h]
  have hs := infl_sym (d := 0) hr hz
  rw [hs.1, hs.2]
  simp
theorem force_zero (t : Int) : forceP t 0 = 0 := by simp [forceP]
theorem tot_noll : ∀ n : Nat, tot 0 (List.replicate n (0 : Int)) = 0
  | 0 => rfl
  | n + 1 => by
    simp only [List.replicate_succ, tot]
    rw [show wrap64 (0 + 0) = 0 from by go_arith]
    exact tot_noll n
theorem one_fit {M : MachD} (hc : checkC M = 0) {i : Nat} {x : Int} (hx : -1000000 ≤ x ∧ x ≤ 1000000) : Fit2 M (oneC M i x) := by
  have hg := cells_fine (sound_of hc).grid
  refine ⟨hc, ⟨by simp [oneC], fun y hy => ?_⟩, ⟨by simp [oneC], fun y hy => ?_⟩, ⟨by simp [oneC]; omega, fun y hy => ?_⟩, by simp [oneC, tot_noll]⟩
  · rcases List.mem_or_eq_of_mem_set hy with hy | rfl
    · obtain ⟨_, rfl⟩ := List.mem_replicate.1 hy; omega
    · exact hx
  · obtain ⟨_, rfl⟩ := List.mem_replicate.1 hy; omega
  · obtain ⟨_, rfl⟩ := List.mem_replicate.1 hy; omega
theorem force_one (M : MachD) (i : Nat) (x : Int) (hi : i < M.coils.length) (hx : -1000000 ≤ x ∧ x ≤ 1000000) (hc : checkC M = 0) : forceE M (oneC M i x) i = (0, 0, 0) := by
  have hv : validC M (oneC M i x) = true := fit2_iff.2 (one_fit hc hx)
  have hw : wthn (i : Int) 0 ((M.coils.length : Int) - 1) = true := wthn_iff.2 ⟨by omega, by omega⟩
  have hs := (sound_of hc).coils.2 _ (List.getElem_mem hi)
  have h1 : M.coils[i]? = some M.coils[i] := List.getElem?_eq_getElem hi
  have h2 : (oneC M i x).coils[i]? = some x := by simp [oneC, hi]
  unfold forceE
  rw [if_pos hv, if_pos hw, Int.toNat_natCast, h1, h2]
  simp only
  rw [field_one M i x _ h1 hs.2.1 hs.2.2]
  simp [force_zero]
end Go.Proofs.YtjjajleiladbhaaGreatDoor
end
section
/- MachinePaths: the law's walk, over this seat's translation (written by ax_lw2.py). -/
namespace Go.Proofs.YtjjajleiladbhaaGreatDoor
set_option linter.unusedVariables false
set_option linter.unusedSimpArgs false
open Go.RowKit

theorem flux_good (R : MachR) (M : MachD) (Q : CurR) (C : CurD) (a b : Int) (w : World) (hM : IsM w R M) (hC : IsC w Q C) (hf : Fit2 M C) (h : (-100 ≤ a ∧ a ≤ 100) ∧ -100 ≤ b ∧ b ≤ 100) : Calls Tryz.prog 42 #[.agg (machCells R M), Q.v, .agg #[.int .i64 a, .int .i64 b]] w (Ret (.tuple #[.int .i64 (fluxP (a, b) (srcM M C)), .int .i64 0]) w) := by
  have hh := flux_any R M Q C a b w hM hC
  have e : fieldE M C a b = 0 := by unfold fieldE; rw [if_pos (fit2_iff.2 hf), if_pos (near_iff.2 h)]
  have e2 : fluxE M C a b = (fluxP (a, b) (srcM M C), 0) := by unfold fluxE; rw [if_pos e]
  rw [e2] at hh
  exact hh
theorem field_good (R : MachR) (M : MachD) (Q : CurR) (C : CurD) (a b : Int) (w : World) (hM : IsM w R M) (hC : IsC w Q C) (hf : Fit2 M C) (h : (-100 ≤ a ∧ a ≤ 100) ∧ -100 ≤ b ∧ b ≤ 100) : Calls Tryz.prog 44 #[.agg (machCells R M), Q.v, .agg #[.int .i64 a, .int .i64 b]] w (Ret (.tuple #[.int .i64 (fluxP (a, b - 1) (srcM M C) - fluxP (a, b + 1) (srcM M C)), .int .i64 (fluxP (a + 1, b) (srcM M C) - fluxP (a - 1, b) (srcM M C)), .int .i64 0]) w) := by
  have hh := field_any R M Q C a b w hM hC
  have e : fieldE M C a b = 0 := by unfold fieldE; rw [if_pos (fit2_iff.2 hf), if_pos (near_iff.2 h)]
  have e2 : fieldsE M C a b = ((fieldP (a, b) (srcM M C)).1, (fieldP (a, b) (srcM M C)).2, 0) := by unfold fieldsE; rw [if_pos e]
  rw [e2] at hh
  exact hh

theorem lwf_bl_apiPoint_0_1 (a0 a1 : Value) (ha0 : a0.oneCell' = true) (ha1 : a1.oneCell' = true) : ∀ w, (Instr.build 40 #[(0, a0), (1, a1)]).run Tryz.prog w = .ok (.agg #[a0, a1]) w := by
  have ea0 : a0.cells = #[a0] := cells_one ha0
  have ea1 : a1.cells = #[a1] := cells_one ha1
  intro w; simp [Instr.build, Instr.fill, cells_agg, Tryz.runUnderlying40, Tryz.zeroValue40, Tryz.sizeOf3, ea0, ea1]

set_option maxRecDepth 100000 in
theorem paths_walk (R : MachR) (M : MachD) (Q : CurR) (C : CurD) (p0 p1 : Int) (W : World) (hE : Env W) (hM : R.la ≤ 1000000000000000 → R.lb ≤ 1000000000000000 → R.lc ≤ 1000000000000000 → R.ld ≤ 1000000000000000 → IsM W R M) (hC : OpC W Q C) : Calls Tryz.prog 12 #[(.agg (machCells R M)), Q.v, (.agg #[.int .i64 p0, .int .i64 p1])] W (Ret (.bool true) W) := by
  refine calls_ax (vs := [(.agg (machCells R M)), Q.v, (.agg #[.int .i64 p0, .int .i64 p1])]) Tryz.func12 rfl rfl ?_
  refine ac_seq ?_
  refine ac_region ?_
  refine al_new (fun b => .pointer (some ⟨b, 0, none⟩)) (r_box rfl rfl) rfl rfl rfl ?_
  intro b1
  refine al_new (fun b => .pointer (some ⟨b, 0, none⟩)) (r_box rfl rfl) rfl rfl rfl ?_
  intro b2
  refine al_new (fun b => .pointer (some ⟨b, 0, none⟩)) (r_box rfl rfl) rfl rfl rfl ?_
  intro b3
  refine al_q (q_assign rfl) rfl rfl rfl ?_
  refine al_end ?_
  refine aq_then ?_
  refine ac_seq ?_
  refine ac_seq ?_
  refine ac_region ?_
  refine al_q (q_loadAll (i := 2) rfl rfl Tryz.isAgg29 Tryz.sizeOf29 rfl) rfl rfl rfl ?_
  refine al_q (q_loadAll (i := 1) rfl rfl Tryz.isAgg34 Tryz.sizeOf34 rfl) rfl rfl rfl ?_
  refine al_call Tryz.call16 (.cons rfl (.cons rfl .nil)) rfl rfl (fun w1 hs1 => ?_)
  refine (brief2_any R M Q _).mono ?_
  rintro e u1 ⟨rfl, hb_1⟩
  refine ⟨_, rfl, hb_1, ?_⟩
  clear hs1
  refine al_q (q_not rfl) rfl rfl rfl ?_
  refine al_q (q_move rfl) rfl rfl rfl ?_
  refine aq_split 22 rfl (fun hb1 => ?_) (fun hb1 => ?_)
  · skip
    refine al_skip rfl rfl rfl ?_
    refine al_skip rfl rfl rfl ?_
    refine al_skip rfl rfl rfl ?_
    refine al_skip rfl rfl rfl ?_
    refine al_q (q_pickT rfl rfl) rfl rfl rfl ?_
    refine al_q (q_move rfl) rfl rfl rfl ?_
    refine al_skip rfl rfl rfl ?_
    refine al_skip rfl rfl rfl ?_
    refine al_skip rfl rfl rfl ?_
    refine al_q (q_pickT rfl rfl) rfl rfl rfl ?_
    refine al_q (q_move rfl) rfl rfl rfl ?_
    refine al_skip rfl rfl rfl ?_
    refine al_skip rfl rfl rfl ?_
    refine al_skip rfl rfl rfl ?_
    refine al_q (q_pickT rfl rfl) rfl rfl rfl ?_
    refine al_q (q_move rfl) rfl rfl rfl ?_
    refine al_skip rfl rfl rfl ?_
    refine al_skip rfl rfl rfl ?_
    refine al_skip rfl rfl rfl ?_
    refine al_q (q_pickT rfl rfl) rfl rfl rfl ?_
    refine al_q (q_move rfl) rfl rfl rfl ?_
    refine al_skip rfl rfl rfl ?_
    refine al_skip rfl rfl rfl ?_
    refine al_skip rfl rfl rfl ?_
    refine al_q (q_pickT rfl rfl) rfl rfl rfl ?_
    refine al_end ?_
    refine aq_then ?_
    refine ac_condT rfl ?_
    refine ac_seq ?_
    refine ac_region ?_
    refine al_call Tryz.call19 .nil rfl rfl (fun w2 hs2 => ?_)
    refine (awake2_any _ (hE.below hs2.below)).mono ?_
    rintro e u2 ⟨rfl, hb_2⟩
    refine ⟨_, rfl, hb_2, ?_⟩
    clear hs2
    refine al_q (q_assign rfl) rfl rfl rfl ?_
    refine al_end ?_
    refine aq_then ?_
    refine ac_ret ?_
    refine aq_thenR ?_
    refine ret1 Tryz.results12 rfl (fun w9 hs => ?_)
    exact ⟨rfl, hs.below⟩
  · have hbf := brief2_iff.1 (show brief2 R Q = true by simpa using hb1)
    have hM := hM (by omega) (by omega) (by omega) (by omega)
    have hC := hC.isC (by omega) (by omega) (by omega)
    refine al_q (q_loadAll (i := 2) rfl rfl Tryz.isAgg29 Tryz.sizeOf29 rfl) rfl rfl rfl ?_
    refine al_q (q_loadAll (i := 1) rfl rfl Tryz.isAgg34 Tryz.sizeOf34 rfl) rfl rfl rfl ?_
    refine al_call Tryz.call39 (.cons rfl (.cons rfl .nil)) rfl rfl (fun w3 hs3 => ?_)
    refine (rvalid2_any R M Q C _ (hM.below hs3.below) (hC.below hs3.below)).mono ?_
    rintro e u3 ⟨rfl, hb_3⟩
    refine ⟨_, rfl, hb_3, ?_⟩
    clear hs3
    refine al_q (q_not rfl) rfl rfl rfl ?_
    refine al_q (q_pickF rfl rfl) rfl rfl rfl ?_
    refine al_q (q_move rfl) rfl rfl rfl ?_
    refine aq_split 28 rfl (fun hb2 => ?_) (fun hb2 => ?_)
    · skip
      refine al_skip rfl rfl rfl ?_
      refine al_skip rfl rfl rfl ?_
      refine al_skip rfl rfl rfl ?_
      refine al_q (q_pickT rfl rfl) rfl rfl rfl ?_
      refine al_q (q_move rfl) rfl rfl rfl ?_
      refine al_skip rfl rfl rfl ?_
      refine al_skip rfl rfl rfl ?_
      refine al_skip rfl rfl rfl ?_
      refine al_q (q_pickT rfl rfl) rfl rfl rfl ?_
      refine al_q (q_move rfl) rfl rfl rfl ?_
      refine al_skip rfl rfl rfl ?_
      refine al_skip rfl rfl rfl ?_
      refine al_skip rfl rfl rfl ?_
      refine al_q (q_pickT rfl rfl) rfl rfl rfl ?_
      refine al_q (q_move rfl) rfl rfl rfl ?_
      refine al_skip rfl rfl rfl ?_
      refine al_skip rfl rfl rfl ?_
      refine al_skip rfl rfl rfl ?_
      refine al_q (q_pickT rfl rfl) rfl rfl rfl ?_
      refine al_end ?_
      refine aq_then ?_
      refine ac_condT rfl ?_
      refine ac_seq ?_
      refine ac_region ?_
      refine al_call Tryz.call19 .nil rfl rfl (fun w4 hs4 => ?_)
      refine (awake2_any _ (hE.below hs4.below)).mono ?_
      rintro e u4 ⟨rfl, hb_4⟩
      refine ⟨_, rfl, hb_4, ?_⟩
      clear hs4
      refine al_q (q_assign rfl) rfl rfl rfl ?_
      refine al_end ?_
      refine aq_then ?_
      refine ac_ret ?_
      refine aq_thenR ?_
      refine ret1 Tryz.results12 rfl (fun w9 hs => ?_)
      exact ⟨rfl, hs.below⟩
    · have hf : Fit2 M C := fit2_iff.1 (by simpa using hb2)
      have hbd := fun p => (small_of hf).bd p
      refine al_q (q_fieldAddr 0 rfl Tryz.runUnderlying40 rfl Tryz.sizeOf3 (by decide) rfl) rfl rfl rfl ?_
      refine al_q (q_load (i := 0) rfl rfl rfl Tryz.isAgg3) rfl rfl rfl ?_
      refine al_q (q_lss rfl rfl) rfl rfl rfl ?_
      refine al_q (q_pickF rfl rfl) rfl rfl rfl ?_
      refine al_q (q_move rfl) rfl rfl rfl ?_
      refine aq_split 33 rfl (fun hb3 => ?_) (fun hb3 => ?_)
      · skip
        refine al_skip rfl rfl rfl ?_
        refine al_skip rfl rfl rfl ?_
        refine al_skip rfl rfl rfl ?_
        refine al_q (q_pickT rfl rfl) rfl rfl rfl ?_
        refine al_q (q_move rfl) rfl rfl rfl ?_
        refine al_skip rfl rfl rfl ?_
        refine al_skip rfl rfl rfl ?_
        refine al_skip rfl rfl rfl ?_
        refine al_q (q_pickT rfl rfl) rfl rfl rfl ?_
        refine al_q (q_move rfl) rfl rfl rfl ?_
        refine al_skip rfl rfl rfl ?_
        refine al_skip rfl rfl rfl ?_
        refine al_skip rfl rfl rfl ?_
        refine al_q (q_pickT rfl rfl) rfl rfl rfl ?_
        refine al_end ?_
        refine aq_then ?_
        refine ac_condT rfl ?_
        refine ac_seq ?_
        refine ac_region ?_
        refine al_call Tryz.call19 .nil rfl rfl (fun w5 hs5 => ?_)
        refine (awake2_any _ (hE.below hs5.below)).mono ?_
        rintro e u5 ⟨rfl, hb_5⟩
        refine ⟨_, rfl, hb_5, ?_⟩
        clear hs5
        refine al_q (q_assign rfl) rfl rfl rfl ?_
        refine al_end ?_
        refine aq_then ?_
        refine ac_ret ?_
        refine aq_thenR ?_
        refine ret1 Tryz.results12 rfl (fun w9 hs => ?_)
        exact ⟨rfl, hs.below⟩
      · have hp0 := of_decide_eq_false hb3
        refine al_q (q_fieldAddr 0 rfl Tryz.runUnderlying40 rfl Tryz.sizeOf3 (by decide) rfl) rfl rfl rfl ?_
        refine al_q (q_load (i := 0) rfl rfl rfl Tryz.isAgg3) rfl rfl rfl ?_
        refine al_q (q_gtr rfl rfl) rfl rfl rfl ?_
        refine al_q (q_pickF rfl rfl) rfl rfl rfl ?_
        refine al_q (q_move rfl) rfl rfl rfl ?_
        refine aq_split 38 rfl (fun hb4 => ?_) (fun hb4 => ?_)
        · skip
          refine al_skip rfl rfl rfl ?_
          refine al_skip rfl rfl rfl ?_
          refine al_skip rfl rfl rfl ?_
          refine al_q (q_pickT rfl rfl) rfl rfl rfl ?_
          refine al_q (q_move rfl) rfl rfl rfl ?_
          refine al_skip rfl rfl rfl ?_
          refine al_skip rfl rfl rfl ?_
          refine al_skip rfl rfl rfl ?_
          refine al_q (q_pickT rfl rfl) rfl rfl rfl ?_
          refine al_end ?_
          refine aq_then ?_
          refine ac_condT rfl ?_
          refine ac_seq ?_
          refine ac_region ?_
          refine al_call Tryz.call19 .nil rfl rfl (fun w6 hs6 => ?_)
          refine (awake2_any _ (hE.below hs6.below)).mono ?_
          rintro e u6 ⟨rfl, hb_6⟩
          refine ⟨_, rfl, hb_6, ?_⟩
          clear hs6
          refine al_q (q_assign rfl) rfl rfl rfl ?_
          refine al_end ?_
          refine aq_then ?_
          refine ac_ret ?_
          refine aq_thenR ?_
          refine ret1 Tryz.results12 rfl (fun w9 hs => ?_)
          exact ⟨rfl, hs.below⟩
        · have hp1 := of_decide_eq_false hb4
          refine al_q (q_fieldAddr 1 rfl Tryz.runUnderlying40 rfl Tryz.sizeOf3 (by decide) rfl) rfl rfl rfl ?_
          refine al_q (q_load (i := 0) rfl rfl rfl Tryz.isAgg3) rfl rfl rfl ?_
          refine al_q (q_lss rfl rfl) rfl rfl rfl ?_
          refine al_q (q_pickF rfl rfl) rfl rfl rfl ?_
          refine al_q (q_move rfl) rfl rfl rfl ?_
          refine aq_split 43 rfl (fun hb5 => ?_) (fun hb5 => ?_)
          · skip
            refine al_skip rfl rfl rfl ?_
            refine al_skip rfl rfl rfl ?_
            refine al_skip rfl rfl rfl ?_
            refine al_q (q_pickT rfl rfl) rfl rfl rfl ?_
            refine al_end ?_
            refine aq_then ?_
            refine ac_condT rfl ?_
            refine ac_seq ?_
            refine ac_region ?_
            refine al_call Tryz.call19 .nil rfl rfl (fun w7 hs7 => ?_)
            refine (awake2_any _ (hE.below hs7.below)).mono ?_
            rintro e u7 ⟨rfl, hb_7⟩
            refine ⟨_, rfl, hb_7, ?_⟩
            clear hs7
            refine al_q (q_assign rfl) rfl rfl rfl ?_
            refine al_end ?_
            refine aq_then ?_
            refine ac_ret ?_
            refine aq_thenR ?_
            refine ret1 Tryz.results12 rfl (fun w9 hs => ?_)
            exact ⟨rfl, hs.below⟩
          · have hp2 := of_decide_eq_false hb5
            refine al_q (q_fieldAddr 1 rfl Tryz.runUnderlying40 rfl Tryz.sizeOf3 (by decide) rfl) rfl rfl rfl ?_
            refine al_q (q_load (i := 0) rfl rfl rfl Tryz.isAgg3) rfl rfl rfl ?_
            refine al_q (q_gtr rfl rfl) rfl rfl rfl ?_
            refine al_q (q_pickF rfl rfl) rfl rfl rfl ?_
            refine al_end ?_
            refine aq_then ?_
            refine ac_cond rfl (fun h1 => ?_) (fun h1 => ?_)
            · skip
              refine ac_seq ?_
              refine ac_region ?_
              refine al_call Tryz.call19 .nil rfl rfl (fun w8 hs8 => ?_)
              refine (awake2_any _ (hE.below hs8.below)).mono ?_
              rintro e u8 ⟨rfl, hb_8⟩
              refine ⟨_, rfl, hb_8, ?_⟩
              clear hs8
              refine al_q (q_assign rfl) rfl rfl rfl ?_
              refine al_end ?_
              refine aq_then ?_
              refine aq_keepL [3, 4, 5, 6] (.cons rfl (.cons rfl (.cons rfl (.cons rfl .nil)))) ?_
              refine ac_ret ?_
              refine aq_thenR ?_
              refine ret1 Tryz.results12 rfl (fun w9 hs => ?_)
              exact ⟨rfl, hs.below⟩
            · have hp3 := of_decide_eq_false h1
              refine ac_skip ?_
              refine aq_then ?_
              refine ac_seq ?_
              refine ac_region ?_
              refine al_q (q_loadAll (i := 2) rfl rfl Tryz.isAgg29 Tryz.sizeOf29 rfl) rfl rfl rfl ?_
              refine al_q (q_loadAll (i := 1) rfl rfl Tryz.isAgg34 Tryz.sizeOf34 rfl) rfl rfl rfl ?_
              refine al_q (q_loadAll (i := 0) rfl rfl Tryz.isAgg40 Tryz.sizeOf40 rfl) rfl rfl rfl ?_
              refine al_call Tryz.call42 (.cons rfl (.cons rfl (.cons rfl .nil))) rfl rfl (fun w9 hs9 => ?_)
              refine (flux_good R M Q C (p0) (p1) _ (hM.below hs9.below) (hC.below hs9.below) hf ⟨⟨by omega, by omega⟩, by omega, by omega⟩).mono ?_
              rintro e u9 ⟨rfl, hb_9⟩
              refine ⟨_, rfl, hb_9, ?_⟩
              clear hs9
              refine al_q (q_move rfl) rfl rfl rfl ?_
              refine al_q (q_extract rfl rfl) rfl rfl rfl ?_
              refine al_q (q_extract rfl rfl) rfl rfl rfl ?_
              refine al_q (q_assign rfl) rfl rfl rfl ?_
              refine al_q (q_assign rfl) rfl rfl rfl ?_
              refine al_end ?_
              refine aq_then ?_
              refine ac_seq ?_
              refine ac_region ?_
              refine al_q (q_loadAll (i := 0) rfl rfl Tryz.isAgg40 Tryz.sizeOf40 rfl) rfl rfl rfl ?_
              refine al_new (fun b => .pointer (some ⟨b, 0, none⟩)) (r_alloc Tryz.zeroValue40 rfl) rfl rfl rfl ?_
              intro b4
              refine al_storeAll (i := 0) rfl rfl rfl rfl Tryz.sizeOf40 rfl rfl .k0 rfl ?_
              refine al_end ?_
              refine aq_then ?_
              refine ac_seq ?_
              refine ac_seq ?_
              refine ac_region ?_
              refine al_q (q_assign rfl) rfl rfl rfl ?_
              refine al_end ?_
              refine aq_then ?_
              refine ac_block ?_
              refine ac_loop (β := Int × Int × Nat) (fun x => (x.1 = p0 + 2 * (x.2.2 : Int) ∧ x.2.1 = p1 + 2 * (x.2.2 : Int)) ∧ x.2.2 ≤ 4) (fun x => [(3, (.pointer (some ⟨b1, 0, none⟩))), (4, (.pointer (some ⟨b2, 0, none⟩))), (6, (.bool false)), (7, (.int .i64 (fluxP (x.1, x.2.1) (srcM M C)))), (9, (.pointer (some ⟨b4, 0, none⟩))), (10, (.int .i64 (x.2.2 : Int)))]) (fun _ => _) (fun x => [(b4, .cells [.int .i64 x.1, .int .i64 x.2.1]), (b3, _), (b2, _), (b1, _)]) (fun x => 4 - x.2.2) (p0, p1, 0) ⟨⟨by simp, by simp⟩, by simp⟩ ⟨rfl, rfl, rfl, rfl, rfl, rfl, trivial⟩ (fun w9 hs => hs) (fun x hF1 => ?_)
              refine ac_seq ?_
              refine ac_seq ?_
              refine ac_region ?_
              refine al_q (q_move rfl) rfl rfl rfl ?_
              refine al_q (q_lss rfl rfl) rfl rfl rfl ?_
              refine al_end ?_
              refine aq_then ?_
              refine ac_cond rfl (fun h2 => ?_) (fun h2 => ?_)
              · have hk : x.2.2 < 4 := by have := of_decide_eq_true h2; omega
                obtain ⟨⟨hx0, hx1⟩, hx2⟩ := hF1
                have q0 := hbd (x.1, x.2.1)
                have q1 := hbd (x.1 + 1 + 1, x.2.1)
                have q2 := hbd (x.1 + 1 - 1, x.2.1)
                have q3 := hbd (x.1 + 2, x.2.1 + 1 - 1)
                have q4 := hbd (x.1 + 2, x.2.1 + 1 + 1)
                have e0 : x.1 + 1 - 1 = x.1 := by omega
                have e1 : x.1 + 1 + 1 = x.1 + 2 := by omega
                have e2 : x.2.1 + 1 - 1 = x.2.1 := by omega
                have e3 : x.2.1 + 1 + 1 = x.2.1 + 2 := by omega
                refine ac_skip ?_
                refine aq_then ?_
                refine ac_seq ?_
                refine ac_block ?_
                refine ac_seq ?_
                refine ac_region ?_
                refine al_q (q_loadAll (i := 3) rfl rfl Tryz.isAgg29 Tryz.sizeOf29 rfl) rfl rfl rfl ?_
                refine al_q (q_loadAll (i := 2) rfl rfl Tryz.isAgg34 Tryz.sizeOf34 rfl) rfl rfl rfl ?_
                refine al_q (q_fieldAddr 0 rfl Tryz.runUnderlying40 rfl Tryz.sizeOf3 (by decide) rfl) rfl rfl rfl ?_
                refine al_q (q_load (i := 0) rfl rfl rfl Tryz.isAgg3) rfl rfl rfl ?_
                refine al_q (q_add rfl rfl (by omega)) rfl rfl rfl ?_
                refine al_q (q_fieldAddr 1 rfl Tryz.runUnderlying40 rfl Tryz.sizeOf3 (by decide) rfl) rfl rfl rfl ?_
                refine al_q (q_load (i := 0) rfl rfl rfl Tryz.isAgg3) rfl rfl rfl ?_
                refine al_q (q_build (.cons rfl (.cons rfl .nil)) (lwf_bl_apiPoint_0_1 _ _ rfl rfl)) rfl rfl rfl ?_
                refine al_call Tryz.call44 (.cons rfl (.cons rfl (.cons rfl .nil))) rfl rfl (fun w10 hs10 => ?_)
                refine (field_good R M Q C (x.1 + 1) (x.2.1) _ (hM.below hs10.below) (hC.below hs10.below) hf ⟨⟨by omega, by omega⟩, by omega, by omega⟩).mono ?_
                rintro e u10 ⟨rfl, hb_10⟩
                refine ⟨_, rfl, hb_10, ?_⟩
                clear hs10
                refine al_q (q_move rfl) rfl rfl rfl ?_
                refine al_q (q_extract rfl rfl) rfl rfl rfl ?_
                refine al_q (q_extract rfl rfl) rfl rfl rfl ?_
                refine al_q (q_extract rfl rfl) rfl rfl rfl ?_
                refine al_q (q_assign rfl) rfl rfl rfl ?_
                refine al_q (q_assign rfl) rfl rfl rfl ?_
                refine al_q (q_assign rfl) rfl rfl rfl ?_
                refine al_end ?_
                refine aq_then ?_
                refine ac_seq ?_
                refine ac_seq ?_
                refine ac_region ?_
                refine al_q (q_move rfl) rfl rfl rfl ?_
                refine al_q (q_same (v' := .bool false) (q_neq rfl rfl) (by simp)) rfl rfl rfl ?_
                refine al_end ?_
                refine aq_then ?_
                refine ac_condF rfl ?_
                refine ac_skip ?_
                refine aq_then ?_
                refine ac_seq ?_
                refine ac_region ?_
                refine al_q (q_move rfl) rfl rfl rfl ?_
                refine al_q (q_move rfl) rfl rfl rfl ?_
                refine al_q (q_add rfl rfl (by omega)) rfl rfl rfl ?_
                refine al_q (q_assign rfl) rfl rfl rfl ?_
                refine al_end ?_
                refine aq_then ?_
                refine ac_seq ?_
                refine ac_region ?_
                refine al_q (q_fieldAddr 0 rfl Tryz.runUnderlying40 rfl Tryz.sizeOf3 (by decide) rfl) rfl rfl rfl ?_
                refine al_q (q_load (i := 0) rfl rfl rfl Tryz.isAgg3) rfl rfl rfl ?_
                refine al_q (q_add rfl rfl (by omega)) rfl rfl rfl ?_
                refine al_q (q_fieldAddr 0 rfl Tryz.runUnderlying40 rfl Tryz.sizeOf3 (by decide) rfl) rfl rfl rfl ?_
                refine al_store1 (i := 0) rfl rfl rfl rfl Tryz.sizeOf3 .k0 .k0 rfl ?_
                refine al_end ?_
                refine aq_then ?_
                refine ac_seq ?_
                refine ac_region ?_
                refine al_q (q_loadAll (i := 3) rfl rfl Tryz.isAgg29 Tryz.sizeOf29 rfl) rfl rfl rfl ?_
                refine al_q (q_loadAll (i := 2) rfl rfl Tryz.isAgg34 Tryz.sizeOf34 rfl) rfl rfl rfl ?_
                refine al_q (q_fieldAddr 0 rfl Tryz.runUnderlying40 rfl Tryz.sizeOf3 (by decide) rfl) rfl rfl rfl ?_
                refine al_q (q_load (i := 0) rfl rfl rfl Tryz.isAgg3) rfl rfl rfl ?_
                refine al_q (q_fieldAddr 1 rfl Tryz.runUnderlying40 rfl Tryz.sizeOf3 (by decide) rfl) rfl rfl rfl ?_
                refine al_q (q_load (i := 0) rfl rfl rfl Tryz.isAgg3) rfl rfl rfl ?_
                refine al_q (q_add rfl rfl (by omega)) rfl rfl rfl ?_
                refine al_q (q_build (.cons rfl (.cons rfl .nil)) (lwf_bl_apiPoint_0_1 _ _ rfl rfl)) rfl rfl rfl ?_
                refine al_call Tryz.call44 (.cons rfl (.cons rfl (.cons rfl .nil))) rfl rfl (fun w11 hs11 => ?_)
                refine (field_good R M Q C (x.1 + 2) (x.2.1 + 1) _ (hM.below hs11.below) (hC.below hs11.below) hf ⟨⟨by omega, by omega⟩, by omega, by omega⟩).mono ?_
                rintro e u11 ⟨rfl, hb_11⟩
                refine ⟨_, rfl, hb_11, ?_⟩
                clear hs11
                refine al_q (q_move rfl) rfl rfl rfl ?_
                refine al_q (q_extract rfl rfl) rfl rfl rfl ?_
                refine al_q (q_extract rfl rfl) rfl rfl rfl ?_
                refine al_q (q_extract rfl rfl) rfl rfl rfl ?_
                refine al_q (q_assign rfl) rfl rfl rfl ?_
                refine al_q (q_assign rfl) rfl rfl rfl ?_
                refine al_q (q_assign rfl) rfl rfl rfl ?_
                refine al_end ?_
                refine aq_then ?_
                refine ac_seq ?_
                refine ac_seq ?_
                refine ac_region ?_
                refine al_q (q_move rfl) rfl rfl rfl ?_
                refine al_q (q_same (v' := .bool false) (q_neq rfl rfl) (by simp)) rfl rfl rfl ?_
                refine al_end ?_
                refine aq_then ?_
                refine ac_condF rfl ?_
                refine ac_skip ?_
                refine aq_then ?_
                refine ac_seq ?_
                refine ac_region ?_
                refine al_q (q_move rfl) rfl rfl rfl ?_
                refine al_q (q_move rfl) rfl rfl rfl ?_
                refine al_q (q_sub rfl rfl (by omega)) rfl rfl rfl ?_
                refine al_q (q_assign rfl) rfl rfl rfl ?_
                refine al_end ?_
                refine aq_then ?_
                refine ac_region ?_
                refine al_q (q_fieldAddr 1 rfl Tryz.runUnderlying40 rfl Tryz.sizeOf3 (by decide) rfl) rfl rfl rfl ?_
                refine al_q (q_load (i := 0) rfl rfl rfl Tryz.isAgg3) rfl rfl rfl ?_
                refine al_q (q_add rfl rfl (by omega)) rfl rfl rfl ?_
                refine al_q (q_fieldAddr 1 rfl Tryz.runUnderlying40 rfl Tryz.sizeOf3 (by decide) rfl) rfl rfl rfl ?_
                refine al_store1 (i := 0) rfl rfl rfl rfl Tryz.sizeOf3 .k1 .k0 rfl ?_
                refine al_end ?_
                refine aq_inN ?_
                refine aq_then ?_
                refine aq_keepL [3, 4, 6, 7, 9, 10, 12, 13, 14, 57, 58, 61, 62, 63, 64, 65, 66, 67, 68, 69, 70, 71, 72, 73, 74, 75, 76, 77, 78, 79, 80, 81, 82, 83, 84, 85, 86, 87, 88, 89, 90, 91, 92, 93, 94, 95, 96, 97, 98, 99, 100, 101, 102, 103, 104] (.cons rfl (.cons rfl (.cons rfl (.cons rfl (.cons rfl (.cons rfl (.cons rfl (.cons rfl (.cons rfl (.cons rfl (.cons rfl (.cons rfl (.cons rfl (.cons rfl (.cons rfl (.cons rfl (.cons rfl (.cons rfl (.cons rfl (.cons rfl (.cons rfl (.cons rfl (.cons rfl (.cons rfl (.cons rfl (.cons rfl (.cons rfl (.cons rfl (.cons rfl (.cons rfl (.cons rfl (.cons rfl (.cons rfl (.cons rfl (.cons rfl (.cons rfl (.cons rfl (.cons rfl (.cons rfl (.cons rfl (.cons rfl (.cons rfl (.cons rfl (.cons rfl (.cons rfl (.cons rfl (.cons rfl (.cons rfl (.cons rfl (.cons rfl (.cons rfl (.cons rfl (.cons rfl (.cons rfl (.cons rfl .nil))))))))))))))))))))))))))))))))))))))))))))))))))))))) ?_
                refine ac_region ?_
                refine al_q (q_move rfl) rfl rfl rfl ?_
                refine al_q (q_add rfl rfl (by omega)) rfl rfl rfl ?_
                refine al_q (q_assign rfl) rfl rfl rfl ?_
                refine al_end ?_
                refine aq_then ?_
                skip
                refine aq_round ((x.1 + 2, x.2.1 + 2, x.2.2 + 1)) (by simp only; omega) ⟨⟨by simp only; omega, by simp only; omega⟩, by simp only; omega⟩ ⟨rfl, rfl, rfl, (congrArg (fun z => some (Value.int .i64 z)) (by rw [e0, e1, e2, e3]; simp only; omega)), rfl, rfl, trivial⟩ (fun w9 hs => (hs.fewer 2 rfl))
              · have hk : x.2.2 = 4 := by have := of_decide_eq_false h2; omega
                obtain ⟨⟨hx0, hx1⟩, hx2⟩ := hF1
                refine ac_exit ?_
                refine aq_thenE ?_
                refine aq_thenE ?_
                refine aq_hit ?_
                refine aq_then ?_
                refine ac_seq ?_
                refine ac_region ?_
                refine al_q (q_loadAll (i := 3) rfl rfl Tryz.isAgg29 Tryz.sizeOf29 rfl) rfl rfl rfl ?_
                refine al_q (q_loadAll (i := 2) rfl rfl Tryz.isAgg34 Tryz.sizeOf34 rfl) rfl rfl rfl ?_
                refine al_q (q_loadAll (i := 0) rfl rfl Tryz.isAgg40 Tryz.sizeOf40 rfl) rfl rfl rfl ?_
                refine al_call Tryz.call42 (.cons rfl (.cons rfl (.cons rfl .nil))) rfl rfl (fun w12 hs12 => ?_)
                refine (flux_good R M Q C (x.1) (x.2.1) _ (hM.below hs12.below) (hC.below hs12.below) hf ⟨⟨by omega, by omega⟩, by omega, by omega⟩).mono ?_
                rintro e u12 ⟨rfl, hb_12⟩
                refine ⟨_, rfl, hb_12, ?_⟩
                clear hs12
                refine al_q (q_move rfl) rfl rfl rfl ?_
                refine al_q (q_extract rfl rfl) rfl rfl rfl ?_
                refine al_q (q_extract rfl rfl) rfl rfl rfl ?_
                refine al_q (q_assign rfl) rfl rfl rfl ?_
                refine al_q (q_assign rfl) rfl rfl rfl ?_
                refine al_end ?_
                refine aq_then ?_
                refine ac_seq ?_
                refine ac_region ?_
                refine al_q (q_move rfl) rfl rfl rfl ?_
                refine al_q (q_same (v' := .bool true) (q_eql rfl rfl) (by simp)) rfl rfl rfl ?_
                refine al_q (q_move rfl) rfl rfl rfl ?_
                refine al_q (q_move rfl) rfl rfl rfl ?_
                refine al_q (q_move rfl) rfl rfl rfl ?_
                refine al_q (q_same (v' := .bool true) (q_eql rfl rfl) (by simp)) rfl rfl rfl ?_
                refine al_q (q_pickT rfl rfl) rfl rfl rfl ?_
                refine al_q (q_move rfl) rfl rfl rfl ?_
                refine al_call Tryz.call19 .nil rfl rfl (fun w13 hs13 => ?_)
                refine (awake2_any _ (hE.below hs13.below)).mono ?_
                rintro e u13 ⟨rfl, hb_13⟩
                refine ⟨_, rfl, hb_13, ?_⟩
                clear hs13
                refine al_q (q_pickT rfl rfl) rfl rfl rfl ?_
                refine al_q (q_assign rfl) rfl rfl rfl ?_
                refine al_end ?_
                refine aq_then ?_
                refine ac_ret ?_
                refine ret1 Tryz.results12 rfl (fun w9 hs => ?_)
                exact ⟨rfl, hs.below⟩

end Go.Proofs.YtjjajleiladbhaaGreatDoor
end
