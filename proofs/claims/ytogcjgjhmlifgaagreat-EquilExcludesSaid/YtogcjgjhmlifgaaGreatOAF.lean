import Derived.Test.YtogcjgjhmlifgaaGreatOAE
import Derived.Deep.RegionHeld3
import Derived.Deep.DeepCutAuto
import Derived.Deep.QuietTactic
import Derived.BigQuiet
import Derived.IntWalk
namespace Go.Proofs.YtogcjgjhmlifgaaGreat
set_option linter.unusedVariables false
set_option linter.unusedSimpArgs false
section
open Go.RowKit Go.Shelf
theorem any_nonneg {α : Type} {p : α → Bool} {l : List α} {b : Bool} (h : l.any p = b) : if b = true then 0 ≤ idxL p l else idxL p l < 0 := by
  have := idxL_nonneg p l
  rw [h] at this
  cases b
  · simp at this ⊢; omega
  · simp at this ⊢; omega
set_option maxRecDepth 100000 in
set_option maxHeartbeats 4000000 in
theorem checkShell_any (x : ShellD) (A : Option Addr) (len cap : Nat) (zs : List ShellD) (w : World) :
    Calls Tryz.prog 139 #[x.v, .slice A len cap] w (Ret (.int .i64 (shellC x zs)) w) := by
  obtain ⟨r, z, self, loss⟩ := x
  show Calls Tryz.prog 139 #[.agg #[.int .i64 r, .int .i64 z, .int .i64 self, .int .i64 loss], .slice A len cap] w _
  have HE : Hid (shellC ⟨r, z, self, loss⟩ zs = rng (nearB r z 60 && (wthn self 1 1000000000 && (wthn loss 1 1000)))) := Lib.hid rfl
  generalize shellC ⟨r, z, self, loss⟩ zs = G at *
  cases t0 : nearB r z 60
  · have HF : Hid (G = 7) := Lib.hid (by rw [HE.out]; simp [t0, rng])
    clear HE
    go_enter Tryz.func139, Tryz.ntmps139
    go_wp2_with (first | (go_at_call 168; refine (validPlace_any _ _ _).mono ?_; rintro e w1 ⟨rfl, rfl⟩) | (go_at_call 115; refine (checkRange_any _ _).mono ?_; rintro e w1 ⟨rfl, rfl⟩))
    go_ret
    exact ⟨by rw [HF.out]; rfl, by (repeat first | with_reducible exact Below.refl _ _ | (with_reducible refine Below.alloc ?_ ?_ _; rotate_left; exact (by omega)))⟩
  cases t1 : wthn self 1 1000000000
  · have HF : Hid (G = 7) := Lib.hid (by rw [HE.out]; simp [t0, t1, rng])
    clear HE
    go_enter Tryz.func139, Tryz.ntmps139
    go_wp2_with (first | (go_at_call 146; refine (mwithin_any _ _ _ _).mono ?_; rintro e w1 ⟨rfl, rfl⟩) | (go_at_call 168; refine (validPlace_any _ _ _).mono ?_; rintro e w1 ⟨rfl, rfl⟩) | (go_at_call 115; refine (checkRange_any _ _).mono ?_; rintro e w1 ⟨rfl, rfl⟩))
    go_ret
    exact ⟨by rw [HF.out]; rfl, by (repeat first | with_reducible exact Below.refl _ _ | (with_reducible refine Below.alloc ?_ ?_ _; rotate_left; exact (by omega)))⟩
  cases t2 : wthn loss 1 1000
  · have HF : Hid (G = 7) := Lib.hid (by rw [HE.out]; simp [t0, t1, t2, rng])
    clear HE
    go_enter Tryz.func139, Tryz.ntmps139
    go_wp2_with (first | (go_at_call 146; refine (mwithin_any _ _ _ _).mono ?_; rintro e w1 ⟨rfl, rfl⟩) | (go_at_call 168; refine (validPlace_any _ _ _).mono ?_; rintro e w1 ⟨rfl, rfl⟩) | (go_at_call 115; refine (checkRange_any _ _).mono ?_; rintro e w1 ⟨rfl, rfl⟩))
    go_ret
    exact ⟨by rw [HF.out]; rfl, by (repeat first | with_reducible exact Below.refl _ _ | (with_reducible refine Below.alloc ?_ ?_ _; rotate_left; exact (by omega)))⟩
  have HF : Hid (G = 0) := Lib.hid (by rw [HE.out]; simp [t0, t1, t2, rng])
  clear HE
  go_enter Tryz.func139, Tryz.ntmps139
  go_wp2_with (first | (go_at_call 146; refine (mwithin_any _ _ _ _).mono ?_; rintro e w1 ⟨rfl, rfl⟩) | (go_at_call 168; refine (validPlace_any _ _ _).mono ?_; rintro e w1 ⟨rfl, rfl⟩) | (go_at_call 115; refine (checkRange_any _ _).mono ?_; rintro e w1 ⟨rfl, rfl⟩))
  go_ret
  exact ⟨by rw [HF.out]; rfl, by (repeat first | with_reducible exact Below.refl _ _ | (with_reducible refine Below.alloc ?_ ?_ _; rotate_left; exact (by omega)))⟩
set_option maxRecDepth 100000 in
set_option maxHeartbeats 4000000 in
theorem checkSensor_any (x : SensorD) (A : Option Addr) (len cap : Nat) (zs : List SensorD) (w : World) (hI : IsT 5 SensorD.cells w A len zs) (hl : len ≤ 1000000000000000) :
    Calls Tryz.prog 143 #[x.v, .slice A len cap] w (Ret (.int .i64 (sensorC x zs)) w) := by
  obtain ⟨name, kind, r, z, error⟩ := x
  show Calls Tryz.prog 143 #[.agg #[.string name, .int .i64 kind, .int .i64 r, .int .i64 z, .int .i64 error], .slice A len cap] w _
  have HN := Lib.hid (fun W => name_any name W)
  have HE : Hid (sensorC ⟨name, kind, r, z, error⟩ zs = if nameB name.data.toList = true then (if zs.any (fun x => decide (x.name = name)) = true then 6 else rng (wthn kind 1 3 && (nearB r z 60 && (wthn error 0 1000000000)))) else 1) := Lib.hid rfl
  generalize sensorC ⟨name, kind, r, z, error⟩ zs = G at *
  cases hnb : nameB name.data.toList
  · rw [hnb] at HN HE
    clear hnb hI
    go_enter Tryz.func143, Tryz.ntmps143
    go_wp2_with (go_at_call 166; refine (HN.out _).mono ?_; rintro e w1 ⟨rfl, rfl⟩)
    go_ret
    exact ⟨by rw [HE.out]; rfl, by (repeat first | with_reducible exact Below.refl _ _ | (with_reducible refine Below.alloc ?_ ?_ _; rotate_left; exact (by omega)))⟩
  rw [hnb] at HN HE
  clear hnb
  have HC := Lib.hid (fun W (hb : Below w.heap.size w W) => sensorNamed_any A len cap zs name W (hI.below hb) hl)
  cases ha : zs.any (fun x => decide (x.name = name))
  rotate_left
  · have h6 := any_nonneg ha
    rw [if_pos rfl] at h6
    rw [ha] at HE
    clear ha hI
    generalize idxL (fun x => decide (x.name = name)) zs = K at *
    go_enter Tryz.func143, Tryz.ntmps143
    go_wp2_with (first | (go_at_call 166; refine (HN.out _).mono ?_; rintro e w1 ⟨rfl, rfl⟩) | (go_at_call 171; refine (HC.out _ (by (repeat first | with_reducible exact Below.refl _ _ | (with_reducible refine Below.alloc ?_ ?_ _; rotate_left; exact (by omega))))).mono ?_; rintro e w1 ⟨rfl, hb⟩; have hB : Below w.heap.size w w1 := Below.trans (by (repeat first | with_reducible exact Below.refl _ _ | (with_reducible refine Below.alloc ?_ ?_ _; rotate_left; exact (by omega)))) (hb.mono (by (simp; done))); obtain ⟨hc, hf⟩ := bcell hb; have hs := hb.size; clear hb; (try simp only [World.size_alloc, World.size_setCell] at hc hf); (try simp only [World.size_alloc, World.size_setCell] at hs); (try have hs' := Nat.lt_of_succ_le hs); (try have hs0 : w.heap.size < w1.heap.size := by omega); (try have hs1 : w.heap.size + 1 < w1.heap.size := by omega); (try have hs2 : w.heap.size + 1 + 1 < w1.heap.size := by omega); (try have hs3 : w.heap.size + 1 + 1 + 1 < w1.heap.size := by omega)))
    go_ret
    exact ⟨by rw [HE.out]; rfl, by (repeat with_reducible assumption)⟩
  have h6 := any_nonneg ha
  rw [if_neg (by decide)] at h6
  rw [ha] at HE
  clear ha hI
  generalize idxL (fun x => decide (x.name = name)) zs = K at *
  have HE : Hid (G = rng (wthn kind 1 3 && (nearB r z 60 && (wthn error 0 1000000000)))) := Lib.hid (by rw [HE.out]; rfl)
  cases t0 : wthn kind 1 3
  · have HF : Hid (G = 7) := Lib.hid (by rw [HE.out]; simp [t0, rng])
    clear HE
    go_enter Tryz.func143, Tryz.ntmps143
    go_wp2_with (first | (go_at_call 166; refine (HN.out _).mono ?_; rintro e w1 ⟨rfl, rfl⟩) | (go_at_call 171; refine (HC.out _ (by (repeat first | with_reducible exact Below.refl _ _ | (with_reducible refine Below.alloc ?_ ?_ _; rotate_left; exact (by omega))))).mono ?_; rintro e w1 ⟨rfl, hb⟩; have hB : Below w.heap.size w w1 := Below.trans (by (repeat first | with_reducible exact Below.refl _ _ | (with_reducible refine Below.alloc ?_ ?_ _; rotate_left; exact (by omega)))) (hb.mono (by (simp; done))); obtain ⟨hc, hf⟩ := bcell hb; have hs := hb.size; clear hb; (try simp only [World.size_alloc, World.size_setCell] at hc hf); (try simp only [World.size_alloc, World.size_setCell] at hs); (try have hs' := Nat.lt_of_succ_le hs); (try have hs0 : w.heap.size < w1.heap.size := by omega); (try have hs1 : w.heap.size + 1 < w1.heap.size := by omega); (try have hs2 : w.heap.size + 1 + 1 < w1.heap.size := by omega); (try have hs3 : w.heap.size + 1 + 1 + 1 < w1.heap.size := by omega)) | (go_at_call 146; refine (mwithin_any _ _ _ _).mono ?_; rintro e w1 ⟨rfl, rfl⟩) | (go_at_call 115; refine (checkRange_any _ _).mono ?_; rintro e w1 ⟨rfl, rfl⟩))
    go_ret
    exact ⟨by rw [HF.out]; rfl, by (repeat with_reducible assumption)⟩
  cases t1 : nearB r z 60
  · have HF : Hid (G = 7) := Lib.hid (by rw [HE.out]; simp [t0, t1, rng])
    clear HE
    go_enter Tryz.func143, Tryz.ntmps143
    go_wp2_with (first | (go_at_call 166; refine (HN.out _).mono ?_; rintro e w1 ⟨rfl, rfl⟩) | (go_at_call 171; refine (HC.out _ (by (repeat first | with_reducible exact Below.refl _ _ | (with_reducible refine Below.alloc ?_ ?_ _; rotate_left; exact (by omega))))).mono ?_; rintro e w1 ⟨rfl, hb⟩; have hB : Below w.heap.size w w1 := Below.trans (by (repeat first | with_reducible exact Below.refl _ _ | (with_reducible refine Below.alloc ?_ ?_ _; rotate_left; exact (by omega)))) (hb.mono (by (simp; done))); obtain ⟨hc, hf⟩ := bcell hb; have hs := hb.size; clear hb; (try simp only [World.size_alloc, World.size_setCell] at hc hf); (try simp only [World.size_alloc, World.size_setCell] at hs); (try have hs' := Nat.lt_of_succ_le hs); (try have hs0 : w.heap.size < w1.heap.size := by omega); (try have hs1 : w.heap.size + 1 < w1.heap.size := by omega); (try have hs2 : w.heap.size + 1 + 1 < w1.heap.size := by omega); (try have hs3 : w.heap.size + 1 + 1 + 1 < w1.heap.size := by omega)) | (go_at_call 146; refine (mwithin_any _ _ _ _).mono ?_; rintro e w1 ⟨rfl, rfl⟩) | (go_at_call 168; refine (validPlace_any _ _ _).mono ?_; rintro e w1 ⟨rfl, rfl⟩) | (go_at_call 115; refine (checkRange_any _ _).mono ?_; rintro e w1 ⟨rfl, rfl⟩))
    go_ret
    exact ⟨by rw [HF.out]; rfl, by (repeat with_reducible assumption)⟩
  cases t2 : wthn error 0 1000000000
  · have HF : Hid (G = 7) := Lib.hid (by rw [HE.out]; simp [t0, t1, t2, rng])
    clear HE
    go_enter Tryz.func143, Tryz.ntmps143
    go_wp2_with (first | (go_at_call 166; refine (HN.out _).mono ?_; rintro e w1 ⟨rfl, rfl⟩) | (go_at_call 171; refine (HC.out _ (by (repeat first | with_reducible exact Below.refl _ _ | (with_reducible refine Below.alloc ?_ ?_ _; rotate_left; exact (by omega))))).mono ?_; rintro e w1 ⟨rfl, hb⟩; have hB : Below w.heap.size w w1 := Below.trans (by (repeat first | with_reducible exact Below.refl _ _ | (with_reducible refine Below.alloc ?_ ?_ _; rotate_left; exact (by omega)))) (hb.mono (by (simp; done))); obtain ⟨hc, hf⟩ := bcell hb; have hs := hb.size; clear hb; (try simp only [World.size_alloc, World.size_setCell] at hc hf); (try simp only [World.size_alloc, World.size_setCell] at hs); (try have hs' := Nat.lt_of_succ_le hs); (try have hs0 : w.heap.size < w1.heap.size := by omega); (try have hs1 : w.heap.size + 1 < w1.heap.size := by omega); (try have hs2 : w.heap.size + 1 + 1 < w1.heap.size := by omega); (try have hs3 : w.heap.size + 1 + 1 + 1 < w1.heap.size := by omega)) | (go_at_call 146; refine (mwithin_any _ _ _ _).mono ?_; rintro e w1 ⟨rfl, rfl⟩) | (go_at_call 168; refine (validPlace_any _ _ _).mono ?_; rintro e w1 ⟨rfl, rfl⟩) | (go_at_call 115; refine (checkRange_any _ _).mono ?_; rintro e w1 ⟨rfl, rfl⟩))
    go_ret
    exact ⟨by rw [HF.out]; rfl, by (repeat with_reducible assumption)⟩
  have HF : Hid (G = 0) := Lib.hid (by rw [HE.out]; simp [t0, t1, t2, rng])
  clear HE
  go_enter Tryz.func143, Tryz.ntmps143
  go_wp2_with (first | (go_at_call 166; refine (HN.out _).mono ?_; rintro e w1 ⟨rfl, rfl⟩) | (go_at_call 171; refine (HC.out _ (by (repeat first | with_reducible exact Below.refl _ _ | (with_reducible refine Below.alloc ?_ ?_ _; rotate_left; exact (by omega))))).mono ?_; rintro e w1 ⟨rfl, hb⟩; have hB : Below w.heap.size w w1 := Below.trans (by (repeat first | with_reducible exact Below.refl _ _ | (with_reducible refine Below.alloc ?_ ?_ _; rotate_left; exact (by omega)))) (hb.mono (by (simp; done))); obtain ⟨hc, hf⟩ := bcell hb; have hs := hb.size; clear hb; (try simp only [World.size_alloc, World.size_setCell] at hc hf); (try simp only [World.size_alloc, World.size_setCell] at hs); (try have hs' := Nat.lt_of_succ_le hs); (try have hs0 : w.heap.size < w1.heap.size := by omega); (try have hs1 : w.heap.size + 1 < w1.heap.size := by omega); (try have hs2 : w.heap.size + 1 + 1 < w1.heap.size := by omega); (try have hs3 : w.heap.size + 1 + 1 + 1 < w1.heap.size := by omega)) | (go_at_call 146; refine (mwithin_any _ _ _ _).mono ?_; rintro e w1 ⟨rfl, rfl⟩) | (go_at_call 168; refine (validPlace_any _ _ _).mono ?_; rintro e w1 ⟨rfl, rfl⟩) | (go_at_call 115; refine (checkRange_any _ _).mono ?_; rintro e w1 ⟨rfl, rfl⟩))
  go_ret
  exact ⟨by rw [HF.out]; rfl, by (repeat with_reducible assumption)⟩
set_option maxRecDepth 100000 in
set_option maxHeartbeats 4000000 in
theorem checkCoil_any (x : CoilD) (A : Option Addr) (len cap : Nat) (zs : List CoilD) (w : World) (hI : IsT 8 CoilD.cells w A len zs) (hl : len ≤ 1000000000000000) :
    Calls Tryz.prog 137 #[x.v, .slice A len cap] w (Ret (.int .i64 (coilC x zs)) w) := by
  obtain ⟨name, r, z, turns, cur, step, heat, cool⟩ := x
  show Calls Tryz.prog 137 #[.agg #[.string name, .int .i64 r, .int .i64 z, .int .i64 turns, .int .i64 cur, .int .i64 step, .int .i64 heat, .int .i64 cool], .slice A len cap] w _
  have HN := Lib.hid (fun W => name_any name W)
  have HE : Hid (coilC ⟨name, r, z, turns, cur, step, heat, cool⟩ zs = if nameB name.data.toList = true then (if zs.any (fun x => decide (x.name = name)) = true then 6 else rng (nearB r z 60 && (wthn turns 1 100 && (wthn cur 1 1000000 && (wthn step 1 1000000 && (wthn heat 1 1000000000000 && (wthn cool 0 1000000000))))))) else 1) := Lib.hid rfl
  generalize coilC ⟨name, r, z, turns, cur, step, heat, cool⟩ zs = G at *
  cases hnb : nameB name.data.toList
  · rw [hnb] at HN HE
    clear hnb hI
    go_enter Tryz.func137, Tryz.ntmps137
    go_wp2_with (go_at_call 166; refine (HN.out _).mono ?_; rintro e w1 ⟨rfl, rfl⟩)
    go_ret
    exact ⟨by rw [HE.out]; rfl, by (repeat first | with_reducible exact Below.refl _ _ | (with_reducible refine Below.alloc ?_ ?_ _; rotate_left; exact (by omega)))⟩
  rw [hnb] at HN HE
  clear hnb
  have HC := Lib.hid (fun W (hb : Below w.heap.size w W) => coilNamed_any A len cap zs name W (hI.below hb) hl)
  cases ha : zs.any (fun x => decide (x.name = name))
  rotate_left
  · have h6 := any_nonneg ha
    rw [if_pos rfl] at h6
    rw [ha] at HE
    clear ha hI
    generalize idxL (fun x => decide (x.name = name)) zs = K at *
    go_enter Tryz.func137, Tryz.ntmps137
    go_wp2_with (first | (go_at_call 166; refine (HN.out _).mono ?_; rintro e w1 ⟨rfl, rfl⟩) | (go_at_call 167; refine (HC.out _ (by (repeat first | with_reducible exact Below.refl _ _ | (with_reducible refine Below.alloc ?_ ?_ _; rotate_left; exact (by omega))))).mono ?_; rintro e w1 ⟨rfl, hb⟩; have hB : Below w.heap.size w w1 := Below.trans (by (repeat first | with_reducible exact Below.refl _ _ | (with_reducible refine Below.alloc ?_ ?_ _; rotate_left; exact (by omega)))) (hb.mono (by (simp; done))); obtain ⟨hc, hf⟩ := bcell hb; have hs := hb.size; clear hb; (try simp only [World.size_alloc, World.size_setCell] at hc hf); (try simp only [World.size_alloc, World.size_setCell] at hs); (try have hs' := Nat.lt_of_succ_le hs); (try have hs0 : w.heap.size < w1.heap.size := by omega); (try have hs1 : w.heap.size + 1 < w1.heap.size := by omega); (try have hs2 : w.heap.size + 1 + 1 < w1.heap.size := by omega); (try have hs3 : w.heap.size + 1 + 1 + 1 < w1.heap.size := by omega)))
    go_ret
    exact ⟨by rw [HE.out]; rfl, by (repeat with_reducible assumption)⟩
  have h6 := any_nonneg ha
  rw [if_neg (by decide)] at h6
  rw [ha] at HE
  clear ha hI
  generalize idxL (fun x => decide (x.name = name)) zs = K at *
  have HE : Hid (G = rng (nearB r z 60 && (wthn turns 1 100 && (wthn cur 1 1000000 && (wthn step 1 1000000 && (wthn heat 1 1000000000000 && (wthn cool 0 1000000000))))))) := Lib.hid (by rw [HE.out]; rfl)
  cases t0 : nearB r z 60
  · have HF : Hid (G = 7) := Lib.hid (by rw [HE.out]; simp [t0, rng])
    clear HE
    go_enter Tryz.func137, Tryz.ntmps137
    go_wp2_with (first | (go_at_call 166; refine (HN.out _).mono ?_; rintro e w1 ⟨rfl, rfl⟩) | (go_at_call 167; refine (HC.out _ (by (repeat first | with_reducible exact Below.refl _ _ | (with_reducible refine Below.alloc ?_ ?_ _; rotate_left; exact (by omega))))).mono ?_; rintro e w1 ⟨rfl, hb⟩; have hB : Below w.heap.size w w1 := Below.trans (by (repeat first | with_reducible exact Below.refl _ _ | (with_reducible refine Below.alloc ?_ ?_ _; rotate_left; exact (by omega)))) (hb.mono (by (simp; done))); obtain ⟨hc, hf⟩ := bcell hb; have hs := hb.size; clear hb; (try simp only [World.size_alloc, World.size_setCell] at hc hf); (try simp only [World.size_alloc, World.size_setCell] at hs); (try have hs' := Nat.lt_of_succ_le hs); (try have hs0 : w.heap.size < w1.heap.size := by omega); (try have hs1 : w.heap.size + 1 < w1.heap.size := by omega); (try have hs2 : w.heap.size + 1 + 1 < w1.heap.size := by omega); (try have hs3 : w.heap.size + 1 + 1 + 1 < w1.heap.size := by omega)) | (go_at_call 168; refine (validPlace_any _ _ _).mono ?_; rintro e w1 ⟨rfl, rfl⟩) | (go_at_call 115; refine (checkRange_any _ _).mono ?_; rintro e w1 ⟨rfl, rfl⟩))
    go_ret
    exact ⟨by rw [HF.out]; rfl, by (repeat with_reducible assumption)⟩
  cases t1 : wthn turns 1 100
  · have HF : Hid (G = 7) := Lib.hid (by rw [HE.out]; simp [t0, t1, rng])
    clear HE
    go_enter Tryz.func137, Tryz.ntmps137
    go_wp2_with (first | (go_at_call 166; refine (HN.out _).mono ?_; rintro e w1 ⟨rfl, rfl⟩) | (go_at_call 167; refine (HC.out _ (by (repeat first | with_reducible exact Below.refl _ _ | (with_reducible refine Below.alloc ?_ ?_ _; rotate_left; exact (by omega))))).mono ?_; rintro e w1 ⟨rfl, hb⟩; have hB : Below w.heap.size w w1 := Below.trans (by (repeat first | with_reducible exact Below.refl _ _ | (with_reducible refine Below.alloc ?_ ?_ _; rotate_left; exact (by omega)))) (hb.mono (by (simp; done))); obtain ⟨hc, hf⟩ := bcell hb; have hs := hb.size; clear hb; (try simp only [World.size_alloc, World.size_setCell] at hc hf); (try simp only [World.size_alloc, World.size_setCell] at hs); (try have hs' := Nat.lt_of_succ_le hs); (try have hs0 : w.heap.size < w1.heap.size := by omega); (try have hs1 : w.heap.size + 1 < w1.heap.size := by omega); (try have hs2 : w.heap.size + 1 + 1 < w1.heap.size := by omega); (try have hs3 : w.heap.size + 1 + 1 + 1 < w1.heap.size := by omega)) | (go_at_call 146; refine (mwithin_any _ _ _ _).mono ?_; rintro e w1 ⟨rfl, rfl⟩) | (go_at_call 168; refine (validPlace_any _ _ _).mono ?_; rintro e w1 ⟨rfl, rfl⟩) | (go_at_call 115; refine (checkRange_any _ _).mono ?_; rintro e w1 ⟨rfl, rfl⟩))
    go_ret
    exact ⟨by rw [HF.out]; rfl, by (repeat with_reducible assumption)⟩
  cases t2 : wthn cur 1 1000000
  · have HF : Hid (G = 7) := Lib.hid (by rw [HE.out]; simp [t0, t1, t2, rng])
    clear HE
    go_enter Tryz.func137, Tryz.ntmps137
    go_wp2_with (first | (go_at_call 166; refine (HN.out _).mono ?_; rintro e w1 ⟨rfl, rfl⟩) | (go_at_call 167; refine (HC.out _ (by (repeat first | with_reducible exact Below.refl _ _ | (with_reducible refine Below.alloc ?_ ?_ _; rotate_left; exact (by omega))))).mono ?_; rintro e w1 ⟨rfl, hb⟩; have hB : Below w.heap.size w w1 := Below.trans (by (repeat first | with_reducible exact Below.refl _ _ | (with_reducible refine Below.alloc ?_ ?_ _; rotate_left; exact (by omega)))) (hb.mono (by (simp; done))); obtain ⟨hc, hf⟩ := bcell hb; have hs := hb.size; clear hb; (try simp only [World.size_alloc, World.size_setCell] at hc hf); (try simp only [World.size_alloc, World.size_setCell] at hs); (try have hs' := Nat.lt_of_succ_le hs); (try have hs0 : w.heap.size < w1.heap.size := by omega); (try have hs1 : w.heap.size + 1 < w1.heap.size := by omega); (try have hs2 : w.heap.size + 1 + 1 < w1.heap.size := by omega); (try have hs3 : w.heap.size + 1 + 1 + 1 < w1.heap.size := by omega)) | (go_at_call 146; refine (mwithin_any _ _ _ _).mono ?_; rintro e w1 ⟨rfl, rfl⟩) | (go_at_call 168; refine (validPlace_any _ _ _).mono ?_; rintro e w1 ⟨rfl, rfl⟩) | (go_at_call 115; refine (checkRange_any _ _).mono ?_; rintro e w1 ⟨rfl, rfl⟩))
    go_ret
    exact ⟨by rw [HF.out]; rfl, by (repeat with_reducible assumption)⟩
  cases t3 : wthn step 1 1000000
  · have HF : Hid (G = 7) := Lib.hid (by rw [HE.out]; simp [t0, t1, t2, t3, rng])
    clear HE
    go_enter Tryz.func137, Tryz.ntmps137
    go_wp2_with (first | (go_at_call 166; refine (HN.out _).mono ?_; rintro e w1 ⟨rfl, rfl⟩) | (go_at_call 167; refine (HC.out _ (by (repeat first | with_reducible exact Below.refl _ _ | (with_reducible refine Below.alloc ?_ ?_ _; rotate_left; exact (by omega))))).mono ?_; rintro e w1 ⟨rfl, hb⟩; have hB : Below w.heap.size w w1 := Below.trans (by (repeat first | with_reducible exact Below.refl _ _ | (with_reducible refine Below.alloc ?_ ?_ _; rotate_left; exact (by omega)))) (hb.mono (by (simp; done))); obtain ⟨hc, hf⟩ := bcell hb; have hs := hb.size; clear hb; (try simp only [World.size_alloc, World.size_setCell] at hc hf); (try simp only [World.size_alloc, World.size_setCell] at hs); (try have hs' := Nat.lt_of_succ_le hs); (try have hs0 : w.heap.size < w1.heap.size := by omega); (try have hs1 : w.heap.size + 1 < w1.heap.size := by omega); (try have hs2 : w.heap.size + 1 + 1 < w1.heap.size := by omega); (try have hs3 : w.heap.size + 1 + 1 + 1 < w1.heap.size := by omega)) | (go_at_call 146; refine (mwithin_any _ _ _ _).mono ?_; rintro e w1 ⟨rfl, rfl⟩) | (go_at_call 168; refine (validPlace_any _ _ _).mono ?_; rintro e w1 ⟨rfl, rfl⟩) | (go_at_call 115; refine (checkRange_any _ _).mono ?_; rintro e w1 ⟨rfl, rfl⟩))
    go_ret
    exact ⟨by rw [HF.out]; rfl, by (repeat with_reducible assumption)⟩
  cases t4 : wthn heat 1 1000000000000
  · have HF : Hid (G = 7) := Lib.hid (by rw [HE.out]; simp [t0, t1, t2, t3, t4, rng])
    clear HE
    go_enter Tryz.func137, Tryz.ntmps137
    go_wp2_with (first | (go_at_call 166; refine (HN.out _).mono ?_; rintro e w1 ⟨rfl, rfl⟩) | (go_at_call 167; refine (HC.out _ (by (repeat first | with_reducible exact Below.refl _ _ | (with_reducible refine Below.alloc ?_ ?_ _; rotate_left; exact (by omega))))).mono ?_; rintro e w1 ⟨rfl, hb⟩; have hB : Below w.heap.size w w1 := Below.trans (by (repeat first | with_reducible exact Below.refl _ _ | (with_reducible refine Below.alloc ?_ ?_ _; rotate_left; exact (by omega)))) (hb.mono (by (simp; done))); obtain ⟨hc, hf⟩ := bcell hb; have hs := hb.size; clear hb; (try simp only [World.size_alloc, World.size_setCell] at hc hf); (try simp only [World.size_alloc, World.size_setCell] at hs); (try have hs' := Nat.lt_of_succ_le hs); (try have hs0 : w.heap.size < w1.heap.size := by omega); (try have hs1 : w.heap.size + 1 < w1.heap.size := by omega); (try have hs2 : w.heap.size + 1 + 1 < w1.heap.size := by omega); (try have hs3 : w.heap.size + 1 + 1 + 1 < w1.heap.size := by omega)) | (go_at_call 146; refine (mwithin_any _ _ _ _).mono ?_; rintro e w1 ⟨rfl, rfl⟩) | (go_at_call 168; refine (validPlace_any _ _ _).mono ?_; rintro e w1 ⟨rfl, rfl⟩) | (go_at_call 115; refine (checkRange_any _ _).mono ?_; rintro e w1 ⟨rfl, rfl⟩))
    go_ret
    exact ⟨by rw [HF.out]; rfl, by (repeat with_reducible assumption)⟩
  cases t5 : wthn cool 0 1000000000
  · have HF : Hid (G = 7) := Lib.hid (by rw [HE.out]; simp [t0, t1, t2, t3, t4, t5, rng])
    clear HE
    go_enter Tryz.func137, Tryz.ntmps137
    go_wp2_with (first | (go_at_call 166; refine (HN.out _).mono ?_; rintro e w1 ⟨rfl, rfl⟩) | (go_at_call 167; refine (HC.out _ (by (repeat first | with_reducible exact Below.refl _ _ | (with_reducible refine Below.alloc ?_ ?_ _; rotate_left; exact (by omega))))).mono ?_; rintro e w1 ⟨rfl, hb⟩; have hB : Below w.heap.size w w1 := Below.trans (by (repeat first | with_reducible exact Below.refl _ _ | (with_reducible refine Below.alloc ?_ ?_ _; rotate_left; exact (by omega)))) (hb.mono (by (simp; done))); obtain ⟨hc, hf⟩ := bcell hb; have hs := hb.size; clear hb; (try simp only [World.size_alloc, World.size_setCell] at hc hf); (try simp only [World.size_alloc, World.size_setCell] at hs); (try have hs' := Nat.lt_of_succ_le hs); (try have hs0 : w.heap.size < w1.heap.size := by omega); (try have hs1 : w.heap.size + 1 < w1.heap.size := by omega); (try have hs2 : w.heap.size + 1 + 1 < w1.heap.size := by omega); (try have hs3 : w.heap.size + 1 + 1 + 1 < w1.heap.size := by omega)) | (go_at_call 146; refine (mwithin_any _ _ _ _).mono ?_; rintro e w1 ⟨rfl, rfl⟩) | (go_at_call 168; refine (validPlace_any _ _ _).mono ?_; rintro e w1 ⟨rfl, rfl⟩) | (go_at_call 115; refine (checkRange_any _ _).mono ?_; rintro e w1 ⟨rfl, rfl⟩))
    go_ret
    exact ⟨by rw [HF.out]; rfl, by (repeat with_reducible assumption)⟩
  have HF : Hid (G = 0) := Lib.hid (by rw [HE.out]; simp [t0, t1, t2, t3, t4, t5, rng])
  clear HE
  go_enter Tryz.func137, Tryz.ntmps137
  go_wp2_with (first | (go_at_call 166; refine (HN.out _).mono ?_; rintro e w1 ⟨rfl, rfl⟩) | (go_at_call 167; refine (HC.out _ (by (repeat first | with_reducible exact Below.refl _ _ | (with_reducible refine Below.alloc ?_ ?_ _; rotate_left; exact (by omega))))).mono ?_; rintro e w1 ⟨rfl, hb⟩; have hB : Below w.heap.size w w1 := Below.trans (by (repeat first | with_reducible exact Below.refl _ _ | (with_reducible refine Below.alloc ?_ ?_ _; rotate_left; exact (by omega)))) (hb.mono (by (simp; done))); obtain ⟨hc, hf⟩ := bcell hb; have hs := hb.size; clear hb; (try simp only [World.size_alloc, World.size_setCell] at hc hf); (try simp only [World.size_alloc, World.size_setCell] at hs); (try have hs' := Nat.lt_of_succ_le hs); (try have hs0 : w.heap.size < w1.heap.size := by omega); (try have hs1 : w.heap.size + 1 < w1.heap.size := by omega); (try have hs2 : w.heap.size + 1 + 1 < w1.heap.size := by omega); (try have hs3 : w.heap.size + 1 + 1 + 1 < w1.heap.size := by omega)) | (go_at_call 146; refine (mwithin_any _ _ _ _).mono ?_; rintro e w1 ⟨rfl, rfl⟩) | (go_at_call 168; refine (validPlace_any _ _ _).mono ?_; rintro e w1 ⟨rfl, rfl⟩) | (go_at_call 115; refine (checkRange_any _ _).mono ?_; rintro e w1 ⟨rfl, rfl⟩))
  go_ret
  exact ⟨by rw [HF.out]; rfl, by (repeat with_reducible assumption)⟩
end
section
open Go.RowKit
set_option maxHeartbeats 4000000 in
theorem eachPoint (k : Nat) (chk : PointD → List PointD → Int) (most : Int) (A : Option Addr) (len cap : Nat) (zs : List PointD) (w : World) (hI : IsT 2 PointD.cells w A len zs) (hl : (len : Int) ≤ most → len ≤ 1000000000000000) (hcap : len ≤ cap) (hmax : cap ≤ 9223372036854775807)
    (hE : ∀ (args : Array Value) (W : World), (callFunc k args).run Tryz.prog W = .ok (.enter k args) W)
    (hk : (len : Int) ≤ most → ∀ (j : Nat) (x : PointD) (W : World), zs[j]? = some x → Below w.heap.size w W → Calls Tryz.prog k #[PointD.v x, .slice A j cap] W (Ret (.int .i64 (chk x (zs.take j))) W)) :
    Calls Tryz.prog 169 #[.slice A len cap, .int .i64 most, .func (.func k) #[] #[]] w (Ret (.int .i64 (eachC chk most zs)) w) := by
  have HI := Lib.hid hI
  have hz := hI.1
  by_cases hm : most < len
  · have HG : Hid (eachC chk most zs = 4) := Lib.hid (by unfold eachC; rw [if_pos (by omega)])
    clear hI hk hz hl
    generalize eachC chk most zs = G at *
    go_enter Tryz.func169, Tryz.ntmps169
    go_wp2_with fail
    go_ret
    exact ⟨by rw [HG.out]; rfl, by (repeat with_reducible exact Below.refl _ _)⟩
  have hl := hl (by omega)
  have HK := Lib.hid (hk (by omega))
  have HG : Hid (eachC chk most zs = eachGo chk [] zs) := Lib.hid (by unfold eachC; rw [if_neg (by omega)])
  generalize eachC chk most zs = G at *
  clear hI hk hz
  go_enter Tryz.func169, Tryz.ntmps169
  go_wp2_with fail
  go_loopw [7, 8, 9, 16] (fun _ _ _ i wr => ∃ j : Nat, j ≤ len ∧ i = .int .i64 j ∧ Hid (eachGo chk (zs.take j) (zs.drop j) = G) ∧ Below w.heap.size w wr) (fun _ _ _ i _ => len - (intOf i).toNat)
  case atStart => exact ⟨0, Nat.zero_le _, rfl, Lib.hid HG.out.symm, Below.refl _ _⟩
  case round =>
    obtain ⟨j, hj, rfl, hG, hB⟩ := hrel
    by_cases hlt : j < len
    · obtain ⟨hzl, hcl⟩ := HI.out.below hB
      obtain ⟨b, o, rfl, hb0, hcl⟩ := hcl (by omega)
      obtain ⟨x, hx⟩ : ∃ x, zs[j]? = some x := ⟨_, List.getElem?_eq_getElem (by omega)⟩
      have HS := Lib.hid (eachGo_step chk hx)
      have x0 : wr.cell? ⟨b, o + j * 2, none⟩ = some (.int .i64 x.r) := by have h := hcl j x hx 0 _ rfl; simpa using h
      have x1 : wr.cell? ⟨b, o + j * 2 + 1, none⟩ = some (.int .i64 x.z) := by have h := hcl j x hx 1 _ rfl; simpa using h
      have hsz := hB.size
      have HC := Lib.hid (fun W h => HK.out j x W hx h)
      clear hcl hx hzl
      have HS := Lib.hid (hG.out.symm.trans HS.out)
      obtain ⟨e, he⟩ : ∃ e, chk x (zs.take j) = e := ⟨_, rfl⟩
      rw [he] at HC HS
      clear he hG
      have jc : (j : Int) ≤ cap := by omega
      by_cases h0 : e = 0
      · have HN : Hid (eachGo chk (zs.take (j + 1)) (zs.drop (j + 1)) = G) := Lib.hid (by rw [HS.out, if_pos h0])
        subst h0
        clear HS
        go_upto_region 6 with fail
        go_cut [9] (fun s9 wx => s9 = .int .i64 0 ∧ Below w.heap.size w wx)
        case first =>
          have HS : Hid (∀ w' : World, Reg (wr.heap.size + 1) ((wr.alloc (.cells #[.int .i64 x.r, .int .i64 x.z] 36))) w' → (Reg (wr.heap.size + 1) ((wr.alloc (.cells #[.int .i64 x.r, .int .i64 x.z] 36))) w' ∧ w'.cell? ⟨wr.heap.size, 0, none⟩ = some (.int .i64 x.r) ∧ w'.cell? ⟨wr.heap.size, 1, none⟩ = some (.int .i64 x.z))) := (fun w' h => by (have hc := h.cells; have hs := h.some; have hf := h.frozen; refine ⟨h, ?_⟩; (try simp only [World.size_alloc, World.size_setCell, size_drew, size_drewN] at hc hs hf); first | (simp (disch := omega) only [hc, hs, hf, cur_iff]; (try go_simp); done) | (simp (disch := first | omega | (simp; done)) only [hc, hs, hf, cur_iff]; (try go_simp); done) | (simp (maxDischargeDepth := 4) [hc, hs, hf, cur_iff, go_sem]; done) | (go_simp; done) | (simp (maxDischargeDepth := 4) [hc, hs, hf, cur_iff, go_sem]; go_simp))); go_region_held3 (fun w' => Reg (wr.heap.size + 1) ((wr.alloc (.cells #[.int .i64 x.r, .int .i64 x.z] 36))) w' ∧ w'.cell? ⟨wr.heap.size, 0, none⟩ = some (.int .i64 x.r) ∧ w'.cell? ⟨wr.heap.size, 1, none⟩ = some (.int .i64 x.z)) (exact HS.out _ (by (repeat first | with_reducible exact Reg.refl _ _ | with_reducible exact (‹Reg _ _ _ ∧ _›).1 | with_reducible refine Reg.drew ?_ | (with_reducible apply Reg.call; rotate_left; with_reducible assumption)))) (((with_reducible show Calls _ k _ _ _); refine (HC.out _ (Reg.out (‹Reg _ _ _ ∧ _›).1 (by (repeat first | with_reducible assumption | (with_reducible refine Below.alloc ?_ ?_ _; rotate_left; exact (by omega)))) (by omega))).mono ?_; rintro e w1 ⟨rfl, hb⟩; (with_reducible have hk := Nat.lt_of_lt_of_le (size_alloc_lt _ _) hb.size); (try simp only [World.size_alloc, World.size_setCell, size_drew, size_drewN] at hk); obtain ⟨hc, hf⟩ := bcell hb; have hs := hb.size; (try simp only [World.size_alloc, World.size_setCell, size_drew, size_drewN] at hs)))
          all_goals go_wp2_with fail
          all_goals go_meet
          all_goals exact ⟨rfl, (Reg.out (‹Reg _ _ _ ∧ _›).1 (by (repeat first | with_reducible assumption | (with_reducible refine Below.alloc ?_ ?_ _; rotate_left; exact (by omega)))) (by omega))⟩
        case rest =>
          obtain ⟨rfl, hB1⟩ := hcut
          go_wp2_with fail
          go_roundw
          case rel => exact ⟨j + 1, by omega, by go_num, HN, hB1⟩
          case measure => simp [intOf]; omega
      · have HN : Hid (e = G) := Lib.hid (by rw [HS.out, if_neg h0])
        have hne : (e != 0) = true := by rw [bne_iff_ne]; exact h0
        clear HS
        go_upto_region 6 with fail
        go_cut [9] (fun s9 wx => s9 = .int .i64 e ∧ Below w.heap.size w wx)
        case first =>
          have HS : Hid (∀ w' : World, Reg (wr.heap.size + 1) ((wr.alloc (.cells #[.int .i64 x.r, .int .i64 x.z] 36))) w' → (Reg (wr.heap.size + 1) ((wr.alloc (.cells #[.int .i64 x.r, .int .i64 x.z] 36))) w' ∧ w'.cell? ⟨wr.heap.size, 0, none⟩ = some (.int .i64 x.r) ∧ w'.cell? ⟨wr.heap.size, 1, none⟩ = some (.int .i64 x.z))) := (fun w' h => by (have hc := h.cells; have hs := h.some; have hf := h.frozen; refine ⟨h, ?_⟩; (try simp only [World.size_alloc, World.size_setCell, size_drew, size_drewN] at hc hs hf); first | (simp (disch := omega) only [hc, hs, hf, cur_iff]; (try go_simp); done) | (simp (disch := first | omega | (simp; done)) only [hc, hs, hf, cur_iff]; (try go_simp); done) | (simp (maxDischargeDepth := 4) [hc, hs, hf, cur_iff, go_sem]; done) | (go_simp; done) | (simp (maxDischargeDepth := 4) [hc, hs, hf, cur_iff, go_sem]; go_simp))); go_region_held3 (fun w' => Reg (wr.heap.size + 1) ((wr.alloc (.cells #[.int .i64 x.r, .int .i64 x.z] 36))) w' ∧ w'.cell? ⟨wr.heap.size, 0, none⟩ = some (.int .i64 x.r) ∧ w'.cell? ⟨wr.heap.size, 1, none⟩ = some (.int .i64 x.z)) (exact HS.out _ (by (repeat first | with_reducible exact Reg.refl _ _ | with_reducible exact (‹Reg _ _ _ ∧ _›).1 | with_reducible refine Reg.drew ?_ | (with_reducible apply Reg.call; rotate_left; with_reducible assumption)))) (((with_reducible show Calls _ k _ _ _); refine (HC.out _ (Reg.out (‹Reg _ _ _ ∧ _›).1 (by (repeat first | with_reducible assumption | (with_reducible refine Below.alloc ?_ ?_ _; rotate_left; exact (by omega)))) (by omega))).mono ?_; rintro e w1 ⟨rfl, hb⟩; (with_reducible have hk := Nat.lt_of_lt_of_le (size_alloc_lt _ _) hb.size); (try simp only [World.size_alloc, World.size_setCell, size_drew, size_drewN] at hk); obtain ⟨hc, hf⟩ := bcell hb; have hs := hb.size; (try simp only [World.size_alloc, World.size_setCell, size_drew, size_drewN] at hs)))
          all_goals go_wp2_with fail
          all_goals go_meet
          all_goals exact ⟨rfl, (Reg.out (‹Reg _ _ _ ∧ _›).1 (by (repeat first | with_reducible assumption | (with_reducible refine Below.alloc ?_ ?_ _; rotate_left; exact (by omega)))) (by omega))⟩
        case rest =>
          obtain ⟨rfl, hB1⟩ := hcut
          go_wp2_with fail
          go_ret
          exact ⟨by rw [← HN.out]; rfl, hB1⟩
    · have HN : Hid ((0 : Int) = G) := Lib.hid (by rw [← hG.out, List.drop_of_length_le (by rw [HI.out.1]; omega)]; rfl)
      go_wp2
      go_ret
      exact ⟨by rw [← HN.out]; rfl, hB⟩
end
section
open Go.RowKit Go.Shelf
def sameP (p x : PointD) : Bool := decide (x.r = p.r) && decide (x.z = p.z)
set_option maxHeartbeats 2000000 in
theorem indexPoint_any (p : PointD) (A : Option Addr) (len cap : Nat) (zs : List PointD) (w : World) (hI : IsT 2 PointD.cells w A len zs) (hl : len ≤ 1000000000000000) :
    Calls Tryz.prog 183 #[.slice A len cap, p.v] w (Ret (.int .i64 (idxL (sameP p) zs)) w) := by
  have HI := Lib.hid hI
  have HG : Hid (idxL (sameP p) zs = idxGo (sameP p) zs 0) := Lib.hid rfl
  generalize idxL (sameP p) zs = G at *
  clear hI
  obtain ⟨q, s⟩ := p
  show Calls Tryz.prog 183 #[.slice A len cap, .agg #[.int .i64 q, .int .i64 s]] w _
  go_enter Tryz.func183, Tryz.ntmps183
  go_wp2_with fail
  go_loopw [5, 8] (fun _ i wr => ∃ j : Nat, j ≤ len ∧ i = .int .i64 j ∧ Hid (idxGo (sameP ⟨q, s⟩) (zs.drop j) j = G) ∧ Below w.heap.size w wr ∧ wr.cell? ⟨w.heap.size, 0, none⟩ = some (.int .i64 q) ∧ wr.cell? ⟨w.heap.size, 1, none⟩ = some (.int .i64 s)) (fun _ i _ => len - (intOf i).toNat)
  case atStart => exact ⟨0, Nat.zero_le _, rfl, Lib.hid HG.out.symm, (by (repeat first | with_reducible exact Below.refl _ _ | (with_reducible refine Below.alloc ?_ ?_ _; rotate_left; exact (by omega)))), (by go_simp), (by go_simp)⟩
  case round =>
    obtain ⟨j, hj, rfl, hG, hB, p0, p1⟩ := hrel
    by_cases hlt : j < len
    · obtain ⟨hzl, hcl⟩ := HI.out.below hB
      obtain ⟨b, o, rfl, hb0, hcl⟩ := hcl (by omega)
      obtain ⟨x, hx⟩ : ∃ x, zs[j]? = some x := ⟨_, List.getElem?_eq_getElem (by omega)⟩
      have HS := Lib.hid (idxGo_drop (sameP ⟨q, s⟩) hx (j : Int))
      have x0 : wr.cell? ⟨b, o + j * 2, none⟩ = some (.int .i64 x.r) := by have h := hcl j x hx 0 _ rfl; simpa using h
      have x1 : wr.cell? ⟨b, o + j * 2 + 1, none⟩ = some (.int .i64 x.z) := by have h := hcl j x hx 1 _ rfl; simpa using h
      have hsz := hB.size
      have HP : Hid (sameP ⟨q, s⟩ x = (decide (x.r = q) && decide (x.z = s))) := Lib.hid rfl
      clear hcl hx hzl
      have jc : (0 : Int) ≤ j := by omega
      have jn : ((j : Int)).toNat = j := by omega
      obtain ⟨xr, xz⟩ := x
      dsimp only at *
      by_cases hr : xr = q
      · by_cases hz : xz = s
        · have HN : Hid ((j : Int) = G) := Lib.hid (by rw [← hG.out, HS.out, HP.out]; simp [hr, hz])
          subst hr hz
          go_wp2_with fail
          go_quiet (fail)
          go_wp2_with fail
          go_ret
          exact ⟨by rw [← HN.out]; rfl, by (repeat first | with_reducible assumption | with_reducible refine Below_drewN ?_ _)⟩
        · have HN : Hid (idxGo (sameP ⟨q, s⟩) (zs.drop (j + 1)) ((j + 1 : Nat) : Int) = G) := Lib.hid (by rw [← hG.out, HS.out, HP.out]; simp [hz])
          have z1 : (s == xz) = false := by rw [beq_eq_false_iff_ne]; exact fun e => hz e.symm
          have z2 : (xz == s) = false := by rw [beq_eq_false_iff_ne]; exact hz
          subst hr
          clear hz
          go_wp2_with fail
          go_quiet (fail)
          go_wp2_with fail
          go_roundw
          case rel => exact ⟨j + 1, by omega, by go_num, HN, (by (repeat first | with_reducible assumption | with_reducible refine Below_drewN ?_ _)), (by go_simp), (by go_simp)⟩
          case measure => simp [intOf]; omega
      · have HN : Hid (idxGo (sameP ⟨q, s⟩) (zs.drop (j + 1)) ((j + 1 : Nat) : Int) = G) := Lib.hid (by rw [← hG.out, HS.out, HP.out]; simp [hr])
        have z1 : (q == xr) = false := by rw [beq_eq_false_iff_ne]; exact fun e => hr e.symm
        have z2 : (xr == q) = false := by rw [beq_eq_false_iff_ne]; exact hr
        clear hr
        go_wp2_with fail
        go_quiet (fail)
        go_wp2_with fail
        go_roundw
        case rel => exact ⟨j + 1, by omega, by go_num, HN, (by (repeat first | with_reducible assumption | with_reducible refine Below_drewN ?_ _)), (by go_simp), (by go_simp)⟩
        case measure => simp [intOf]; omega
    · have HN : Hid ((-1 : Int) = G) := Lib.hid (by rw [← hG.out, List.drop_of_length_le (by rw [HI.out.1]; omega)]; rfl)
      go_wp2
      go_ret
      exact ⟨by rw [← HN.out]; rfl, hB⟩
set_option maxHeartbeats 1000000 in
theorem containsPoint_any (p : PointD) (A : Option Addr) (len cap : Nat) (zs : List PointD) (w : World) (hI : IsT 2 PointD.cells w A len zs) (hl : len ≤ 1000000000000000) :
    Calls Tryz.prog 179 #[.slice A len cap, p.v] w (Ret (.bool (zs.any (sameP p))) w) := by
  have HI := Lib.hid (fun W (hb : Below w.heap.size w W) => indexPoint_any p A len cap zs W (hI.below hb) hl)
  have HA := Lib.hid (idxL_nonneg (sameP p) zs)
  obtain ⟨b1, b2⟩ := idxL_bd (sameP p) zs
  rw [hI.1] at b2
  clear hI
  generalize idxL (sameP p) zs = G at *
  generalize zs.any (sameP p) = B at *
  obtain ⟨q, s⟩ := p
  have HI := Lib.hid (show ∀ W, Below w.heap.size w W → Calls Tryz.prog 183 #[.slice A len cap, .agg #[.int .i64 q, .int .i64 s]] W (Ret (.int .i64 G) W) from HI.out)
  show Calls Tryz.prog 179 #[.slice A len cap, .agg #[.int .i64 q, .int .i64 s]] w _
  go_enter Tryz.func179, Tryz.ntmps179
  go_wp2_with (go_at_call 183; refine (HI.out _ (by (repeat first | with_reducible exact Below.refl _ _ | (with_reducible refine Below.alloc ?_ ?_ _; rotate_left; exact (by omega))))).mono ?_; rintro e w1 ⟨rfl, hb⟩; have hB : Below w.heap.size w w1 := Below.trans (by (repeat first | with_reducible exact Below.refl _ _ | (with_reducible refine Below.alloc ?_ ?_ _; rotate_left; exact (by omega)))) (hb.mono (by (simp; done))); obtain ⟨hc, hf⟩ := bcell hb; have hs := hb.size; clear hb; (try simp only [World.size_alloc, World.size_setCell] at hc hf); (try simp only [World.size_alloc, World.size_setCell] at hs); (try have hs' := Nat.lt_of_succ_le hs); (try have hs0 : w.heap.size < w1.heap.size := by omega); (try have hs1 : w.heap.size + 1 < w1.heap.size := by omega); (try have hs2 : w.heap.size + 1 + 1 < w1.heap.size := by omega); (try have hs3 : w.heap.size + 1 + 1 + 1 < w1.heap.size := by omega))
  go_ret
  exact ⟨by rw [← HA.out]; rfl, by (repeat with_reducible assumption)⟩
set_option maxHeartbeats 1000000 in
theorem checkLimit_any (p : PointD) (A : Option Addr) (len cap : Nat) (zs : List PointD) (w : World) (hI : IsT 2 PointD.cells w A len zs) (hl : len ≤ 1000000000000000) :
    Calls Tryz.prog 170 #[p.v, .slice A len cap] w (Ret (.int .i64 (limitC p zs)) w) := by
  have HE : Hid (limitC p zs = if nearB p.r p.z 60 = true then if zs.any (sameP p) = true then 6 else 0 else 7) := Lib.hid rfl
  have HC := Lib.hid (fun W (hb : Below w.heap.size w W) => containsPoint_any p A len cap zs W (hI.below hb) hl)
  clear hI
  generalize limitC p zs = G at *
  generalize zs.any (sameP p) = B at *
  obtain ⟨q, s⟩ := p
  dsimp only at HE
  have HC := Lib.hid (show ∀ W, Below w.heap.size w W → Calls Tryz.prog 179 #[.slice A len cap, .agg #[.int .i64 q, .int .i64 s]] W (Ret (.bool B) W) from HC.out)
  show Calls Tryz.prog 170 #[.agg #[.int .i64 q, .int .i64 s], .slice A len cap] w _
  cases hn : nearB q s 60 <;> cases B
  all_goals rw [hn] at HE
  all_goals go_enter Tryz.func170, Tryz.ntmps170
  all_goals go_wp2_with (first | (go_at_call 168; refine (validPlace_any _ _ _).mono ?_; rintro e w1 ⟨rfl, rfl⟩) | (go_at_call 179; refine (HC.out _ (by (repeat first | with_reducible exact Below.refl _ _ | (with_reducible refine Below.alloc ?_ ?_ _; rotate_left; exact (by omega))))).mono ?_; rintro e w1 ⟨rfl, hb⟩; have hB : Below w.heap.size w w1 := Below.trans (by (repeat first | with_reducible exact Below.refl _ _ | (with_reducible refine Below.alloc ?_ ?_ _; rotate_left; exact (by omega)))) (hb.mono (by (simp; done))); obtain ⟨hc, hf⟩ := bcell hb; have hs := hb.size; clear hb; (try simp only [World.size_alloc, World.size_setCell] at hc hf); (try simp only [World.size_alloc, World.size_setCell] at hs); (try have hs' := Nat.lt_of_succ_le hs); (try have hs0 : w.heap.size < w1.heap.size := by omega); (try have hs1 : w.heap.size + 1 < w1.heap.size := by omega); (try have hs2 : w.heap.size + 1 + 1 < w1.heap.size := by omega); (try have hs3 : w.heap.size + 1 + 1 + 1 < w1.heap.size := by omega)))
  all_goals go_ret
  all_goals exact ⟨by rw [HE.out]; rfl, by (repeat first | with_reducible exact Below.refl _ _ | with_reducible assumption | (with_reducible refine Below.alloc ?_ ?_ _; rotate_left; exact (by omega)))⟩
set_option maxHeartbeats 1000000 in
theorem checkLimits_any (A : Option Addr) (len cap : Nat) (zs : List PointD) (w : World) (hI : IsT 2 PointD.cells w A len zs) (hcap : len ≤ cap) (hmax : cap ≤ 9223372036854775807) :
    Calls Tryz.prog 140 #[.slice A len cap] w (Ret (.int .i64 (limitsC zs)) w) := by
  have HE : Hid (limitsC zs = if zs.length = 0 then 8 else eachC limitC 16 zs) := Lib.hid rfl
  have HC := Lib.hid (eachPoint 170 limitC 16 A len cap zs w hI (fun h => by omega) hcap hmax (fun args W => enters_of Tryz.func170 (by kernel_rfl) rfl args W) (fun hl j x W hx hb => checkLimit_any x A j cap (zs.take j) W ((hI.below hb).take (by have := (List.getElem?_eq_some_iff.1 hx).1; rw [hI.1] at this; omega)) (by have := (List.getElem?_eq_some_iff.1 hx).1; rw [hI.1] at this; omega)))
  have hz := hI.1
  clear hI
  generalize limitsC zs = G at *
  generalize eachC limitC 16 zs = K at *
  by_cases h0 : len = 0
  · have HF : Hid (G = 8) := Lib.hid (by rw [HE.out, if_pos (by omega)])
    have h1 : ((len : Int) == 0) = true := by rw [h0]; rfl
    subst h0
    clear HE hz h1
    go_enter Tryz.func140, Tryz.ntmps140
    go_wp2
    go_ret
    exact ⟨by rw [HF.out]; rfl, by (repeat with_reducible exact Below.refl _ _)⟩
  · have HF : Hid (G = K) := Lib.hid (by rw [HE.out, if_neg (by omega)])
    have h1 : ((len : Int) == 0) = false := by rw [beq_eq_false_iff_ne]; omega
    clear HE hz h0
    go_enter Tryz.func140, Tryz.ntmps140
    go_wp2_with (go_at_call 169; refine HC.out.mono ?_; rintro e w1 ⟨rfl, hb⟩)
    go_ret
    exact ⟨by rw [HF.out]; rfl, by (repeat with_reducible assumption)⟩
theorem orL_drop {l : List Int} {k : Nat} {x : Int} (h : l[k]? = some x) : orL (l.drop k) = if x = 0 then orL (l.drop (k + 1)) else x := by
  obtain ⟨hk, rfl⟩ := List.getElem?_eq_some_iff.1 h
  rw [List.drop_eq_getElem_cons hk]; rfl
set_option maxHeartbeats 1000000 in
theorem or_any (A : Option Addr) (len cap : Nat) (zs : List Int) (w : World) (hI : IsT 1 intCells w A len zs) (hl : len ≤ 1000000000000000) :
    Calls Tryz.prog 134 #[.slice A len cap] w (Ret (.int .i64 (orL zs)) w) := by
  have HI := Lib.hid hI
  obtain ⟨G, hG0⟩ : ∃ G, orL zs = G := ⟨_, rfl⟩
  have HG := Lib.hid hG0
  rw [hG0]
  clear hG0 hI
  go_enter Tryz.func134, Tryz.ntmps134
  go_wp2_with fail
  go_loopw [5, 8] (fun _ i wr => ∃ j : Nat, j ≤ len ∧ i = .int .i64 j ∧ Hid (orL (zs.drop j) = G) ∧ Below w.heap.size w wr) (fun _ i _ => len - (intOf i).toNat)
  case atStart => exact ⟨0, Nat.zero_le _, rfl, Lib.hid HG.out, Below.refl _ _⟩
  case round =>
    obtain ⟨j, hj, rfl, hG, hB⟩ := hrel
    by_cases hlt : j < len
    · obtain ⟨hzl, hcl⟩ := HI.out.below hB
      obtain ⟨b, o, rfl, hb0, hcl⟩ := hcl (by omega)
      obtain ⟨x, hx⟩ : ∃ x, zs[j]? = some x := ⟨_, List.getElem?_eq_getElem (by omega)⟩
      have HS := Lib.hid (orL_drop hx)
      have x0 : wr.cell? ⟨b, o + j, none⟩ = some (.int .i64 x) := by have h := hcl j x hx 0 _ rfl; simpa using h
      clear hcl hx hzl
      by_cases h0 : x = 0
      · have HN : Hid (orL (zs.drop (j + 1)) = G) := Lib.hid (by rw [← hG.out, HS.out, if_pos h0])
        subst h0
        go_wp2_with fail
        go_roundw
        case rel => exact ⟨j + 1, by omega, by go_num, HN, hB⟩
        case measure => simp [intOf]; omega
      · have HN : Hid (x = G) := Lib.hid (by rw [← hG.out, HS.out, if_neg h0])
        have hne : (x != 0) = true := by rw [bne_iff_ne]; exact h0
        clear h0
        go_wp2_with fail
        go_ret
        exact ⟨by rw [← HN.out]; rfl, hB⟩
    · have HN : Hid ((0 : Int) = G) := Lib.hid (by rw [← hG.out, List.drop_of_length_le (by rw [HI.out.1]; omega)]; rfl)
      go_wp2
      go_ret
      exact ⟨by rw [← HN.out]; rfl, hB⟩
end
end Go.Proofs.YtogcjgjhmlifgaaGreat
