import Derived.Test.YthggkidiidnaoaaGreatDoorKAP
import Derived.Test.YthggkidiidnaoaaGreatDoorKAR
import Derived.Deep.OwnRows
namespace Go.Proofs.YthggkidiidnaoaaGreatDoor
set_option linter.unusedVariables false
set_option linter.unusedSimpArgs false
section
open Go.RowKit Go.Shelf
theorem resC {fn : Func} {a : Tmp} (h : fn.results = #[.cell a 32]) (tmps : Array Value) (W : World) (x : Nat) (v0 v1 v2 : Value)
  (hp : tmps.getD a undef = .pointer (some ⟨x, 0, none⟩)) (e0 : W.cell? ⟨x, 0, none⟩ = some v0) (e1 : W.cell? ⟨x, 1, none⟩ = some v1) (e2 : W.cell? ⟨x, 2, none⟩ = some v2) :
  (results fn tmps).run Tryz.prog W = .ok (.agg #[v0, v1, v2]) W := by
 have hp' : tmps[a]?.getD undef = .pointer (some ⟨x, 0, none⟩) := by simpa using hp
 simp [results, h, hp', go_sem, e0, e1, e2]
theorem resC3 {fn : Func} {p : Tmp} (h : fn.results = #[.cell p 32]) (tmps : Array Value) (W : World) (b : Nat) (x y z : Value)
  (hp : tmps.getD p undef = .pointer (some ⟨b, 0, none⟩)) (h0 : (W.cell? ⟨b, 0, none⟩).isSome = true) (h1 : (W.cell? ⟨b, 1, none⟩).isSome = true) (h2 : (W.cell? ⟨b, 2, none⟩).isSome = true) :
  (results fn tmps).run Tryz.prog (((W.setCell ⟨b, 0, none⟩ x).setCell ⟨b, 1, none⟩ y).setCell ⟨b, 2, none⟩ z) = .ok (.agg #[x, y, z]) (((W.setCell ⟨b, 0, none⟩ x).setCell ⟨b, 1, none⟩ y).setCell ⟨b, 2, none⟩ z) := by
 refine resC h tmps _ b x y z hp ?_ ?_ ?_
 ·rw [World.cell?_setCell_other _ _ _ _ (by simp), World.cell?_setCell_other _ _ _ _ (by simp)]; exact World.cell?_setCell_same' _ _ _ h0
 ·rw [World.cell?_setCell_other _ _ _ _ (by simp)]; exact World.cell?_setCell_same' _ _ _ (by rw [World.cell?_setCell_other _ _ _ _ (by simp)]; exact h1)
 ·exact World.cell?_setCell_same' _ _ _ (by rw [World.cell?_setCell_other _ _ _ _ (by simp), World.cell?_setCell_other _ _ _ _ (by simp)]; exact h2)
structure DarkAt (B : Nat) (w' : World) (A : Option Addr) (na ca : Nat) (z1 : List Int) (A2 : Option Addr) (nb cb : Nat) (z2 : List Int) (pb nc : Nat) : Prop where
 coils : NewI B w' A na ca z1
 shells : NewI B w' A2 nb cb z2
 base : B ≤ pb
 lt : pb < w'.heap.size
 apart : (∀ a, A = some a → a.block ≠ pb) ∧ ∀ a, A2 = some a → a.block ≠ pb
 zero : ZeroL pb nc w'
def Dark (na nb nc : Nat) (z1 z2 : List Int) (w : World) (e : Ending) (w' : World) : Prop :=
 ∃ (A : Option Addr) (ca : Nat) (A2 : Option Addr) (cb pb : Nat), e = .returned (.agg #[.slice A na ca, .slice A2 nb cb, .slice (some ⟨pb, 0, none⟩) nc nc]) ∧ DarkAt w.heap.size w' A na ca z1 A2 nb cb z2 pb nc ∧ Below w.heap.size w w'
theorem infoI : (Tryz.prog.info? 3).map (fun i => (i.zero, i.size, i.bytes)) = some (some (.int .i64 0), 1, 8) := by kernel_rfl
set_option maxRecDepth 100000 in
set_option maxHeartbeats 4000000 in
theorem dark_any (A1 B1 C1 : Option Addr) (na qa nb qb nc qc : Nat) (z1 z2 : List Int) (w : World) (h1 : IsT 1 intCells w A1 na z1) (h2 : IsT 1 intCells w B1 nb z2) (l1 : na ≤ 1000000000000) (l2 : nb ≤ 1000000000000) (l3 : nc ≤ 1000000000000) :
  Calls Tryz.prog 108 #[.agg #[.slice A1 na qa, .slice B1 nb qb, .slice C1 nc qc]] w (Dark na nb nc z1 z2 w) := by
 have HK1 := Lib.hid (fun W (hb : Below w.heap.size w W) => clone_any A1 na qa z1 W (h1.below hb) l1)
 have HK2 := Lib.hid (fun W (hb : Below w.heap.size w W) => clone_any B1 nb qb z2 W (h2.below hb) l2)
 clear h1 h2
 have hmk := run_make_row' (P := Tryz.prog) 30 3 (.int .i64 0) 8 Tryz.underlying30 infoI rfl .i64 .i64 nc (by omega) (by omega)
 go_enter Tryz.func108, Tryz.ntmps108
 go_upto_region 1 with (fail)
 have c0 : ((w.alloc (.cells #[.slice A1 na qa, .slice B1 nb qb, .slice C1 nc qc] 32)).alloc (.cells #[.slice none 0 0, .slice none 0 0, .slice none 0 0] 32)).cell? ⟨w.heap.size, 0, none⟩ = some (.slice A1 na qa) := by go_simp
 have c1 : ((w.alloc (.cells #[.slice A1 na qa, .slice B1 nb qb, .slice C1 nc qc] 32)).alloc (.cells #[.slice none 0 0, .slice none 0 0, .slice none 0 0] 32)).cell? ⟨w.heap.size, 1, none⟩ = some (.slice B1 nb qb) := by go_simp
 have c2 : ((w.alloc (.cells #[.slice A1 na qa, .slice B1 nb qb, .slice C1 nc qc] 32)).alloc (.cells #[.slice none 0 0, .slice none 0 0, .slice none 0 0] 32)).cell? ⟨w.heap.size, 2, none⟩ = some (.slice C1 nc qc) := by go_simp
 have d0 : ((w.alloc (.cells #[.slice A1 na qa, .slice B1 nb qb, .slice C1 nc qc] 32)).alloc (.cells #[.slice none 0 0, .slice none 0 0, .slice none 0 0] 32)).cell? ⟨w.heap.size + 1, 0, none⟩ = some (.slice none 0 0) := by go_simp
 have f0 : ((w.alloc (.cells #[.slice A1 na qa, .slice B1 nb qb, .slice C1 nc qc] 32)).alloc (.cells #[.slice none 0 0, .slice none 0 0, .slice none 0 0] 32)).frozen? ⟨w.heap.size + 1, 0, none⟩ = false := by go_simp
 have d1 : ((w.alloc (.cells #[.slice A1 na qa, .slice B1 nb qb, .slice C1 nc qc] 32)).alloc (.cells #[.slice none 0 0, .slice none 0 0, .slice none 0 0] 32)).cell? ⟨w.heap.size + 1, 1, none⟩ = some (.slice none 0 0) := by go_simp
 have f1 : ((w.alloc (.cells #[.slice A1 na qa, .slice B1 nb qb, .slice C1 nc qc] 32)).alloc (.cells #[.slice none 0 0, .slice none 0 0, .slice none 0 0] 32)).frozen? ⟨w.heap.size + 1, 1, none⟩ = false := by go_simp
 have d2 : ((w.alloc (.cells #[.slice A1 na qa, .slice B1 nb qb, .slice C1 nc qc] 32)).alloc (.cells #[.slice none 0 0, .slice none 0 0, .slice none 0 0] 32)).cell? ⟨w.heap.size + 1, 2, none⟩ = some (.slice none 0 0) := by go_simp
 have f2 : ((w.alloc (.cells #[.slice A1 na qa, .slice B1 nb qb, .slice C1 nc qc] 32)).alloc (.cells #[.slice none 0 0, .slice none 0 0, .slice none 0 0] 32)).frozen? ⟨w.heap.size + 1, 2, none⟩ = false := by go_simp
 have hB : Below w.heap.size w ((w.alloc (.cells #[.slice A1 na qa, .slice B1 nb qb, .slice C1 nc qc] 32)).alloc (.cells #[.slice none 0 0, .slice none 0 0, .slice none 0 0] 32)) := by (repeat first | with_reducible exact Below.refl _ _ | (with_reducible refine Below.alloc ?_ ?_ _; rotate_left; exact (by first | omega | (simp; done))))
 have hz : w.heap.size + 1 < ((w.alloc (.cells #[.slice A1 na qa, .slice B1 nb qb, .slice C1 nc qc] 32)).alloc (.cells #[.slice none 0 0, .slice none 0 0, .slice none 0 0] 32)).heap.size := by simp
 obtain ⟨W0, hW0⟩ : ∃ W, (w.alloc (.cells #[.slice A1 na qa, .slice B1 nb qb, .slice C1 nc qc] 32)).alloc (.cells #[.slice none 0 0, .slice none 0 0, .slice none 0 0] 32) = W := ⟨_, rfl⟩
 rw [hW0] at c0 c1 c2 d0 d1 d2 f0 f1 f2 hB hz ⊢
 clear hW0
 have HS : Hid (∀ w' : World, Reg (w.heap.size + 1) (W0) w' → (Reg (w.heap.size + 1) (W0) w' ∧ w'.cell? ⟨w.heap.size, 0, none⟩ = some (.slice A1 na qa) ∧ w'.cell? ⟨w.heap.size, 1, none⟩ = some (.slice B1 nb qb) ∧ w'.cell? ⟨w.heap.size, 2, none⟩ = some (.slice C1 nc qc) ∧ w'.cell? ⟨w.heap.size + 1, 0, none⟩ = some (cur w' ⟨w.heap.size + 1, 0, none⟩) ∧ w'.frozen? ⟨w.heap.size + 1, 0, none⟩ = false ∧ w'.cell? ⟨w.heap.size + 1, 1, none⟩ = some (cur w' ⟨w.heap.size + 1, 1, none⟩) ∧ w'.frozen? ⟨w.heap.size + 1, 1, none⟩ = false ∧ w'.cell? ⟨w.heap.size + 1, 2, none⟩ = some (cur w' ⟨w.heap.size + 1, 2, none⟩) ∧ w'.frozen? ⟨w.heap.size + 1, 2, none⟩ = false)) := (fun w' h => by (have hc := h.cells; have hs := h.some; have hf := h.frozen; refine ⟨h, ?_⟩; (try simp only [World.size_alloc, World.size_setCell, size_drew, size_drewN] at hc hs hf); first | (simp (disch := omega) only [hc, hs, hf, cur_iff]; (try go_simp); done) | (simp (disch := first | omega | (simp; done)) only [hc, hs, hf, cur_iff]; (try go_simp); done) | (simp (maxDischargeDepth := 4) [hc, hs, hf, cur_iff, go_sem]; done) | (go_simp; done) | (simp (maxDischargeDepth := 4) [hc, hs, hf, cur_iff, go_sem]; go_simp))); go_region_held3 (fun w' => Reg (w.heap.size + 1) (W0) w' ∧ w'.cell? ⟨w.heap.size, 0, none⟩ = some (.slice A1 na qa) ∧ w'.cell? ⟨w.heap.size, 1, none⟩ = some (.slice B1 nb qb) ∧ w'.cell? ⟨w.heap.size, 2, none⟩ = some (.slice C1 nc qc) ∧ w'.cell? ⟨w.heap.size + 1, 0, none⟩ = some (cur w' ⟨w.heap.size + 1, 0, none⟩) ∧ w'.frozen? ⟨w.heap.size + 1, 0, none⟩ = false ∧ w'.cell? ⟨w.heap.size + 1, 1, none⟩ = some (cur w' ⟨w.heap.size + 1, 1, none⟩) ∧ w'.frozen? ⟨w.heap.size + 1, 1, none⟩ = false ∧ w'.cell? ⟨w.heap.size + 1, 2, none⟩ = some (cur w' ⟨w.heap.size + 1, 2, none⟩) ∧ w'.frozen? ⟨w.heap.size + 1, 2, none⟩ = false) (exact HS.out _ (by (repeat first | with_reducible exact Reg.refl _ _ | with_reducible exact (‹Reg _ _ _ ∧ _›).1 | (with_reducible refine Reg.setCell ?_ ?_ _; rotate_left; exact (by (simp; done))) | with_reducible refine Reg.alloc ?_ _ | with_reducible refine Reg.drew ?_ | (with_reducible apply Reg.call; rotate_left; with_reducible assumption)))) (first | (go_at_call 147; (with_reducible refine (HK1.out _ (Reg.out (‹Reg _ _ _ ∧ _›).1 (by (repeat with_reducible assumption)) (by omega))).mono ?_); rintro e w8 ⟨Ac, cac, rfl, hnc, hb⟩; have hbc := hb; (first | (with_reducible have hk := Nat.lt_of_lt_of_le (size_alloc_lt _ _) hb.size) | skip); (try simp only [World.size_alloc, World.size_setCell, size_drew, size_drewN] at hk); obtain ⟨hc, hf⟩ := bcell hb; have hs := hb.size; (try simp only [World.size_alloc, World.size_setCell, size_drew, size_drewN] at hs)) | (go_at_call 147; (with_reducible refine (HK2.out _ (Reg.out (‹Reg _ _ _ ∧ _›).1 (by (repeat with_reducible assumption)) (by omega))).mono ?_); rintro e w9 ⟨As, cas, rfl, hns, hb⟩; have hbs := hb; (first | (with_reducible have hk := Nat.lt_of_lt_of_le (size_alloc_lt _ _) hb.size) | (with_reducible have hk := Nat.lt_of_lt_of_le hk hb.size) | skip); (try simp only [World.size_alloc, World.size_setCell, size_drew, size_drewN] at hk); obtain ⟨hc, hf⟩ := bcell hb; have hs := hb.size; (try simp only [World.size_alloc, World.size_setCell, size_drew, size_drewN] at hs)))
 all_goals go_wp2_with fail
 all_goals (have zz1 := hbc.size; have zz2 := hbs.size; (try simp only [World.size_alloc, World.size_setCell, size_drew, size_drewN] at zz1 zz2))
 all_goals (have q1 := hnc.new; have q2 := hnc.lt; have q3 := hns.new; have q4 := hns.lt; (try simp only [World.size_alloc, World.size_setCell, size_drew, size_drewN] at q1 q2 q3 q4))
 all_goals (have hnc0 := hnc.mono (B' := w.heap.size) (by (try simp only [World.size_alloc, World.size_setCell, size_drew, size_drewN]); omega); have hns0 := hns.mono (B' := w.heap.size) (by (try simp only [World.size_alloc, World.size_setCell, size_drew, size_drewN]); omega))
 all_goals exact bodyPost_ret (resC3 Tryz.results108 _ _ _ _ _ _ rfl ((Reg.some (x := w.heap.size + 1) (W := W0) (by (repeat first | with_reducible exact Reg.refl _ _ | with_reducible refine Reg.alloc ?_ _ | with_reducible refine Reg.drew ?_ | (with_reducible apply Reg.call; rotate_left; with_reducible assumption))) (w.heap.size + 1) 0 (by omega)).trans (by rw [d0]; rfl)) ((Reg.some (x := w.heap.size + 1) (W := W0) (by (repeat first | with_reducible exact Reg.refl _ _ | with_reducible refine Reg.alloc ?_ _ | with_reducible refine Reg.drew ?_ | (with_reducible apply Reg.call; rotate_left; with_reducible assumption))) (w.heap.size + 1) 1 (by omega)).trans (by rw [d1]; rfl)) ((Reg.some (x := w.heap.size + 1) (W := W0) (by (repeat first | with_reducible exact Reg.refl _ _ | with_reducible refine Reg.alloc ?_ _ | with_reducible refine Reg.drew ?_ | (with_reducible apply Reg.call; rotate_left; with_reducible assumption))) (w.heap.size + 1) 2 (by omega)).trans (by rw [d2]; rfl))) rfl ⟨_, _, _, _, _, rfl, ⟨(by (repeat first | with_reducible assumption | (with_reducible refine NewI.setCell ?_ (fun a ha => (by have h9 := q1 a ha; dsimp only; omega)) _) | with_reducible refine NewI.alloc ?_ _ | (with_reducible apply NewI.below; rotate_left; with_reducible assumption))), (by (repeat first | with_reducible assumption | (with_reducible refine NewI.setCell ?_ (fun a ha => (by have h9 := q3 a ha; dsimp only; omega)) _) | with_reducible refine NewI.alloc ?_ _)), (by (try simp only [World.size_alloc, World.size_setCell, size_drew, size_drewN]); omega), by (simp; try omega), ⟨fun a ha => (by have h9 := q1 a ha; have h8 := q2 a ha; (try simp only [World.size_alloc, World.size_setCell, size_drew, size_drewN]); omega), fun a ha => (by have h9 := q3 a ha; have h8 := q4 a ha; (try simp only [World.size_alloc, World.size_setCell, size_drew, size_drewN]); omega)⟩, by (repeat first | (with_reducible exact ZeroL.new _ _ _ (by omega)) | (with_reducible refine ZeroL.setCell ?_ (by dsimp only; omega) _) | with_reducible refine ZeroL.drew ?_ | (with_reducible apply ZeroL.below; rotate_left; with_reducible assumption))⟩, Reg.out (x := w.heap.size + 1) (by (repeat with_reducible exact (‹Reg _ _ _ ∧ _›).1)) hB (by omega)⟩
end
section
open Go.RowKit Go.Shelf
def sensP (S : List Src) (x : SensorD) : Int := if x.kind = 1 then fluxP (x.r, x.z) S else if x.kind = 2 then (fieldP (x.r, x.z) S).1 else (fieldP (x.r, x.z) S).2
def exactL (M : MachD) (C : CurD) (i : Int) : Int × Int :=
 if validC M C = true then if wthn i 0 ((M.sensors.length : Int) - 1) = true then match M.sensors[i.toNat]? with
  | some x => (sensP (srcM M C) x, 0)
  | none => (0, 7)
 else (0, 7) else (0, 1)
end
end Go.Proofs.YthggkidiidnaoaaGreatDoor
