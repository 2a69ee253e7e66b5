import Derived.Test.YtnikdbglpimadaaGreatJAU
import Derived.Test.YtnikdbglpimadaaGreatJBP
section
/- The laws of layer 7: awake, over this seat's translation (written by mk_ctk.py). -/
namespace Go.Proofs.YtnikdbglpimadaaGreat
set_option linter.unusedVariables false
set_option linter.unusedSimpArgs false
open Go.RowKit Go.Shelf

theorem isT_one {α : Type} {n : Nat} {enc : α → List Value} {W : World} {b : Nat} {x : α} (hb : b < W.heap.size) (h : ∀ (i : Nat) (v : Value), (enc x)[i]? = some v → W.cell? ⟨b, i, none⟩ = some v) : IsT n enc W (some ⟨b, 0, none⟩) 1 [x] :=
  ⟨rfl, fun _ => ⟨b, 0, rfl, hb, fun j y hy i v hv => by
    rcases j with _ | j
    · obtain rfl : x = y := by simpa using hy
      have := h i v hv
      simpa using this
    · simp at hy⟩⟩
theorem nil8 {n : Nat} {α : Type} {enc : α → List Value} (w : World) : IsT n enc w none 0 [] := ⟨rfl, fun h => absurd h (by omega)⟩
theorem ex_errors : errL 5000 0 (⟨4200, 4700, 0, 0, 0, 0, 0, 0, 0, 0, 0, 0, 0, 0, 0, 0⟩ : ShapeD) = (300, 800, 0, 0, 0) := by decide
theorem ex_setup : setupB (⟨⟨#[109]⟩, [⟨⟨#[97]⟩, 5, 0, 1, 9000, 1000, 1000000, 0⟩], [], [⟨9, 0⟩], ⟨0, 0, 1, 1, 1⟩, []⟩ : MachD) [(⟨2000, 0, 0, 0⟩ : GainD)] 100 = true := by decide
theorem ex_wishE : wishE (⟨⟨#[109]⟩, [⟨⟨#[97]⟩, 5, 0, 1, 9000, 1000, 1000000, 0⟩], [], [⟨9, 0⟩], ⟨0, 0, 1, 1, 1⟩, []⟩ : MachD) [(⟨2000, 0, 0, 0⟩ : GainD)] 100 0 0 5000 0 (⟨4200, 4700, 0, 0, 0, 0, 0, 0, 0, 0, 0, 0, 0, 0, 0, 0⟩ : ShapeD) = 0 := by decide
theorem ex_wishT : wishT (⟨⟨#[109]⟩, [⟨⟨#[97]⟩, 5, 0, 1, 9000, 1000, 1000000, 0⟩], [], [⟨9, 0⟩], ⟨0, 0, 1, 1, 1⟩, []⟩ : MachD) [(⟨2000, 0, 0, 0⟩ : GainD)] 100 0 0 5000 0 (⟨4200, 4700, 0, 0, 0, 0, 0, 0, 0, 0, 0, 0, 0, 0, 0, 0⟩ : ShapeD) = [600] := by decide
theorem ex_partE : partE [9, -9] 4 = 0 := by decide
theorem ex_partT : partT [9, -9] 4 = [4, -4] := by decide

set_option maxRecDepth 100000 in
set_option maxHeartbeats 8000000 in
theorem awake7_any (w : World) : Calls Tryz.prog 6 #[] w (Ret (.bool true) w) := by
  have HE : Hid (∀ W, Calls Tryz.prog 27 #[.agg #[.int .i64 5000, .int .i64 0], .agg #[.int .i64 4200, .int .i64 4700, .int .i64 0, .int .i64 0, .int .i64 0, .int .i64 0, .int .i64 0, .int .i64 0, .int .i64 0, .int .i64 0, .int .i64 0, .int .i64 0, .int .i64 0, .int .i64 0, .int .i64 0, .int .i64 0]] W (Ret (.tuple #[.agg #[.int .i64 300, .int .i64 800], .agg #[.int .i64 0, .int .i64 0], .int .i64 0]) W)) := Lib.hid (fun W => by have h := errors_any 5000 0 (⟨4200, 4700, 0, 0, 0, 0, 0, 0, 0, 0, 0, 0, 0, 0, 0, 0⟩ : ShapeD) W; rw [ex_errors] at h; exact h)
  have IM : Hid (∀ W, RowL (w.heap.size) [.string ⟨#[97]⟩, .int .i64 5, .int .i64 0, .int .i64 1, .int .i64 9000, .int .i64 1000, .int .i64 1000000, .int .i64 0] W → RowL (w.heap.size + 1) [.int .i64 9, .int .i64 0] W → IsM W (⟨some ⟨w.heap.size, 0, none⟩, none, some ⟨w.heap.size + 1, 0, none⟩, none, 1, 1, 0, 0, 1, 1, 0, 0⟩ : MachR) (⟨⟨#[109]⟩, [⟨⟨#[97]⟩, 5, 0, 1, 9000, 1000, 1000000, 0⟩], [], [⟨9, 0⟩], ⟨0, 0, 1, 1, 1⟩, []⟩ : MachD)) := Lib.hid (fun W h0 h1 => ⟨isT_one h0.lt (fun i v hv => h0.cell i v hv), nil8 W, isT_one h1.lt (fun i v hv => h1.cell i v hv), nil8 W, by dsimp only; omega, by dsimp only; omega, by dsimp only; omega, by dsimp only; omega, by dsimp only; omega, by dsimp only; omega, by dsimp only; omega, by dsimp only; omega, by dsimp only; omega, by dsimp only; omega, by dsimp only; omega, by dsimp only; omega⟩)
  have IG : Hid (∀ W, RowL (w.heap.size + 1 + 1 + 1 + 1) [.int .i64 2000, .int .i64 0, .int .i64 0, .int .i64 0] W → IsT 4 GainD.cells W (some ⟨w.heap.size + 1 + 1 + 1 + 1, 0, none⟩) 1 [(⟨2000, 0, 0, 0⟩ : GainD)]) := Lib.hid (fun W h => isT_one h.lt (fun i v hv => h.cell i v hv))
  have HW : Hid (∀ W, RowL (w.heap.size) [.string ⟨#[97]⟩, .int .i64 5, .int .i64 0, .int .i64 1, .int .i64 9000, .int .i64 1000, .int .i64 1000000, .int .i64 0] W → RowL (w.heap.size + 1) [.int .i64 9, .int .i64 0] W → RowL (w.heap.size + 1 + 1 + 1 + 1) [.int .i64 2000, .int .i64 0, .int .i64 0, .int .i64 0] W → Calls Tryz.prog 28 #[.agg #[.string ⟨#[109]⟩, .slice (some ⟨w.heap.size, 0, none⟩) 1 1, .slice none 0 0, .slice (some ⟨w.heap.size + 1, 0, none⟩) 1 1, .int .i64 0, .int .i64 0, .int .i64 1, .int .i64 1, .int .i64 1, .slice none 0 0], .agg #[.slice (some ⟨w.heap.size + 1 + 1 + 1 + 1, 0, none⟩) 1 1, .int .i64 100], .agg #[.int .i64 0, .int .i64 0], .agg #[.int .i64 5000, .int .i64 0], .agg #[.int .i64 4200, .int .i64 4700, .int .i64 0, .int .i64 0, .int .i64 0, .int .i64 0, .int .i64 0, .int .i64 0, .int .i64 0, .int .i64 0, .int .i64 0, .int .i64 0, .int .i64 0, .int .i64 0, .int .i64 0, .int .i64 0]] W (fun e w' => ∃ (A : Option Addr) (c : Nat), e = .returned (.tuple #[.slice A 1 c, .int .i64 0]) ∧ IsT 1 intCells w' A 1 [600] ∧ Below W.heap.size W w')) := Lib.hid (fun W h0 h1 h4 => by
    have h := wish_any (⟨some ⟨w.heap.size, 0, none⟩, none, some ⟨w.heap.size + 1, 0, none⟩, none, 1, 1, 0, 0, 1, 1, 0, 0⟩ : MachR) (⟨⟨#[109]⟩, [⟨⟨#[97]⟩, 5, 0, 1, 9000, 1000, 1000000, 0⟩], [], [⟨9, 0⟩], ⟨0, 0, 1, 1, 1⟩, []⟩ : MachD) (some ⟨w.heap.size + 1 + 1 + 1 + 1, 0, none⟩) 1 1 [(⟨2000, 0, 0, 0⟩ : GainD)] 100 0 0 5000 0 (⟨4200, 4700, 0, 0, 0, 0, 0, 0, 0, 0, 0, 0, 0, 0, 0, 0⟩ : ShapeD) W (IM.out W h0 h1) (IG.out W h4) (by decide)
    rw [ex_wishE, ex_wishT] at h
    exact h.mono (fun e w' => by rintro ⟨A, c, h1, h2, -, h3⟩; exact ⟨A, c, h1, h2, h3⟩))
  have HS : Hid (∀ W, RowL (w.heap.size) [.string ⟨#[97]⟩, .int .i64 5, .int .i64 0, .int .i64 1, .int .i64 9000, .int .i64 1000, .int .i64 1000000, .int .i64 0] W → RowL (w.heap.size + 1) [.int .i64 9, .int .i64 0] W → RowL (w.heap.size + 1 + 1 + 1 + 1) [.int .i64 2000, .int .i64 0, .int .i64 0, .int .i64 0] W → Calls Tryz.prog 30 #[.agg #[.string ⟨#[109]⟩, .slice (some ⟨w.heap.size, 0, none⟩) 1 1, .slice none 0 0, .slice (some ⟨w.heap.size + 1, 0, none⟩) 1 1, .int .i64 0, .int .i64 0, .int .i64 1, .int .i64 1, .int .i64 1, .slice none 0 0], .agg #[.slice (some ⟨w.heap.size + 1 + 1 + 1 + 1, 0, none⟩) 1 1, .int .i64 100]] W (Ret (.bool true) W)) := Lib.hid (fun W h0 h1 h4 => by
    have h := setup_any (⟨some ⟨w.heap.size, 0, none⟩, none, some ⟨w.heap.size + 1, 0, none⟩, none, 1, 1, 0, 0, 1, 1, 0, 0⟩ : MachR) (⟨⟨#[109]⟩, [⟨⟨#[97]⟩, 5, 0, 1, 9000, 1000, 1000000, 0⟩], [], [⟨9, 0⟩], ⟨0, 0, 1, 1, 1⟩, []⟩ : MachD) (some ⟨w.heap.size + 1 + 1 + 1 + 1, 0, none⟩) 1 1 [(⟨2000, 0, 0, 0⟩ : GainD)] 100 W (IM.out W h0 h1) (IG.out W h4) (by decide)
    rw [ex_setup] at h
    exact h)
  have HP : Hid (∀ (b : Nat) W, IsT 1 intCells W (some ⟨b, 0, none⟩) 2 [9, -9] → Calls Tryz.prog 29 #[.slice (some ⟨b, 0, none⟩) 2 2, .int .i64 4] W (fun e w' => ∃ (A : Option Addr) (c : Nat), e = .returned (.tuple #[.slice A 2 c, .int .i64 0]) ∧ IsT 1 intCells w' A 2 [4, -4] ∧ Below W.heap.size W w')) := Lib.hid (fun b W hi => by
    have h := part_any (some ⟨b, 0, none⟩) 2 2 [9, -9] 4 W hi (by decide)
    rw [ex_partE, ex_partT] at h
    exact h.mono (fun e w' => by rintro ⟨A, c, h1, h2, -, h3⟩; exact ⟨A, c, h1, h2, h3⟩))
  have HI1 : Hid (∀ (A : Option Addr) (c b : Nat) W, IsT 1 intCells W A 1 [600] → IsT 1 intCells W (some ⟨b, 0, none⟩) 1 [600] → Calls Tryz.prog 13 #[.slice A 1 c, .slice (some ⟨b, 0, none⟩) 1 1] W (Ret (.bool true) W)) := Lib.hid (fun A c b W h1 h2 => ints_any A (some ⟨b, 0, none⟩) 1 c 1 1 [600] [600] W h1 h2 (by decide) (by decide))
  have HI2 : Hid (∀ (A : Option Addr) (c b : Nat) W, IsT 1 intCells W A 2 [4, -4] → IsT 1 intCells W (some ⟨b, 0, none⟩) 2 [4, -4] → Calls Tryz.prog 13 #[.slice A 2 c, .slice (some ⟨b, 0, none⟩) 2 2] W (Ret (.bool true) W)) := Lib.hid (fun A c b W h1 h2 => ints_any A (some ⟨b, 0, none⟩) 2 c 2 2 [4, -4] [4, -4] W h1 h2 (by decide) (by decide))
  clear IM IG
  go_enter Tryz.func6, Tryz.ntmps6
  go_upto_region 4 with (fail)
  have Fc : Hid (RowL (w.heap.size) [.string ⟨#[97]⟩, .int .i64 5, .int .i64 0, .int .i64 1, .int .i64 9000, .int .i64 1000, .int .i64 1000000, .int .i64 0] ((((((w.alloc (.cells #[.string ⟨#[97]⟩, .int .i64 5, .int .i64 0, .int .i64 1, .int .i64 9000, .int .i64 1000, .int .i64 1000000, .int .i64 0] 49)).alloc (.cells #[.int .i64 9, .int .i64 0] 68)).alloc (.cells #[.string ⟨#[109]⟩, .slice (some ⟨w.heap.size, 0, none⟩) 1 1, .slice none 0 0, .slice (some ⟨w.heap.size + 1, 0, none⟩) 1 1, .int .i64 0, .int .i64 0, .int .i64 1, .int .i64 1, .int .i64 1, .slice none 0 0] 29)).alloc (.cells #[.int .i64 4200, .int .i64 4700, .int .i64 0, .int .i64 0, .int .i64 0, .int .i64 0, .int .i64 0, .int .i64 0, .int .i64 0, .int .i64 0, .int .i64 0, .int .i64 0, .int .i64 0, .int .i64 0, .int .i64 0, .int .i64 0] 70)).alloc (.cells #[.int .i64 2000, .int .i64 0, .int .i64 0, .int .i64 0] 72)).alloc (.cells #[.slice (some ⟨w.heap.size + 1 + 1 + 1 + 1, 0, none⟩) 1 1, .int .i64 100] 75))) := Lib.hid (by have h := RowL.new w #[.string ⟨#[97]⟩, .int .i64 5, .int .i64 0, .int .i64 1, .int .i64 9000, .int .i64 1000, .int .i64 1000000, .int .i64 0] 49; (try simp only [World.size_alloc] at h); exact (((((h.alloc _).alloc _).alloc _).alloc _).alloc _))
  have Fp : Hid (RowL (w.heap.size + 1) [.int .i64 9, .int .i64 0] ((((((w.alloc (.cells #[.string ⟨#[97]⟩, .int .i64 5, .int .i64 0, .int .i64 1, .int .i64 9000, .int .i64 1000, .int .i64 1000000, .int .i64 0] 49)).alloc (.cells #[.int .i64 9, .int .i64 0] 68)).alloc (.cells #[.string ⟨#[109]⟩, .slice (some ⟨w.heap.size, 0, none⟩) 1 1, .slice none 0 0, .slice (some ⟨w.heap.size + 1, 0, none⟩) 1 1, .int .i64 0, .int .i64 0, .int .i64 1, .int .i64 1, .int .i64 1, .slice none 0 0] 29)).alloc (.cells #[.int .i64 4200, .int .i64 4700, .int .i64 0, .int .i64 0, .int .i64 0, .int .i64 0, .int .i64 0, .int .i64 0, .int .i64 0, .int .i64 0, .int .i64 0, .int .i64 0, .int .i64 0, .int .i64 0, .int .i64 0, .int .i64 0] 70)).alloc (.cells #[.int .i64 2000, .int .i64 0, .int .i64 0, .int .i64 0] 72)).alloc (.cells #[.slice (some ⟨w.heap.size + 1 + 1 + 1 + 1, 0, none⟩) 1 1, .int .i64 100] 75))) := Lib.hid (by have h := RowL.new (w.alloc (.cells #[.string ⟨#[97]⟩, .int .i64 5, .int .i64 0, .int .i64 1, .int .i64 9000, .int .i64 1000, .int .i64 1000000, .int .i64 0] 49)) #[.int .i64 9, .int .i64 0] 68; (try simp only [World.size_alloc] at h); exact ((((h.alloc _).alloc _).alloc _).alloc _))
  have Fm : Hid (RowL (w.heap.size + 1 + 1) [.string ⟨#[109]⟩, .slice (some ⟨w.heap.size, 0, none⟩) 1 1, .slice none 0 0, .slice (some ⟨w.heap.size + 1, 0, none⟩) 1 1, .int .i64 0, .int .i64 0, .int .i64 1, .int .i64 1, .int .i64 1, .slice none 0 0] ((((((w.alloc (.cells #[.string ⟨#[97]⟩, .int .i64 5, .int .i64 0, .int .i64 1, .int .i64 9000, .int .i64 1000, .int .i64 1000000, .int .i64 0] 49)).alloc (.cells #[.int .i64 9, .int .i64 0] 68)).alloc (.cells #[.string ⟨#[109]⟩, .slice (some ⟨w.heap.size, 0, none⟩) 1 1, .slice none 0 0, .slice (some ⟨w.heap.size + 1, 0, none⟩) 1 1, .int .i64 0, .int .i64 0, .int .i64 1, .int .i64 1, .int .i64 1, .slice none 0 0] 29)).alloc (.cells #[.int .i64 4200, .int .i64 4700, .int .i64 0, .int .i64 0, .int .i64 0, .int .i64 0, .int .i64 0, .int .i64 0, .int .i64 0, .int .i64 0, .int .i64 0, .int .i64 0, .int .i64 0, .int .i64 0, .int .i64 0, .int .i64 0] 70)).alloc (.cells #[.int .i64 2000, .int .i64 0, .int .i64 0, .int .i64 0] 72)).alloc (.cells #[.slice (some ⟨w.heap.size + 1 + 1 + 1 + 1, 0, none⟩) 1 1, .int .i64 100] 75))) := Lib.hid (by have h := RowL.new ((w.alloc (.cells #[.string ⟨#[97]⟩, .int .i64 5, .int .i64 0, .int .i64 1, .int .i64 9000, .int .i64 1000, .int .i64 1000000, .int .i64 0] 49)).alloc (.cells #[.int .i64 9, .int .i64 0] 68)) #[.string ⟨#[109]⟩, .slice (some ⟨w.heap.size, 0, none⟩) 1 1, .slice none 0 0, .slice (some ⟨w.heap.size + 1, 0, none⟩) 1 1, .int .i64 0, .int .i64 0, .int .i64 1, .int .i64 1, .int .i64 1, .slice none 0 0] 29; (try simp only [World.size_alloc] at h); exact (((h.alloc _).alloc _).alloc _))
  have Fs : Hid (RowL (w.heap.size + 1 + 1 + 1) [.int .i64 4200, .int .i64 4700, .int .i64 0, .int .i64 0, .int .i64 0, .int .i64 0, .int .i64 0, .int .i64 0, .int .i64 0, .int .i64 0, .int .i64 0, .int .i64 0, .int .i64 0, .int .i64 0, .int .i64 0, .int .i64 0] ((((((w.alloc (.cells #[.string ⟨#[97]⟩, .int .i64 5, .int .i64 0, .int .i64 1, .int .i64 9000, .int .i64 1000, .int .i64 1000000, .int .i64 0] 49)).alloc (.cells #[.int .i64 9, .int .i64 0] 68)).alloc (.cells #[.string ⟨#[109]⟩, .slice (some ⟨w.heap.size, 0, none⟩) 1 1, .slice none 0 0, .slice (some ⟨w.heap.size + 1, 0, none⟩) 1 1, .int .i64 0, .int .i64 0, .int .i64 1, .int .i64 1, .int .i64 1, .slice none 0 0] 29)).alloc (.cells #[.int .i64 4200, .int .i64 4700, .int .i64 0, .int .i64 0, .int .i64 0, .int .i64 0, .int .i64 0, .int .i64 0, .int .i64 0, .int .i64 0, .int .i64 0, .int .i64 0, .int .i64 0, .int .i64 0, .int .i64 0, .int .i64 0] 70)).alloc (.cells #[.int .i64 2000, .int .i64 0, .int .i64 0, .int .i64 0] 72)).alloc (.cells #[.slice (some ⟨w.heap.size + 1 + 1 + 1 + 1, 0, none⟩) 1 1, .int .i64 100] 75))) := Lib.hid (by have h := RowL.new (((w.alloc (.cells #[.string ⟨#[97]⟩, .int .i64 5, .int .i64 0, .int .i64 1, .int .i64 9000, .int .i64 1000, .int .i64 1000000, .int .i64 0] 49)).alloc (.cells #[.int .i64 9, .int .i64 0] 68)).alloc (.cells #[.string ⟨#[109]⟩, .slice (some ⟨w.heap.size, 0, none⟩) 1 1, .slice none 0 0, .slice (some ⟨w.heap.size + 1, 0, none⟩) 1 1, .int .i64 0, .int .i64 0, .int .i64 1, .int .i64 1, .int .i64 1, .slice none 0 0] 29)) #[.int .i64 4200, .int .i64 4700, .int .i64 0, .int .i64 0, .int .i64 0, .int .i64 0, .int .i64 0, .int .i64 0, .int .i64 0, .int .i64 0, .int .i64 0, .int .i64 0, .int .i64 0, .int .i64 0, .int .i64 0, .int .i64 0] 70; (try simp only [World.size_alloc] at h); exact ((h.alloc _).alloc _))
  have Fg : Hid (RowL (w.heap.size + 1 + 1 + 1 + 1) [.int .i64 2000, .int .i64 0, .int .i64 0, .int .i64 0] ((((((w.alloc (.cells #[.string ⟨#[97]⟩, .int .i64 5, .int .i64 0, .int .i64 1, .int .i64 9000, .int .i64 1000, .int .i64 1000000, .int .i64 0] 49)).alloc (.cells #[.int .i64 9, .int .i64 0] 68)).alloc (.cells #[.string ⟨#[109]⟩, .slice (some ⟨w.heap.size, 0, none⟩) 1 1, .slice none 0 0, .slice (some ⟨w.heap.size + 1, 0, none⟩) 1 1, .int .i64 0, .int .i64 0, .int .i64 1, .int .i64 1, .int .i64 1, .slice none 0 0] 29)).alloc (.cells #[.int .i64 4200, .int .i64 4700, .int .i64 0, .int .i64 0, .int .i64 0, .int .i64 0, .int .i64 0, .int .i64 0, .int .i64 0, .int .i64 0, .int .i64 0, .int .i64 0, .int .i64 0, .int .i64 0, .int .i64 0, .int .i64 0] 70)).alloc (.cells #[.int .i64 2000, .int .i64 0, .int .i64 0, .int .i64 0] 72)).alloc (.cells #[.slice (some ⟨w.heap.size + 1 + 1 + 1 + 1, 0, none⟩) 1 1, .int .i64 100] 75))) := Lib.hid (by have h := RowL.new ((((w.alloc (.cells #[.string ⟨#[97]⟩, .int .i64 5, .int .i64 0, .int .i64 1, .int .i64 9000, .int .i64 1000, .int .i64 1000000, .int .i64 0] 49)).alloc (.cells #[.int .i64 9, .int .i64 0] 68)).alloc (.cells #[.string ⟨#[109]⟩, .slice (some ⟨w.heap.size, 0, none⟩) 1 1, .slice none 0 0, .slice (some ⟨w.heap.size + 1, 0, none⟩) 1 1, .int .i64 0, .int .i64 0, .int .i64 1, .int .i64 1, .int .i64 1, .slice none 0 0] 29)).alloc (.cells #[.int .i64 4200, .int .i64 4700, .int .i64 0, .int .i64 0, .int .i64 0, .int .i64 0, .int .i64 0, .int .i64 0, .int .i64 0, .int .i64 0, .int .i64 0, .int .i64 0, .int .i64 0, .int .i64 0, .int .i64 0, .int .i64 0] 70)) #[.int .i64 2000, .int .i64 0, .int .i64 0, .int .i64 0] 72; (try simp only [World.size_alloc] at h); exact (h.alloc _))
  have Fx : Hid (RowL (w.heap.size + 1 + 1 + 1 + 1 + 1) [.slice (some ⟨w.heap.size + 1 + 1 + 1 + 1, 0, none⟩) 1 1, .int .i64 100] ((((((w.alloc (.cells #[.string ⟨#[97]⟩, .int .i64 5, .int .i64 0, .int .i64 1, .int .i64 9000, .int .i64 1000, .int .i64 1000000, .int .i64 0] 49)).alloc (.cells #[.int .i64 9, .int .i64 0] 68)).alloc (.cells #[.string ⟨#[109]⟩, .slice (some ⟨w.heap.size, 0, none⟩) 1 1, .slice none 0 0, .slice (some ⟨w.heap.size + 1, 0, none⟩) 1 1, .int .i64 0, .int .i64 0, .int .i64 1, .int .i64 1, .int .i64 1, .slice none 0 0] 29)).alloc (.cells #[.int .i64 4200, .int .i64 4700, .int .i64 0, .int .i64 0, .int .i64 0, .int .i64 0, .int .i64 0, .int .i64 0, .int .i64 0, .int .i64 0, .int .i64 0, .int .i64 0, .int .i64 0, .int .i64 0, .int .i64 0, .int .i64 0] 70)).alloc (.cells #[.int .i64 2000, .int .i64 0, .int .i64 0, .int .i64 0] 72)).alloc (.cells #[.slice (some ⟨w.heap.size + 1 + 1 + 1 + 1, 0, none⟩) 1 1, .int .i64 100] 75))) := Lib.hid (by have h := RowL.new (((((w.alloc (.cells #[.string ⟨#[97]⟩, .int .i64 5, .int .i64 0, .int .i64 1, .int .i64 9000, .int .i64 1000, .int .i64 1000000, .int .i64 0] 49)).alloc (.cells #[.int .i64 9, .int .i64 0] 68)).alloc (.cells #[.string ⟨#[109]⟩, .slice (some ⟨w.heap.size, 0, none⟩) 1 1, .slice none 0 0, .slice (some ⟨w.heap.size + 1, 0, none⟩) 1 1, .int .i64 0, .int .i64 0, .int .i64 1, .int .i64 1, .int .i64 1, .slice none 0 0] 29)).alloc (.cells #[.int .i64 4200, .int .i64 4700, .int .i64 0, .int .i64 0, .int .i64 0, .int .i64 0, .int .i64 0, .int .i64 0, .int .i64 0, .int .i64 0, .int .i64 0, .int .i64 0, .int .i64 0, .int .i64 0, .int .i64 0, .int .i64 0] 70)).alloc (.cells #[.int .i64 2000, .int .i64 0, .int .i64 0, .int .i64 0] 72)) #[.slice (some ⟨w.heap.size + 1 + 1 + 1 + 1, 0, none⟩) 1 1, .int .i64 100] 75; (try simp only [World.size_alloc] at h); exact h)
  have hB0 : Below w.heap.size w ((((((w.alloc (.cells #[.string ⟨#[97]⟩, .int .i64 5, .int .i64 0, .int .i64 1, .int .i64 9000, .int .i64 1000, .int .i64 1000000, .int .i64 0] 49)).alloc (.cells #[.int .i64 9, .int .i64 0] 68)).alloc (.cells #[.string ⟨#[109]⟩, .slice (some ⟨w.heap.size, 0, none⟩) 1 1, .slice none 0 0, .slice (some ⟨w.heap.size + 1, 0, none⟩) 1 1, .int .i64 0, .int .i64 0, .int .i64 1, .int .i64 1, .int .i64 1, .slice none 0 0] 29)).alloc (.cells #[.int .i64 4200, .int .i64 4700, .int .i64 0, .int .i64 0, .int .i64 0, .int .i64 0, .int .i64 0, .int .i64 0, .int .i64 0, .int .i64 0, .int .i64 0, .int .i64 0, .int .i64 0, .int .i64 0, .int .i64 0, .int .i64 0] 70)).alloc (.cells #[.int .i64 2000, .int .i64 0, .int .i64 0, .int .i64 0] 72)).alloc (.cells #[.slice (some ⟨w.heap.size + 1 + 1 + 1 + 1, 0, none⟩) 1 1, .int .i64 100] 75)) := by (with_reducible repeat first | exact Below.refl _ _ | assumption | ((first | refine Below.setCell ?_ ?_ _ | refine Below.alloc ?_ ?_ _); rotate_left; exact (by first | omega | (simp; done) | (simp; omega))) | refine Below.drew ?_ | refine Below_drewN ?_ _)
  have sW0 : w.heap.size + 1 + 1 + 1 + 1 + 1 < ((((((w.alloc (.cells #[.string ⟨#[97]⟩, .int .i64 5, .int .i64 0, .int .i64 1, .int .i64 9000, .int .i64 1000, .int .i64 1000000, .int .i64 0] 49)).alloc (.cells #[.int .i64 9, .int .i64 0] 68)).alloc (.cells #[.string ⟨#[109]⟩, .slice (some ⟨w.heap.size, 0, none⟩) 1 1, .slice none 0 0, .slice (some ⟨w.heap.size + 1, 0, none⟩) 1 1, .int .i64 0, .int .i64 0, .int .i64 1, .int .i64 1, .int .i64 1, .slice none 0 0] 29)).alloc (.cells #[.int .i64 4200, .int .i64 4700, .int .i64 0, .int .i64 0, .int .i64 0, .int .i64 0, .int .i64 0, .int .i64 0, .int .i64 0, .int .i64 0, .int .i64 0, .int .i64 0, .int .i64 0, .int .i64 0, .int .i64 0, .int .i64 0] 70)).alloc (.cells #[.int .i64 2000, .int .i64 0, .int .i64 0, .int .i64 0] 72)).alloc (.cells #[.slice (some ⟨w.heap.size + 1 + 1 + 1 + 1, 0, none⟩) 1 1, .int .i64 100] 75)).heap.size := by simp only [World.size_alloc]; omega
  obtain ⟨W0, hW0⟩ : ∃ W, ((((((w.alloc (.cells #[.string ⟨#[97]⟩, .int .i64 5, .int .i64 0, .int .i64 1, .int .i64 9000, .int .i64 1000, .int .i64 1000000, .int .i64 0] 49)).alloc (.cells #[.int .i64 9, .int .i64 0] 68)).alloc (.cells #[.string ⟨#[109]⟩, .slice (some ⟨w.heap.size, 0, none⟩) 1 1, .slice none 0 0, .slice (some ⟨w.heap.size + 1, 0, none⟩) 1 1, .int .i64 0, .int .i64 0, .int .i64 1, .int .i64 1, .int .i64 1, .slice none 0 0] 29)).alloc (.cells #[.int .i64 4200, .int .i64 4700, .int .i64 0, .int .i64 0, .int .i64 0, .int .i64 0, .int .i64 0, .int .i64 0, .int .i64 0, .int .i64 0, .int .i64 0, .int .i64 0, .int .i64 0, .int .i64 0, .int .i64 0, .int .i64 0] 70)).alloc (.cells #[.int .i64 2000, .int .i64 0, .int .i64 0, .int .i64 0] 72)).alloc (.cells #[.slice (some ⟨w.heap.size + 1 + 1 + 1 + 1, 0, none⟩) 1 1, .int .i64 100] 75)) = W := ⟨_, rfl⟩
  rw [hW0] at Fc Fp Fm Fs Fg Fx hB0 sW0 ⊢
  clear hW0
  have s0 := Fs.out.cell 0 (.int .i64 4200) rfl
  have s1 := Fs.out.cell 1 (.int .i64 4700) rfl
  have s2 := Fs.out.cell 2 (.int .i64 0) rfl
  have s3 := Fs.out.cell 3 (.int .i64 0) rfl
  have s4 := Fs.out.cell 4 (.int .i64 0) rfl
  have s5 := Fs.out.cell 5 (.int .i64 0) rfl
  have s6 := Fs.out.cell 6 (.int .i64 0) rfl
  have s7 := Fs.out.cell 7 (.int .i64 0) rfl
  have s8 := Fs.out.cell 8 (.int .i64 0) rfl
  have s9 := Fs.out.cell 9 (.int .i64 0) rfl
  have s10 := Fs.out.cell 10 (.int .i64 0) rfl
  have s11 := Fs.out.cell 11 (.int .i64 0) rfl
  have s12 := Fs.out.cell 12 (.int .i64 0) rfl
  have s13 := Fs.out.cell 13 (.int .i64 0) rfl
  have s14 := Fs.out.cell 14 (.int .i64 0) rfl
  have s15 := Fs.out.cell 15 (.int .i64 0) rfl
  go_wp2_with fail
  refine (HE.out _).mono ?_
  rintro e w1 ⟨rfl, hb⟩
  clear HE s0 s1 s2 s3 s4 s5 s6 s7 s8 s9 s10 s11 s12 s13 s14 s15
  have Gc := Lib.hid (Fc.out.below hb)
  clear Fc
  have Fc := Lib.hid Gc.out
  clear Gc
  have Gp := Lib.hid (Fp.out.below hb)
  clear Fp
  have Fp := Lib.hid Gp.out
  clear Gp
  have Gm := Lib.hid (Fm.out.below hb)
  clear Fm
  have Fm := Lib.hid Gm.out
  clear Gm
  have Gs := Lib.hid (Fs.out.below hb)
  clear Fs
  have Fs := Lib.hid Gs.out
  clear Gs
  have Gg := Lib.hid (Fg.out.below hb)
  clear Fg
  have Fg := Lib.hid Gg.out
  clear Gg
  have Gx := Lib.hid (Fx.out.below hb)
  clear Fx
  have Fx := Lib.hid Gx.out
  clear Gx
  have c0 := Fc.out.cell 0 (.string ⟨#[97]⟩) rfl
  have c1 := Fc.out.cell 1 (.int .i64 5) rfl
  have c2 := Fc.out.cell 2 (.int .i64 0) rfl
  have c3 := Fc.out.cell 3 (.int .i64 1) rfl
  have c4 := Fc.out.cell 4 (.int .i64 9000) rfl
  have c5 := Fc.out.cell 5 (.int .i64 1000) rfl
  have c6 := Fc.out.cell 6 (.int .i64 1000000) rfl
  have c7 := Fc.out.cell 7 (.int .i64 0) rfl
  have p0 := Fp.out.cell 0 (.int .i64 9) rfl
  have p1 := Fp.out.cell 1 (.int .i64 0) rfl
  have m0 := Fm.out.cell 0 (.string ⟨#[109]⟩) rfl
  have m1 := Fm.out.cell 1 (.slice (some ⟨w.heap.size, 0, none⟩) 1 1) rfl
  have m2 := Fm.out.cell 2 (.slice none 0 0) rfl
  have m3 := Fm.out.cell 3 (.slice (some ⟨w.heap.size + 1, 0, none⟩) 1 1) rfl
  have m4 := Fm.out.cell 4 (.int .i64 0) rfl
  have m5 := Fm.out.cell 5 (.int .i64 0) rfl
  have m6 := Fm.out.cell 6 (.int .i64 1) rfl
  have m7 := Fm.out.cell 7 (.int .i64 1) rfl
  have m8 := Fm.out.cell 8 (.int .i64 1) rfl
  have m9 := Fm.out.cell 9 (.slice none 0 0) rfl
  have s0 := Fs.out.cell 0 (.int .i64 4200) rfl
  have s1 := Fs.out.cell 1 (.int .i64 4700) rfl
  have s2 := Fs.out.cell 2 (.int .i64 0) rfl
  have s3 := Fs.out.cell 3 (.int .i64 0) rfl
  have s4 := Fs.out.cell 4 (.int .i64 0) rfl
  have s5 := Fs.out.cell 5 (.int .i64 0) rfl
  have s6 := Fs.out.cell 6 (.int .i64 0) rfl
  have s7 := Fs.out.cell 7 (.int .i64 0) rfl
  have s8 := Fs.out.cell 8 (.int .i64 0) rfl
  have s9 := Fs.out.cell 9 (.int .i64 0) rfl
  have s10 := Fs.out.cell 10 (.int .i64 0) rfl
  have s11 := Fs.out.cell 11 (.int .i64 0) rfl
  have s12 := Fs.out.cell 12 (.int .i64 0) rfl
  have s13 := Fs.out.cell 13 (.int .i64 0) rfl
  have s14 := Fs.out.cell 14 (.int .i64 0) rfl
  have s15 := Fs.out.cell 15 (.int .i64 0) rfl
  have g0 := Fg.out.cell 0 (.int .i64 2000) rfl
  have g1 := Fg.out.cell 1 (.int .i64 0) rfl
  have g2 := Fg.out.cell 2 (.int .i64 0) rfl
  have g3 := Fg.out.cell 3 (.int .i64 0) rfl
  have x0 := Fx.out.cell 0 (.slice (some ⟨w.heap.size + 1 + 1 + 1 + 1, 0, none⟩) 1 1) rfl
  have x1 := Fx.out.cell 1 (.int .i64 100) rfl
  have hBw1 := hB0.trans (hb.mono hB0.size)
  clear hb c0 c1 c2 c3 c4 c5 c6 c7 p0 p1 g0 g1 g2 g3
  go_upto_region 5 with (fail)
  have Fr : Hid (RowL (w1.heap.size) [.int .i64 300, .int .i64 800] ((w1.alloc (.cells #[.int .i64 300, .int .i64 800] 44)).alloc (.cells #[.int .i64 0, .int .i64 0] 44))) := Lib.hid (by have h := RowL.new w1 #[.int .i64 300, .int .i64 800] 44; (try simp only [World.size_alloc] at h); exact (h.alloc _))
  have Fz : Hid (RowL (w1.heap.size + 1) [.int .i64 0, .int .i64 0] ((w1.alloc (.cells #[.int .i64 300, .int .i64 800] 44)).alloc (.cells #[.int .i64 0, .int .i64 0] 44))) := Lib.hid (by have h := RowL.new (w1.alloc (.cells #[.int .i64 300, .int .i64 800] 44)) #[.int .i64 0, .int .i64 0] 44; (try simp only [World.size_alloc] at h); exact h)
  have hb2 : Below w1.heap.size w1 ((w1.alloc (.cells #[.int .i64 300, .int .i64 800] 44)).alloc (.cells #[.int .i64 0, .int .i64 0] 44)) := by (with_reducible repeat first | exact Below.refl _ _ | assumption | ((first | refine Below.setCell ?_ ?_ _ | refine Below.alloc ?_ ?_ _); rotate_left; exact (by first | omega | (simp; done) | (simp; omega))) | refine Below.drew ?_ | refine Below_drewN ?_ _)
  have sW2 : w1.heap.size + 1 < ((w1.alloc (.cells #[.int .i64 300, .int .i64 800] 44)).alloc (.cells #[.int .i64 0, .int .i64 0] 44)).heap.size := by simp only [World.size_alloc]; omega
  obtain ⟨W2, hW2⟩ : ∃ W, ((w1.alloc (.cells #[.int .i64 300, .int .i64 800] 44)).alloc (.cells #[.int .i64 0, .int .i64 0] 44)) = W := ⟨_, rfl⟩
  rw [hW2] at Fr Fz hb2 sW2 ⊢
  clear hW2
  clear m0 m1 m2 m3 m4 m5 m6 m7 m8 m9 s0 s1 s2 s3 s4 s5 s6 s7 s8 s9 s10 s11 s12 s13 s14 s15 x0 x1
  have Gc := Lib.hid (Fc.out.below hb2)
  clear Fc
  have Fc := Lib.hid Gc.out
  clear Gc
  have Gp := Lib.hid (Fp.out.below hb2)
  clear Fp
  have Fp := Lib.hid Gp.out
  clear Gp
  have Gm := Lib.hid (Fm.out.below hb2)
  clear Fm
  have Fm := Lib.hid Gm.out
  clear Gm
  have Gs := Lib.hid (Fs.out.below hb2)
  clear Fs
  have Fs := Lib.hid Gs.out
  clear Gs
  have Gg := Lib.hid (Fg.out.below hb2)
  clear Fg
  have Fg := Lib.hid Gg.out
  clear Gg
  have Gx := Lib.hid (Fx.out.below hb2)
  clear Fx
  have Fx := Lib.hid Gx.out
  clear Gx
  have c0 := Fc.out.cell 0 (.string ⟨#[97]⟩) rfl
  have c1 := Fc.out.cell 1 (.int .i64 5) rfl
  have c2 := Fc.out.cell 2 (.int .i64 0) rfl
  have c3 := Fc.out.cell 3 (.int .i64 1) rfl
  have c4 := Fc.out.cell 4 (.int .i64 9000) rfl
  have c5 := Fc.out.cell 5 (.int .i64 1000) rfl
  have c6 := Fc.out.cell 6 (.int .i64 1000000) rfl
  have c7 := Fc.out.cell 7 (.int .i64 0) rfl
  have p0 := Fp.out.cell 0 (.int .i64 9) rfl
  have p1 := Fp.out.cell 1 (.int .i64 0) rfl
  have m0 := Fm.out.cell 0 (.string ⟨#[109]⟩) rfl
  have m1 := Fm.out.cell 1 (.slice (some ⟨w.heap.size, 0, none⟩) 1 1) rfl
  have m2 := Fm.out.cell 2 (.slice none 0 0) rfl
  have m3 := Fm.out.cell 3 (.slice (some ⟨w.heap.size + 1, 0, none⟩) 1 1) rfl
  have m4 := Fm.out.cell 4 (.int .i64 0) rfl
  have m5 := Fm.out.cell 5 (.int .i64 0) rfl
  have m6 := Fm.out.cell 6 (.int .i64 1) rfl
  have m7 := Fm.out.cell 7 (.int .i64 1) rfl
  have m8 := Fm.out.cell 8 (.int .i64 1) rfl
  have m9 := Fm.out.cell 9 (.slice none 0 0) rfl
  have s0 := Fs.out.cell 0 (.int .i64 4200) rfl
  have s1 := Fs.out.cell 1 (.int .i64 4700) rfl
  have s2 := Fs.out.cell 2 (.int .i64 0) rfl
  have s3 := Fs.out.cell 3 (.int .i64 0) rfl
  have s4 := Fs.out.cell 4 (.int .i64 0) rfl
  have s5 := Fs.out.cell 5 (.int .i64 0) rfl
  have s6 := Fs.out.cell 6 (.int .i64 0) rfl
  have s7 := Fs.out.cell 7 (.int .i64 0) rfl
  have s8 := Fs.out.cell 8 (.int .i64 0) rfl
  have s9 := Fs.out.cell 9 (.int .i64 0) rfl
  have s10 := Fs.out.cell 10 (.int .i64 0) rfl
  have s11 := Fs.out.cell 11 (.int .i64 0) rfl
  have s12 := Fs.out.cell 12 (.int .i64 0) rfl
  have s13 := Fs.out.cell 13 (.int .i64 0) rfl
  have s14 := Fs.out.cell 14 (.int .i64 0) rfl
  have s15 := Fs.out.cell 15 (.int .i64 0) rfl
  have g0 := Fg.out.cell 0 (.int .i64 2000) rfl
  have g1 := Fg.out.cell 1 (.int .i64 0) rfl
  have g2 := Fg.out.cell 2 (.int .i64 0) rfl
  have g3 := Fg.out.cell 3 (.int .i64 0) rfl
  have x0 := Fx.out.cell 0 (.slice (some ⟨w.heap.size + 1 + 1 + 1 + 1, 0, none⟩) 1 1) rfl
  have x1 := Fx.out.cell 1 (.int .i64 100) rfl
  have hBW2 := hBw1.trans (hb2.mono hBw1.size)
  clear hb2 c0 c1 c2 c3 c4 c5 c6 c7 p0 p1 g0 g1 g2 g3
  go_wp2_with fail
  refine (HW.out _ Fc.out Fp.out Fg.out).mono ?_
  rintro e w3 ⟨A1, d1, rfl, i1, hb⟩
  clear HW m0 m1 m2 m3 m4 m5 m6 m7 m8 m9 s0 s1 s2 s3 s4 s5 s6 s7 s8 s9 s10 s11 s12 s13 s14 s15 x0 x1
  have I1 := Lib.hid i1
  clear i1
  have Gc := Lib.hid (Fc.out.below hb)
  clear Fc
  have Fc := Lib.hid Gc.out
  clear Gc
  have Gp := Lib.hid (Fp.out.below hb)
  clear Fp
  have Fp := Lib.hid Gp.out
  clear Gp
  have Gm := Lib.hid (Fm.out.below hb)
  clear Fm
  have Fm := Lib.hid Gm.out
  clear Gm
  have Gs := Lib.hid (Fs.out.below hb)
  clear Fs
  have Fs := Lib.hid Gs.out
  clear Gs
  have Gg := Lib.hid (Fg.out.below hb)
  clear Fg
  have Fg := Lib.hid Gg.out
  clear Gg
  have Gx := Lib.hid (Fx.out.below hb)
  clear Fx
  have Fx := Lib.hid Gx.out
  clear Gx
  have Gr := Lib.hid (Fr.out.below hb)
  clear Fr
  have Fr := Lib.hid Gr.out
  clear Gr
  have Gz := Lib.hid (Fz.out.below hb)
  clear Fz
  have Fz := Lib.hid Gz.out
  clear Gz
  have c0 := Fc.out.cell 0 (.string ⟨#[97]⟩) rfl
  have c1 := Fc.out.cell 1 (.int .i64 5) rfl
  have c2 := Fc.out.cell 2 (.int .i64 0) rfl
  have c3 := Fc.out.cell 3 (.int .i64 1) rfl
  have c4 := Fc.out.cell 4 (.int .i64 9000) rfl
  have c5 := Fc.out.cell 5 (.int .i64 1000) rfl
  have c6 := Fc.out.cell 6 (.int .i64 1000000) rfl
  have c7 := Fc.out.cell 7 (.int .i64 0) rfl
  have p0 := Fp.out.cell 0 (.int .i64 9) rfl
  have p1 := Fp.out.cell 1 (.int .i64 0) rfl
  have m0 := Fm.out.cell 0 (.string ⟨#[109]⟩) rfl
  have m1 := Fm.out.cell 1 (.slice (some ⟨w.heap.size, 0, none⟩) 1 1) rfl
  have m2 := Fm.out.cell 2 (.slice none 0 0) rfl
  have m3 := Fm.out.cell 3 (.slice (some ⟨w.heap.size + 1, 0, none⟩) 1 1) rfl
  have m4 := Fm.out.cell 4 (.int .i64 0) rfl
  have m5 := Fm.out.cell 5 (.int .i64 0) rfl
  have m6 := Fm.out.cell 6 (.int .i64 1) rfl
  have m7 := Fm.out.cell 7 (.int .i64 1) rfl
  have m8 := Fm.out.cell 8 (.int .i64 1) rfl
  have m9 := Fm.out.cell 9 (.slice none 0 0) rfl
  have s0 := Fs.out.cell 0 (.int .i64 4200) rfl
  have s1 := Fs.out.cell 1 (.int .i64 4700) rfl
  have s2 := Fs.out.cell 2 (.int .i64 0) rfl
  have s3 := Fs.out.cell 3 (.int .i64 0) rfl
  have s4 := Fs.out.cell 4 (.int .i64 0) rfl
  have s5 := Fs.out.cell 5 (.int .i64 0) rfl
  have s6 := Fs.out.cell 6 (.int .i64 0) rfl
  have s7 := Fs.out.cell 7 (.int .i64 0) rfl
  have s8 := Fs.out.cell 8 (.int .i64 0) rfl
  have s9 := Fs.out.cell 9 (.int .i64 0) rfl
  have s10 := Fs.out.cell 10 (.int .i64 0) rfl
  have s11 := Fs.out.cell 11 (.int .i64 0) rfl
  have s12 := Fs.out.cell 12 (.int .i64 0) rfl
  have s13 := Fs.out.cell 13 (.int .i64 0) rfl
  have s14 := Fs.out.cell 14 (.int .i64 0) rfl
  have s15 := Fs.out.cell 15 (.int .i64 0) rfl
  have g0 := Fg.out.cell 0 (.int .i64 2000) rfl
  have g1 := Fg.out.cell 1 (.int .i64 0) rfl
  have g2 := Fg.out.cell 2 (.int .i64 0) rfl
  have g3 := Fg.out.cell 3 (.int .i64 0) rfl
  have x0 := Fx.out.cell 0 (.slice (some ⟨w.heap.size + 1 + 1 + 1 + 1, 0, none⟩) 1 1) rfl
  have x1 := Fx.out.cell 1 (.int .i64 100) rfl
  have r0 := Fr.out.cell 0 (.int .i64 300) rfl
  have r1 := Fr.out.cell 1 (.int .i64 800) rfl
  have z0 := Fz.out.cell 0 (.int .i64 0) rfl
  have z1 := Fz.out.cell 1 (.int .i64 0) rfl
  have hBw3 := hBW2.trans (hb.mono hBW2.size)
  clear hb c0 c1 c2 c3 c4 c5 c6 c7 p0 p1 s0 s1 s2 s3 s4 s5 s6 s7 s8 s9 s10 s11 s12 s13 s14 s15 g0 g1 g2 g3 Fs
  go_wp2_with fail
  refine (HP.out _ _ (by have h := isT_new w3 [9, -9] 3; exact h)).mono ?_
  rintro e w4 ⟨A2, d2, rfl, i2, hb4⟩
  have hb := Below.trans (show Below w3.heap.size w3 _ by (with_reducible repeat first | exact Below.refl _ _ | assumption | ((first | refine Below.setCell ?_ ?_ _ | refine Below.alloc ?_ ?_ _); rotate_left; exact (by first | omega | (simp; done) | (simp; omega))) | refine Below.drew ?_ | refine Below_drewN ?_ _)) (hb4.mono (by first | omega | ((try simp only [World.size_alloc, World.size_setCell, size_drew, size_drewN]); omega) | (simp; done) | (simp; omega)))
  have I1' := Lib.hid (I1.out.below hb)
  have I2 := Lib.hid i2
  clear HP I1 i2 hb4 m0 m1 m2 m3 m4 m5 m6 m7 m8 m9 x0 x1 r0 r1 z0 z1
  have Gc := Lib.hid (Fc.out.below hb)
  clear Fc
  have Fc := Lib.hid Gc.out
  clear Gc
  have Gp := Lib.hid (Fp.out.below hb)
  clear Fp
  have Fp := Lib.hid Gp.out
  clear Gp
  have Gm := Lib.hid (Fm.out.below hb)
  clear Fm
  have Fm := Lib.hid Gm.out
  clear Gm
  have Gg := Lib.hid (Fg.out.below hb)
  clear Fg
  have Fg := Lib.hid Gg.out
  clear Gg
  have Gx := Lib.hid (Fx.out.below hb)
  clear Fx
  have Fx := Lib.hid Gx.out
  clear Gx
  have Gr := Lib.hid (Fr.out.below hb)
  clear Fr
  have Fr := Lib.hid Gr.out
  clear Gr
  have Gz := Lib.hid (Fz.out.below hb)
  clear Fz
  have Fz := Lib.hid Gz.out
  clear Gz
  have c0 := Fc.out.cell 0 (.string ⟨#[97]⟩) rfl
  have c1 := Fc.out.cell 1 (.int .i64 5) rfl
  have c2 := Fc.out.cell 2 (.int .i64 0) rfl
  have c3 := Fc.out.cell 3 (.int .i64 1) rfl
  have c4 := Fc.out.cell 4 (.int .i64 9000) rfl
  have c5 := Fc.out.cell 5 (.int .i64 1000) rfl
  have c6 := Fc.out.cell 6 (.int .i64 1000000) rfl
  have c7 := Fc.out.cell 7 (.int .i64 0) rfl
  have p0 := Fp.out.cell 0 (.int .i64 9) rfl
  have p1 := Fp.out.cell 1 (.int .i64 0) rfl
  have m0 := Fm.out.cell 0 (.string ⟨#[109]⟩) rfl
  have m1 := Fm.out.cell 1 (.slice (some ⟨w.heap.size, 0, none⟩) 1 1) rfl
  have m2 := Fm.out.cell 2 (.slice none 0 0) rfl
  have m3 := Fm.out.cell 3 (.slice (some ⟨w.heap.size + 1, 0, none⟩) 1 1) rfl
  have m4 := Fm.out.cell 4 (.int .i64 0) rfl
  have m5 := Fm.out.cell 5 (.int .i64 0) rfl
  have m6 := Fm.out.cell 6 (.int .i64 1) rfl
  have m7 := Fm.out.cell 7 (.int .i64 1) rfl
  have m8 := Fm.out.cell 8 (.int .i64 1) rfl
  have m9 := Fm.out.cell 9 (.slice none 0 0) rfl
  have g0 := Fg.out.cell 0 (.int .i64 2000) rfl
  have g1 := Fg.out.cell 1 (.int .i64 0) rfl
  have g2 := Fg.out.cell 2 (.int .i64 0) rfl
  have g3 := Fg.out.cell 3 (.int .i64 0) rfl
  have x0 := Fx.out.cell 0 (.slice (some ⟨w.heap.size + 1 + 1 + 1 + 1, 0, none⟩) 1 1) rfl
  have x1 := Fx.out.cell 1 (.int .i64 100) rfl
  have r0 := Fr.out.cell 0 (.int .i64 300) rfl
  have r1 := Fr.out.cell 1 (.int .i64 800) rfl
  have z0 := Fz.out.cell 0 (.int .i64 0) rfl
  have z1 := Fz.out.cell 1 (.int .i64 0) rfl
  have hBw4 := hBw3.trans (hb.mono hBw3.size)
  clear hb c0 c1 c2 c3 c4 c5 c6 c7 p0 p1 g0 g1 g2 g3
  go_wp2_with fail
  refine (HI1.out _ _ _ _ (I1'.out.below (by (with_reducible repeat first | exact Below.refl _ _ | assumption | ((first | refine Below.setCell ?_ ?_ _ | refine Below.alloc ?_ ?_ _); rotate_left; exact (by first | omega | (simp; done) | (simp; omega))) | refine Below.drew ?_ | refine Below_drewN ?_ _))) (by have h := isT_new w4 [600] 3; exact h)).mono ?_
  rintro e w5 ⟨rfl, hb5⟩
  have hb := Below.trans (show Below w4.heap.size w4 _ by (with_reducible repeat first | exact Below.refl _ _ | assumption | ((first | refine Below.setCell ?_ ?_ _ | refine Below.alloc ?_ ?_ _); rotate_left; exact (by first | omega | (simp; done) | (simp; omega))) | refine Below.drew ?_ | refine Below_drewN ?_ _)) (hb5.mono (by first | omega | ((try simp only [World.size_alloc, World.size_setCell, size_drew, size_drewN]); omega) | (simp; done) | (simp; omega)))
  have I2' := Lib.hid (I2.out.below hb)
  clear HI1 I1' I2 hb5 m0 m1 m2 m3 m4 m5 m6 m7 m8 m9 x0 x1 r0 r1 z0 z1
  have Gc := Lib.hid (Fc.out.below hb)
  clear Fc
  have Fc := Lib.hid Gc.out
  clear Gc
  have Gp := Lib.hid (Fp.out.below hb)
  clear Fp
  have Fp := Lib.hid Gp.out
  clear Gp
  have Gm := Lib.hid (Fm.out.below hb)
  clear Fm
  have Fm := Lib.hid Gm.out
  clear Gm
  have Gg := Lib.hid (Fg.out.below hb)
  clear Fg
  have Fg := Lib.hid Gg.out
  clear Gg
  have Gx := Lib.hid (Fx.out.below hb)
  clear Fx
  have Fx := Lib.hid Gx.out
  clear Gx
  have c0 := Fc.out.cell 0 (.string ⟨#[97]⟩) rfl
  have c1 := Fc.out.cell 1 (.int .i64 5) rfl
  have c2 := Fc.out.cell 2 (.int .i64 0) rfl
  have c3 := Fc.out.cell 3 (.int .i64 1) rfl
  have c4 := Fc.out.cell 4 (.int .i64 9000) rfl
  have c5 := Fc.out.cell 5 (.int .i64 1000) rfl
  have c6 := Fc.out.cell 6 (.int .i64 1000000) rfl
  have c7 := Fc.out.cell 7 (.int .i64 0) rfl
  have p0 := Fp.out.cell 0 (.int .i64 9) rfl
  have p1 := Fp.out.cell 1 (.int .i64 0) rfl
  have m0 := Fm.out.cell 0 (.string ⟨#[109]⟩) rfl
  have m1 := Fm.out.cell 1 (.slice (some ⟨w.heap.size, 0, none⟩) 1 1) rfl
  have m2 := Fm.out.cell 2 (.slice none 0 0) rfl
  have m3 := Fm.out.cell 3 (.slice (some ⟨w.heap.size + 1, 0, none⟩) 1 1) rfl
  have m4 := Fm.out.cell 4 (.int .i64 0) rfl
  have m5 := Fm.out.cell 5 (.int .i64 0) rfl
  have m6 := Fm.out.cell 6 (.int .i64 1) rfl
  have m7 := Fm.out.cell 7 (.int .i64 1) rfl
  have m8 := Fm.out.cell 8 (.int .i64 1) rfl
  have m9 := Fm.out.cell 9 (.slice none 0 0) rfl
  have g0 := Fg.out.cell 0 (.int .i64 2000) rfl
  have g1 := Fg.out.cell 1 (.int .i64 0) rfl
  have g2 := Fg.out.cell 2 (.int .i64 0) rfl
  have g3 := Fg.out.cell 3 (.int .i64 0) rfl
  have x0 := Fx.out.cell 0 (.slice (some ⟨w.heap.size + 1 + 1 + 1 + 1, 0, none⟩) 1 1) rfl
  have x1 := Fx.out.cell 1 (.int .i64 100) rfl
  have hBw5 := hBw4.trans (hb.mono hBw4.size)
  clear hb c0 c1 c2 c3 c4 c5 c6 c7 p0 p1 g0 g1 g2 g3 Fr Fz
  go_wp2_with fail
  refine (HI2.out _ _ _ _ (I2'.out.below (by (with_reducible repeat first | exact Below.refl _ _ | assumption | ((first | refine Below.setCell ?_ ?_ _ | refine Below.alloc ?_ ?_ _); rotate_left; exact (by first | omega | (simp; done) | (simp; omega))) | refine Below.drew ?_ | refine Below_drewN ?_ _))) (by have h := isT_new w5 [4, -4] 3; exact h)).mono ?_
  rintro e w6 ⟨rfl, hb6⟩
  have hb := Below.trans (show Below w5.heap.size w5 _ by (with_reducible repeat first | exact Below.refl _ _ | assumption | ((first | refine Below.setCell ?_ ?_ _ | refine Below.alloc ?_ ?_ _); rotate_left; exact (by first | omega | (simp; done) | (simp; omega))) | refine Below.drew ?_ | refine Below_drewN ?_ _)) (hb6.mono (by first | omega | ((try simp only [World.size_alloc, World.size_setCell, size_drew, size_drewN]); omega) | (simp; done) | (simp; omega)))
  clear HI2 I2' hb6 m0 m1 m2 m3 m4 m5 m6 m7 m8 m9 x0 x1
  have Gc := Lib.hid (Fc.out.below hb)
  clear Fc
  have Fc := Lib.hid Gc.out
  clear Gc
  have Gp := Lib.hid (Fp.out.below hb)
  clear Fp
  have Fp := Lib.hid Gp.out
  clear Gp
  have Gm := Lib.hid (Fm.out.below hb)
  clear Fm
  have Fm := Lib.hid Gm.out
  clear Gm
  have Gg := Lib.hid (Fg.out.below hb)
  clear Fg
  have Fg := Lib.hid Gg.out
  clear Gg
  have Gx := Lib.hid (Fx.out.below hb)
  clear Fx
  have Fx := Lib.hid Gx.out
  clear Gx
  have c0 := Fc.out.cell 0 (.string ⟨#[97]⟩) rfl
  have c1 := Fc.out.cell 1 (.int .i64 5) rfl
  have c2 := Fc.out.cell 2 (.int .i64 0) rfl
  have c3 := Fc.out.cell 3 (.int .i64 1) rfl
  have c4 := Fc.out.cell 4 (.int .i64 9000) rfl
  have c5 := Fc.out.cell 5 (.int .i64 1000) rfl
  have c6 := Fc.out.cell 6 (.int .i64 1000000) rfl
  have c7 := Fc.out.cell 7 (.int .i64 0) rfl
  have p0 := Fp.out.cell 0 (.int .i64 9) rfl
  have p1 := Fp.out.cell 1 (.int .i64 0) rfl
  have m0 := Fm.out.cell 0 (.string ⟨#[109]⟩) rfl
  have m1 := Fm.out.cell 1 (.slice (some ⟨w.heap.size, 0, none⟩) 1 1) rfl
  have m2 := Fm.out.cell 2 (.slice none 0 0) rfl
  have m3 := Fm.out.cell 3 (.slice (some ⟨w.heap.size + 1, 0, none⟩) 1 1) rfl
  have m4 := Fm.out.cell 4 (.int .i64 0) rfl
  have m5 := Fm.out.cell 5 (.int .i64 0) rfl
  have m6 := Fm.out.cell 6 (.int .i64 1) rfl
  have m7 := Fm.out.cell 7 (.int .i64 1) rfl
  have m8 := Fm.out.cell 8 (.int .i64 1) rfl
  have m9 := Fm.out.cell 9 (.slice none 0 0) rfl
  have g0 := Fg.out.cell 0 (.int .i64 2000) rfl
  have g1 := Fg.out.cell 1 (.int .i64 0) rfl
  have g2 := Fg.out.cell 2 (.int .i64 0) rfl
  have g3 := Fg.out.cell 3 (.int .i64 0) rfl
  have x0 := Fx.out.cell 0 (.slice (some ⟨w.heap.size + 1 + 1 + 1 + 1, 0, none⟩) 1 1) rfl
  have x1 := Fx.out.cell 1 (.int .i64 100) rfl
  have hBw6 := hBw5.trans (hb.mono hBw5.size)
  clear hb c0 c1 c2 c3 c4 c5 c6 c7 p0 p1 g0 g1 g2 g3
  go_wp2_with fail
  refine (HS.out _ Fc.out Fp.out Fg.out).mono ?_
  rintro e w7 ⟨rfl, hb⟩
  go_wp2_with fail
  go_ret
  exact ⟨rfl, hBw6.trans (hb.mono hBw6.size)⟩

end Go.Proofs.YtnikdbglpimadaaGreat
end
