import Derived.Test.YtjjajleiladbhaaGreatDoorKAD
import Derived.Test.YtjjajleiladbhaaGreatDoorKAM
import Derived.Test.YtjjajleiladbhaaGreatDoorKAN
import Derived.Test.YtjjajleiladbhaaGreatDoorRows
import Derived.KernelRfl
import Derived.Laws.StructEq
import Derived.Laws.MathBits
import Derived.Laws.Externs
import Derived.Shelf.Bits.Mul64
import Derived.Deep.RegionHeld3
import Derived.Lib.Hide
import Derived.Deep.DeepCutAuto
import Derived.Deep.QuietTactic
import Derived.BigQuiet
import Derived.Shelf.Abstract
section
/- Package machine: divide, force, Force, Linked, over this seat's translation (written by ax_mg.py). -/
namespace Go.Proofs.YtjjajleiladbhaaGreatDoor
set_option linter.unusedVariables false
set_option linter.unusedSimpArgs false
open Go.RowKit

end Go.Proofs.YtjjajleiladbhaaGreatDoor
end
section
/- Plain facts about flux: it is linear in the currents (P2.2); a coil alone has no force on itself (P2.5). -/
namespace Go.Proofs.YtjjajleiladbhaaGreatDoor
set_option linter.unusedVariables false
set_option linter.unusedSimpArgs false
open Go.RowKit Go.Shelf

/-- two lists' sums, as long as the shorter -/
def addI (a b : List Int) : List Int := List.zipWith (· + ·) a b
def addC (C D : CurD) : CurD := ⟨addI C.coils D.coils, addI C.shells D.shells, addI C.plasma D.plasma⟩
theorem flux_zip {α : Type} (p : Int × Int) (f : α → Int × Int) (g : α → Int) : ∀ (l : List α) (a b : List Int), a.length = l.length → b.length = l.length →
    fluxP p (List.zipWith (fun c x => (f c, g c * x)) l (addI a b)) = fluxP p (List.zipWith (fun c x => (f c, g c * x)) l a) + fluxP p (List.zipWith (fun c x => (f c, g c * x)) l b)
  | [], a, b, _, _ => by simp [fluxP]
  | c :: l, [], b, h, _ => by simp at h
  | c :: l, x :: a, [], _, h => by simp at h
  | c :: l, x :: a, y :: b, h1, h2 => by
    have ih := flux_zip p f g l a b (by simpa using h1) (by simpa using h2)
    unfold addI at ih ⊢
    simp only [List.zipWith_cons_cons, fluxP]
    rw [ih, Int.mul_add, Int.mul_add]; omega
theorem flux_map {α : Type} (p : Int × Int) (f : α → Int × Int) (u v : α → Int) : ∀ l : List α, fluxP p (l.map fun j => (f j, u j + v j)) = fluxP p (l.map fun j => (f j, u j)) + fluxP p (l.map fun j => (f j, v j))
  | [] => by simp [fluxP]
  | j :: l => by simp only [List.map_cons, fluxP]; rw [flux_map p f u v l, Int.mul_add]; omega
theorem flux_cells (p : Int × Int) (g : GridD) (a b : List Int) (h : a.length = b.length) : fluxP p (cellSrc g (addI a b) (addI a b).length) = fluxP p (cellSrc g a a.length) + fluxP p (cellSrc g b b.length) := by
  have e : (addI a b).length = a.length := by simp [addI, h]
  rw [e, ← h]
  unfold cellSrc
  rw [← flux_map]
  congr 1
  apply List.map_congr_left
  intro j hj
  have hj1 : j < a.length := by simpa using hj
  congr 1
  unfold addI
  simp [List.getElem?_zipWith, List.getElem?_eq_getElem hj1, List.getElem?_eq_getElem (show j < b.length by omega)]
theorem flux_zip1 {α : Type} (p : Int × Int) (f : α → Int × Int) (l : List α) (a b : List Int) (h1 : a.length = l.length) (h2 : b.length = l.length) :
    fluxP p (List.zipWith (fun c x => (f c, x)) l (addI a b)) = fluxP p (List.zipWith (fun c x => (f c, x)) l a) + fluxP p (List.zipWith (fun c x => (f c, x)) l b) := by
  have := flux_zip p f (fun _ => 1) l a b h1 h2
  simpa using this
theorem flux_add (p : Int × Int) {M : MachD} {C D : CurD} (hc : Fit2 M C) (hd : Fit2 M D) : fluxP p (srcM M (addC C D)) = fluxP p (srcM M C) + fluxP p (srcM M D) := by
  have h1 := hc.plasma.1
  have h2 := hd.plasma.1
  unfold srcM srcL addC
  simp only [fluxP_append]
  rw [flux_zip p (fun c : CoilD => (c.r, c.z)) (fun c => c.turns) M.coils C.coils D.coils hc.coils.1 hd.coils.1, flux_zip1 p (fun s : ShellD => (s.r, s.z)) M.shells C.shells D.shells hc.shells.1 hd.shells.1, flux_cells p M.grid C.plasma D.plasma (by omega)]
  omega
theorem flux_good (R : MachR) (M : MachD) (Q : CurR) (C : CurD) (a b : Int) (w : World) (hM : IsM w R M) (hC : IsC w Q C) (hf : Fit2 M C) (h : (-100 ≤ a ∧ a ≤ 100) ∧ -100 ≤ b ∧ b ≤ 100) : Calls Tryz.prog 42 #[.agg (machCells R M), Q.v, .agg #[.int .i64 a, .int .i64 b]] w (Ret (.tuple #[.int .i64 (fluxP (a, b) (srcM M C)), .int .i64 0]) w) := by
  have hh := flux_any R M Q C a b w hM hC
  have e : fieldE M C a b = 0 := by unfold fieldE; rw [if_pos (fit2_iff.2 hf), if_pos (near_iff.2 h)]
  have e2 : fluxE M C a b = (fluxP (a, b) (srcM M C), 0) := by unfold fluxE; rw [if_pos e]
  rw [e2] at hh
  exact hh
theorem field_good (R : MachR) (M : MachD) (Q : CurR) (C : CurD) (a b : Int) (w : World) (hM : IsM w R M) (hC : IsC w Q C) (hf : Fit2 M C) (h : (-100 ≤ a ∧ a ≤ 100) ∧ -100 ≤ b ∧ b ≤ 100) : Calls Tryz.prog 44 #[.agg (machCells R M), Q.v, .agg #[.int .i64 a, .int .i64 b]] w (Ret (.tuple #[.int .i64 (fluxP (a, b - 1) (srcM M C) - fluxP (a, b + 1) (srcM M C)), .int .i64 (fluxP (a + 1, b) (srcM M C) - fluxP (a - 1, b) (srcM M C)), .int .i64 0]) w) := by
  have hh := field_any R M Q C a b w hM hC
  have e : fieldE M C a b = 0 := by unfold fieldE; rw [if_pos (fit2_iff.2 hf), if_pos (near_iff.2 h)]
  have e2 : fieldsE M C a b = ((fieldP (a, b) (srcM M C)).1, (fieldP (a, b) (srcM M C)).2, 0) := by unfold fieldsE; rw [if_pos e]
  rw [e2] at hh
  exact hh
theorem limits_ok {M : MachD} (h : checkC M = 0) : (M.limits.length : Int) ≤ 16 ∧ ∀ x ∈ M.limits, (-60 ≤ x.r ∧ x.r ≤ 60) ∧ -60 ≤ x.z ∧ x.z ≤ 60 := by
  have h4 := (orL_zero (orL_zero (orL_zero (orL_zero h).2).2).2).1
  unfold limitsC at h4
  split at h4
  · cases h4
  · have q := eachC_all h4
    refine ⟨q.1, fun x hx => ?_⟩
    obtain ⟨e, he⟩ := q.2 x hx
    unfold limitC at he
    split at he
    · rename_i hn; exact near_iff.1 hn
    · simp at he
end Go.Proofs.YtjjajleiladbhaaGreatDoor
end
section
/- Package span and its specification: contracts of the looks (Width, Middle, Greatest, Proved), of Make and Point, over this seat's translation. -/
namespace Go.Proofs.YtjjajleiladbhaaGreatDoor
set_option linter.unusedVariables false
set_option linter.unusedSimpArgs false
open Go.RowKit

end Go.Proofs.YtjjajleiladbhaaGreatDoor
end
section
/- Plain arithmetic of two's complement numbers of 128 bits; it imports nothing of the program. -/
namespace Go.Proofs.YtjjajleiladbhaaGreatDoor
set_option linter.unusedVariables false
set_option linter.unusedSimpArgs false

/-- z is far from the ends of 128 bits. -/
def Fit (z : Int) : Prop := -10000000000000000000000000000000000 ≤ z ∧ z ≤ 10000000000000000000000000000000000
end Go.Proofs.YtjjajleiladbhaaGreatDoor
end
section
/- Package span: contracts of the 128-bit numbers (wide, ends), over this seat's translation. -/
namespace Go.Proofs.YtjjajleiladbhaaGreatDoor
set_option linter.unusedVariables false
set_option linter.unusedSimpArgs false
open Go.RowKit

end Go.Proofs.YtjjajleiladbhaaGreatDoor
end
section
/- Package span: contracts of hull, product, narrow and span, over this seat's translation. -/
namespace Go.Proofs.YtjjajleiladbhaaGreatDoor
set_option linter.unusedVariables false
set_option linter.unusedSimpArgs false
open Go.RowKit

end Go.Proofs.YtjjajleiladbhaaGreatDoor
end
section
/- Package span: the contract of over (a division of a wide number), given that of the machine's division, over this seat's translation. -/
namespace Go.Proofs.YtjjajleiladbhaaGreatDoor
set_option linter.unusedVariables false
set_option linter.unusedSimpArgs false
open Go.RowKit

end Go.Proofs.YtjjajleiladbhaaGreatDoor
end
section
/- Package span: contracts of the division of small numbers and of the closures of Mul and Quot, over this seat's translation. -/
namespace Go.Proofs.YtjjajleiladbhaaGreatDoor
set_option linter.unusedVariables false
set_option linter.unusedSimpArgs false
open Go.RowKit

end Go.Proofs.YtjjajleiladbhaaGreatDoor
end
section
/- Package span: contracts of span (the ends made a span), spread and combine, over this seat's translation. -/
namespace Go.Proofs.YtjjajleiladbhaaGreatDoor
set_option linter.unusedVariables false
set_option linter.unusedSimpArgs false
open Go.RowKit

theorem Fit.min {x y : Int} (hx : Fit x) (hy : Fit y) : Fit (Min.min x y) := by unfold Fit at *; omega
theorem Fit.max {x y : Int} (hx : Fit x) (hy : Fit y) : Fit (Max.max x y) := by unfold Fit at *; omega

end Go.Proofs.YtjjajleiladbhaaGreatDoor
end
section
/- Package span: contracts of combine, Mul and Quot, over this seat's translation. -/
namespace Go.Proofs.YtjjajleiladbhaaGreatDoor
set_option linter.unusedVariables false
set_option linter.unusedSimpArgs false
open Go.RowKit Go.Shelf

end Go.Proofs.YtjjajleiladbhaaGreatDoor
end
section
/- Package span: contracts of Quot, Less and Lies, and of the laws' example (awake), over this seat's translation. -/
namespace Go.Proofs.YtjjajleiladbhaaGreatDoor
set_option linter.unusedVariables false
set_option linter.unusedSimpArgs false
open Go.RowKit Go.Shelf

end Go.Proofs.YtjjajleiladbhaaGreatDoor
end
