import Derived.Test.YtogcjgjhmlifgaaGreatOAL
import Derived.Test.YtogcjgjhmlifgaaGreatOAM
import Derived.Test.YtogcjgjhmlifgaaGreatOAO
import Derived.Test.YtogcjgjhmlifgaaGreatOAP
import Derived.Test.YtogcjgjhmlifgaaGreatOAQ
import Derived.Deep.RegionHeld3
import Derived.Deep.AppendLies
namespace Go.Proofs.YtogcjgjhmlifgaaGreat
set_option linter.unusedVariables false
set_option linter.unusedSimpArgs false
section
open Go.RowKit Go.Shelf
def fromL (M : MachD) (p : Int × Int) : List Int :=
  M.coils.map (fun c => c.turns * infl p.1 p.2 c.r c.z) ++ (M.shells.map (fun s => infl p.1 p.2 s.r s.z) ++ (List.range (M.grid.nr * M.grid.nz).toNat).map fun (j : Nat) => infl p.1 p.2 (cellR M.grid (j : Int)) (cellZ M.grid (j : Int)))
theorem from_coil {M : MachD} {p : Int × Int} {k : Nat} {c : CoilD} (h : M.coils[k]? = some c) : (fromL M p)[k]? = some (c.turns * infl p.1 p.2 c.r c.z) := by
  have hk := (List.getElem?_eq_some_iff.1 h).1
  unfold fromL
  rw [List.getElem?_append_left (by simpa using hk), List.getElem?_map, h]; rfl
theorem from_shell {M : MachD} {p : Int × Int} {k : Nat} {c : ShellD} (h : M.shells[k]? = some c) : (fromL M p)[M.coils.length + k]? = some (infl p.1 p.2 c.r c.z) := by
  have hk := (List.getElem?_eq_some_iff.1 h).1
  unfold fromL
  rw [List.getElem?_append_right (by simp), List.getElem?_append_left (by simp; omega)]
  simp [h]
theorem from_cell {M : MachD} {p : Int × Int} {k : Nat} (h : (k : Int) < M.grid.nr * M.grid.nz) : (fromL M p)[M.coils.length + (M.shells.length + k)]? = some (infl p.1 p.2 (cellR M.grid (k : Int)) (cellZ M.grid (k : Int))) := by
  unfold fromL
  rw [List.getElem?_append_right (by simp), List.getElem?_append_right (by simp)]
  have hk : k < (M.grid.nr * M.grid.nz).toNat := by omega
  simp [hk]
theorem from_length (M : MachD) (p : Int × Int) : (fromL M p).length = M.coils.length + (M.shells.length + (M.grid.nr * M.grid.nz).toNat) := by
  unfold fromL; simp
end
section
open Go.RowKit Go.Shelf
end
section
open Go.RowKit Go.Shelf
def dot : List Int → List Int → Int
  | x :: xs, y :: ys => x * y + dot xs ys
  | _, _ => 0
theorem dot_flux (p : Int × Int) : ∀ (ws ls : List Int) (S : List Src), ws.length = S.length → ls.length = S.length → (∀ (k : Nat) (a b : Int) (s : Src), ws[k]? = some a → ls[k]? = some b → S[k]? = some s → a * b = infl p.1 p.2 s.1.1 s.1.2 * s.2) → dot ws ls = fluxP p S
  | [], [], [], _, _, _ => rfl
  | a :: ws, b :: ls, s :: S, h1, h2, h => by
    have e := h 0 a b s rfl rfl rfl
    have ih := dot_flux p ws ls S (by simpa using h1) (by simpa using h2) (fun k a b s ha hb hs => h (k + 1) a b s (by simpa using ha) (by simpa using hb) (by simpa using hs))
    simp only [dot, fluxP, e, ih]
  | [], _ :: _, [], _, h2, _ => by simp at h2
  | _ :: _, _, [], h1, _, _ => by simp at h1
  | [], _, _ :: _, h1, _, _ => by simp at h1
  | _ :: _, [], _ :: _, _, h2, _ => by simp at h2
theorem from_bd {M : MachD} (hs : Sound M) (p : Int × Int) : ∀ x ∈ fromL M p, 0 ≤ x ∧ x ≤ 25000000 := by
  intro x hx
  unfold fromL at hx
  rcases List.mem_append.1 hx with h | h
  · obtain ⟨c, hc, rfl⟩ := List.mem_map.1 h
    have t := (hs.coils.2 c hc).1
    have b := infl_bd p.1 p.2 c.r c.z
    have h1 := Int.mul_nonneg (a := c.turns) (b := infl p.1 p.2 c.r c.z) (by omega) b.1
    have h2 := Int.mul_le_mul t.2 b.2 b.1 (by omega)
    omega
  · rcases List.mem_append.1 h with h | h
    · obtain ⟨c, hc, rfl⟩ := List.mem_map.1 h
      have b := infl_bd p.1 p.2 c.r c.z
      omega
    · obtain ⟨c, hc, rfl⟩ := List.mem_map.1 h
      have b := infl_bd p.1 p.2 (cellR M.grid (c : Int)) (cellZ M.grid (c : Int))
      omega
end
section
open Go.RowKit Go.Shelf
end
section
open Go.RowKit Go.Shelf
def plasB (n : Int) (l : List Int) : Bool := decide ((l.length : Int) = n) && (allW l 0 1000000 && decide (tot 0 l ≤ 1000000))
theorem allW_drop {l : List Int} {k : Nat} {x : Int} (h : l[k]? = some x) (a b : Int) : allW (l.drop k) a b = (wthn x a b && allW (l.drop (k + 1)) a b) := by
  obtain ⟨hk, rfl⟩ := List.getElem?_eq_some_iff.1 h
  unfold allW
  rw [List.drop_eq_getElem_cons hk]
  rfl
set_option maxRecDepth 100000 in
set_option maxHeartbeats 4000000 in
theorem rplasma_any (name : ByteArray) (A B Cl D : Option Addr) (la ca lb cb lc cl ld cd : Nat) (r z nr nz step : Int) (A1 : Option Addr) (len cap : Nat) (zs : List Int) (w : World) (hI : IsT 1 intCells w A1 len zs) (hl : len ≤ 1000000000000000) (h0 : 1 ≤ nr * nz) (h1 : nr * nz ≤ 64) :
    Calls Tryz.prog 69 #[.agg #[.string name, .slice A la ca, .slice B lb cb, .slice Cl lc cl, .int .i64 r, .int .i64 z, .int .i64 nr, .int .i64 nz, .int .i64 step, .slice D ld cd], .slice A1 len cap] w (Ret (.bool (plasB (nr * nz) zs)) w) := by
  have hlen := hI.1
  have HI := Lib.hid hI
  clear hI
  have u0 : IntKind.i64.wrap (nr * nz) = nr * nz := IntWalk.i64_in _ (by omega)
  have HG : Hid (plasB (nr * nz) zs = (decide ((len : Int) = nr * nz) && (allW (zs.drop 0) 0 1000000 && decide (tot 0 (zs.drop 0) ≤ 1000000)))) := Lib.hid (by unfold plasB; rw [hlen]; rfl)
  generalize plasB (nr * nz) zs = G at *
  by_cases b5 : (len : Int) = nr * nz
  · have e5 : ((len : Int) == nr * nz) = true := by rw [b5]; simp
    have HG2 : Hid ((allW (zs.drop 0) 0 1000000 && decide (tot 0 (zs.drop 0) ≤ 1000000)) = G) := Lib.hid (by rw [HG.out, decide_eq_true b5, Bool.true_and])
    clear HG
    go_enter Tryz.func69, Tryz.ntmps69
    go_wp2_with fail
    go_loopw [5, 6] (fun s i wr => ∃ (j : Nat) (t : Int), j ≤ len ∧ i = .int .i64 j ∧ s = .int .i64 t ∧ Hid ((allW (zs.drop j) 0 1000000 && decide (tot t (zs.drop j) ≤ 1000000)) = G) ∧ Below w.heap.size w wr) (fun _ i _ => len - (intOf i).toNat)
    case atStart => exact ⟨0, 0, Nat.zero_le _, rfl, rfl, HG2, by (repeat first | with_reducible exact Below.refl _ _ | (with_reducible refine Below.alloc ?_ ?_ _; rotate_left; exact (by omega)))⟩
    case round =>
      obtain ⟨j, t, hj, rfl, rfl, hG, hB⟩ := hrel
      have sz0 := hB.size
      by_cases hlt : j < len
      · obtain ⟨hzl, hcl⟩ := HI.out.below hB
        obtain ⟨b, o, rfl, hb0, hcl⟩ := hcl (by omega)
        obtain ⟨x, hx⟩ : ∃ x, zs[j]? = some x := ⟨_, List.getElem?_eq_getElem (by omega)⟩
        have x0 : wr.cell? ⟨b, o + j, none⟩ = some (.int .i64 x) := by have h := hcl j x hx 0 _ rfl; simpa using h
        have HS : Hid (((wthn x 0 1000000 && allW (zs.drop (j + 1)) 0 1000000) && decide (tot (wrap64 (t + x)) (zs.drop (j + 1)) ≤ 1000000)) = G) := Lib.hid (by
          have h := hG.out
          rw [tot_drop hx, allW_drop hx] at h
          exact h)
        clear hcl hx hzl hG
        have jc : (0 : Int) ≤ j := by omega
        have jn : ((j : Int)).toNat = j := by omega
        cases hv : wthn x 0 1000000
        · have HF : Hid (false = G) := Lib.hid (by rw [← HS.out, hv]; rfl)
          clear HS
          go_wp2_with (go_at_call 70; refine (rwithin2_any _ _ _ _).mono ?_; rintro e w2 ⟨rfl, rfl⟩)
          go_ret
          exact ⟨by rw [← HF.out]; first | rfl | (rw [hv]), by (repeat with_reducible assumption)⟩
        · have HN : Hid ((allW (zs.drop (j + 1)) 0 1000000 && decide (tot (wrap64 (t + x)) (zs.drop (j + 1)) ≤ 1000000)) = G) := Lib.hid (by rw [← HS.out, hv]; rfl)
          clear HS
          go_wp2_with (go_at_call 70; refine (rwithin2_any _ _ _ _).mono ?_; rintro e w2 ⟨rfl, rfl⟩)
          go_roundw
          case rel => exact ⟨j + 1, wrap64 (t + x), by omega, by go_num, rfl, HN, by (repeat with_reducible assumption)⟩
          case measure => simp [intOf]; omega
      · have je : j = len := by omega
        have hE : Hid (decide (t ≤ 1000000) = G) := Lib.hid (by
          have h := hG.out
          rw [List.drop_of_length_le (by omega)] at h
          exact h)
        clear hG
        go_wp2_with fail
        go_ret
        exact ⟨by rw [← hE.out]; rfl, by (repeat with_reducible assumption)⟩
  · have e5 : ((len : Int) == nr * nz) = false := by rw [beq_eq_false_iff_ne]; exact b5
    have HF : Hid (false = G) := Lib.hid (by rw [HG.out, decide_eq_false b5]; rfl)
    clear HG
    go_enter Tryz.func69, Tryz.ntmps69
    go_wp2_with fail
    go_ret
    exact ⟨by rw [← HF.out]; rfl, by (repeat first | with_reducible exact Below.refl _ _ | (with_reducible refine Below.alloc ?_ ?_ _; rotate_left; exact (by omega)))⟩
end
end Go.Proofs.YtogcjgjhmlifgaaGreat
