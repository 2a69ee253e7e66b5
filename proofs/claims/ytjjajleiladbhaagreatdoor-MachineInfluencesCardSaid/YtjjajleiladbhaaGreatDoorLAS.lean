import Derived.Test.YtjjajleiladbhaaGreatDoorLAM
import Derived.Test.YtjjajleiladbhaaGreatDoorLAR
import Derived.Test.YtjjajleiladbhaaGreatDoorRows
import Derived.KernelRfl
import Derived.Laws.StructEq
import Derived.Handy
section
/- Plain facts about flux: it is linear in the currents (P2.2); a coil alone has no force on itself (P2.5). -/
namespace Go.Proofs.YtjjajleiladbhaaGreatDoor
set_option linter.unusedVariables false
set_option linter.unusedSimpArgs false
open Go.RowKit Go.Shelf

end Go.Proofs.YtjjajleiladbhaaGreatDoor
end
section
/- Plain facts about mirrored machines (2.4, P2.3): a mirrored machine is valid, mirroring twice changes nothing, the flux at the mirrored place is the same. -/
namespace Go.Proofs.YtjjajleiladbhaaGreatDoor
set_option linter.unusedVariables false
set_option linter.unusedSimpArgs false
open Go.RowKit Go.Shelf

end Go.Proofs.YtjjajleiladbhaaGreatDoor
end
section
/- Abstract walking: cells of what a callee has made; tails that change places; rows of rows (Kernel). -/
namespace Go.Proofs.YtjjajleiladbhaaGreatDoor
set_option linter.unusedVariables false
set_option linter.unusedSimpArgs false
set_option autoImplicit false
open Go.RowKit

theorem Sta.cellOf {E : Cfg} {U : Snaps} {L : Boxes} {w u : World} {lo b k : Nat} {v : Value} (h : Sta E U L w) (hu : (lo, u) ∈ U) (hlo : lo ≤ b) (hlt : b < u.heap.size) (hc : u.cell? ⟨b, k, none⟩ = some v) : w.cell? ⟨b, k, none⟩ = some v := by
  obtain ⟨s0, s1, s2, s3, s4, -⟩ := h.snap _ _ hu
  rw [World.cell?_of_block (w := u) (w' := w) (a := ⟨b, _, none⟩) (s3 b hlo hlt)]; exact hc
theorem aq_swapT {E : Cfg} {U : Snaps} {l : Slots} {L L' L1 A B G : Boxes} {X : Act → World → Prop} (hT : Tl L1 (A ++ (B ++ G)) L) (hT' : Tl L1 (B ++ (A ++ G)) L') (h : AQ E U l L' X) : AQ E U l L X := fun a w hf hs => h a w hf (by
  refine hs.perm ?_
  rw [hT.eq, hT'.eq]
  refine List.Perm.append_left L1 ?_
  rw [← List.append_assoc, ← List.append_assoc]
  exact List.Perm.append_right G List.perm_append_comm)

/-- the influences of a cell on all cells -/
def rowK (g : GridD) (n i : Nat) : List Int := (List.range n).map fun (j : Nat) => infl (cellR g i) (cellZ g i) (cellR g j) (cellZ g j)
theorem rowK_length (g : GridD) (n i : Nat) : (rowK g n i).length = n := by simp [rowK]
theorem rowK_take (g : GridD) (n i j : Nat) (hj : j < n) : (rowK g n i).take (j + 1) = (rowK g n i).take j ++ [infl (cellR g i) (cellZ g i) (cellR g j) (cellZ g j)] := by
  have h : (rowK g n i)[j]? = some (infl (cellR g i) (cellZ g i) (cellR g j) (cellZ g j)) := by
    unfold rowK; rw [List.getElem?_map, List.getElem?_range hj]; rfl
  obtain ⟨h1, e⟩ := List.getElem?_eq_some_iff.1 h
  rw [List.take_succ_eq_append_getElem h1, e]
/-- a list of slices of n items each -/
def slcs (n : Nat) (r : Option Addr × Nat) : List Value := [.slice r.1 n r.2]
/-- a kernel that a callee has made -/
structure NewK (g : GridD) (B : Nat) (w : World) (A : Option Addr) (n c : Nat) (rows : List (Option Addr × Nat)) : Prop where
  out : NewT 1 (slcs n) B w A n c rows
  row : ∀ (i : Nat) r, rows[i]? = some r → NewT 1 intCells B w r.1 n r.2 (rowK g n i)
theorem set_fill {α : Type} (xs : List α) (k n : Nat) (z v : α) (hx : xs.length = k) (hk : k < n) : (xs ++ List.replicate (n - k) z).set k v = (xs ++ [v]) ++ List.replicate (n - (k + 1)) z := by
  rw [List.set_append_right _ _ (by omega), hx, Nat.sub_self]
  obtain ⟨m, hm⟩ : ∃ m, n - k = m + 1 := ⟨n - k - 1, by omega⟩
  rw [hm, List.replicate_succ, List.set_cons_zero, show n - (k + 1) = m by omega, List.append_assoc]; rfl
/-- the outer list while its rows are made (the newest first), and the rows' boxes -/
def outC (n : Nat) (bs : List Nat) : List Value := bs.reverse.map (fun b => Value.slice (some ⟨b, 0, none⟩) n n) ++ List.replicate (n - bs.length) (.slice none 0 0)
def boxK (g : GridD) (n : Nat) : List Nat → Boxes
  | [] => []
  | b :: r => (b, .cells ((rowK g n r.length).map (Value.int .i64))) :: boxK g n r
def inC (g : GridD) (n i j : Nat) : List Value := ((rowK g n i).take j).map (Value.int .i64) ++ List.replicate (n - j) (.int .i64 0)
theorem outC_nil (n : Nat) : outC n [] = List.replicate n (.slice none 0 0) := by simp [outC]
theorem outC_set (n : Nat) (bs : List Nat) (b : Nat) (h : bs.length < n) : (outC n bs).set bs.length (.slice (some ⟨b, 0, none⟩) n n) = outC n (b :: bs) := by
  unfold outC
  rw [set_fill _ bs.length n _ _ (by simp) h]
  simp [List.reverse_cons, List.map_append]
theorem outC_len (n : Nat) (bs : List Nat) (h : bs.length ≤ n) : (outC n bs).length = n := by simp [outC]; omega
theorem outC_get (n : Nat) (bs : List Nat) (b : Nat) : (outC n (b :: bs))[bs.length]? = some (.slice (some ⟨b, 0, none⟩) n n) := by
  unfold outC
  rw [List.getElem?_append_left (by simp), List.reverse_cons, List.map_append, List.getElem?_append_right (by simp)]
  simp
theorem inC_zero (g : GridD) (n i : Nat) : inC g n i 0 = List.replicate n (.int .i64 0) := by simp [inC]
theorem inC_len (g : GridD) (n i j : Nat) (h : j ≤ n) : (inC g n i j).length = n := by simp [inC, rowK_length]; omega
theorem inC_set (g : GridD) (n i j : Nat) (h : j < n) : (inC g n i j).set j (.int .i64 (infl (cellR g i) (cellZ g i) (cellR g j) (cellZ g j))) = inC g n i (j + 1) := by
  unfold inC
  rw [set_fill _ j n _ _ (by simp [rowK_length]; omega) h, rowK_take g n i j h]
  simp [List.map_append]
theorem inC_all (g : GridD) (n i : Nat) : inC g n i n = (rowK g n i).map (Value.int .i64) := by
  unfold inC; rw [List.take_of_length_le (by rw [rowK_length]; omega)]; simp
theorem boxK_mem (g : GridD) (n : Nat) : ∀ (bs : List Nat) (i b : Nat), bs.reverse[i]? = some b → (b, Cont.cells ((rowK g n i).map (Value.int .i64))) ∈ boxK g n bs
  | [], i, b, h => by simp at h
  | a :: r, i, b, h => by
    rw [List.reverse_cons] at h
    rcases Nat.lt_or_ge i r.reverse.length with g1 | g1
    · rw [List.getElem?_append_left g1] at h
      exact List.mem_cons_of_mem _ (boxK_mem g n r i b h)
    · rw [List.getElem?_append_right g1] at h
      rw [List.length_reverse] at g1 h
      have hi : i - r.length = 0 := by
        have := (List.getElem?_eq_some_iff.1 h).1
        simp only [List.length_cons, List.length_nil] at this; omega
      rw [hi] at h
      obtain rfl : a = b := by simpa using h
      have : i = r.length := by omega
      rw [this]; exact List.mem_cons_self
theorem perm4 {x a b : Nat × Cont} {G : Boxes} : (x :: a :: b :: G).Perm (a :: b :: x :: G) := (List.Perm.swap a x (b :: G)).trans (List.Perm.cons a (List.Perm.swap b x G))
/-- rows that lie among these boxes -/
def RowsIn (g : GridD) (n : Nat) (G : Boxes) (rows : List (Option Addr × Nat)) : Prop := ∀ (i : Nat) r, rows[i]? = some r → ∃ b sp, r.1 = some ⟨b, 0, none⟩ ∧ (b, Cont.cells ((rowK g n i).map (Value.int .i64) ++ sp)) ∈ G ∧ n ≤ r.2 ∧ r.2 ≤ 9223372036854775807
theorem RowsIn.snoc {g : GridD} {n : Nat} {G : Boxes} {rows : List (Option Addr × Nat)} (h : RowsIn g n G rows) {o : Gr} {cs : List Value} (hg : gok o n 1 cs) (hn : 0 < n) (hcs : cs = (rowK g n rows.length).map (Value.int .i64)) : RowsIn g n (gt o cs ++ G) (rows ++ [(gA o, gC o)]) := by
  intro i r hr
  rcases Nat.lt_or_ge i rows.length with g1 | g1
  · rw [List.getElem?_append_left g1] at hr
    obtain ⟨b, sp, e, hm, h1⟩ := h i r hr
    exact ⟨b, sp, e, List.mem_append_right _ hm, h1⟩
  · rw [List.getElem?_append_right g1] at hr
    have hi : i - rows.length = 0 := by
      have := (List.getElem?_eq_some_iff.1 hr).1
      simp only [List.length_cons, List.length_nil] at this; omega
    rw [hi] at hr
    obtain rfl : (gA o, gC o) = r := by simpa using hr
    obtain ⟨b, c, sp, rfl⟩ := hg.some hn
    obtain ⟨h1, h2, h3⟩ := hg.own b c sp rfl
    refine ⟨b, sp, rfl, List.mem_append_left _ ?_, h1, h2⟩
    rw [show i = rows.length by omega, ← hcs]; simp [gt]
theorem Sta.rowK {N : Nat} {D : List Deferred} {w0 w : World} {U : Snaps} {L G : Boxes} {g : GridD} {n : Nat} {rows : List (Option Addr × Nat)} (h : Sta ⟨N, D, w0, []⟩ U L w) (hG : ∀ x ∈ G, x ∈ L) (hr : RowsIn g n G rows) : ∀ (i : Nat) r, rows[i]? = some r → NewT 1 intCells w0.heap.size w r.1 n r.2 (rowK g n i) := by
  intro i r hi
  obtain ⟨b, sp, e, hm, h1, h2⟩ := hr i r hi
  obtain ⟨j, hj⟩ := List.getElem?_of_mem (hG _ hm)
  refine ⟨?_, fun b' off e' => ?_, h1, h2⟩
  · rw [e]; exact isT_box (n := 1) (enc := intCells) (fun _ => rfl) (h.at j hj) (flat_int _) (rowK_length _ _ _)
  · rw [e] at e'; cases e'
    rcases (h.box j _ _ hj).1 with g1 | g1
    · exact g1
    · cases g1
end Go.Proofs.YtjjajleiladbhaaGreatDoor
end
section
/- Package machine: Linked, CellAt, over this seat's translation (written by ax_mh.py). -/
namespace Go.Proofs.YtjjajleiladbhaaGreatDoor
set_option linter.unusedVariables false
set_option linter.unusedSimpArgs false
open Go.RowKit

end Go.Proofs.YtjjajleiladbhaaGreatDoor
end
