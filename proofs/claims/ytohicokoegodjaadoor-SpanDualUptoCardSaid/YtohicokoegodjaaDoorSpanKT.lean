/- The tables of truths that the program lays, read off a row's condition; And and Or over a list of truths; opening and shutting of a list of truths, over this seat's translation. -/
import Derived.Test.YtohicokoegodjaaDoorSpanKS
import Derived.Test.YtohicokoegodjaaDoorRows
import Derived.Test.YtohicokoegodjaaDoorTie
import Derived.ProofKit
import Derived.LaidMore
import Derived.OpenShut
import Derived.Stop.Joined
import Derived.SevenTiedAt
import Derived.Lib.LaidTab
namespace Go.Proofs.YtohicokoegodjaaDoor
set_option linter.unusedVariables false
set_option linter.unusedSimpArgs false
open Go.ChangeShapes Go.WideShapes Go.ChangeAt Go.RowKit

set_option maxHeartbeats 1000000 in
theorem fold_nil (k : Nat) (s0 : Int) (a : Option Addr) (cap : Nat) (w : World) :
    Calls Tryd.prog 26 #[.slice a 0 cap, .int .i64 s0, .func (.func k) #[] #[]] w (Ret (.int .i64 s0) w) := by
  go_enter Tryd.func26, Tryd.ntmps26
  go_wp2_with fail
  go_loopw [1, 7, 8, 11] (fun s _ _ i wr => i = .int .i64 0 ∧ s = .int .i64 s0 ∧ Below w.heap.size w wr) (fun _ _ _ _ _ => 0)
  case atStart => exact ⟨rfl, rfl, Below.refl _ _⟩
  case round =>
    obtain ⟨rfl, rfl, hB⟩ := hrel
    go_wp2
    go_ret
    exact ⟨rfl, hB⟩

theorem fold_any (k : Nat) (step : Int → Int → Int) (s0 : Int) (v : Value) (zs : List Int) (w : World) (h : IsTr w v zs)
    (hE : ∀ (args : Array Value) (W : World), (callFunc k args).run Tryd.prog W = .ok (.enter k args) W)
    (hT : Tabs w) (hst : ∀ s x, (s = 0 ∨ s = 1 ∨ s = 2) → (step s (tr x) = 0 ∨ step s (tr x) = 1 ∨ step s (tr x) = 2)) (hs0 : s0 = 0 ∨ s0 = 1 ∨ s0 = 2)
    (hk : ∀ (s i x : Int) (W : World), (s = 0 ∨ s = 1 ∨ s = 2) → Tabs W → Calls Tryd.prog k #[.int .i64 s, .int .i64 i, .int .i64 x] W (Ret (.int .i64 (step s (tr x))) W)) :
    Calls Tryd.prog 26 #[v, .int .i64 s0, .func (.func k) #[] #[]] w (Ret (.int .i64 (foldT step s0 zs)) w) := by
  rcases h with ⟨a, cap, rfl, rfl⟩ | ⟨ab, ao, len, cap, rfl, h2, h3, h4, h5⟩
  · exact fold_nil k s0 a cap w
  · exact fold_some k step s0 ⟨ab, ao, none⟩ len cap zs w hE h3 (by unfold maxLen at h4; exact h4) h2 rfl h5 hT hst hs0 hk

theorem andL_three (s x : Int) (h : s = 0 ∨ s = 1 ∨ s = 2) : andL s (tr x) = 0 ∨ andL s (tr x) = 1 ∨ andL s (tr x) = 2 := by
  rcases h with rfl | rfl | rfl <;> rcases tr_three x with h | h | h <;> rw [h] <;> simp [andL]
theorem orL_three (s x : Int) (h : s = 0 ∨ s = 1 ∨ s = 2) : orL s (tr x) = 0 ∨ orL s (tr x) = 1 ∨ orL s (tr x) = 2 := by
  rcases h with rfl | rfl | rfl <;> rcases tr_three x with h | h | h <;> rw [h] <;> simp [orL]

theorem and_any (v : Value) (zs : List Int) (w : World) (h : IsTr w v zs) (hT : Tabs w) :
    Calls Tryd.prog 10 #[v] w (Ret (.int .i64 (andC zs)) w) := by
  have HF := Lib.hid (fold_any 27 andL 1 v zs w h (fun args W => enters_of Tryd.func27 (by kernel_rfl) rfl args W) hT andL_three (by simp) and1_any)
  rw [foldT_and] at HF
  clear h hT
  go_enter Tryd.func10, Tryd.ntmps10
  go_wp2_with ((with_reducible show Calls _ 26 _ _ _); refine HF.out.mono ?_; rintro e w1 ⟨rfl, hb⟩)
  go_ret
  exact ⟨rfl, hb⟩

theorem or_any (v : Value) (zs : List Int) (w : World) (h : IsTr w v zs) (hT : Tabs w) :
    Calls Tryd.prog 12 #[v] w (Ret (.int .i64 (orC zs)) w) := by
  have HF := Lib.hid (fold_any 30 orL 0 v zs w h (fun args W => enters_of Tryd.func30 (by kernel_rfl) rfl args W) hT orL_three (by simp) or1_any)
  rw [foldT_or] at HF
  clear h hT
  go_enter Tryd.func12, Tryd.ntmps12
  go_wp2_with ((with_reducible show Calls _ 26 _ _ _); refine HF.out.mono ?_; rintro e w1 ⟨rfl, hb⟩)
  go_ret
  exact ⟨rfl, hb⟩

/-- An array of arrays of integers holds its numbers, cell for cell. -/
theorem cells_of_tab2 {H : Type} {enc : TypeId × Value → H} {P : Program} {w : World} {base : Nat} {sp : Nat → Bool} {held : Bool} {fuel : Nat} {t e u : TypeId} {n m : Nat} {k : IntKind} {cs : List Value} {zss : List (List Int)} {p : List MemPlace}
    (ht : P.underlying t = some (.array n e)) (he : P.underlying e = some (.array m u)) (hu : P.underlying u = some (.int k)) (hcu : P.cellsOf u = 1) (hce : P.cellsOf e = m)
    (h : DataW.trod enc P w base sp held fuel t cs = some (.agg (zss.map (Lib.tabData k)), p)) :
    ∀ i j : Nat, i < n → j < m → j < (zss.getD i []).length → cs[i * m + j]? = some (.int k ((zss.getD i []).getD j 0)) := by
  intro i j hi hj hl
  obtain ⟨xs, f, rfl, hx, hcs, hxl, hel⟩ := DataW.trod_array ht h
  have h1 := hel i hi
  have hxi : i < xs.length := by omega
  rw [List.getElem?_eq_getElem hxi] at h1
  have hz : xs.map (·.1) = zss.map (Lib.tabData k) := by
    have := congrArg Prod.fst hx
    simpa using this.symm
  have hzi : i < zss.length := by
    have := congrArg List.length hz
    simp at this
    omega
  have hd : (xs[i]).1 = Lib.tabData k (zss.getD i []) := by
    have h2 : (xs.map (·.1))[i]? = (zss.map (Lib.tabData k))[i]? := by rw [hz]
    simpa [hxi, hzi] using h2
  cases hxe : xs[i] with
  | mk x1 x2 =>
    rw [hxe] at h1 hd
    dsimp only at hd
    subst hd
    have h3 := Lib.cells_of_tab he hu hcu hce h1
    have h4 := congrArg (fun l : List Value => l[j]?) h3
    simp only [hce, List.getElem?_take, List.getElem?_drop, if_pos hj, List.getElem?_map] at h4
    rw [h4, List.getElem?_eq_getElem hl]
    generalize zss.getD i [] = l at *
    simp [List.getD, hl]

/-- What a row's condition on the three tables gives. -/
theorem tabs_of_laid {W : World} (h : laidMetH Tryd.prog Rows.spanTruthsRow.laid W) : Tabs W := by
  rw [MakeChecks.laidMetH_plain _ _ _ (by kernel_rfl)] at h
  obtain ⟨ps, ⟨g0, t0, cs0, f0, p0, q0, hg0, ht0, hv0, hd0, ⟨g1, t1, cs1, f1, p1, q1, hg1, ht1, hv1, hd1, ⟨g2, t2, cs2, f2, p2, q2, hg2, ht2, hv2, hd2, _, _⟩, _⟩, _⟩, _, _⟩ := h
  obtain rfl : g0 = 0 := Option.some.inj (hg0.symm.trans (by kernel_rfl : _ = some 0))
  obtain rfl : g1 = 1 := Option.some.inj (hg1.symm.trans (by kernel_rfl : _ = some 1))
  obtain rfl : g2 = 2 := Option.some.inj (hg2.symm.trans (by kernel_rfl : _ = some 2))
  obtain rfl : t0 = 42 := Option.some.inj (ht0.symm.trans (by kernel_rfl : _ = some 42))
  obtain rfl : t1 = 42 := Option.some.inj (ht1.symm.trans (by kernel_rfl : _ = some 42))
  obtain rfl : t2 = 41 := Option.some.inj (ht2.symm.trans (by kernel_rfl : _ = some 41))
  have ca : Tryd.prog.cellsOf 25 = 1 := by kernel_rfl
  have cb : Tryd.prog.cellsOf 41 = 3 := by kernel_rfl
  have k0 := cells_of_tab2 (zss := [[0, 0, 0], [0, 1, 2], [0, 2, 2]]) (k := .i64) Tryd.underlying42 Tryd.underlying41 Tryd.underlying25 ca cb hd0
  have k1 := cells_of_tab2 (zss := [[0, 1, 2], [1, 1, 1], [2, 1, 2]]) (k := .i64) Tryd.underlying42 Tryd.underlying41 Tryd.underlying25 ca cb hd1
  have k2 := Lib.cells_of_tab (zs := [1, 0, 2]) (k := .i64) Tryd.underlying41 Tryd.underlying25 ca cb hd2
  have hs : 3 ≤ W.heap.size := by
    have h0 := World.var?_cell hg2 hv2 0
    rw [← Array.getElem?_toList, k2] at h0
    exact World.block_lt_of_cell? W ⟨2, 0, none⟩ h0
  refine ⟨fun a b ha hb => ?_, fun a b ha hb => ?_, fun a ha => ?_, hs⟩
  · rw [World.var?_cell hg0 hv0 (a * 3 + b), ← Array.getElem?_toList]
    rcases a with _ | _ | _ | a <;> rcases b with _ | _ | _ | b <;> first | (exfalso; omega) | (rw [k0 _ _ ha hb (by decide)]; rfl)
  · rw [World.var?_cell hg1 hv1 (a * 3 + b), ← Array.getElem?_toList]
    rcases a with _ | _ | _ | a <;> rcases b with _ | _ | _ | b <;> first | (exfalso; omega) | (rw [k1 _ _ ha hb (by decide)]; rfl)
  · rw [World.var?_cell hg2 hv2 a, ← Array.getElem?_toList, k2]
    rcases a with _ | _ | _ | a <;> first | (exfalso; omega) | rfl

theorem block_add (a : Addr) (n : Nat) : (a.add n).block = a.block := by unfold Addr.add; split <;> rfl

section
variable {H : Type} {enc : TypeId × Value → H}

set_option maxRecDepth 100000 in
/-- A list of truths that comes in: how it reads, and that it reads so afterwards. -/
theorem open_truths {r : Reach} {W : World} {b0 : Nat} {v : Value} {d : DataW H} {p : List MemPlace}
    (hv : Value.okWide Tryd.prog W r b0 24 v) (h : DataW.Trod enc Tryd.prog W 0 (fun _ => true) true 24 v d p) :
    ∃ zs : List Int, IsTr W v zs ∧ ∀ W' : World, Below W.heap.size W W' → DataW.Trod enc Tryd.prog W' 0 (fun b => decide (b < W.heap.size)) true 24 v d p := by
  have ca : Tryd.prog.cellsOf 25 = 1 := by kernel_rfl
  obtain ⟨a, len, cap, rfl⟩ := okWide_slice Tryd.underlying24 hv
  obtain ⟨fuel, hf⟩ := h
  rcases open_ints Tryd.underlying24 Tryd.underlying25 ca hf with ⟨hcs, hx⟩ | ⟨a', len', cap', zs, hcs, hb, hl, hm, hz, hx, hcell, hwf⟩
  · simp at hcs hx
    obtain ⟨rfl, rfl, rfl⟩ := hcs
    obtain ⟨rfl, rfl⟩ := hx
    refine ⟨[], .inl ⟨_, _, rfl, rfl⟩, fun W' _ => ⟨1, by simp [DataW.trod, Tryd.underlying24, Value.cells]⟩⟩
  · simp at hcs hx
    obtain ⟨rfl, rfl, rfl⟩ := hcs
    obtain ⟨rfl, rfl⟩ := hx
    simp only [if_true] at hz
    have hlt : ∀ i, i < zs.length → a'.block < W.heap.size := fun i hi => by
      have := World.block_lt_of_cell? W _ (hcell i hi)
      rwa [block_add] at this
    refine ⟨zs.take len, ?_, fun W' hB => ?_⟩
    · by_cases h0 : len = 0
      · subst h0
        exact .inl ⟨_, _, rfl, by simp⟩
      · obtain ⟨b, off, spot⟩ := a'
        have hspot : spot = none := by simpa [Addr.add] using World.cell?_spot (hcell 0 (by omega))
        subst hspot
        refine .inr ⟨b, off, len, cap, rfl, hlt 0 (by omega), by simp; omega, Nat.le_trans hl hm, fun j hj => ?_⟩
        have := hcell j (by omega)
        rw [add_plain] at this
        rw [this, List.getD_eq_getElem?_getD, List.getD_eq_getElem?_getD, List.getElem?_take_of_lt hj]
    · by_cases h0 : cap = 0
      · exact ⟨2, shut_ints (H := H) (enc := enc) (w := W') (base := 0) (spare := fun b => decide (b < W.heap.size)) (held := true) 0 Tryd.underlying24 Tryd.underlying25 ca hb hl hm (by split <;> omega) (fun i hi => absurd hi (by omega)) hwf⟩
      · have hb' : a'.block < W.heap.size := hlt 0 (by omega)
        exact ⟨2, by
          have := shut_ints (H := H) (enc := enc) (w := W') (base := 0) (spare := fun b => decide (b < W.heap.size)) (held := true) 0 Tryd.underlying24 Tryd.underlying25 ca hb hl hm (by simp [hb', hz]) (fun i hi => by
            rw [hB.cell (by rw [block_add]; exact hb')]
            exact hcell i hi) hwf
          exact this⟩

end
end Go.Proofs.YtohicokoegodjaaDoor
