import Derived.Test.YthggkidiidnaoaaGreatDoorKAJ
import Derived.Test.YthggkidiidnaoaaGreatDoorKAV
import Derived.Test.YthggkidiidnaoaaGreatDoorKAX
import Derived.Test.YthggkidiidnaoaaGreatDoorKAZ
import Derived.Deep.QuietTactic
import Derived.BigQuiet
import Derived.Deep.RegionHeld3
import Derived.Deep.DeepCutAuto
import Derived.IntWalk
namespace Go.Proofs.YthggkidiidnaoaaGreatDoor
set_option linter.unusedVariables false
set_option linter.unusedSimpArgs false
section
open Go.RowKit Go.Shelf
def possL (a b : Int) : Int × Int := (max a 0, min b 1000000)
def allowL (lo hi b n : Int) : Int × Int :=
 if 0 < n then possL (cei (lo - b) n) (flo (hi - b) n) else if n < 0 then possL (cei (hi - b) n) (flo (lo - b) n) else if cont lo hi b = true then possL 0 1000000 else possL 1 0
set_option maxRecDepth 100000 in
set_option maxHeartbeats 8000000 in
theorem possible_any (a b : Int) (w : World) :
  Calls Tryz.prog 82 #[.int .i64 a, .int .i64 b] w (Ret (Sp (possL a b).1 (possL a b).2) w) := by
 unfold possL
 go_enter Tryz.func82, Tryz.ntmps82
 go_wp2
 exact bodyPost_ret (resP Tryz.results82 _ _ _ _ _ rfl (by go_simp) (by go_simp)) rfl ⟨rfl, by (repeat first | with_reducible exact Below.refl _ _ | (with_reducible refine Below.alloc ?_ ?_ _; rotate_left; exact (by omega)))⟩
end
section
open Go.RowKit Go.Shelf
def bgL (M : MachD) (C : CurD) : List Int := (List.range M.sensors.length).map fun (k : Nat) => (backL M C (k : Int)).1
theorem bgL_get {M : MachD} {C : CurD} {k : Nat} (h : k < M.sensors.length) : (bgL M C)[k]? = some (backL M C (k : Int)).1 := by
 unfold bgL
 simp [h]
end
section
open Go.RowKit Go.Shelf
theorem backL_bd (M : MachD) (C : CurD) (s : Int) : -50000000000000000 ≤ (backL M C s).1 ∧ (backL M C s).1 ≤ 50000000000000000 := by
 unfold backL
 cases hv : validC M C
 ·rw [if_neg (by decide)]; dsimp only; omega
 ·rw [if_pos rfl]
  have hd := dark_fit (fit2_iff.1 hv)
  unfold exactL
  rw [fit2_iff.2 hd, if_pos rfl]
  split
  ·split
   ·exact sensP_bd (small_of hd) _
   ·dsimp only; omega
  ·dsimp only; omega
theorem respL_val {M : MachD} (h : checkC M = 0) {s cell : Int} (hs : wthn s 0 ((M.sensors.length : Int) - 1) = true) (hc : wthn cell 0 (M.grid.nr * M.grid.nz - 1) = true) {x : SensorD} (hx : M.sensors[s.toNat]? = some x) :
  respL M s cell = (sensOne x (cellR M.grid cell) (cellZ M.grid cell), 0) := by
 have hcl : cellL M cell = (cellR M.grid cell, cellZ M.grid cell, 0) := by
  unfold cellL
  rw [if_pos h, if_pos hc]
 have b := wthn_iff.1 hc
 unfold respL
 rw [hcl, if_pos rfl, hs, if_pos rfl, hx]
 dsimp only
 rw [alone_exact h (List.mem_of_getElem? hx) (cell_near h (by omega) (by omega))]
theorem respL_bd (M : MachD) (s cell : Int) : -250000 ≤ (respL M s cell).1 ∧ (respL M s cell).1 ≤ 250000 := by
 by_cases h : checkC M = 0
 ·cases hs : wthn s 0 ((M.sensors.length : Int) - 1)
  ·unfold respL; rw [hs]; split <;> simp
  ·cases hc : wthn cell 0 (M.grid.nr * M.grid.nz - 1)
   ·unfold respL cellL; rw [if_pos h, hc]; simp
   ·have c := wthn_iff.1 hs
    obtain ⟨x, hx⟩ : ∃ x, M.sensors[s.toNat]? = some x := ⟨_, List.getElem?_eq_getElem (by omega)⟩
    rw [respL_val h hs hc hx]
    exact sensOne_bd _ _ _
 ·unfold respL cellL; rw [if_neg h]; simp
def clF (M : MachD) (bs : List Int) (zs : List SpanD) (cell : Int) (k : Nat) : SpanD :=
 ⟨(allowL (zs.getD k ⟨0, 0⟩).lo (zs.getD k ⟨0, 0⟩).hi (bs.getD k 0) (respL M k cell).1).1, (allowL (zs.getD k ⟨0, 0⟩).lo (zs.getD k ⟨0, 0⟩).hi (bs.getD k 0) (respL M k cell).1).2⟩
def clL (M : MachD) (bs : List Int) (zs : List SpanD) (cell : Int) : List SpanD := (List.range M.sensors.length).map (clF M bs zs cell)
theorem clL_get {M : MachD} {bs : List Int} {zs : List SpanD} {cell : Int} {k : Nat} (h : k < M.sensors.length) : (clL M bs zs cell)[k]? = some (clF M bs zs cell k) := by
 unfold clL
 simp [h]
theorem clL_len (M : MachD) (bs : List Int) (zs : List SpanD) (cell : Int) : (clL M bs zs cell).length = M.sensors.length := by
 unfold clL; simp
end
section
open Go.RowKit Go.Shelf
end
section
open Go.RowKit
set_option maxHeartbeats 2000000 in
theorem indexFault1 (k : Nat) (c0 : Nat) (p : FaultD → Bool) (A : Option Addr) (len cap : Nat) (zs : List FaultD) (w : World) (hI : IsT 4 FaultD.cells w A len zs) (hl : len ≤ 1000000000000000)
  (hE : ∀ (args : Array Value) (W : World), (callFunc k args).run Tryz.prog W = .ok (.enter k args) W)
  (hk : ∀ (x : FaultD) (W : World), x ∈ zs → Below w.heap.size w W → Calls Tryz.prog k #[FaultD.v x, .pointer (some ⟨c0, 0, none⟩)] W (Ret (.bool (p x)) W)) :
  Calls Tryz.prog 121 #[.slice A len cap, .func (.func k) #[] #[.pointer (some ⟨c0, 0, none⟩)]] w (Ret (.int .i64 (idxL p zs)) w) := by
 have HI := Lib.hid hI
 have HK := Lib.hid hk
 have HG : Hid (idxL p zs = idxGo p zs 0) := Lib.hid rfl
 generalize idxL p zs = G at *
 clear hI hk
 go_enter Tryz.func121, Tryz.ntmps121
 go_wp2_with fail
 go_loopw [5, 8] (fun _ i wr => ∃ j : Nat, j ≤ len ∧ i = .int .i64 j ∧ Hid (idxGo p (zs.drop j) j = G) ∧ Below w.heap.size w wr) (fun _ i _ => len - (intOf i).toNat)
 case atStart => exact ⟨0, Nat.zero_le _, rfl, Lib.hid HG.out.symm, Below.refl _ _⟩
 case round =>
  obtain ⟨j, hj, rfl, hG, hB⟩ := hrel
  by_cases hlt : j < len
  ·obtain ⟨hzl, hcl⟩ := HI.out.below hB
   obtain ⟨b, o, rfl, hb0, hcl⟩ := hcl (by omega)
   obtain ⟨x, hx⟩ : ∃ x, zs[j]? = some x := ⟨_, List.getElem?_eq_getElem (by omega)⟩
   have HM := Lib.hid (List.mem_of_getElem? hx)
   have HS := Lib.hid (idxGo_drop p hx (j : Int))
   have x0 : wr.cell? ⟨b, o + j * 4, none⟩ = some (.int .i64 x.at_) := by have h := hcl j x hx 0 _ rfl; simpa using h
   have x1 : wr.cell? ⟨b, o + j * 4 + 1, none⟩ = some (.int .i64 x.sensor) := by have h := hcl j x hx 1 _ rfl; simpa using h
   have x2 : wr.cell? ⟨b, o + j * 4 + 2, none⟩ = some (.int .i64 x.kind) := by have h := hcl j x hx 2 _ rfl; simpa using h
   have x3 : wr.cell? ⟨b, o + j * 4 + 3, none⟩ = some (.int .i64 x.n) := by have h := hcl j x hx 3 _ rfl; simpa using h
   have hsz := hB.size
   have HC := Lib.hid (HK.out x)
   clear hcl hx hzl
   cases hp : p x
   ·have HN : Hid (idxGo p (zs.drop (j + 1)) ((j + 1 : Nat) : Int) = G) := Lib.hid (by rw [← hG.out, HS.out, hp]; rfl)
    have HC := Lib.hid (show ∀ W, Below w.heap.size w W → Calls Tryz.prog k #[FaultD.v x, .pointer (some ⟨c0, 0, none⟩)] W (Ret (.bool false) W) from fun W h => by have := HC.out W HM.out h; rwa [hp] at this)
    clear hp
    go_wp2_with ((with_reducible show Calls _ k _ _ _); refine (HC.out _ (by (repeat with_reducible assumption))).mono ?_; rintro e w1 ⟨rfl, hb⟩; have hB1 : Below w.heap.size w w1 := Below.trans (by (repeat with_reducible assumption)) (hb.mono (by omega)))
    go_roundw
    case rel => exact ⟨j + 1, by omega, by go_num, HN, by (repeat with_reducible assumption)⟩
    case measure => simp [intOf]; omega
   ·have HN : Hid ((j : Int) = G) := Lib.hid (by rw [← hG.out, HS.out, hp]; rfl)
    have HC := Lib.hid (show ∀ W, Below w.heap.size w W → Calls Tryz.prog k #[FaultD.v x, .pointer (some ⟨c0, 0, none⟩)] W (Ret (.bool true) W) from fun W h => by have := HC.out W HM.out h; rwa [hp] at this)
    clear hp
    go_wp2_with ((with_reducible show Calls _ k _ _ _); refine (HC.out _ (by (repeat with_reducible assumption))).mono ?_; rintro e w1 ⟨rfl, hb⟩; have hB1 : Below w.heap.size w w1 := Below.trans (by (repeat with_reducible assumption)) (hb.mono (by omega)))
    go_ret
    exact ⟨by rw [← HN.out]; rfl, by (repeat with_reducible assumption)⟩
  ·have HN : Hid ((-1 : Int) = G) := Lib.hid (by rw [← hG.out, List.drop_of_length_le (by rw [HI.out.1]; omega)]; rfl)
   go_wp2
   go_ret
   exact ⟨by rw [← HN.out]; rfl, hB⟩
set_option maxHeartbeats 1000000 in
theorem containsFault1 (k : Nat) (c0 : Nat) (p : FaultD → Bool) (A : Option Addr) (len cap : Nat) (zs : List FaultD) (w : World) (hI : IsT 4 FaultD.cells w A len zs) (hl : len ≤ 1000000000000000)
  (hE : ∀ (args : Array Value) (W : World), (callFunc k args).run Tryz.prog W = .ok (.enter k args) W)
  (hk : ∀ (x : FaultD) (W : World), x ∈ zs → Below w.heap.size w W → Calls Tryz.prog k #[FaultD.v x, .pointer (some ⟨c0, 0, none⟩)] W (Ret (.bool (p x)) W)) :
  Calls Tryz.prog 75 #[.slice A len cap, .func (.func k) #[] #[.pointer (some ⟨c0, 0, none⟩)]] w (Ret (.bool (zs.any p)) w) := by
 have HI := Lib.hid (indexFault1 k c0 p A len cap zs w hI hl hE hk)
 have HA := Lib.hid (idxL_nonneg p zs)
 obtain ⟨b1, b2⟩ := idxL_bd p zs
 rw [hI.1] at b2
 clear hI hE hk
 generalize idxL p zs = G at *
 go_enter Tryz.func75, Tryz.ntmps75
 go_wp2_with (go_at_call 121; refine HI.out.mono ?_; rintro e w1 ⟨rfl, hb⟩)
 go_ret
 exact ⟨by rw [← HA.out]; rfl, hb⟩
end
end Go.Proofs.YthggkidiidnaoaaGreatDoor
