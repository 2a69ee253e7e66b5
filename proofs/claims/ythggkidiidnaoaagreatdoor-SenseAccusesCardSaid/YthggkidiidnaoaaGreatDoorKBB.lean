import Derived.Test.YthggkidiidnaoaaGreatDoorKAA
import Derived.Test.YthggkidiidnaoaaGreatDoorKAB
import Derived.Test.YthggkidiidnaoaaGreatDoorKAJ
import Derived.Test.YthggkidiidnaoaaGreatDoorKAO
import Derived.Test.YthggkidiidnaoaaGreatDoorKAT
import Derived.Test.YthggkidiidnaoaaGreatDoorKAV
import Derived.Test.YthggkidiidnaoaaGreatDoorKAZ
import Derived.Test.YthggkidiidnaoaaGreatDoorKBA
import Derived.Deep.RegionHeld3
import Derived.Deep.DeepCutAuto
import Derived.Deep.QuietTactic
import Derived.BigQuiet
import Derived.IntWalk
namespace Go.Proofs.YthggkidiidnaoaaGreatDoor
set_option linter.unusedVariables false
set_option linter.unusedSimpArgs false
section
open Go.RowKit
set_option maxHeartbeats 2000000 in
theorem indexSpan0 (k : Nat) (p : SpanD → Bool) (A : Option Addr) (len cap : Nat) (zs : List SpanD) (w : World) (hI : IsT 2 SpanD.cells w A len zs) (hl : len ≤ 1000000000000000)
  (hE : ∀ (args : Array Value) (W : World), (callFunc k args).run Tryz.prog W = .ok (.enter k args) W)
  (hk : ∀ (x : SpanD) (W : World), x ∈ zs → Below w.heap.size w W → Calls Tryz.prog k #[SpanD.v x] W (Ret (.bool (p x)) W)) :
  Calls Tryz.prog 127 #[.slice A len cap, .func (.func k) #[] #[]] w (Ret (.int .i64 (idxL p zs)) w) := by
 have HI := Lib.hid hI
 have HK := Lib.hid hk
 have HG : Hid (idxL p zs = idxGo p zs 0) := Lib.hid rfl
 generalize idxL p zs = G at *
 clear hI hk
 go_enter Tryz.func127, Tryz.ntmps127
 go_wp2_with fail
 go_loopw [5, 8] (fun _ i wr => ∃ j : Nat, j ≤ len ∧ i = .int .i64 j ∧ Hid (idxGo p (zs.drop j) j = G) ∧ Below w.heap.size w wr) (fun _ i _ => len - (intOf i).toNat)
 case atStart => exact ⟨0, Nat.zero_le _, rfl, Lib.hid HG.out.symm, Below.refl _ _⟩
 case round =>
  obtain ⟨j, hj, rfl, hG, hB⟩ := hrel
  by_cases hlt : j < len
  ·obtain ⟨hzl, hcl⟩ := HI.out.below hB
   obtain ⟨b, o, rfl, hb0, hcl⟩ := hcl (by omega)
   obtain ⟨x, hx⟩ : ∃ x, zs[j]? = some x := ⟨_, List.getElem?_eq_getElem (by omega)⟩
   have HM := Lib.hid (List.mem_of_getElem? hx)
   have HS := Lib.hid (idxGo_drop p hx (j : Int))
   have x0 : wr.cell? ⟨b, o + j * 2, none⟩ = some (.int .i64 x.lo) := by have h := hcl j x hx 0 _ rfl; simpa using h
   have x1 : wr.cell? ⟨b, o + j * 2 + 1, none⟩ = some (.int .i64 x.hi) := by have h := hcl j x hx 1 _ rfl; simpa using h
   have hsz := hB.size
   have HC := Lib.hid (HK.out x)
   clear hcl hx hzl
   cases hp : p x
   ·have HN : Hid (idxGo p (zs.drop (j + 1)) ((j + 1 : Nat) : Int) = G) := Lib.hid (by rw [← hG.out, HS.out, hp]; rfl)
    have HC := Lib.hid (show ∀ W, Below w.heap.size w W → Calls Tryz.prog k #[SpanD.v x] W (Ret (.bool false) W) from fun W h => by have := HC.out W HM.out h; rwa [hp] at this)
    clear hp
    go_wp2_with ((with_reducible show Calls _ k _ _ _); refine (HC.out _ (by (repeat with_reducible assumption))).mono ?_; rintro e w1 ⟨rfl, hb⟩; have hB1 : Below w.heap.size w w1 := Below.trans (by (repeat with_reducible assumption)) (hb.mono (by omega)))
    go_roundw
    case rel => exact ⟨j + 1, by omega, by go_num, HN, by (repeat with_reducible assumption)⟩
    case measure => simp [intOf]; omega
   ·have HN : Hid ((j : Int) = G) := Lib.hid (by rw [← hG.out, HS.out, hp]; rfl)
    have HC := Lib.hid (show ∀ W, Below w.heap.size w W → Calls Tryz.prog k #[SpanD.v x] W (Ret (.bool true) W) from fun W h => by have := HC.out W HM.out h; rwa [hp] at this)
    clear hp
    go_wp2_with ((with_reducible show Calls _ k _ _ _); refine (HC.out _ (by (repeat with_reducible assumption))).mono ?_; rintro e w1 ⟨rfl, hb⟩; have hB1 : Below w.heap.size w w1 := Below.trans (by (repeat with_reducible assumption)) (hb.mono (by omega)))
    go_ret
    exact ⟨by rw [← HN.out]; rfl, by (repeat with_reducible assumption)⟩
  ·have HN : Hid ((-1 : Int) = G) := Lib.hid (by rw [← hG.out, List.drop_of_length_le (by rw [HI.out.1]; omega)]; rfl)
   go_wp2
   go_ret
   exact ⟨by rw [← HN.out]; rfl, hB⟩
set_option maxHeartbeats 1000000 in
theorem containsSpan0 (k : Nat) (p : SpanD → Bool) (A : Option Addr) (len cap : Nat) (zs : List SpanD) (w : World) (hI : IsT 2 SpanD.cells w A len zs) (hl : len ≤ 1000000000000000)
  (hE : ∀ (args : Array Value) (W : World), (callFunc k args).run Tryz.prog W = .ok (.enter k args) W)
  (hk : ∀ (x : SpanD) (W : World), x ∈ zs → Below w.heap.size w W → Calls Tryz.prog k #[SpanD.v x] W (Ret (.bool (p x)) W)) :
  Calls Tryz.prog 87 #[.slice A len cap, .func (.func k) #[] #[]] w (Ret (.bool (zs.any p)) w) := by
 have HI := Lib.hid (indexSpan0 k  p A len cap zs w hI hl hE hk)
 have HA := Lib.hid (idxL_nonneg p zs)
 obtain ⟨b1, b2⟩ := idxL_bd p zs
 rw [hI.1] at b2
 clear hI hE hk
 generalize idxL p zs = G at *
 go_enter Tryz.func87, Tryz.ntmps87
 go_wp2_with (go_at_call 127; refine HI.out.mono ?_; rintro e w1 ⟨rfl, hb⟩)
 go_ret
 exact ⟨by rw [← HA.out]; rfl, hb⟩
end
section
open Go.RowKit Go.Shelf
def mostK (k : Int) : Int := if k = 1 then 1000000000000000 else if k = 2 then 100000 else 0
def readsB (M : MachD) (l : List SpanD) : Bool := decide (checkC M = 0) && (decide (l.length = M.sensors.length) && l.all fun s => vld s.lo s.hi)
structure Kinds (w : World) : Prop where
 most : ∀ k : Nat, k < 4 → ∃ s : ByteArray, w.cell? ⟨0, k * 2, none⟩ = some (.string s) ∧ (1 ≤ k → w.cell? ⟨0, k * 2 + 1, none⟩ = some (.int .i64 (mostK k)))
 size : 0 < w.heap.size
theorem Kinds.below {w w1 : World} (h : Kinds w) (hb : Below w.heap.size w w1) : Kinds w1 :=
 ⟨fun k hk => by
  obtain ⟨s, h1, h2⟩ := h.most k hk
  exact ⟨s, (hb.cell (p := ⟨0, k * 2, none⟩) h.size).trans h1, fun h1 => (hb.cell (p := ⟨0, k * 2 + 1, none⟩) h.size).trans (h2 h1)⟩, Nat.lt_of_lt_of_le h.size hb.size⟩
set_option maxHeartbeats 400000 in
theorem rwithin4b_any (n a b : Int) (w : World) :
  Calls Tryz.prog 38 #[.int .i64 n, .int .i64 a, .int .i64 b] w fun e w' => e = .returned (.bool (wthn n a b)) ∧ w = w' := by
 go_enter Tryz.func38, Tryz.ntmps38
 go_wp2
 all_goals go_ret
 all_goals (simp [wthn]; try omega)
def BoxM (w : World) (c0 : Nat) (A B C D : Option Addr) (name : ByteArray) (la ca lb cb lc cc ld cd : Nat) (r z nr nz step : Int) : Prop :=
 w.cell? ⟨c0, 0, none⟩ = some (.string name) ∧ w.cell? ⟨c0, 1, none⟩ = some (.slice A la ca) ∧ w.cell? ⟨c0, 2, none⟩ = some (.slice B lb cb) ∧ w.cell? ⟨c0, 3, none⟩ = some (.slice C lc cc) ∧ w.cell? ⟨c0, 4, none⟩ = some (.int .i64 r) ∧ w.cell? ⟨c0, 5, none⟩ = some (.int .i64 z) ∧ w.cell? ⟨c0, 6, none⟩ = some (.int .i64 nr) ∧ w.cell? ⟨c0, 7, none⟩ = some (.int .i64 nz) ∧ w.cell? ⟨c0, 8, none⟩ = some (.int .i64 step) ∧ w.cell? ⟨c0, 9, none⟩ = some (.slice D ld cd)
theorem BoxM.below {w w1 : World} {c0 : Nat} {A B C D : Option Addr} {name : ByteArray} {la ca lb cb lc cc ld cd : Nat} {r z nr nz step : Int} (h : BoxM w c0 A B C D name la ca lb cb lc cc ld cd r z nr nz step) (h0 : c0 < w.heap.size) (hb : Below w.heap.size w w1) : BoxM w1 c0 A B C D name la ca lb cb lc cc ld cd r z nr nz step := by
 obtain ⟨a0, a1, a2, a3, a4, a5, a6, a7, a8, a9⟩ := h
 have g : ∀ (o : Nat) (v : Value), w.cell? ⟨c0, o, none⟩ = some v → w1.cell? ⟨c0, o, none⟩ = some v := fun o v e => (hb.cell (p := ⟨c0, o, none⟩) h0).trans e
 exact ⟨g _ _ a0, g _ _ a1, g _ _ a2, g _ _ a3, g _ _ a4, g _ _ a5, g _ _ a6, g _ _ a7, g _ _ a8, g _ _ a9⟩
end
section
open Go.RowKit Go.Shelf
set_option maxHeartbeats 1000000 in
theorem validReadings1_any (s : SpanD) (w : World) :
  Calls Tryz.prog 88 #[s.v] w (Ret (.bool (!vld s.lo s.hi)) w) := by
 obtain ⟨a, b⟩ := s
 show Calls Tryz.prog 88 #[.agg #[.int .i64 a, .int .i64 b]] w _
 go_enter Tryz.func88, Tryz.ntmps88
 go_wp2_with (go_at_call 48; refine (valid_any _ _ _).mono ?_; rintro e w1 ⟨rfl, hb⟩)
 go_ret
 exact ⟨rfl, Below.trans (by (repeat first | with_reducible exact Below.refl _ _ | (with_reducible refine Below.alloc ?_ ?_ _; rotate_left; exact (by omega)))) (hb.mono (by ((try simp only [World.size_alloc, World.size_setCell, size_drew, size_drewN]); omega)))⟩
set_option maxRecDepth 100000 in
set_option maxHeartbeats 4000000 in
theorem validReadings_any (R : MachR) (M : MachD) (F : Option Addr) (len cap : Nat) (zs : List SpanD) (w : World) (hM : IsM w R M) (hF : IsT 2 SpanD.cells w F len zs) (hl : len ≤ 1000000000000000) :
  Calls Tryz.prog 49 #[.agg (machCells R M), .slice F len cap] w (Ret (.bool (readsB M zs)) w) := by
 have HE : Hid (readsB M zs = (decide (checkC M = 0) && (decide (zs.length = M.sensors.length) && zs.all fun s => vld s.lo s.hi))) := Lib.hid rfl
 have hn := hM.sensors.1
 have hz := hF.1
 have H0 := Lib.hid (fun W (hb : Below w.heap.size w W) => check_any R M W (hM.below hb))
 have HC := Lib.hid (fun W (hb : Below w.heap.size w W) => containsSpan0 88 (fun s => !vld s.lo s.hi) F len cap zs W (hF.below hb) hl (fun args W => enters_of Tryz.func88 (by kernel_rfl) rfl args W)
   (fun x W' _ hB => validReadings1_any x W'))
 rw [hn, hz] at HE
 have HA : Hid ((zs.any fun s => !vld s.lo s.hi) = !zs.all fun s => vld s.lo s.hi) := Lib.hid (by rw [List.not_all_eq_any_not])
 generalize readsB M zs = G at *
 generalize checkC M = c at *
 generalize (zs.any fun s => !vld s.lo s.hi) = ny at *
 generalize (zs.all fun s => vld s.lo s.hi) = al at *
 clear hM hF hn hz
 obtain ⟨A, B, C, D, la, ca, lb, cb, lc, cc, ld, cd⟩ := R
 obtain ⟨name, coils, shells, limits, ⟨r, z, nr, nz, step⟩, sensors⟩ := M
 dsimp only at *
 have H0 := Lib.hid (show ∀ W, Below w.heap.size w W → Calls Tryz.prog 71 #[.agg #[.string name, .slice A la ca, .slice B lb cb, .slice C lc cc, .int .i64 r, .int .i64 z, .int .i64 nr, .int .i64 nz, .int .i64 step, .slice D ld cd]] W (Ret (.int .i64 c) W) from H0.out)
 show Calls Tryz.prog 49 #[.agg #[.string name, .slice A la ca, .slice B lb cb, .slice C lc cc, .int .i64 r, .int .i64 z, .int .i64 nr, .int .i64 nz, .int .i64 step, .slice D ld cd], .slice F len cap] w _
 by_cases hc : c = 0
 ·subst hc
  by_cases hq : len = ld
  ·have HF : Hid (al = G) := Lib.hid (by rw [HE.out, decide_eq_true hq]; rfl)
   have hny : ny = !al := HA.out
   have hb1 : ((len : Int) == (ld : Int)) = true := by rw [beq_iff_eq, hq]
   subst hny
   clear HE HA hq
   go_enter Tryz.func49, Tryz.ntmps49
   go_wp2_with fail
   refine (H0.out _ (by (repeat first | with_reducible exact Below.refl _ _ | (with_reducible refine Below.alloc ?_ ?_ _; rotate_left; exact (by omega))))).mono ?_
   rintro e w1 ⟨rfl, hb⟩
   have q9 : w1.cell? ⟨w.heap.size, 9, none⟩ = some (.slice D ld cd) := by rw [hb.cell (p := ⟨w.heap.size, 9, none⟩) (by simp)]; go_simp
   have hs : w.heap.size < w1.heap.size := Nat.lt_of_lt_of_le (by simp) hb.size
   have hB1 : Below w.heap.size w w1 := Below.trans (by (repeat first | with_reducible exact Below.refl _ _ | (with_reducible refine Below.alloc ?_ ?_ _; rotate_left; exact (by omega)))) (hb.mono (by ((try simp only [World.size_alloc, World.size_setCell, size_drew, size_drewN]); omega)))
   clear hb
   go_wp2_with fail
   refine (HC.out _ (by (repeat with_reducible assumption))).mono ?_
   rintro e w2 ⟨rfl, hb⟩
   have hB2 : Below w.heap.size w w2 := hB1.trans (hb.mono hB1.size)
   clear hb
   go_wp2_with fail
   go_ret
   exact ⟨by rw [← HF.out]; cases al <;> rfl, by (repeat with_reducible assumption)⟩
  ·have HF : Hid (false = G) := Lib.hid (by rw [HE.out, decide_eq_false hq]; rfl)
   have hb1 : ((len : Int) == (ld : Int)) = false := by rw [beq_eq_false_iff_ne]; omega
   clear HE HC HA hq
   go_enter Tryz.func49, Tryz.ntmps49
   go_wp2_with fail
   refine (H0.out _ (by (repeat first | with_reducible exact Below.refl _ _ | (with_reducible refine Below.alloc ?_ ?_ _; rotate_left; exact (by omega))))).mono ?_
   rintro e w1 ⟨rfl, hb⟩
   have q9 : w1.cell? ⟨w.heap.size, 9, none⟩ = some (.slice D ld cd) := by rw [hb.cell (p := ⟨w.heap.size, 9, none⟩) (by simp)]; go_simp
   have hs : w.heap.size < w1.heap.size := Nat.lt_of_lt_of_le (by simp) hb.size
   have hB1 : Below w.heap.size w w1 := Below.trans (by (repeat first | with_reducible exact Below.refl _ _ | (with_reducible refine Below.alloc ?_ ?_ _; rotate_left; exact (by omega)))) (hb.mono (by ((try simp only [World.size_alloc, World.size_setCell, size_drew, size_drewN]); omega)))
   clear hb
   go_wp2_with fail
   go_ret
   exact ⟨by rw [← HF.out]; rfl, by (repeat with_reducible assumption)⟩
 ·have HF : Hid (false = G) := Lib.hid (by rw [HE.out, decide_eq_false hc]; rfl)
  have hcb : (c == 0) = false := by rw [beq_eq_false_iff_ne]; exact hc
  clear HE HC HA hc
  go_enter Tryz.func49, Tryz.ntmps49
  go_wp2_with fail
  refine (H0.out _ (by (repeat first | with_reducible exact Below.refl _ _ | (with_reducible refine Below.alloc ?_ ?_ _; rotate_left; exact (by omega))))).mono ?_
  rintro e w1 ⟨rfl, hb⟩
  have hs : w.heap.size < w1.heap.size := Nat.lt_of_lt_of_le (by simp) hb.size
  have hB1 : Below w.heap.size w w1 := Below.trans (by (repeat first | with_reducible exact Below.refl _ _ | (with_reducible refine Below.alloc ?_ ?_ _; rotate_left; exact (by omega)))) (hb.mono (by ((try simp only [World.size_alloc, World.size_setCell, size_drew, size_drewN]); omega)))
  clear hb
  go_wp2_with fail
  go_ret
  exact ⟨by rw [← HF.out]; rfl, by (repeat with_reducible assumption)⟩
theorem all_drop {α : Type} (p : α → Bool) {l : List α} {k : Nat} {x : α} (h : l[k]? = some x) : (l.drop k).all p = (p x && (l.drop (k + 1)).all p) := by
 obtain ⟨hk, rfl⟩ := List.getElem?_eq_some_iff.1 h
 rw [List.drop_eq_getElem_cons hk]; rfl
set_option maxRecDepth 100000 in
set_option maxHeartbeats 8000000 in
theorem rvalidReadings_any (R : MachR) (M : MachD) (F : Option Addr) (len cap : Nat) (zs : List SpanD) (w : World) (hM : IsM w R M) (hF : IsT 2 SpanD.cells w F len zs) (hl : len ≤ 1000000000000000) :
  Calls Tryz.prog 54 #[.agg (machCells R M), .slice F len cap] w (Ret (.bool (readsB M zs)) w) := by
 have HE : Hid (readsB M zs = (decide (checkC M = 0) && (decide (zs.length = M.sensors.length) && zs.all fun s => vld s.lo s.hi))) := Lib.hid rfl
 have hn := hM.sensors.1
 have hz := hF.1
 have H0 := Lib.hid (fun W (hb : Below w.heap.size w W) => rcheck_any R M W (hM.below hb))
 have HI := Lib.hid hF
 rw [hn, hz] at HE
 generalize readsB M zs = G at *
 generalize checkC M = c at *
 clear hM hF hn hz
 obtain ⟨A, B, C, D, la, ca, lb, cb, lc, cc, ld, cd⟩ := R
 obtain ⟨name, coils, shells, limits, ⟨r, z, nr, nz, step⟩, sensors⟩ := M
 dsimp only at *
 have H0 := Lib.hid (show ∀ W, Below w.heap.size w W → Calls Tryz.prog 57 #[.agg #[.string name, .slice A la ca, .slice B lb cb, .slice C lc cc, .int .i64 r, .int .i64 z, .int .i64 nr, .int .i64 nz, .int .i64 step, .slice D ld cd]] W (Ret (.int .i64 c) W) from H0.out)
 show Calls Tryz.prog 54 #[.agg #[.string name, .slice A la ca, .slice B lb cb, .slice C lc cc, .int .i64 r, .int .i64 z, .int .i64 nr, .int .i64 nz, .int .i64 step, .slice D ld cd], .slice F len cap] w _
 by_cases hc : c = 0
 ·subst hc
  by_cases hq : len = ld
  ·have HG : Hid (((zs.drop 0).all fun s => vld s.lo s.hi) = G) := Lib.hid (by rw [HE.out, decide_eq_true hq]; rfl)
   have hb1 : ((len : Int) != (ld : Int)) = false := by rw [bne_eq_false_iff_eq, hq]
   clear HE hq
   go_enter Tryz.func54, Tryz.ntmps54
   go_wp2_with fail
   refine (H0.out _ (by (repeat first | with_reducible exact Below.refl _ _ | (with_reducible refine Below.alloc ?_ ?_ _; rotate_left; exact (by omega))))).mono ?_
   rintro e w1 ⟨rfl, hb⟩
   have q9 : w1.cell? ⟨w.heap.size, 9, none⟩ = some (.slice D ld cd) := by rw [hb.cell (p := ⟨w.heap.size, 9, none⟩) (by simp)]; go_simp
   have hs : w.heap.size < w1.heap.size := Nat.lt_of_lt_of_le (by simp) hb.size
   have hB1 : Below w.heap.size w w1 := Below.trans (by (repeat first | with_reducible exact Below.refl _ _ | (with_reducible refine Below.alloc ?_ ?_ _; rotate_left; exact (by omega)))) (hb.mono (by ((try simp only [World.size_alloc, World.size_setCell, size_drew, size_drewN]); omega)))
   clear hb
   go_wp2_with fail
   go_loopw [5] (fun i wr => ∃ j : Nat, j ≤ len ∧ i = .int .i64 j ∧ Hid (((zs.drop j).all fun s => vld s.lo s.hi) = G) ∧ Below w.heap.size w wr) (fun i _ => len - (intOf i).toNat)
   case atStart => exact ⟨0, Nat.zero_le _, rfl, HG, by (repeat with_reducible assumption)⟩
   case round =>
    obtain ⟨j, hj, rfl, hG, hB⟩ := hrel
    have sz0 := hB.size
    by_cases hlt : j < len
    ·obtain ⟨hzl, hcl⟩ := HI.out.below hB
     obtain ⟨b, o, rfl, hb0, hcl⟩ := hcl (by omega)
     obtain ⟨x, hx⟩ : ∃ x, zs[j]? = some x := ⟨_, List.getElem?_eq_getElem (by omega)⟩
     have x0 : wr.cell? ⟨b, o + j * 2, none⟩ = some (.int .i64 x.lo) := by have h := hcl j x hx 0 _ rfl; simpa using h
     have x1 : wr.cell? ⟨b, o + j * 2 + 1, none⟩ = some (.int .i64 x.hi) := by have h := hcl j x hx 1 _ rfl; simpa using h
     have HS := Lib.hid (hG.out.symm.trans (all_drop (fun s : SpanD => vld s.lo s.hi) hx))
     clear hcl hx hzl hG
     have jc : (0 : Int) ≤ j := by omega
     have jn : ((j : Int)).toNat = j := by omega
     cases hv : vld x.lo x.hi
     ·have HF : Hid (false = G) := Lib.hid (by rw [HS.out, hv]; rfl)
      clear HS
      go_wp2_with (go_at_call 93; refine (rvalid_any _ _ _).mono ?_; rintro e w2 ⟨rfl, hb⟩; have hB2 := hB.trans (hb.mono hB.size); have sz2 := hB2.size)
      go_ret
      exact ⟨by rw [← HF.out]; rfl, by (repeat with_reducible assumption)⟩
     ·have HN : Hid (((zs.drop (j + 1)).all fun s => vld s.lo s.hi) = G) := Lib.hid (by rw [HS.out, hv]; rfl)
      clear HS
      go_wp2_with (go_at_call 93; refine (rvalid_any _ _ _).mono ?_; rintro e w2 ⟨rfl, hb⟩; have hB2 := hB.trans (hb.mono hB.size); have sz2 := hB2.size)
      go_roundw
      case rel => exact ⟨j + 1, by omega, by go_num, HN, by (repeat with_reducible assumption)⟩
      case measure => simp [intOf]; omega
    ·have HN : Hid (true = G) := Lib.hid (by rw [← hG.out, List.drop_of_length_le (by rw [HI.out.1]; omega)]; rfl)
     go_wp2
     go_ret
     exact ⟨by rw [← HN.out]; rfl, hB⟩
  ·have HF : Hid (false = G) := Lib.hid (by rw [HE.out, decide_eq_false hq]; rfl)
   have hb1 : ((len : Int) != (ld : Int)) = true := by rw [bne_iff_ne]; omega
   clear HE hq
   go_enter Tryz.func54, Tryz.ntmps54
   go_wp2_with fail
   refine (H0.out _ (by (repeat first | with_reducible exact Below.refl _ _ | (with_reducible refine Below.alloc ?_ ?_ _; rotate_left; exact (by omega))))).mono ?_
   rintro e w1 ⟨rfl, hb⟩
   have q9 : w1.cell? ⟨w.heap.size, 9, none⟩ = some (.slice D ld cd) := by rw [hb.cell (p := ⟨w.heap.size, 9, none⟩) (by simp)]; go_simp
   have hs : w.heap.size < w1.heap.size := Nat.lt_of_lt_of_le (by simp) hb.size
   have hB1 : Below w.heap.size w w1 := Below.trans (by (repeat first | with_reducible exact Below.refl _ _ | (with_reducible refine Below.alloc ?_ ?_ _; rotate_left; exact (by omega)))) (hb.mono (by ((try simp only [World.size_alloc, World.size_setCell, size_drew, size_drewN]); omega)))
   clear hb
   go_wp2_with fail
   go_ret
   exact ⟨by rw [← HF.out]; rfl, by (repeat with_reducible assumption)⟩
 ·have HF : Hid (false = G) := Lib.hid (by rw [HE.out, decide_eq_false hc]; rfl)
  have hcb : (c != 0) = true := by rw [bne_iff_ne]; exact hc
  clear HE hc
  go_enter Tryz.func54, Tryz.ntmps54
  go_wp2_with fail
  refine (H0.out _ (by (repeat first | with_reducible exact Below.refl _ _ | (with_reducible refine Below.alloc ?_ ?_ _; rotate_left; exact (by omega))))).mono ?_
  rintro e w1 ⟨rfl, hb⟩
  have hs : w.heap.size < w1.heap.size := Nat.lt_of_lt_of_le (by simp) hb.size
  have hB1 : Below w.heap.size w w1 := Below.trans (by (repeat first | with_reducible exact Below.refl _ _ | (with_reducible refine Below.alloc ?_ ?_ _; rotate_left; exact (by omega)))) (hb.mono (by ((try simp only [World.size_alloc, World.size_setCell, size_drew, size_drewN]); omega)))
  clear hb
  go_wp2_with fail
  go_ret
  exact ⟨by rw [← HF.out]; rfl, by (repeat with_reducible assumption)⟩
end
section
open Go.RowKit Go.Shelf
def explB (M : MachD) (C : CurD) (zs : List SpanD) : Bool := validC M C && readsB M zs
set_option maxRecDepth 100000 in
set_option maxHeartbeats 8000000 in
theorem explainable_any (R : MachR) (M : MachD) (Qr : CurR) (Cd : CurD) (F : Option Addr) (nf cf : Nat) (zs : List SpanD) (w : World) (hM : IsM w R M) (hC : IsC w Qr Cd) (hF : IsT 2 SpanD.cells w F nf zs) (hn : nf ≤ 1000000000000000) :
  Calls Tryz.prog 19 #[.agg (machCells R M), Qr.v, .slice F nf cf] w (Ret (.bool (explB M Cd zs)) w) := by
 have HV0 := Lib.hid (fun W (hb : Below w.heap.size w W) => validCurrents_any R M Qr Cd W (hM.below hb) (hC.below hb))
 have HR0 := Lib.hid (fun W (hb : Below w.heap.size w W) => validReadings_any R M F nf cf zs W (hM.below hb) (hF.below hb) hn)
 unfold explB
 clear hM hC hF
 generalize validC M Cd = V at *
 generalize readsB M zs = U at *
 obtain ⟨A, B, Cl, D, la, ca, lb, cb, lc, cl, ld, cd⟩ := R
 obtain ⟨name, coils, shells, limits, ⟨r, z, nr, nz, step⟩, sensors⟩ := M
 obtain ⟨A1, B1, C1, na, qa, nb, qb, nc, qc⟩ := Qr
 dsimp only [CurR.v] at *
 have HV := Lib.hid (show ∀ W, Below w.heap.size w W → Calls Tryz.prog 40 #[.agg #[.string name, .slice A la ca, .slice B lb cb, .slice Cl lc cl, .int .i64 r, .int .i64 z, .int .i64 nr, .int .i64 nz, .int .i64 step, .slice D ld cd], .agg #[.slice A1 na qa, .slice B1 nb qb, .slice C1 nc qc]] W (Ret (.bool V) W) from HV0.out)
 have HR := Lib.hid (show ∀ W, Below w.heap.size w W → Calls Tryz.prog 49 #[.agg #[.string name, .slice A la ca, .slice B lb cb, .slice Cl lc cl, .int .i64 r, .int .i64 z, .int .i64 nr, .int .i64 nz, .int .i64 step, .slice D ld cd], .slice F nf cf] W (Ret (.bool U) W) from HR0.out)
 clear HV0 HR0
 show Calls Tryz.prog 19 #[.agg #[.string name, .slice A la ca, .slice B lb cb, .slice Cl lc cl, .int .i64 r, .int .i64 z, .int .i64 nr, .int .i64 nz, .int .i64 step, .slice D ld cd], .agg #[.slice A1 na qa, .slice B1 nb qb, .slice C1 nc qc], .slice F nf cf] w _
 go_enter Tryz.func19, Tryz.ntmps19
 go_upto_region 1 with (fail)
 have Fm : Hid (RowL (w.heap.size) [.string name, .slice A la ca, .slice B lb cb, .slice Cl lc cl, .int .i64 r, .int .i64 z, .int .i64 nr, .int .i64 nz, .int .i64 step, .slice D ld cd] ((w.alloc (.cells #[.string name, .slice A la ca, .slice B lb cb, .slice Cl lc cl, .int .i64 r, .int .i64 z, .int .i64 nr, .int .i64 nz, .int .i64 step, .slice D ld cd] 29)).alloc (.cells #[.slice A1 na qa, .slice B1 nb qb, .slice C1 nc qc] 32))) := Lib.hid (by have h := RowL.new w #[.string name, .slice A la ca, .slice B lb cb, .slice Cl lc cl, .int .i64 r, .int .i64 z, .int .i64 nr, .int .i64 nz, .int .i64 step, .slice D ld cd] 29; (try simp only [World.size_alloc] at h); exact (h.alloc _))
 have Fc : Hid (RowL (w.heap.size + 1) [.slice A1 na qa, .slice B1 nb qb, .slice C1 nc qc] ((w.alloc (.cells #[.string name, .slice A la ca, .slice B lb cb, .slice Cl lc cl, .int .i64 r, .int .i64 z, .int .i64 nr, .int .i64 nz, .int .i64 step, .slice D ld cd] 29)).alloc (.cells #[.slice A1 na qa, .slice B1 nb qb, .slice C1 nc qc] 32))) := Lib.hid (by have h := RowL.new (w.alloc (.cells #[.string name, .slice A la ca, .slice B lb cb, .slice Cl lc cl, .int .i64 r, .int .i64 z, .int .i64 nr, .int .i64 nz, .int .i64 step, .slice D ld cd] 29)) #[.slice A1 na qa, .slice B1 nb qb, .slice C1 nc qc] 32; (try simp only [World.size_alloc] at h); exact h)
 have hB0 : Below w.heap.size w ((w.alloc (.cells #[.string name, .slice A la ca, .slice B lb cb, .slice Cl lc cl, .int .i64 r, .int .i64 z, .int .i64 nr, .int .i64 nz, .int .i64 step, .slice D ld cd] 29)).alloc (.cells #[.slice A1 na qa, .slice B1 nb qb, .slice C1 nc qc] 32)) := by (repeat first | with_reducible exact Below.refl _ _ | (with_reducible refine Below.alloc ?_ ?_ _; rotate_left; exact (by first | omega | (simp; done))))
 have sW0 : w.heap.size + 1 < ((w.alloc (.cells #[.string name, .slice A la ca, .slice B lb cb, .slice Cl lc cl, .int .i64 r, .int .i64 z, .int .i64 nr, .int .i64 nz, .int .i64 step, .slice D ld cd] 29)).alloc (.cells #[.slice A1 na qa, .slice B1 nb qb, .slice C1 nc qc] 32)).heap.size := by simp only [World.size_alloc]; omega
 obtain ⟨W0, hW0⟩ : ∃ W, ((w.alloc (.cells #[.string name, .slice A la ca, .slice B lb cb, .slice Cl lc cl, .int .i64 r, .int .i64 z, .int .i64 nr, .int .i64 nz, .int .i64 step, .slice D ld cd] 29)).alloc (.cells #[.slice A1 na qa, .slice B1 nb qb, .slice C1 nc qc] 32)) = W := ⟨_, rfl⟩
 rw [hW0] at Fm Fc hB0 sW0 ⊢
 clear hW0
 have m0 := Fm.out.cell 0 (.string name) rfl
 have m1 := Fm.out.cell 1 (.slice A la ca) rfl
 have m2 := Fm.out.cell 2 (.slice B lb cb) rfl
 have m3 := Fm.out.cell 3 (.slice Cl lc cl) rfl
 have m4 := Fm.out.cell 4 (.int .i64 r) rfl
 have m5 := Fm.out.cell 5 (.int .i64 z) rfl
 have m6 := Fm.out.cell 6 (.int .i64 nr) rfl
 have m7 := Fm.out.cell 7 (.int .i64 nz) rfl
 have m8 := Fm.out.cell 8 (.int .i64 step) rfl
 have m9 := Fm.out.cell 9 (.slice D ld cd) rfl
 have c0 := Fc.out.cell 0 (.slice A1 na qa) rfl
 have c1 := Fc.out.cell 1 (.slice B1 nb qb) rfl
 have c2 := Fc.out.cell 2 (.slice C1 nc qc) rfl
 cases V
 ·go_wp2_with fail
  refine (HV.out _ hB0).mono ?_
  rintro e w1 ⟨rfl, hb⟩
  have hB1 := hB0.trans (hb.mono hB0.size)
  clear hb
  go_wp2_with fail
  go_ret
  exact ⟨rfl, by (repeat with_reducible assumption)⟩
 ·go_wp2_with fail
  refine (HV.out _ hB0).mono ?_
  rintro e w1 ⟨rfl, hb⟩
  clear m0 m1 m2 m3 m4 m5 m6 m7 m8 m9 c0 c1 c2
  have Gm := Lib.hid (Fm.out.below hb)
  clear Fm
  have Fm := Lib.hid Gm.out
  clear Gm
  have Gc := Lib.hid (Fc.out.below hb)
  clear Fc
  have Fc := Lib.hid Gc.out
  clear Gc
  have m0 := Fm.out.cell 0 (.string name) rfl
  have m1 := Fm.out.cell 1 (.slice A la ca) rfl
  have m2 := Fm.out.cell 2 (.slice B lb cb) rfl
  have m3 := Fm.out.cell 3 (.slice Cl lc cl) rfl
  have m4 := Fm.out.cell 4 (.int .i64 r) rfl
  have m5 := Fm.out.cell 5 (.int .i64 z) rfl
  have m6 := Fm.out.cell 6 (.int .i64 nr) rfl
  have m7 := Fm.out.cell 7 (.int .i64 nz) rfl
  have m8 := Fm.out.cell 8 (.int .i64 step) rfl
  have m9 := Fm.out.cell 9 (.slice D ld cd) rfl
  have c0 := Fc.out.cell 0 (.slice A1 na qa) rfl
  have c1 := Fc.out.cell 1 (.slice B1 nb qb) rfl
  have c2 := Fc.out.cell 2 (.slice C1 nc qc) rfl
  have hB1 := hB0.trans (hb.mono hB0.size)
  clear hb
  go_wp2_with fail
  refine (HR.out _ (by (repeat with_reducible assumption))).mono ?_
  rintro e w2 ⟨rfl, hb⟩
  have hB2 := hB1.trans (hb.mono hB1.size)
  clear hb
  go_wp2_with fail
  go_ret
  exact ⟨rfl, by (repeat with_reducible assumption)⟩
end
end Go.Proofs.YthggkidiidnaoaaGreatDoor
