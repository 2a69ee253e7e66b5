import Derived.Test.YthggkidiidnaoaaGreatWAA
import Derived.Test.YthggkidiidnaoaaGreatWAC
import Derived.Test.YthggkidiidnaoaaGreatWAJ
import Derived.Test.YthggkidiidnaoaaGreatWAV
import Derived.Deep.RegionHeld3
import Derived.Deep.DeepCutAuto
import Derived.Deep.QuietTactic
import Derived.BigQuiet
import Derived.IntWalk
namespace Go.Proofs.YthggkidiidnaoaaGreat
set_option linter.unusedVariables false
set_option linter.unusedSimpArgs false
section
open Go.RowKit
set_option maxHeartbeats 2000000 in
theorem indexint0 (k : Nat) (p : Int → Bool) (A : Option Addr) (len cap : Nat) (zs : List Int) (w : World) (hI : IsT 1 intCells w A len zs) (hl : len ≤ 1000000000000000)
  (hE : ∀ (args : Array Value) (W : World), (callFunc k args).run Tryz.prog W = .ok (.enter k args) W)
  (hk : ∀ (x : Int) (W : World), x ∈ zs → Below w.heap.size w W → Calls Tryz.prog k #[intV x] W (Ret (.bool (p x)) W)) :
  Calls Tryz.prog 114 #[.slice A len cap, .func (.func k) #[] #[]] w (Ret (.int .i64 (idxL p zs)) w) := by
 have HI := Lib.hid hI
 have HK := Lib.hid hk
 have HG : Hid (idxL p zs = idxGo p zs 0) := Lib.hid rfl
 generalize idxL p zs = G at *
 clear hI hk
 go_enter Tryz.func114, Tryz.ntmps114
 go_wp2_with fail
 go_loopw [5, 8] (fun _ i wr => ∃ j : Nat, j ≤ len ∧ i = .int .i64 j ∧ Hid (idxGo p (zs.drop j) j = G) ∧ Below w.heap.size w wr) (fun _ i _ => len - (intOf i).toNat)
 case atStart => exact ⟨0, Nat.zero_le _, rfl, Lib.hid HG.out.symm, Below.refl _ _⟩
 case round =>
  obtain ⟨j, hj, rfl, hG, hB⟩ := hrel
  by_cases hlt : j < len
  ·obtain ⟨hzl, hcl⟩ := HI.out.below hB
   obtain ⟨b, o, rfl, hb0, hcl⟩ := hcl om9
   obtain ⟨x, hx⟩ : ∃ x, zs[j]? = some x := ⟨_, List.getElem?_eq_getElem om9⟩
   have HM := Lib.hid (List.mem_of_getElem? hx)
   have HS := Lib.hid (idxGo_drop p hx (j : Int))
   have x0 : wr.cell? ⟨b, o + j, none⟩ = some (.int .i64 x) := by have h := hcl j x hx 0 _ rfl; simpa using h
   have hsz := hB.size
   have HC := Lib.hid (HK.out x)
   clear hcl hx hzl
   cases hp : p x
   ·have HN : Hid (idxGo p (zs.drop (j + 1)) ((j + 1 : Nat) : Int) = G) := Lib.hid (by rw [← hG.out, HS.out, hp]; rfl)
    have HC := Lib.hid (show ∀ W, Below w.heap.size w W → Calls Tryz.prog k #[intV x] W (Ret (.bool false) W) from fun W h => by have := HC.out W HM.out h; rwa [hp] at this)
    clear hp
    go_wp2_with ((with_reducible show Calls _ k _ _ _); refine (HC.out _ ra9).mono ?_; rintro e w1 ⟨rfl, hb⟩; have hB1 : Below w.heap.size w w1 := Below.trans ra9 (hb.mono om9))
    go_roundw
    case rel => exact ⟨j + 1, by omega, by go_num, HN, by (repeat with_reducible assumption)⟩
    case measure => simp [intOf]; omega
   ·have HN : Hid ((j : Int) = G) := Lib.hid (by rw [← hG.out, HS.out, hp]; rfl)
    have HC := Lib.hid (show ∀ W, Below w.heap.size w W → Calls Tryz.prog k #[intV x] W (Ret (.bool true) W) from fun W h => by have := HC.out W HM.out h; rwa [hp] at this)
    clear hp
    go_wp2_with ((with_reducible show Calls _ k _ _ _); refine (HC.out _ ra9).mono ?_; rintro e w1 ⟨rfl, hb⟩; have hB1 : Below w.heap.size w w1 := Below.trans ra9 (hb.mono om9))
    go_ret
    exact ⟨by rw [← HN.out]; rfl, by (repeat with_reducible assumption)⟩
  ·have HN : Hid ((-1 : Int) = G) := Lib.hid (by rw [← hG.out, List.drop_of_length_le (by rw [HI.out.1]; omega)]; rfl)
   go_wp2
   go_ret
   exact ⟨by rw [← HN.out]; rfl, hB⟩
set_option maxHeartbeats 1000000 in
theorem containsint0 (k : Nat) (p : Int → Bool) (A : Option Addr) (len cap : Nat) (zs : List Int) (w : World) (hI : IsT 1 intCells w A len zs) (hl : len ≤ 1000000000000000)
  (hE : ∀ (args : Array Value) (W : World), (callFunc k args).run Tryz.prog W = .ok (.enter k args) W)
  (hk : ∀ (x : Int) (W : World), x ∈ zs → Below w.heap.size w W → Calls Tryz.prog k #[intV x] W (Ret (.bool (p x)) W)) :
  Calls Tryz.prog 66 #[.slice A len cap, .func (.func k) #[] #[]] w (Ret (.bool (zs.any p)) w) := by
 have HI := Lib.hid (indexint0 k  p A len cap zs w hI hl hE hk)
 have HA := Lib.hid (idxL_nonneg p zs)
 obtain ⟨b1, b2⟩ := idxL_bd p zs
 rw [hI.1] at b2
 clear hI hE hk
 generalize idxL p zs = G at *
 go_enter Tryz.func66, Tryz.ntmps66
 go_wp2_with (go_at_call 114; refine HI.out.mono ?_; rintro e w1 ⟨rfl, hb⟩)
 go_ret
 exact ⟨by rw [← HA.out]; rfl, hb⟩
end
section
open Go.RowKit
set_option maxHeartbeats 2000000 in
theorem indexGain0 (k : Nat) (p : GainD → Bool) (A : Option Addr) (len cap : Nat) (zs : List GainD) (w : World) (hI : IsT 4 GainD.cells w A len zs) (hl : len ≤ 1000000000000000)
  (hE : ∀ (args : Array Value) (W : World), (callFunc k args).run Tryz.prog W = .ok (.enter k args) W)
  (hk : ∀ (x : GainD) (W : World), x ∈ zs → Below w.heap.size w W → Calls Tryz.prog k #[GainD.v x] W (Ret (.bool (p x)) W)) :
  Calls Tryz.prog 78 #[.slice A len cap, .func (.func k) #[] #[]] w (Ret (.int .i64 (idxL p zs)) w) := by
 have HI := Lib.hid hI
 have HK := Lib.hid hk
 have HG : Hid (idxL p zs = idxGo p zs 0) := Lib.hid rfl
 generalize idxL p zs = G at *
 clear hI hk
 go_enter Tryz.func78, Tryz.ntmps78
 go_wp2_with fail
 go_loopw [5, 8] (fun _ i wr => ∃ j : Nat, j ≤ len ∧ i = .int .i64 j ∧ Hid (idxGo p (zs.drop j) j = G) ∧ Below w.heap.size w wr) (fun _ i _ => len - (intOf i).toNat)
 case atStart => exact ⟨0, Nat.zero_le _, rfl, Lib.hid HG.out.symm, Below.refl _ _⟩
 case round =>
  obtain ⟨j, hj, rfl, hG, hB⟩ := hrel
  by_cases hlt : j < len
  ·obtain ⟨hzl, hcl⟩ := HI.out.below hB
   obtain ⟨b, o, rfl, hb0, hcl⟩ := hcl om9
   obtain ⟨x, hx⟩ : ∃ x, zs[j]? = some x := ⟨_, List.getElem?_eq_getElem om9⟩
   have HM := Lib.hid (List.mem_of_getElem? hx)
   have HS := Lib.hid (idxGo_drop p hx (j : Int))
   have x0 : wr.cell? ⟨b, o + j * 4, none⟩ = some (.int .i64 x.r) := by have h := hcl j x hx 0 _ rfl; simpa using h
   have x1 : wr.cell? ⟨b, o + j * 4 + 1, none⟩ = some (.int .i64 x.z) := by have h := hcl j x hx 1 _ rfl; simpa using h
   have x2 : wr.cell? ⟨b, o + j * 4 + 2, none⟩ = some (.int .i64 x.sr) := by have h := hcl j x hx 2 _ rfl; simpa using h
   have x3 : wr.cell? ⟨b, o + j * 4 + 3, none⟩ = some (.int .i64 x.sz) := by have h := hcl j x hx 3 _ rfl; simpa using h
   have hsz := hB.size
   have HC := Lib.hid (HK.out x)
   clear hcl hx hzl
   cases hp : p x
   ·have HN : Hid (idxGo p (zs.drop (j + 1)) ((j + 1 : Nat) : Int) = G) := Lib.hid (by rw [← hG.out, HS.out, hp]; rfl)
    have HC := Lib.hid (show ∀ W, Below w.heap.size w W → Calls Tryz.prog k #[GainD.v x] W (Ret (.bool false) W) from fun W h => by have := HC.out W HM.out h; rwa [hp] at this)
    clear hp
    go_wp2_with ((with_reducible show Calls _ k _ _ _); refine (HC.out _ ra9).mono ?_; rintro e w1 ⟨rfl, hb⟩; have hB1 : Below w.heap.size w w1 := Below.trans ra9 (hb.mono om9))
    go_roundw
    case rel => exact ⟨j + 1, by omega, by go_num, HN, by (repeat with_reducible assumption)⟩
    case measure => simp [intOf]; omega
   ·have HN : Hid ((j : Int) = G) := Lib.hid (by rw [← hG.out, HS.out, hp]; rfl)
    have HC := Lib.hid (show ∀ W, Below w.heap.size w W → Calls Tryz.prog k #[GainD.v x] W (Ret (.bool true) W) from fun W h => by have := HC.out W HM.out h; rwa [hp] at this)
    clear hp
    go_wp2_with ((with_reducible show Calls _ k _ _ _); refine (HC.out _ ra9).mono ?_; rintro e w1 ⟨rfl, hb⟩; have hB1 : Below w.heap.size w w1 := Below.trans ra9 (hb.mono om9))
    go_ret
    exact ⟨by rw [← HN.out]; rfl, by (repeat with_reducible assumption)⟩
  ·have HN : Hid ((-1 : Int) = G) := Lib.hid (by rw [← hG.out, List.drop_of_length_le (by rw [HI.out.1]; omega)]; rfl)
   go_wp2
   go_ret
   exact ⟨by rw [← HN.out]; rfl, hB⟩
set_option maxHeartbeats 1000000 in
theorem containsGain0 (k : Nat) (p : GainD → Bool) (A : Option Addr) (len cap : Nat) (zs : List GainD) (w : World) (hI : IsT 4 GainD.cells w A len zs) (hl : len ≤ 1000000000000000)
  (hE : ∀ (args : Array Value) (W : World), (callFunc k args).run Tryz.prog W = .ok (.enter k args) W)
  (hk : ∀ (x : GainD) (W : World), x ∈ zs → Below w.heap.size w W → Calls Tryz.prog k #[GainD.v x] W (Ret (.bool (p x)) W)) :
  Calls Tryz.prog 39 #[.slice A len cap, .func (.func k) #[] #[]] w (Ret (.bool (zs.any p)) w) := by
 have HI := Lib.hid (indexGain0 k  p A len cap zs w hI hl hE hk)
 have HA := Lib.hid (idxL_nonneg p zs)
 obtain ⟨b1, b2⟩ := idxL_bd p zs
 rw [hI.1] at b2
 clear hI hE hk
 generalize idxL p zs = G at *
 go_enter Tryz.func39, Tryz.ntmps39
 go_wp2_with (go_at_call 78; refine HI.out.mono ?_; rintro e w1 ⟨rfl, hb⟩)
 go_ret
 exact ⟨by rw [← HA.out]; rfl, hb⟩
end
section
open Go.RowKit Go.Shelf
theorem tooStrong1_any (n : Int) (w : World) :
  Calls Tryz.prog 79 #[intV n] w (Ret (.bool (!wthn n (-1000000) 1000000)) w) := by
 go_enter Tryz.func79, Tryz.ntmps79
 go_wp2_with (go_at_call 18; refine (kwithin_any _ _ _ _).mono ?_; rintro e w1 ⟨rfl, rfl⟩)
 go_ret
 exact ⟨rfl, by (repeat with_reducible exact Below.refl _ _)⟩
theorem tooStrong_any (x : GainD) (w : World) :
  Calls Tryz.prog 40 #[x.v] w (Ret (.bool (strongB x)) w) := by
 obtain ⟨r, z, sr, sz⟩ := x
 have HC := Lib.hid (fun W (hI : IsT 1 intCells W (some ⟨w.heap.size + 1, 0, none⟩) 4 [r, z, sr, sz]) => containsint0 79 (fun n => !wthn n (-1000000) 1000000) (some ⟨w.heap.size + 1, 0, none⟩) 4 4 [r, z, sr, sz] W hI om9 (fun args W => enters_of Tryz.func79 kr9 rfl args W) (fun x W' _ _ => tooStrong1_any x W'))
 have HE : Hid (strongB ⟨r, z, sr, sz⟩ = ([r, z, sr, sz].any fun n => !wthn n (-1000000) 1000000)) := Lib.hid rfl
 generalize strongB ⟨r, z, sr, sz⟩ = K at *
 generalize ([r, z, sr, sz].any fun n => !wthn n (-1000000) 1000000) = K2 at *
 go_enter Tryz.func40, Tryz.ntmps40
 go_wp2_with fail
 refine (HC.out _ (by have h := isT_new (w.alloc (.cells #[.int .i64 r, .int .i64 z, .int .i64 sr, .int .i64 sz] 59)) [r, z, sr, sz] 3; (try simp only [World.size_alloc] at h); exact h)).mono ?_
 rintro e w1 ⟨rfl, hb⟩
 go_wp2_with fail
 go_ret
 exact ⟨by rw [HE.out]; rfl, Below.trans (by (repeat first | with_reducible exact Below.refl _ _ | (with_reducible refine Below.alloc ?_ ?_ _; rotate_left; exact (by first | omega | (simp; done))))) (hb.mono (by ((try simp only [World.size_alloc, World.size_setCell, size_drew, size_drewN]); omega)))⟩
theorem validNumbers1_any (n : Int) (w : World) :
  Calls Tryz.prog 67 #[intV n] w (Ret (.bool (!wthn n (-1000000000000000) 1000000000000000)) w) := by
 go_enter Tryz.func67, Tryz.ntmps67
 go_wp2_with (go_at_call 18; refine (kwithin_any _ _ _ _).mono ?_; rintro e w1 ⟨rfl, rfl⟩)
 go_ret
 exact ⟨rfl, by (repeat with_reducible exact Below.refl _ _)⟩
theorem not_any_num (l : List Int) : (!(l.any fun n => !wthn n (-1000000000000000) 1000000000000000)) = numB l := by
 unfold numB
 induction l with
 | nil => rfl
 | cons x r ih => simp only [List.any_cons, List.all_cons, Bool.not_or, Bool.not_not, ih]
theorem validNumbers_any (A : Option Addr) (len cap : Nat) (zs : List Int) (w : World) (hI : IsT 1 intCells w A len zs) (hl : len ≤ 1000000000000000) :
  Calls Tryz.prog 37 #[.slice A len cap] w (Ret (.bool (numB zs)) w) := by
 have HE := Lib.hid (not_any_num zs)
 have HC := Lib.hid (containsint0 67 (fun n => !wthn n (-1000000000000000) 1000000000000000) A len cap zs w hI hl (fun args W => enters_of Tryz.func67 kr9 rfl args W) (fun x W _ _ => validNumbers1_any x W))
 clear hI
 generalize numB zs = G at *
 generalize (zs.any fun n => !wthn n (-1000000000000000) 1000000000000000) = K at *
 go_enter Tryz.func37, Tryz.ntmps37
 go_wp2_with fail
 refine HC.out.mono ?_
 rintro e w1 ⟨rfl, hb⟩
 go_wp2_with fail
 go_ret
 exact ⟨by rw [← HE.out]; rfl, hb⟩
end
section
open Go.RowKit Go.Shelf
theorem fill_len (T : List Value) (n j : Nat) (z : Value) (hl : T.length = n) (hj : j ≤ n) : (T.take j ++ List.replicate (n - j) z).length = n := by
 rw [List.length_append, List.length_take, List.length_replicate]; omega
theorem RowL.fill {b : Nat} {T : List Value} {n j : Nat} {z v : Value} {W : World} (h : RowL b (T.take j ++ List.replicate (n - j) z) W) (hl : T.length = n) (hj : j < n) (hv : T[j]? = some v) : RowL b (T.take (j + 1) ++ List.replicate (n - (j + 1)) z) (W.setCell ⟨b, j, none⟩ v) := by
 have := h.put j v (by rw [fill_len T n j z hl om9]; exact hj)
 rwa [fill_set T n j z v hl hv] at this
end
section
open Go.RowKit Go.Shelf
def IntsAt (E : Int) (T : List Int) (w : World) (e : Ending) (w' : World) : Prop :=
 ∃ (A : Option Addr) (c : Nat), e = .returned (.tuple #[.slice A T.length c, .int .i64 E]) ∧ IsT 1 intCells w' A T.length T ∧ T.length ≤ 1000000 ∧ Below w.heap.size w w'
theorem isT_none (w : World) : IsT 1 intCells w none 0 [] := ⟨rfl, fun h => absurd h om9⟩
theorem IntsAt.nil {E : Int} {w w' : World} (h : Below w.heap.size w w') : IntsAt E [] w (.returned (.tuple #[.slice none 0 0, .int .i64 E])) w' := ⟨none, 0, rfl, isT_none w', by simp, h⟩
end
section
open Go.RowKit Go.Shelf
theorem sameI_drop {xs ys : List Int} {k : Nat} {a b : Int} (h1 : xs[k]? = some a) (h2 : ys[k]? = some b) : decide (xs.drop k = ys.drop k) = (decide (a = b) && decide (xs.drop (k + 1) = ys.drop (k + 1))) := by
 obtain ⟨k1, rfl⟩ := List.getElem?_eq_some_iff.1 h1
 obtain ⟨k2, rfl⟩ := List.getElem?_eq_some_iff.1 h2
 rw [List.drop_eq_getElem_cons k1, List.drop_eq_getElem_cons k2]
 simp only [List.cons.injEq, Bool.decide_and]
set_option maxRecDepth 100000 in
set_option maxHeartbeats 4000000 in
theorem ints_any (A B : Option Addr) (la ca lb cb : Nat) (xs ys : List Int) (w : World) (h1 : IsT 1 intCells w A la xs) (h2 : IsT 1 intCells w B lb ys) (l1 : la ≤ 1000000000000000) (l2 : lb ≤ 1000000000000000) :
  Calls Tryz.prog 15 #[.slice A la ca, .slice B lb cb] w (Ret (.bool (decide (xs = ys))) w) := by
 have n1 := h1.1
 have n2 := h2.1
 have I1 := Lib.hid h1
 have I2 := Lib.hid h2
 have HG : Hid (decide (xs = ys) = decide (xs.drop 0 = ys.drop 0)) := Lib.hid rfl
 have HN : Hid (la ≠ lb → false = decide (xs = ys)) := Lib.hid (fun h => (decide_eq_false (fun e => h (by rw [← n1, ← n2, e]))).symm)
 clear h1 h2
 generalize decide (xs = ys) = G at *
 by_cases b1 : la = lb
 ·have e1 := (int_eq la lb).trans (decide_eq_true b1)
  subst b1
  have HG2 : Hid (decide (xs.drop 0 = ys.drop 0) = G) := Lib.hid HG.out.symm
  clear HG HN
  go_enter Tryz.func15, Tryz.ntmps15
  go_wp2_with fail
  go_loopw [5] (fun i wr => ∃ j : Nat, j ≤ la ∧ i = .int .i64 j ∧ Hid (decide (xs.drop j = ys.drop j) = G) ∧ Below w.heap.size w wr) (fun i _ => la - (intOf i).toNat)
  case atStart => exact ⟨0, Nat.zero_le _, rfl, HG2, by (repeat with_reducible exact Below.refl _ _)⟩
  case round =>
   obtain ⟨j, hj, rfl, hG, hB⟩ := hrel
   have sz0 := hB.size
   by_cases hlt : j < la
   ·obtain ⟨-, hcl1⟩ := I1.out.below hB
    obtain ⟨b1, o1, rfl, hb1, hcl1⟩ := hcl1 om9
    obtain ⟨-, hcl2⟩ := I2.out.below hB
    obtain ⟨b2, o2, rfl, hb2, hcl2⟩ := hcl2 om9
    obtain ⟨x, hx⟩ : ∃ x, xs[j]? = some x := ⟨_, List.getElem?_eq_getElem om9⟩
    obtain ⟨y, hy⟩ : ∃ y, ys[j]? = some y := ⟨_, List.getElem?_eq_getElem om9⟩
    have x0 : wr.cell? ⟨b1, o1 + j, none⟩ = some (.int .i64 x) := by have h := hcl1 j x hx 0 _ rfl; simpa using h
    have y0 : wr.cell? ⟨b2, o2 + j, none⟩ = some (.int .i64 y) := by have h := hcl2 j y hy 0 _ rfl; simpa using h
    have HS := Lib.hid (hG.out.symm.trans (sameI_drop hx hy))
    clear hcl1 hcl2 hx hy hG
    have HZ : Hid (∀ w' : World, Below wr.heap.size wr w' → (Below wr.heap.size wr w' ∧ w'.cell? ⟨b1, o1 + j, none⟩ = some (.int .i64 x) ∧ w'.cell? ⟨b2, o2 + j, none⟩ = some (.int .i64 y))) := Lib.hid (fun w' h => ⟨h, (h.cell (p := ⟨b1, o1 + j, none⟩) hb1).trans x0, (h.cell (p := ⟨b2, o2 + j, none⟩) hb2).trans y0⟩)
    have jc : (0 : Int) ≤ j := by omega
    have jn : ((j : Int)).toNat = j := by omega
    by_cases e : x = y
    ·have e2 : (x == y) = true := by rw [e]; simp
     have HT : Hid (decide (xs.drop (j + 1) = ys.drop (j + 1)) = G) := Lib.hid (by rw [HS.out, decide_eq_true e, Bool.true_and])
     clear HS
     go_wp2_with fail
     go_region_held3 (fun w' => Below wr.heap.size wr w' ∧ w'.cell? ⟨b1, o1 + j, none⟩ = some (.int .i64 x) ∧ w'.cell? ⟨b2, o2 + j, none⟩ = some (.int .i64 y)) (exact HZ.out _ (by (repeat first | with_reducible exact Below.refl _ _ | with_reducible refine Below.drew ?_))) (fail)
     all_goals go_wp2_with fail
     go_roundw
     case rel => exact ⟨j + 1, by omega, by go_num, HT, by (repeat first | with_reducible assumption | with_reducible refine Below.drew ?_)⟩
     case measure => simp [intOf]; omega
    ·have e2 : (x == y) = false := by rw [beq_eq_false_iff_ne]; exact e
     have HT : Hid (false = G) := Lib.hid (by rw [HS.out, decide_eq_false e, Bool.false_and])
     clear HS
     go_wp2_with fail
     go_region_held3 (fun w' => Below wr.heap.size wr w' ∧ w'.cell? ⟨b1, o1 + j, none⟩ = some (.int .i64 x) ∧ w'.cell? ⟨b2, o2 + j, none⟩ = some (.int .i64 y)) (exact HZ.out _ (by (repeat first | with_reducible exact Below.refl _ _ | with_reducible refine Below.drew ?_))) (fail)
     all_goals go_wp2_with fail
     go_ret
     exact ⟨by rw [← HT.out]; rfl, by (repeat first | with_reducible assumption | with_reducible refine Below.drew ?_)⟩
   ·have HT : Hid (true = G) := Lib.hid (by
     have h := hG.out
     rw [List.drop_of_length_le om9, List.drop_of_length_le om9] at h
     exact h)
    clear hG
    go_wp2_with fail
    go_ret
    exact ⟨by rw [← HT.out]; rfl, by (repeat with_reducible assumption)⟩
 ·have e1 := (int_eq la lb).trans (decide_eq_false b1)
  have HT := Lib.hid (HN.out b1)
  clear HG HN
  go_enter Tryz.func15, Tryz.ntmps15
  go_wp2_with fail
  go_ret
  exact ⟨by rw [← HT.out]; rfl, by (repeat with_reducible exact Below.refl _ _)⟩
def largeB (M : MachD) (R : MachR) : Bool := decide (13 < (R.la : Int)) || (decide (17 < (R.lb : Int)) || (decide (17 < (R.lc : Int)) || (decide (25 < (R.ld : Int)) || decide (100 < (M.name.size : Int)))))
theorem largeB_bd {M : MachD} {R : MachR} (h : largeB M R = false) : R.la ≤ 13 ∧ R.lb ≤ 17 ∧ R.lc ≤ 17 ∧ R.ld ≤ 25 ∧ M.name.size ≤ 100 := by
 unfold largeB at h
 simp only [Bool.or_eq_false_iff, decide_eq_false_iff_not] at h
 omega
set_option maxRecDepth 100000 in
set_option maxHeartbeats 8000000 in
theorem large_any (R : MachR) (M : MachD) (w : World) :
  Calls Tryz.prog 5 #[.agg (machCells R M)] w (Ret (.bool (largeB M R)) w) := by
 obtain ⟨A, B, Cl, D, la, ca, lb, cb, lc, cl, ld, cd⟩ := R
 obtain ⟨name, coils, shells, limits, ⟨r, z, nr, nz, step⟩, sensors⟩ := M
 unfold largeB
 dsimp only
 show Calls Tryz.prog 5 #[.agg #[.string name, .slice A la ca, .slice B lb cb, .slice Cl lc cl, .int .i64 r, .int .i64 z, .int .i64 nr, .int .i64 nz, .int .i64 step, .slice D ld cd]] w _
 cases q0 : decide (13 < (la : Int))
 rotate_left
 ·go_enter Tryz.func5, Tryz.ntmps5
  go_wp2_with fail
  go_ret
  exact ⟨by simp, by (repeat first | with_reducible exact Below.refl _ _ | (with_reducible refine Below.alloc ?_ ?_ _; rotate_left; exact om9))⟩
 cases q1 : decide (17 < (lb : Int))
 rotate_left
 ·go_enter Tryz.func5, Tryz.ntmps5
  go_wp2_with fail
  go_ret
  exact ⟨by simp, by (repeat first | with_reducible exact Below.refl _ _ | (with_reducible refine Below.alloc ?_ ?_ _; rotate_left; exact om9))⟩
 cases q2 : decide (17 < (lc : Int))
 rotate_left
 ·go_enter Tryz.func5, Tryz.ntmps5
  go_wp2_with fail
  go_ret
  exact ⟨by simp, by (repeat first | with_reducible exact Below.refl _ _ | (with_reducible refine Below.alloc ?_ ?_ _; rotate_left; exact om9))⟩
 cases q3 : decide (25 < (ld : Int))
 rotate_left
 ·go_enter Tryz.func5, Tryz.ntmps5
  go_wp2_with fail
  go_ret
  exact ⟨by simp, by (repeat first | with_reducible exact Below.refl _ _ | (with_reducible refine Below.alloc ?_ ?_ _; rotate_left; exact om9))⟩
 cases q4 : decide (100 < (name.size : Int))
 rotate_left
 ·go_enter Tryz.func5, Tryz.ntmps5
  go_wp2_with fail
  go_ret
  exact ⟨by simp, by (repeat first | with_reducible exact Below.refl _ _ | (with_reducible refine Below.alloc ?_ ?_ _; rotate_left; exact om9))⟩
 go_enter Tryz.func5, Tryz.ntmps5
 go_wp2_with fail
 go_ret
 exact ⟨by simp, by (repeat first | with_reducible exact Below.refl _ _ | (with_reducible refine Below.alloc ?_ ?_ _; rotate_left; exact om9))⟩
end
end Go.Proofs.YthggkidiidnaoaaGreat
