import Derived.Test.YtapldonpflgnfaaDoorMAA
import Derived.Test.YtapldonpflgnfaaDoorMAB
import Derived.Test.YtapldonpflgnfaaDoorMAG
import Derived.Test.YtapldonpflgnfaaDoorMAI
import Derived.Test.YtapldonpflgnfaaDoorMAM
import Derived.Test.YtapldonpflgnfaaDoorMAN
import Derived.Test.YtapldonpflgnfaaDoorMAP
import Derived.Test.YtapldonpflgnfaaDoorMAR
import Derived.Deep.RegionHeld3
import Derived.Deep.DeepCutAuto
import Derived.Deep.QuietTactic
import Derived.BigQuiet
import Derived.IntWalk
import Derived.Shelf.Lay
import Derived.Shelf.LaySoft
import Derived.Test.YtapldonpflgnfaaDoorProg
import Derived.Laws.OwnMore
import Derived.Deep.OwnRows
import Derived.Recover
section
namespace Go.Proofs.YtapldonpflgnfaaDoor
set_option linter.unusedVariables false
set_option linter.unusedSimpArgs false
open Go.RowKit
set_option maxHeartbeats 2000000 in
theorem indexFault1 (k : Nat) (c0 : Nat) (p : FaultD → Bool) (A : Option Addr) (len cap : Nat) (zs : List FaultD) (w : World) (hI : IsT 4 FaultD.cells w A len zs) (hl : len ≤ 1000000000000000)
    (hE : ∀ (args : Array Value) (W : World), (callFunc k args).run Tryd.prog W = .ok (.enter k args) W)
    (hk : ∀ (x : FaultD) (W : World), x ∈ zs → Below w.heap.size w W → Calls Tryd.prog k #[FaultD.v x, .pointer (some ⟨c0, 0, none⟩)] W (Ret (.bool (p x)) W)) :
    Calls Tryd.prog 63 #[.slice A len cap, .func (.func k) #[] #[.pointer (some ⟨c0, 0, none⟩)]] w (Ret (.int .i64 (idxL p zs)) w) := by
  have HI := Lib.hid hI
  have HK := Lib.hid hk
  have HG : Hid (idxL p zs = idxGo p zs 0) := Lib.hid rfl
  generalize idxL p zs = G at *
  clear hI hk
  go_enter Tryd.func63, Tryd.ntmps63
  go_wp2_with fail
  go_loopw [5, 8] (fun _ i wr => ∃ j : Nat, j ≤ len ∧ i = .int .i64 j ∧ Hid (idxGo p (zs.drop j) j = G) ∧ Below w.heap.size w wr) (fun _ i _ => len - (intOf i).toNat)
  case atStart => exact ⟨0, Nat.zero_le _, rfl, Lib.hid HG.out.symm, Below.refl _ _⟩
  case round =>
    obtain ⟨j, hj, rfl, hG, hB⟩ := hrel
    by_cases hlt : j < len
    · obtain ⟨hzl, hcl⟩ := HI.out.below hB
      obtain ⟨b, o, rfl, hb0, hcl⟩ := hcl (by omega)
      obtain ⟨x, hx⟩ : ∃ x, zs[j]? = some x := ⟨_, List.getElem?_eq_getElem (by omega)⟩
      have HM := Lib.hid (List.mem_of_getElem? hx)
      have HS := Lib.hid (idxGo_drop p hx (j : Int))
      have x0 : wr.cell? ⟨b, o + j * 4, none⟩ = some (.int .i64 x.at_) := by have h := hcl j x hx 0 _ rfl; simpa using h
      have x1 : wr.cell? ⟨b, o + j * 4 + 1, none⟩ = some (.int .i64 x.sensor) := by have h := hcl j x hx 1 _ rfl; simpa using h
      have x2 : wr.cell? ⟨b, o + j * 4 + 2, none⟩ = some (.int .i64 x.kind) := by have h := hcl j x hx 2 _ rfl; simpa using h
      have x3 : wr.cell? ⟨b, o + j * 4 + 3, none⟩ = some (.int .i64 x.n) := by have h := hcl j x hx 3 _ rfl; simpa using h
      have hsz := hB.size
      have HC := Lib.hid (HK.out x)
      clear hcl hx hzl
      cases hp : p x
      · have HN : Hid (idxGo p (zs.drop (j + 1)) ((j + 1 : Nat) : Int) = G) := Lib.hid (by rw [← hG.out, HS.out, hp]; rfl)
        have HC := Lib.hid (show ∀ W, Below w.heap.size w W → Calls Tryd.prog k #[FaultD.v x, .pointer (some ⟨c0, 0, none⟩)] W (Ret (.bool false) W) from fun W h => by have := HC.out W HM.out h; rwa [hp] at this)
        clear hp
        go_wp2_with ((with_reducible show Calls _ k _ _ _); refine (HC.out _ (by (repeat with_reducible assumption))).mono ?_; rintro e w1 ⟨rfl, hb⟩; have hB1 : Below w.heap.size w w1 := Below.trans (by (repeat with_reducible assumption)) (hb.mono (by omega)))
        go_roundw
        case rel => exact ⟨j + 1, by omega, by go_num, HN, by (repeat with_reducible assumption)⟩
        case measure => simp [intOf]; omega
      · have HN : Hid ((j : Int) = G) := Lib.hid (by rw [← hG.out, HS.out, hp]; rfl)
        have HC := Lib.hid (show ∀ W, Below w.heap.size w W → Calls Tryd.prog k #[FaultD.v x, .pointer (some ⟨c0, 0, none⟩)] W (Ret (.bool true) W) from fun W h => by have := HC.out W HM.out h; rwa [hp] at this)
        clear hp
        go_wp2_with ((with_reducible show Calls _ k _ _ _); refine (HC.out _ (by (repeat with_reducible assumption))).mono ?_; rintro e w1 ⟨rfl, hb⟩; have hB1 : Below w.heap.size w w1 := Below.trans (by (repeat with_reducible assumption)) (hb.mono (by omega)))
        go_ret
        exact ⟨by rw [← HN.out]; rfl, by (repeat with_reducible assumption)⟩
    · have HN : Hid ((-1 : Int) = G) := Lib.hid (by rw [← hG.out, List.drop_of_length_le (by rw [HI.out.1]; omega)]; rfl)
      go_wp2
      go_ret
      exact ⟨by rw [← HN.out]; rfl, hB⟩
set_option maxHeartbeats 1000000 in
theorem containsFault1 (k : Nat) (c0 : Nat) (p : FaultD → Bool) (A : Option Addr) (len cap : Nat) (zs : List FaultD) (w : World) (hI : IsT 4 FaultD.cells w A len zs) (hl : len ≤ 1000000000000000)
    (hE : ∀ (args : Array Value) (W : World), (callFunc k args).run Tryd.prog W = .ok (.enter k args) W)
    (hk : ∀ (x : FaultD) (W : World), x ∈ zs → Below w.heap.size w W → Calls Tryd.prog k #[FaultD.v x, .pointer (some ⟨c0, 0, none⟩)] W (Ret (.bool (p x)) W)) :
    Calls Tryd.prog 29 #[.slice A len cap, .func (.func k) #[] #[.pointer (some ⟨c0, 0, none⟩)]] w (Ret (.bool (zs.any p)) w) := by
  have HI := Lib.hid (indexFault1 k c0 p A len cap zs w hI hl hE hk)
  have HA := Lib.hid (idxL_nonneg p zs)
  obtain ⟨b1, b2⟩ := idxL_bd p zs
  rw [hI.1] at b2
  clear hI hE hk
  generalize idxL p zs = G at *
  go_enter Tryd.func29, Tryd.ntmps29
  go_wp2_with (go_at_call 63; refine HI.out.mono ?_; rintro e w1 ⟨rfl, hb⟩)
  go_ret
  exact ⟨by rw [← HA.out]; rfl, hb⟩
end Go.Proofs.YtapldonpflgnfaaDoor
end
section
namespace Go.Proofs.YtapldonpflgnfaaDoor
set_option linter.unusedVariables false
set_option linter.unusedSimpArgs false
open Go.RowKit
end Go.Proofs.YtapldonpflgnfaaDoor
end
section
namespace Go.Proofs.YtapldonpflgnfaaDoor
set_option linter.unusedVariables false
set_option linter.unusedSimpArgs false
open Go.RowKit
theorem resS {fn : Func} {p : Tmp} (h : fn.results = #[.cell p 49]) (tmps : Array Value) (W : World) (b : Nat) (x y : Value)
    (hp : tmps.getD p undef = .pointer (some ⟨b, 0, none⟩)) (h0 : (W.cell? ⟨b, 0, none⟩).isSome = true) (h1 : (W.cell? ⟨b, 1, none⟩).isSome = true) :
    (results fn tmps).run Tryd.prog ((W.setCell ⟨b, 0, none⟩ x).setCell ⟨b, 1, none⟩ y) = .ok (.agg #[x, y]) ((W.setCell ⟨b, 0, none⟩ x).setCell ⟨b, 1, none⟩ y) := by
  have n1 : (⟨b, 1, none⟩ : Addr) ≠ ⟨b, 0, none⟩ := by simp
  have n0 : (⟨b, 0, none⟩ : Addr) ≠ ⟨b, 1, none⟩ := by simp
  have e1 : ((W.setCell ⟨b, 0, none⟩ x).setCell ⟨b, 1, none⟩ y).cell? ⟨b, 0, none⟩ = some x :=
    (World.cell?_setCell_other _ _ _ _ n1).trans (World.cell?_setCell_same' _ _ _ h0)
  have e2 : ((W.setCell ⟨b, 0, none⟩ x).setCell ⟨b, 1, none⟩ y).cell? ⟨b, 1, none⟩ = some y :=
    World.cell?_setCell_same' _ _ _ (by rw [World.cell?_setCell_other _ _ _ _ n0]; exact h1)
  have hp' : tmps[p]?.getD undef = .pointer (some ⟨b, 0, none⟩) := by simpa using hp
  simp only [results, h]
  simp [Sem.run_bind, Result.andThen, go_sem, hp', e1, e2]
theorem resF {fn : Func} {p : Tmp} (h : fn.results = #[.cell p 49]) (tmps : Array Value) (W : World) (b : Nat) (x y : Value)
    (hp : tmps.getD p undef = .pointer (some ⟨b, 0, none⟩)) (h0 : (W.cell? ⟨b, 0, none⟩).isSome = true) (h1 : (W.cell? ⟨b, 1, none⟩).isSome = true) :
    (results fn tmps).run Tryd.prog ((W.setCell ⟨b, 0, none⟩ x).setCell ⟨b, 1, none⟩ y).drew = .ok (.agg #[x, y]) ((W.setCell ⟨b, 0, none⟩ x).setCell ⟨b, 1, none⟩ y).drew := by
  have n1 : (⟨b, 1, none⟩ : Addr) ≠ ⟨b, 0, none⟩ := by simp
  have n0 : (⟨b, 0, none⟩ : Addr) ≠ ⟨b, 1, none⟩ := by simp
  have e1 : ((W.setCell ⟨b, 0, none⟩ x).setCell ⟨b, 1, none⟩ y).drew.cell? ⟨b, 0, none⟩ = some x := by
    rw [World.cell?_drew]; exact (World.cell?_setCell_other _ _ _ _ n1).trans (World.cell?_setCell_same' _ _ _ h0)
  have e2 : ((W.setCell ⟨b, 0, none⟩ x).setCell ⟨b, 1, none⟩ y).drew.cell? ⟨b, 1, none⟩ = some y := by
    rw [World.cell?_drew]; exact World.cell?_setCell_same' _ _ _ (by rw [World.cell?_setCell_other _ _ _ _ n0]; exact h1)
  have hp' : tmps[p]?.getD undef = .pointer (some ⟨b, 0, none⟩) := by simpa using hp
  simp only [results, h]
  simp [Sem.run_bind, Result.andThen, go_sem, hp', e1, e2]
theorem resP {fn : Func} {p : Tmp} (h : fn.results = #[.cell p 49]) (tmps : Array Value) (W : World) (b : Nat) (x y : Value)
    (hp : tmps.getD p undef = .pointer (some ⟨b, 0, none⟩)) (h0 : W.cell? ⟨b, 0, none⟩ = some x) (h1 : W.cell? ⟨b, 1, none⟩ = some y) :
    (results fn tmps).run Tryd.prog W = .ok (.agg #[x, y]) W := by
  have hp' : tmps[p]?.getD undef = .pointer (some ⟨b, 0, none⟩) := by simpa using hp
  simp only [results, h]
  simp [Sem.run_bind, Result.andThen, go_sem, hp', h0, h1]
abbrev Pr (x : Tri) : Value := .agg #[.int .i64 x.1, .int .i64 x.2.1, .int .i64 x.2.2]
set_option maxHeartbeats 400000 in
theorem swithin_any (n a b : Int) (w : World) :
    Calls Tryd.prog 12 #[.int .i64 n, .int .i64 a, .int .i64 b] w fun e w' => e = .returned (.bool (wthn n a b)) ∧ w = w' := by
  go_enter Tryd.func12, Tryd.ntmps12
  go_wp2
  all_goals go_ret
  all_goals (simp [wthn]; try omega)
set_option maxHeartbeats 1000000 in
theorem validPair_any (v lo hi : Int) (w : World) :
    Calls Tryd.prog 22 #[Pr (v, lo, hi)] w (Ret (.bool (okP (v, lo, hi))) w) := by
  have e : okP (v, lo, hi) = (wthn v (-1000000000000000) 1000000000000000 && vld lo hi) := rfl
  have HE := Lib.hid e
  clear e
  by_cases h : wthn v (-1000000000000000) 1000000000000000 = true
  · go_enter Tryd.func22, Tryd.ntmps22
    go_wp2_with (first | (go_at_call 12; refine (swithin_any _ _ _ _).mono ?_; rintro e w1 ⟨rfl, rfl⟩) | (go_at_call 24; refine (valid_any _ _ _).mono ?_; rintro e w1 ⟨rfl, hb⟩; have hB : Below w.heap.size w w1 := Below.trans (by (repeat first | with_reducible exact Below.refl _ _ | (with_reducible refine Below.alloc ?_ ?_ _; rotate_left; exact (by omega)))) (hb.mono (by (simp; done))); obtain ⟨hc, hf⟩ := bcell hb; have hs := hb.size; clear hb; (try simp only [World.size_alloc, World.size_setCell] at hc hf); (try simp only [World.size_alloc, World.size_setCell] at hs); (try have hs' := Nat.lt_of_succ_le hs); (try have hs0 : w.heap.size < w1.heap.size := by omega); (try have hs1 : w.heap.size + 1 < w1.heap.size := by omega); (try have hs2 : w.heap.size + 1 + 1 < w1.heap.size := by omega); (try have hs3 : w.heap.size + 1 + 1 + 1 < w1.heap.size := by omega); (try have iso : (w1.cell? ⟨w.heap.size, 0, none⟩).isSome = true := by (rw [hc _ _ (by omega)]; (try simp only [isSome_setCell]); first | assumption | go_simp)); (try have iso : (w1.cell? ⟨w.heap.size, 1, none⟩).isSome = true := by (rw [hc _ _ (by omega)]; (try simp only [isSome_setCell]); first | assumption | go_simp)); (try have iso : (w1.cell? ⟨w.heap.size + 1, 0, none⟩).isSome = true := by (rw [hc _ _ (by first | omega | (simp; done) | (simp; omega))]; (try simp only [isSome_setCell]); first | assumption | go_simp)); (try have iso : (w1.cell? ⟨w.heap.size + 1, 1, none⟩).isSome = true := by (rw [hc _ _ (by first | omega | (simp; done) | (simp; omega))]; (try simp only [isSome_setCell]); first | assumption | go_simp)); (try have iso : (w1.cell? ⟨w.heap.size + 1 + 1, 0, none⟩).isSome = true := by (rw [hc _ _ (by first | omega | (simp; done) | (simp; omega))]; (try simp only [isSome_setCell]); first | assumption | go_simp)); (try have iso : (w1.cell? ⟨w.heap.size + 1 + 1, 1, none⟩).isSome = true := by (rw [hc _ _ (by first | omega | (simp; done) | (simp; omega))]; (try simp only [isSome_setCell]); first | assumption | go_simp))))
    go_ret
    exact ⟨by rw [HE.out, h]; simp, by (repeat with_reducible assumption)⟩
  · have h : wthn v (-1000000000000000) 1000000000000000 = false := by simpa using h
    go_enter Tryd.func22, Tryd.ntmps22
    go_wp2_with (go_at_call 12; refine (swithin_any _ _ _ _).mono ?_; rintro e w1 ⟨rfl, rfl⟩)
    go_ret
    exact ⟨by rw [HE.out, h]; simp, by (repeat first | with_reducible exact Below.refl _ _ | (with_reducible refine Below.alloc ?_ ?_ _; rotate_left; exact (by omega)))⟩
set_option maxHeartbeats 400000 in
theorem everyGain_any (w : World) :
    Calls Tryd.prog 49 #[] w (Ret (Sp (-1000000000) 1000000000) w) := by
  go_enter Tryd.func49, Tryd.ntmps49
  go_wp2_with fail
  exact bodyPost_ret (resP Tryd.results49 _ _ _ _ _ rfl (by go_simp) (by go_simp)) rfl ⟨rfl, by (repeat first | with_reducible exact Below.refl _ _ | (with_reducible refine Below.alloc ?_ ?_ _; rotate_left; exact (by omega)))⟩
end Go.Proofs.YtapldonpflgnfaaDoor
end
section
namespace Go.Proofs.YtapldonpflgnfaaDoor
set_option linter.unusedVariables false
set_option linter.unusedSimpArgs false
open Go.RowKit Go.Shelf
def mostK (k : Int) : Int := if k = 1 then 1000000000000000 else if k = 2 then 100000 else 0
def faultB (n : Int) (f : FaultD) : Bool := wthn f.kind 1 3 && (wthn f.at_ 0 1000000000 && (wthn f.sensor 0 (n - 1) && wthn f.n (-(mostK f.kind)) (mostK f.kind)))
def faultsB (M : MachD) (l : List FaultD) : Bool := decide (checkC M = 0) && (decide (l.length ≤ 32) && l.all (faultB M.sensors.length))
structure Kinds (w : World) : Prop where
  most : ∀ k : Nat, k < 4 → ∃ s : ByteArray, w.cell? ⟨0, k * 2, none⟩ = some (.string s) ∧ (1 ≤ k → w.cell? ⟨0, k * 2 + 1, none⟩ = some (.int .i64 (mostK k)))
  size : 0 < w.heap.size
theorem Kinds.below {w w1 : World} (h : Kinds w) (hb : Below w.heap.size w w1) : Kinds w1 :=
  ⟨fun k hk => by
    obtain ⟨s, h1, h2⟩ := h.most k hk
    exact ⟨s, (hb.cell (p := ⟨0, k * 2, none⟩) h.size).trans h1, fun h1 => (hb.cell (p := ⟨0, k * 2 + 1, none⟩) h.size).trans (h2 h1)⟩, Nat.lt_of_lt_of_le h.size hb.size⟩
set_option maxHeartbeats 400000 in
theorem rwithin4b_any (n a b : Int) (w : World) :
    Calls Tryd.prog 18 #[.int .i64 n, .int .i64 a, .int .i64 b] w fun e w' => e = .returned (.bool (wthn n a b)) ∧ w = w' := by
  go_enter Tryd.func18, Tryd.ntmps18
  go_wp2
  all_goals go_ret
  all_goals (simp [wthn]; try omega)
theorem kind_ways (k : Int) : (wthn k 1 3 = false ∧ k ≠ 1 ∧ k ≠ 2 ∧ k ≠ 3) ∨ (wthn k 1 3 = true ∧ k = 1) ∨ (wthn k 1 3 = true ∧ k = 2) ∨ (wthn k 1 3 = true ∧ k = 3) := by
  have e : wthn k 1 3 = true ↔ 1 ≤ k ∧ k ≤ 3 := by simp [wthn]
  by_cases h : 1 ≤ k ∧ k ≤ 3
  · right; have := e.2 h; rcases (show k = 1 ∨ k = 2 ∨ k = 3 by omega) with rfl | rfl | rfl
    · exact Or.inl ⟨this, rfl⟩
    · exact Or.inr (Or.inl ⟨this, rfl⟩)
    · exact Or.inr (Or.inr ⟨this, rfl⟩)
  · left
    refine ⟨?_, by omega, by omega, by omega⟩
    rw [← Bool.not_eq_true]; exact fun h1 => h (e.1 h1)
set_option maxRecDepth 100000 in
set_option maxHeartbeats 8000000 in
theorem rvalidFault_any (n : Int) (f : FaultD) (w : World) (h0 : 0 ≤ n) (h1 : n ≤ 1000000000000000) :
    Calls Tryd.prog 39 #[.int .i64 n, f.v] w (Ret (.bool (faultB n f)) w) := by
  have HE : Hid (faultB n f = (wthn f.kind 1 3 && (wthn f.at_ 0 1000000000 && (wthn f.sensor 0 (n - 1) && wthn f.n (-(mostK f.kind)) (mostK f.kind))))) := Lib.hid rfl
  generalize faultB n f = G at *
  obtain ⟨a, s, k, m⟩ := f
  dsimp only at HE
  show Calls Tryd.prog 39 #[.int .i64 n, .agg #[.int .i64 a, .int .i64 s, .int .i64 k, .int .i64 m]] w _
  cases ha : wthn a 0 1000000000
  · have HF : Hid (false = G) := Lib.hid (by rw [HE.out, ha]; simp)
    clear HE
    go_enter Tryd.func39, Tryd.ntmps39
    go_wp2_with (go_at_call 18; refine (rwithin4b_any _ _ _ _).mono ?_; rintro e w1 ⟨rfl, rfl⟩)
    go_ret
    exact ⟨by rw [← HF.out]; rfl, by (with_reducible repeat first | exact Below.refl _ _ | assumption | ((first | refine Below.setCell ?_ ?_ _ | refine Below.alloc ?_ ?_ _); rotate_left; exact (by first | omega | (simp; done) | (simp; omega))) | refine Below.drew ?_ | refine Below_drewN ?_ _)⟩
  cases hs : wthn s 0 (n - 1)
  · have HF : Hid (false = G) := Lib.hid (by rw [HE.out, hs]; simp)
    clear HE
    go_enter Tryd.func39, Tryd.ntmps39
    go_wp2_with (go_at_call 18; refine (rwithin4b_any _ _ _ _).mono ?_; rintro e w1 ⟨rfl, rfl⟩)
    go_ret
    exact ⟨by rw [← HF.out]; rfl, by (with_reducible repeat first | exact Below.refl _ _ | assumption | ((first | refine Below.setCell ?_ ?_ _ | refine Below.alloc ?_ ?_ _); rotate_left; exact (by first | omega | (simp; done) | (simp; omega))) | refine Below.drew ?_ | refine Below_drewN ?_ _)⟩
  rw [ha, hs] at HE
  rcases kind_ways k with ⟨hk, k1, k2, k3⟩ | ⟨hk, rfl⟩ | ⟨hk, rfl⟩ | ⟨hk, rfl⟩
  · have HF : Hid (false = G) := Lib.hid (by rw [HE.out, hk]; simp)
    have b1 : (k == 1) = false := by rw [beq_eq_false_iff_ne]; exact k1
    have b2 : (k == 2) = false := by rw [beq_eq_false_iff_ne]; exact k2
    have b3 : (k == 3) = false := by rw [beq_eq_false_iff_ne]; exact k3
    clear HE k1 k2 k3 hk
    go_enter Tryd.func39, Tryd.ntmps39
    go_wp2_with (go_at_call 18; refine (rwithin4b_any _ _ _ _).mono ?_; rintro e w1 ⟨rfl, rfl⟩)
    go_ret
    exact ⟨by rw [← HF.out]; rfl, by (with_reducible repeat first | exact Below.refl _ _ | assumption | ((first | refine Below.setCell ?_ ?_ _ | refine Below.alloc ?_ ?_ _); rotate_left; exact (by first | omega | (simp; done) | (simp; omega))) | refine Below.drew ?_ | refine Below_drewN ?_ _)⟩
  · have HF : Hid (wthn m (-1000000000000000) 1000000000000000 = G) := Lib.hid (by rw [HE.out, hk]; rfl)
    clear HE hk
    go_enter Tryd.func39, Tryd.ntmps39
    go_wp2_with (go_at_call 18; refine (rwithin4b_any _ _ _ _).mono ?_; rintro e w1 ⟨rfl, rfl⟩)
    go_ret
    exact ⟨by rw [← HF.out]; rfl, by (with_reducible repeat first | exact Below.refl _ _ | assumption | ((first | refine Below.setCell ?_ ?_ _ | refine Below.alloc ?_ ?_ _); rotate_left; exact (by first | omega | (simp; done) | (simp; omega))) | refine Below.drew ?_ | refine Below_drewN ?_ _)⟩
  · have HF : Hid (wthn m (-100000) 100000 = G) := Lib.hid (by rw [HE.out, hk]; rfl)
    clear HE hk
    go_enter Tryd.func39, Tryd.ntmps39
    go_wp2_with (go_at_call 18; refine (rwithin4b_any _ _ _ _).mono ?_; rintro e w1 ⟨rfl, rfl⟩)
    go_ret
    exact ⟨by rw [← HF.out]; rfl, by (with_reducible repeat first | exact Below.refl _ _ | assumption | ((first | refine Below.setCell ?_ ?_ _ | refine Below.alloc ?_ ?_ _); rotate_left; exact (by first | omega | (simp; done) | (simp; omega))) | refine Below.drew ?_ | refine Below_drewN ?_ _)⟩
  · have HF : Hid ((m == 0) = G) := Lib.hid (by
      rw [HE.out, hk]
      show (m == 0) = wthn m (-(mostK 3)) (mostK 3)
      rw [show mostK 3 = 0 from rfl, Bool.eq_iff_iff]; simp [wthn]; omega)
    clear HE hk
    go_enter Tryd.func39, Tryd.ntmps39
    go_wp2_with (go_at_call 18; refine (rwithin4b_any _ _ _ _).mono ?_; rintro e w1 ⟨rfl, rfl⟩)
    go_ret
    exact ⟨by rw [← HF.out]; rfl, by (with_reducible repeat first | exact Below.refl _ _ | assumption | ((first | refine Below.setCell ?_ ?_ _ | refine Below.alloc ?_ ?_ _); rotate_left; exact (by first | omega | (simp; done) | (simp; omega))) | refine Below.drew ?_ | refine Below_drewN ?_ _)⟩
set_option maxRecDepth 100000 in
set_option maxHeartbeats 8000000 in
theorem validFault_any (A B C D : Option Addr) (name : ByteArray) (la ca lb cb lc cc ld cd : Nat) (r z nr nz step : Int) (f : FaultD) (w : World) (hK : Kinds w) (hld : ld ≤ 1000000000000000) :
    Calls Tryd.prog 31 #[.agg #[.string name, .slice A la ca, .slice B lb cb, .slice C lc cc, .int .i64 r, .int .i64 z, .int .i64 nr, .int .i64 nz, .int .i64 step, .slice D ld cd], f.v] w (Ret (.bool (faultB ld f)) w) := by
  have HE : Hid (faultB ld f = (wthn f.kind 1 3 && (wthn f.at_ 0 1000000000 && (wthn f.sensor 0 (ld - 1) && wthn f.n (-(mostK f.kind)) (mostK f.kind))))) := Lib.hid rfl
  generalize faultB ld f = G at *
  obtain ⟨a, s, k, m⟩ := f
  dsimp only at HE
  show Calls Tryd.prog 31 #[.agg #[.string name, .slice A la ca, .slice B lb cb, .slice C lc cc, .int .i64 r, .int .i64 z, .int .i64 nr, .int .i64 nz, .int .i64 step, .slice D ld cd], .agg #[.int .i64 a, .int .i64 s, .int .i64 k, .int .i64 m]] w _
  have hg := hK.size
  have key : ∀ K : Nat, 1 ≤ K → K < 4 → k = K → Calls Tryd.prog 31 #[.agg #[.string name, .slice A la ca, .slice B lb cb, .slice C lc cc, .int .i64 r, .int .i64 z, .int .i64 nr, .int .i64 nz, .int .i64 step, .slice D ld cd], .agg #[.int .i64 a, .int .i64 s, .int .i64 k, .int .i64 m]] w (Ret (.bool G) w) := by
    intro K hK1 hK4 hkK
    obtain ⟨_, -, hc0⟩ := hK.most K hK4
    have hc := hc0 hK1
    clear hc0
    have hkt : wthn k 1 3 = true := by simp [wthn]; omega
    have km : mostK k = 1000000000000000 ∨ mostK k = 100000 ∨ mostK k = 0 := by unfold mostK; split <;> (try split) <;> simp
    rw [hkt] at HE
    rw [← hkK] at hc
    have hM : 0 ≤ mostK k ∧ mostK k ≤ 1000000000000000 := by rcases km with h | h | h <;> rw [h] <;> omega
    obtain ⟨hM0, hM1⟩ := hM
    generalize mostK k = q at *
    clear km hK
    subst hkK
    have kn : ((K : Int)).toNat = K := by omega
    have k0 : (0 : Int) ≤ K := by omega
    have k4 : (K : Int) < 4 := by omega
    cases ha : wthn a 0 1000000000
    · have HF : Hid (false = G) := Lib.hid (by rw [HE.out, ha]; simp)
      clear HE
      go_enter Tryd.func31, Tryd.ntmps31
      go_wp2_with (go_at_call 12; refine (swithin_any _ _ _ _).mono ?_; rintro e w1 ⟨rfl, rfl⟩)
      go_ret
      exact ⟨by rw [← HF.out]; rfl, by (repeat first | with_reducible exact Below.refl _ _ | (with_reducible refine Below.alloc ?_ ?_ _; rotate_left; exact (by first | omega | (simp; done))))⟩
    · cases hs : wthn s 0 (ld - 1)
      · have HF : Hid (false = G) := Lib.hid (by rw [HE.out, hs]; simp)
        clear HE
        go_enter Tryd.func31, Tryd.ntmps31
        go_wp2_with (go_at_call 12; refine (swithin_any _ _ _ _).mono ?_; rintro e w1 ⟨rfl, rfl⟩)
        go_ret
        exact ⟨by rw [← HF.out]; rfl, by (repeat first | with_reducible exact Below.refl _ _ | (with_reducible refine Below.alloc ?_ ?_ _; rotate_left; exact (by first | omega | (simp; done))))⟩
      · have HF : Hid (wthn m (-q) q = G) := Lib.hid (by rw [HE.out, ha, hs]; rfl)
        clear HE
        go_enter Tryd.func31, Tryd.ntmps31
        go_wp2_with (go_at_call 12; refine (swithin_any _ _ _ _).mono ?_; rintro e w1 ⟨rfl, rfl⟩)
        go_ret
        exact ⟨by rw [← HF.out]; rfl, by (repeat first | with_reducible exact Below.refl _ _ | (with_reducible refine Below.alloc ?_ ?_ _; rotate_left; exact (by first | omega | (simp; done))))⟩
  rcases kind_ways k with ⟨hk, _, _, _⟩ | ⟨hk, rfl⟩ | ⟨hk, rfl⟩ | ⟨hk, rfl⟩
  · have HF : Hid (false = G) := Lib.hid (by rw [HE.out, hk]; simp)
    clear HE key
    go_enter Tryd.func31, Tryd.ntmps31
    go_wp2_with (go_at_call 12; refine (swithin_any _ _ _ _).mono ?_; rintro e w1 ⟨rfl, rfl⟩)
    go_ret
    exact ⟨by rw [← HF.out]; rfl, by (repeat first | with_reducible exact Below.refl _ _ | (with_reducible refine Below.alloc ?_ ?_ _; rotate_left; exact (by first | omega | (simp; done))))⟩
  · exact key 1 (by omega) (by omega) rfl
  · exact key 2 (by omega) (by omega) rfl
  · exact key 3 (by omega) (by omega) rfl
def BoxM (w : World) (c0 : Nat) (A B C D : Option Addr) (name : ByteArray) (la ca lb cb lc cc ld cd : Nat) (r z nr nz step : Int) : Prop :=
  w.cell? ⟨c0, 0, none⟩ = some (.string name) ∧ w.cell? ⟨c0, 1, none⟩ = some (.slice A la ca) ∧ w.cell? ⟨c0, 2, none⟩ = some (.slice B lb cb) ∧ w.cell? ⟨c0, 3, none⟩ = some (.slice C lc cc) ∧ w.cell? ⟨c0, 4, none⟩ = some (.int .i64 r) ∧ w.cell? ⟨c0, 5, none⟩ = some (.int .i64 z) ∧ w.cell? ⟨c0, 6, none⟩ = some (.int .i64 nr) ∧ w.cell? ⟨c0, 7, none⟩ = some (.int .i64 nz) ∧ w.cell? ⟨c0, 8, none⟩ = some (.int .i64 step) ∧ w.cell? ⟨c0, 9, none⟩ = some (.slice D ld cd)
theorem BoxM.below {w w1 : World} {c0 : Nat} {A B C D : Option Addr} {name : ByteArray} {la ca lb cb lc cc ld cd : Nat} {r z nr nz step : Int} (h : BoxM w c0 A B C D name la ca lb cb lc cc ld cd r z nr nz step) (h0 : c0 < w.heap.size) (hb : Below w.heap.size w w1) : BoxM w1 c0 A B C D name la ca lb cb lc cc ld cd r z nr nz step := by
  obtain ⟨a0, a1, a2, a3, a4, a5, a6, a7, a8, a9⟩ := h
  have g : ∀ (o : Nat) (v : Value), w.cell? ⟨c0, o, none⟩ = some v → w1.cell? ⟨c0, o, none⟩ = some v := fun o v e => (hb.cell (p := ⟨c0, o, none⟩) h0).trans e
  exact ⟨g _ _ a0, g _ _ a1, g _ _ a2, g _ _ a3, g _ _ a4, g _ _ a5, g _ _ a6, g _ _ a7, g _ _ a8, g _ _ a9⟩
set_option maxHeartbeats 2000000 in
theorem validFaults1_any (A B C D : Option Addr) (name : ByteArray) (la ca lb cb lc cc ld cd : Nat) (r z nr nz step : Int) (f : FaultD) (c0 : Nat) (w : World) (hK : Kinds w) (hld : ld ≤ 1000000000000000) (h0 : c0 < w.heap.size) (hM : BoxM w c0 A B C D name la ca lb cb lc cc ld cd r z nr nz step) :
    Calls Tryd.prog 30 #[f.v, .pointer (some ⟨c0, 0, none⟩)] w (Ret (.bool (!faultB ld f)) w) := by
  have HF := Lib.hid (fun W (hb : Below w.heap.size w W) => validFault_any A B C D name la ca lb cb lc cc ld cd r z nr nz step f W (hK.below hb) hld)
  obtain ⟨a0, a1, a2, a3, a4, a5, a6, a7, a8, a9⟩ := hM
  clear hK
  generalize faultB ld f = G at *
  obtain ⟨a, s, k, m⟩ := f
  have HF := Lib.hid (show ∀ W, Below w.heap.size w W → Calls Tryd.prog 31 #[.agg #[.string name, .slice A la ca, .slice B lb cb, .slice C lc cc, .int .i64 r, .int .i64 z, .int .i64 nr, .int .i64 nz, .int .i64 step, .slice D ld cd], .agg #[.int .i64 a, .int .i64 s, .int .i64 k, .int .i64 m]] W (Ret (.bool G) W) from HF.out)
  show Calls Tryd.prog 30 #[.agg #[.int .i64 a, .int .i64 s, .int .i64 k, .int .i64 m], .pointer (some ⟨c0, 0, none⟩)] w _
  go_enter Tryd.func30, Tryd.ntmps30
  go_wp2_with (go_at_call 31; refine (HF.out _ (by (repeat first | with_reducible exact Below.refl _ _ | (with_reducible refine Below.alloc ?_ ?_ _; rotate_left; exact (by omega))))).mono ?_; rintro e w1 ⟨rfl, hb⟩)
  go_ret
  exact ⟨rfl, Below.trans (by (repeat first | with_reducible exact Below.refl _ _ | (with_reducible refine Below.alloc ?_ ?_ _; rotate_left; exact (by omega)))) (hb.mono (by ((try simp only [World.size_alloc, World.size_setCell, size_drew, size_drewN]); omega)))⟩
theorem boxM_new (w : World) (A B C D : Option Addr) (name : ByteArray) (la ca lb cb lc cc ld cd : Nat) (r z nr nz step : Int) :
    BoxM (w.alloc (.cells #[.string name, .slice A la ca, .slice B lb cb, .slice C lc cc, .int .i64 r, .int .i64 z, .int .i64 nr, .int .i64 nz, .int .i64 step, .slice D ld cd] 29)) w.heap.size A B C D name la ca lb cb lc cc ld cd r z nr nz step := by
  refine ⟨?_, ?_, ?_, ?_, ?_, ?_, ?_, ?_, ?_, ?_⟩ <;> go_simp
set_option maxRecDepth 100000 in
set_option maxHeartbeats 4000000 in
theorem validFaults_any (R : MachR) (M : MachD) (F : Option Addr) (len cap : Nat) (zs : List FaultD) (w : World) (hM : IsM w R M) (hF : IsT 4 FaultD.cells w F len zs) (hl : len ≤ 1000000000000000) (hK : Kinds w) :
    Calls Tryd.prog 11 #[.agg (machCells R M), .slice F len cap] w (Ret (.bool (faultsB M zs)) w) := by
  have HE : Hid (faultsB M zs = (decide (checkC M = 0) && (decide (zs.length ≤ 32) && zs.all (faultB M.sensors.length)))) := Lib.hid rfl
  have hn := hM.sensors.1
  have hz := hF.1
  have hkd := hM.kd
  have H0 := Lib.hid (fun W (hb : Below w.heap.size w W) => check_any R M W (hM.below hb))
  have HC := Lib.hid (fun W (hb : Below w.heap.size w W) (h0 : w.heap.size < W.heap.size) (hX : BoxM W w.heap.size R.A R.B R.C R.D M.name R.la R.ca R.lb R.cb R.lc R.cc R.ld R.cd M.grid.r M.grid.z M.grid.nr M.grid.nz M.grid.step) =>
    containsFault1 30 w.heap.size (fun x => !faultB R.ld x) F len cap zs W (hF.below hb) hl (fun args W => enters_of Tryd.func30 (by kernel_rfl) rfl args W)
      (fun x W' _ hB => validFaults1_any R.A R.B R.C R.D M.name R.la R.ca R.lb R.cb R.lc R.cc R.ld R.cd M.grid.r M.grid.z M.grid.nr M.grid.nz M.grid.step x w.heap.size W' (hK.below (hb.trans (hB.mono hb.size))) hkd (Nat.lt_of_lt_of_le h0 hB.size) (hX.below h0 hB)))
  rw [hn, hz] at HE
  have HA : Hid ((zs.any fun x => !faultB R.ld x) = !zs.all (faultB R.ld)) := Lib.hid (by rw [List.not_all_eq_any_not])
  generalize faultsB M zs = G at *
  generalize checkC M = c at *
  generalize (zs.any fun x => !faultB R.ld x) = ny at *
  generalize zs.all (faultB (R.ld : Nat)) = al at *
  clear hM hF hK hn hz hkd
  obtain ⟨A, B, C, D, la, ca, lb, cb, lc, cc, ld, cd⟩ := R
  obtain ⟨name, coils, shells, limits, ⟨r, z, nr, nz, step⟩, sensors⟩ := M
  dsimp only at *
  have H0 := Lib.hid (show ∀ W, Below w.heap.size w W → Calls Tryd.prog 25 #[.agg #[.string name, .slice A la ca, .slice B lb cb, .slice C lc cc, .int .i64 r, .int .i64 z, .int .i64 nr, .int .i64 nz, .int .i64 step, .slice D ld cd]] W (Ret (.int .i64 c) W) from H0.out)
  show Calls Tryd.prog 11 #[.agg #[.string name, .slice A la ca, .slice B lb cb, .slice C lc cc, .int .i64 r, .int .i64 z, .int .i64 nr, .int .i64 nz, .int .i64 step, .slice D ld cd], .slice F len cap] w _
  have hX := boxM_new w A B C D name la ca lb cb lc cc ld cd r z nr nz step
  by_cases hc : c = 0
  · subst hc
    by_cases h32 : len ≤ 32
    · have HF : Hid (al = G) := Lib.hid (by rw [HE.out, decide_eq_true h32]; rfl)
      clear HE
      have hny : ny = !al := HA.out
      subst hny
      have HX := Lib.hid hX
      clear hX HA
      go_enter Tryd.func11, Tryd.ntmps11
      go_wp2_with fail
      refine (H0.out _ (by (repeat first | with_reducible exact Below.refl _ _ | (with_reducible refine Below.alloc ?_ ?_ _; rotate_left; exact (by omega))))).mono ?_
      rintro e w1 ⟨rfl, hb⟩
      have hX := Lib.hid (HX.out.below (by simp) hb)
      have hs : w.heap.size < w1.heap.size := Nat.lt_of_lt_of_le (by simp) hb.size
      have hB1 : Below w.heap.size w w1 := Below.trans (by (repeat first | with_reducible exact Below.refl _ _ | (with_reducible refine Below.alloc ?_ ?_ _; rotate_left; exact (by omega)))) (hb.mono (by ((try simp only [World.size_alloc, World.size_setCell, size_drew, size_drewN]); omega)))
      clear hb
      go_wp2_with fail
      refine (HC.out _ (by (repeat with_reducible assumption)) hs hX.out).mono ?_
      rintro e w2 ⟨rfl, hb⟩
      have hB2 : Below w.heap.size w w2 := hB1.trans (hb.mono hB1.size)
      clear hb
      go_wp2_with fail
      go_ret
      exact ⟨by rw [← HF.out]; cases al <;> rfl, by (repeat with_reducible assumption)⟩
    · have HF : Hid (false = G) := Lib.hid (by rw [HE.out, decide_eq_false h32]; rfl)
      clear HE HC HA hX
      go_enter Tryd.func11, Tryd.ntmps11
      go_wp2_with fail
      refine (H0.out _ (by (repeat first | with_reducible exact Below.refl _ _ | (with_reducible refine Below.alloc ?_ ?_ _; rotate_left; exact (by omega))))).mono ?_
      rintro e w1 ⟨rfl, hb⟩
      have hB1 : Below w.heap.size w w1 := Below.trans (by (repeat first | with_reducible exact Below.refl _ _ | (with_reducible refine Below.alloc ?_ ?_ _; rotate_left; exact (by omega)))) (hb.mono (by ((try simp only [World.size_alloc, World.size_setCell, size_drew, size_drewN]); omega)))
      clear hb
      go_wp2_with fail
      go_ret
      exact ⟨by rw [← HF.out]; rfl, by (repeat with_reducible assumption)⟩
  · have HF : Hid (false = G) := Lib.hid (by rw [HE.out, decide_eq_false hc]; rfl)
    have hcb : (c == 0) = false := by rw [beq_eq_false_iff_ne]; exact hc
    clear HE HC HA hX hc
    go_enter Tryd.func11, Tryd.ntmps11
    go_wp2_with fail
    refine (H0.out _ (by (repeat first | with_reducible exact Below.refl _ _ | (with_reducible refine Below.alloc ?_ ?_ _; rotate_left; exact (by omega))))).mono ?_
    rintro e w1 ⟨rfl, hb⟩
    have hB1 : Below w.heap.size w w1 := Below.trans (by (repeat first | with_reducible exact Below.refl _ _ | (with_reducible refine Below.alloc ?_ ?_ _; rotate_left; exact (by omega)))) (hb.mono (by ((try simp only [World.size_alloc, World.size_setCell, size_drew, size_drewN]); omega)))
    clear hb
    go_wp2_with fail
    go_ret
    exact ⟨by rw [← HF.out]; rfl, by (repeat with_reducible assumption)⟩
end Go.Proofs.YtapldonpflgnfaaDoor
end
section
namespace Go.Proofs
open Go.Shelf
end Go.Proofs
end
section
namespace Go.Proofs.YtapldonpflgnfaaDoor
set_option linter.unusedVariables false
set_option linter.unusedSimpArgs false
open Go.RowKit Go.Shelf
structure NewI (B : Nat) (w' : World) (A : Option Addr) (len cap : Nat) (zs : List Int) : Prop where
  isT : IsT 1 intCells w' A len zs
  le : len ≤ cap
  cap : cap ≤ maxLen
  new : ∀ a, A = some a → B ≤ a.block
  lt : ∀ a, A = some a → a.block < w'.heap.size
theorem NewI.below {B : Nat} {w1 w2 : World} {A : Option Addr} {len cap : Nat} {zs : List Int} (h : NewI B w1 A len cap zs) (hb : Below w1.heap.size w1 w2) : NewI B w2 A len cap zs :=
  ⟨h.isT.below hb, h.le, h.cap, h.new, fun a ha => Nat.lt_of_lt_of_le (h.lt a ha) hb.size⟩
theorem NewI.drew {B : Nat} {W : World} {A : Option Addr} {len cap : Nat} {zs : List Int} (h : NewI B W A len cap zs) : NewI B W.drew A len cap zs :=
  h.below ((Below.refl _ _).drew)
theorem NewI.alloc {B : Nat} {W : World} {A : Option Addr} {len cap : Nat} {zs : List Int} (h : NewI B W A len cap zs) (o : Obj) : NewI B (W.alloc o) A len cap zs :=
  h.below ((Below.refl _ _).alloc (Nat.le_refl _) o)
theorem NewI.setCell {B : Nat} {W : World} {A : Option Addr} {len cap : Nat} {zs : List Int} (h : NewI B W A len cap zs) {p : Addr} (hp : ∀ a, A = some a → a.block ≠ p.block) (v : Value) : NewI B (W.setCell p v) A len cap zs :=
  ⟨⟨h.isT.1, fun h0 => by
      obtain ⟨b, o, e, h1, h2⟩ := h.isT.2 h0
      refine ⟨b, o, e, by rw [World.size_setCell]; exact h1, fun j x hx i u hu => ?_⟩
      rw [World.cell?_setCell_other _ _ _ _ (fun e2 => hp _ e (by exact (congrArg Addr.block e2).symm))]
      exact h2 j x hx i u hu⟩, h.le, h.cap, h.new, fun a ha => by rw [World.size_setCell]; exact h.lt a ha⟩
theorem NewI.mono {B B' : Nat} {W : World} {A : Option Addr} {len cap : Nat} {zs : List Int} (h : NewI B W A len cap zs) (hB : B' ≤ B) : NewI B' W A len cap zs :=
  ⟨h.isT, h.le, h.cap, fun a ha => Nat.le_trans hB (h.new a ha), h.lt⟩
structure ZeroL (b n : Nat) (W : World) : Prop where
  lt : b < W.heap.size
  cell : ∀ j, j < n → W.cell? ⟨b, j, none⟩ = some (.int .i64 0)
  mark : ∀ j, j < n → W.frozen? ⟨b, j, none⟩ = false
theorem ZeroL.new (W : World) (n : Nat) (t : TypeId) (hn : n ≤ 1000000000000) : ZeroL W.heap.size n (W.alloc (.cells (madeCells #[.int .i64 0] n) t)) := by
  have hrow := World.ownsRow_lit (base := W.heap.size) (size := 1) (e := t) W (madeCells #[.int .i64 0] n) n (Nat.le_refl _) (by unfold maxLen; omega) (by rw [size_madeCells]; omega)
  refine ⟨by simp, fun j hj => ?_, fun j hj => hrow.frozenAt j⟩
  rw [hrow.cellAt j (by omega), toList_madeCells_one]
  simp [List.getElem?_replicate, hj]
theorem ZeroL.below {b n : Nat} {W W' : World} (h : ZeroL b n W) (hb : Below W.heap.size W W') : ZeroL b n W' :=
  ⟨Nat.lt_of_lt_of_le h.lt hb.size, fun j hj => (hb.cell (p := ⟨b, j, none⟩) h.lt).trans (h.cell j hj), fun j hj => (hb.frozen (p := ⟨b, j, none⟩) h.lt).trans (h.mark j hj)⟩
theorem ZeroL.drew {b n : Nat} {W : World} (h : ZeroL b n W) : ZeroL b n W.drew := h.below ((Below.refl _ _).drew)
theorem ZeroL.alloc {b n : Nat} {W : World} (h : ZeroL b n W) (o : Obj) : ZeroL b n (W.alloc o) := h.below ((Below.refl _ _).alloc (Nat.le_refl _) o)
theorem ZeroL.setCell {b n : Nat} {W : World} (h : ZeroL b n W) {p : Addr} (hp : b ≠ p.block) (v : Value) : ZeroL b n (W.setCell p v) :=
  ⟨by rw [World.size_setCell]; exact h.lt, fun j hj => by
      rw [World.cell?_setCell_other _ _ _ _ (fun e => hp (by exact (congrArg Addr.block e).symm))]; exact h.cell j hj, fun j hj => by rw [World.frozen?_setCell]; exact h.mark j hj⟩
theorem newI_of_row {B : Nat} {w' : World} {e : TypeId} {v : Value} {n : Nat} {zs : List Int} (hz : zs.length = n) (h : w'.ownsRow B e 1 v n (zs.map (Value.int .i64))) :
    ∃ (A : Option Addr) (cap : Nat), v = .slice A n cap ∧ NewI B w' A n cap zs := by
  have h2 := h.2
  rcases h2 with ⟨hv, hn⟩ | ⟨g, cap, cur, hv, hB, hg, hc, hm, hs, ht⟩
  · subst hn
    exact ⟨none, 0, hv, ⟨⟨hz, fun h0 => absurd h0 (by omega)⟩, Nat.le_refl _, Nat.zero_le _, (fun a ha => by cases ha), (fun a ha => by cases ha)⟩⟩
  · subst hv
    refine ⟨_, cap, rfl, ⟨⟨hz, fun h0 => ⟨g, 0, rfl, ?_, fun j x hx i v hv => ?_⟩⟩, hc, hm, fun a ha => ?_, fun a ha => ?_⟩⟩
    · exact (Array.getElem?_eq_some_iff.1 hg).1
    · have hj : j < n := by rw [← hz]; exact (List.getElem?_eq_some_iff.1 hx).1
      have hi : i = 0 := by
        have := (List.getElem?_eq_some_iff.1 hv).1
        simp [intCells] at this; omega
      subst hi
      have hc := h.cellAt j (by omega)
      rw [List.getElem?_map, hx] at hc
      have hv' : v = .int .i64 x := by simpa [intCells] using hv.symm
      subst hv'
      simpa using hc
    · obtain rfl := Option.some.inj ha
      exact hB
    · obtain rfl := Option.some.inj ha
      exact (Array.getElem?_eq_some_iff.1 hg).1
end Go.Proofs.YtapldonpflgnfaaDoor
end
section
namespace Go.Proofs.YtapldonpflgnfaaDoor
set_option linter.unusedVariables false
set_option linter.unusedSimpArgs false
open Go.RowKit Go.Shelf
end Go.Proofs.YtapldonpflgnfaaDoor
end
section
namespace Go.Proofs.YtapldonpflgnfaaDoor
set_option linter.unusedVariables false
set_option linter.unusedSimpArgs false
open Go.RowKit Go.Shelf
def inB (C : CurD) (cell cur : Int) : Bool := wthn cell 0 ((C.plasma.length : Int) - 1) && wthn cur 0 1000000
def filaE (M : MachD) (C : CurD) (cell cur : Int) : Int := if validC M C = true then if inB C cell cur = true then 0 else 7 else 1
def filaD (C : CurD) (cell cur : Int) : CurD := ⟨C.coils, C.shells, (List.replicate C.plasma.length 0).set cell.toNat cur⟩
theorem seWithin_any (n a b : Int) (w : World) :
    Calls Tryd.prog 12 #[.int .i64 n, .int .i64 a, .int .i64 b] w fun e w' => e = .returned (.bool (wthn n a b)) ∧ w = w' := by
  go_enter Tryd.func12, Tryd.ntmps12
  go_wp2
  all_goals go_ret
  all_goals (simp [wthn]; try omega)
end Go.Proofs.YtapldonpflgnfaaDoor
end
section
namespace Go.Proofs.YtapldonpflgnfaaDoor
set_option linter.unusedVariables false
set_option linter.unusedSimpArgs false
set_option autoImplicit false
open Go.RowKit
section
variable {P : Program} {e0 : Cfg} {U : Snaps} {l : Slots} {L : Boxes} {ops : Array Oper} {Q : Exit → Act → World → Prop} {rest : List Oper} {d : Nat} {v : Value}
variable {ty : TypeId} {pos : String} {af : Array Edge} {g : Option (Nat × Bool)} {dd : Option Nat}
theorem Fr.defer {n : Nat} {D : List Deferred} {w0 : World} {bs : List Nat} {a : Act} (h : Fr ⟨n, D, w0, bs⟩ l a) (x : Deferred) (u : Value) : Fr ⟨n, x :: D, w0, bs⟩ l ({ a with defers := x :: a.defers }.put none u) :=
  ⟨h.size, by show x :: a.defers = x :: D; rw [h.defers], h.slot⟩
end
end Go.Proofs.YtapldonpflgnfaaDoor
end
section
namespace Go.Proofs.YtapldonpflgnfaaDoor
set_option linter.unusedVariables false
set_option linter.unusedSimpArgs false
open Go.RowKit
theorem flat_get {α : Type} {n : Nat} {enc : α → List Value} (hl : ∀ x, (enc x).length = n) : ∀ (zs : List α) (j : Nat) (x : α), zs[j]? = some x → ∀ (i : Nat) (v : Value), (enc x)[i]? = some v → (zs.flatMap enc)[j * n + i]? = some v
  | [], j, x, h, i, v, hv => by simp at h
  | z :: zs, 0, x, h, i, v, hv => by
    obtain rfl : z = x := by simpa using h
    have hi := (List.getElem?_eq_some_iff.1 hv).1
    simp only [List.flatMap_cons, Nat.zero_mul, Nat.zero_add]
    rw [List.getElem?_append_left hi]; exact hv
  | z :: zs, j + 1, x, h, i, v, hv => by
    simp only [List.flatMap_cons]
    rw [List.getElem?_append_right (by rw [hl, Nat.add_mul]; omega), hl]
    have e : (j + 1) * n + i - n = j * n + i := by rw [Nat.add_mul]; omega
    rw [e]
    exact flat_get hl zs j x (by simpa using h) i v hv
theorem isT_box {α : Type} {n : Nat} {enc : α → List Value} (hl : ∀ x, (enc x).length = n) {w : World} {b : Nat} {cs sp : List Value} {zs : List α} {len : Nat} (h : BoxAt w b (.cells (cs ++ sp))) (hz : zs.flatMap enc = cs) (hn : zs.length = len) : IsT n enc w (some ⟨b, 0, none⟩) len zs := by
  refine ⟨hn, fun _ => ⟨b, 0, rfl, h.lt, fun j x hx i v hv => ?_⟩⟩
  have hc := flat_get hl zs j x hx i v hv
  rw [hz] at hc
  have hlt := (List.getElem?_eq_some_iff.1 hc).1
  rw [Nat.zero_add]
  exact (h.cell _ rfl _ v (by rw [List.getElem?_append_left hlt]; exact hc)).1
theorem isT_box0 {α : Type} {n : Nat} {enc : α → List Value} (hl : ∀ x, (enc x).length = n) {w : World} {b : Nat} {cs : List Value} {zs : List α} {len : Nat} (h : BoxAt w b (.cells cs)) (hz : zs.flatMap enc = cs) (hn : zs.length = len) : IsT n enc w (some ⟨b, 0, none⟩) len zs :=
  isT_box (sp := []) hl (by simpa using h) hz hn
theorem Sta.at {E : Cfg} {U : Snaps} {L : Boxes} {w : World} (h : Sta E U L w) (i : Nat) {b : Nat} {c : Cont} (hi : L[i]? = some (b, c)) : BoxAt w b c := (h.box i b c hi).2
theorem Sta.isT {α : Type} {n : Nat} {enc : α → List Value} {E : Cfg} {U : Snaps} {L : Boxes} {w : World} (h : Sta E U L w) {lo : Nat} {u : World} (hu : (lo, u) ∈ U) {A : Option Addr} {len : Nat} {zs : List α} (hz : IsT n enc u A len zs)
    (hA : ∀ b o, A = some ⟨b, o, none⟩ → lo ≤ b ∨ b < E.w.heap.size ∧ b ∉ E.lent) : IsT n enc w A len zs :=
  ⟨hz.1, fun h0 => by
    obtain ⟨b, o, e, h1, h2⟩ := hz.2 h0
    have hk : w.heap[b]? = u.heap[b]? := h.old hu (by rcases hA b o e with g | g; exact Or.inl ⟨g, h1⟩; exact Or.inr g)
    refine ⟨b, o, e, ?_, fun j x hx i v hv => ?_⟩
    · have := (h.snap lo u hu).2.2.1; omega
    · rw [World.cell?_of_block (w := u) (w' := w) (a := ⟨b, _, none⟩) hk]; exact h2 j x hx i v hv⟩
structure NewM (w : World) (R : MachR) : Prop where
  a : ∀ b o, R.A = some ⟨b, o, none⟩ → w.heap.size ≤ b
  b : ∀ b o, R.B = some ⟨b, o, none⟩ → w.heap.size ≤ b
  c : ∀ b o, R.C = some ⟨b, o, none⟩ → w.heap.size ≤ b
  d : ∀ b o, R.D = some ⟨b, o, none⟩ → w.heap.size ≤ b
theorem NewM.mono {w v : World} {R : MachR} (h : NewM v R) (hz : w.heap.size ≤ v.heap.size) : NewM w R :=
  ⟨fun b o e => Nat.le_trans hz (h.a b o e), fun b o e => Nat.le_trans hz (h.b b o e), fun b o e => Nat.le_trans hz (h.c b o e), fun b o e => Nat.le_trans hz (h.d b o e)⟩
theorem Sta.new {n : Nat} {D : List Deferred} {w0 : World} {U : Snaps} {L : Boxes} {w : World} (h : Sta ⟨n, D, w0, []⟩ U L w) (i : Nat) {b : Nat} {c : Cont} (hi : L[i]? = some (b, c)) : ∀ b' o, some (⟨b, 0, none⟩ : Addr) = some ⟨b', o, none⟩ → w0.heap.size ≤ b' := fun b' o e => by
  cases e
  rcases (h.box i b c hi).1 with g | g
  · exact g
  · cases g
theorem Sta.isM {E : Cfg} {U : Snaps} {L : Boxes} {w : World} (h : Sta E U L w) {v u : World} (hu : (v.heap.size, u) ∈ U) {R : MachR} {M : MachD} (hM : IsM u R M) (hN : NewM v R) : IsM w R M :=
  ⟨h.isT hu hM.coils fun b o e => Or.inl (hN.a b o e), h.isT hu hM.shells fun b o e => Or.inl (hN.b b o e), h.isT hu hM.limits fun b o e => Or.inl (hN.c b o e), h.isT hu hM.sensors fun b o e => Or.inl (hN.d b o e), hM.la, hM.lb, hM.lc, hM.ld, hM.ca, hM.cb, hM.cc, hM.cd, hM.ka, hM.kb, hM.kc, hM.kd⟩
end Go.Proofs.YtapldonpflgnfaaDoor
end
