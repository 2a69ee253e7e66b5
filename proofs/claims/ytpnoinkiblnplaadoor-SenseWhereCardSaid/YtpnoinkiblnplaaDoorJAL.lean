import Derived.Test.YtpnoinkiblnplaaDoorJAA
import Derived.Test.YtpnoinkiblnplaaDoorJAD
import Derived.Deep.RegionHeld3
import Derived.Deep.DeepCutAuto
import Derived.Deep.QuietTactic
import Derived.BigQuiet
import Derived.IntWalk
section
/- Blocks whose cells are known, carried on as long as the memory below stays, over this seat's translation (written by mk_whc.py). -/
namespace Go.Proofs.YtpnoinkiblnplaaDoor
set_option linter.unusedVariables false
set_option linter.unusedSimpArgs false
open Go.RowKit

/-- Block b holds the values vs from its first cell on. -/
def BoxL (b : Nat) (vs : List Value) (W : World) : Prop := b < W.heap.size ∧ ∀ (k : Nat) (v : Value), vs[k]? = some v → W.cell? ⟨b, k, none⟩ = some v
theorem BoxL.at {b : Nat} {vs : List Value} {W : World} (h : BoxL b vs W) (k : Nat) (v : Value) (hv : vs[k]? = some v) : W.cell? ⟨b, k, none⟩ = some v := h.2 k v hv
theorem BoxL.below {b : Nat} {vs : List Value} {W W' : World} (h : BoxL b vs W) (hb : Below W.heap.size W W') : BoxL b vs W' :=
  ⟨Nat.lt_of_lt_of_le h.1 hb.size, fun k v hv => (hb.cell (p := ⟨b, k, none⟩) h.1).trans (h.2 k v hv)⟩
theorem BoxL.mk1 {b : Nat} {v0 : Value} {W : World} (hb : b < W.heap.size) (h0 : W.cell? ⟨b, 0, none⟩ = some v0) : BoxL b [v0] W :=
  ⟨hb, fun k v hv => by match k, hv with | 0, hv => rw [h0]; exact hv⟩
theorem BoxL.mk2 {b : Nat} {v0 v1 : Value} {W : World} (hb : b < W.heap.size) (h0 : W.cell? ⟨b, 0, none⟩ = some v0) (h1 : W.cell? ⟨b, 1, none⟩ = some v1) : BoxL b [v0, v1] W :=
  ⟨hb, fun k v hv => by match k, hv with | 0, hv => rw [h0]; exact hv | 1, hv => rw [h1]; exact hv⟩
theorem BoxL.mk3 {b : Nat} {v0 v1 v2 : Value} {W : World} (hb : b < W.heap.size) (h0 : W.cell? ⟨b, 0, none⟩ = some v0) (h1 : W.cell? ⟨b, 1, none⟩ = some v1) (h2 : W.cell? ⟨b, 2, none⟩ = some v2) : BoxL b [v0, v1, v2] W :=
  ⟨hb, fun k v hv => by match k, hv with | 0, hv => rw [h0]; exact hv | 1, hv => rw [h1]; exact hv | 2, hv => rw [h2]; exact hv⟩
theorem BoxL.mk10 {b : Nat} {v0 v1 v2 v3 v4 v5 v6 v7 v8 v9 : Value} {W : World} (hb : b < W.heap.size) (h0 : W.cell? ⟨b, 0, none⟩ = some v0) (h1 : W.cell? ⟨b, 1, none⟩ = some v1) (h2 : W.cell? ⟨b, 2, none⟩ = some v2) (h3 : W.cell? ⟨b, 3, none⟩ = some v3) (h4 : W.cell? ⟨b, 4, none⟩ = some v4) (h5 : W.cell? ⟨b, 5, none⟩ = some v5) (h6 : W.cell? ⟨b, 6, none⟩ = some v6) (h7 : W.cell? ⟨b, 7, none⟩ = some v7) (h8 : W.cell? ⟨b, 8, none⟩ = some v8) (h9 : W.cell? ⟨b, 9, none⟩ = some v9) : BoxL b [v0, v1, v2, v3, v4, v5, v6, v7, v8, v9] W :=
  ⟨hb, fun k v hv => by match k, hv with | 0, hv => rw [h0]; exact hv | 1, hv => rw [h1]; exact hv | 2, hv => rw [h2]; exact hv | 3, hv => rw [h3]; exact hv | 4, hv => rw [h4]; exact hv | 5, hv => rw [h5]; exact hv | 6, hv => rw [h6]; exact hv | 7, hv => rw [h7]; exact hv | 8, hv => rw [h8]; exact hv | 9, hv => rw [h9]; exact hv⟩
/-- The first n cells of block b bear no mark. -/
def MarkL (b n : Nat) (W : World) : Prop := b < W.heap.size ∧ ∀ k, k < n → W.frozen? ⟨b, k, none⟩ = false
theorem MarkL.at {b n : Nat} {W : World} (h : MarkL b n W) (k : Nat) (hk : k < n) : W.frozen? ⟨b, k, none⟩ = false := h.2 k hk
theorem MarkL.below {b n : Nat} {W W' : World} (h : MarkL b n W) (hb : Below W.heap.size W W') : MarkL b n W' :=
  ⟨Nat.lt_of_lt_of_le h.1 hb.size, fun k hk => (hb.frozen (p := ⟨b, k, none⟩) h.1).trans (h.2 k hk)⟩
theorem MarkL.mk2 {b : Nat} {W : World} (hb : b < W.heap.size) (h0 : W.frozen? ⟨b, 0, none⟩ = false) (h1 : W.frozen? ⟨b, 1, none⟩ = false) : MarkL b 2 W :=
  ⟨hb, fun k hk => by match k, hk with | 0, _ => exact h0 | 1, _ => exact h1⟩

end Go.Proofs.YtpnoinkiblnplaaDoor
end
section
/- slices.IndexFunc and ContainsFunc over []int, over this seat's translation (written by mk_mac.py). -/
namespace Go.Proofs.YtpnoinkiblnplaaDoor
set_option linter.unusedVariables false
set_option linter.unusedSimpArgs false
open Go.RowKit

set_option maxHeartbeats 2000000 in
theorem indexint2 (k : Nat) (c0 : Nat) (c1 : Nat) (p : Int → Bool) (A : Option Addr) (len cap : Nat) (zs : List Int) (w : World) (hI : IsT 1 intCells w A len zs) (hl : len ≤ 1000000000000000)
    (hE : ∀ (args : Array Value) (W : World), (callFunc k args).run Tryd.prog W = .ok (.enter k args) W)
    (hk : ∀ (x : Int) (W : World), x ∈ zs → Below w.heap.size w W → Calls Tryd.prog k #[intV x, .pointer (some ⟨c0, 0, none⟩), .pointer (some ⟨c1, 0, none⟩)] W (Ret (.bool (p x)) W)) :
    Calls Tryd.prog 106 #[.slice A len cap, .func (.func k) #[] #[.pointer (some ⟨c0, 0, none⟩), .pointer (some ⟨c1, 0, none⟩)]] w (Ret (.int .i64 (idxL p zs)) w) := by
  have HI := Lib.hid hI
  have HK := Lib.hid hk
  have HG : Hid (idxL p zs = idxGo p zs 0) := Lib.hid rfl
  generalize idxL p zs = G at *
  clear hI hk
  go_enter Tryd.func106, Tryd.ntmps106
  go_wp2_with fail
  go_loopw [5, 8] (fun _ i wr => ∃ j : Nat, j ≤ len ∧ i = .int .i64 j ∧ Hid (idxGo p (zs.drop j) j = G) ∧ Below w.heap.size w wr) (fun _ i _ => len - (intOf i).toNat)
  case atStart => exact ⟨0, Nat.zero_le _, rfl, Lib.hid HG.out.symm, Below.refl _ _⟩
  case round =>
    obtain ⟨j, hj, rfl, hG, hB⟩ := hrel
    by_cases hlt : j < len
    · obtain ⟨hzl, hcl⟩ := HI.out.below hB
      obtain ⟨b, o, rfl, hb0, hcl⟩ := hcl (by omega)
      obtain ⟨x, hx⟩ : ∃ x, zs[j]? = some x := ⟨_, List.getElem?_eq_getElem (by omega)⟩
      have HM := Lib.hid (List.mem_of_getElem? hx)
      have HS := Lib.hid (idxGo_drop p hx (j : Int))
      have x0 : wr.cell? ⟨b, o + j, none⟩ = some (.int .i64 x) := by have h := hcl j x hx 0 _ rfl; simpa using h
      have hsz := hB.size
      have HC := Lib.hid (HK.out x)
      clear hcl hx hzl
      cases hp : p x
      · have HN : Hid (idxGo p (zs.drop (j + 1)) ((j + 1 : Nat) : Int) = G) := Lib.hid (by rw [← hG.out, HS.out, hp]; rfl)
        have HC := Lib.hid (show ∀ W, Below w.heap.size w W → Calls Tryd.prog k #[intV x, .pointer (some ⟨c0, 0, none⟩), .pointer (some ⟨c1, 0, none⟩)] W (Ret (.bool false) W) from fun W h => by have := HC.out W HM.out h; rwa [hp] at this)
        clear hp
        go_wp2_with ((with_reducible show Calls _ k _ _ _); refine (HC.out _ (by (repeat first | with_reducible exact Below.refl _ _ | with_reducible assumption | (with_reducible refine Below.setCell ?_ ?_ _; rotate_left; exact (by first | omega | (simp; done) | (simp; omega))) | (with_reducible refine Below.alloc ?_ ?_ _; rotate_left; exact (by first | omega | (simp; done) | (simp; omega))) | with_reducible refine Below.drew ?_ | with_reducible refine Below_drewN ?_ _))).mono ?_; rintro e w1 ⟨rfl, hb⟩; have hB1 : Below w.heap.size w w1 := Below.trans (by (repeat first | with_reducible exact Below.refl _ _ | with_reducible assumption | (with_reducible refine Below.setCell ?_ ?_ _; rotate_left; exact (by first | omega | (simp; done) | (simp; omega))) | (with_reducible refine Below.alloc ?_ ?_ _; rotate_left; exact (by first | omega | (simp; done) | (simp; omega))) | with_reducible refine Below.drew ?_ | with_reducible refine Below_drewN ?_ _)) (hb.mono (by first | omega | ((try simp only [World.size_alloc, World.size_setCell, size_drew, size_drewN]); omega) | (simp; done) | (simp; omega))))
        go_roundw
        case rel => exact ⟨j + 1, by omega, by go_num, HN, by (repeat first | with_reducible exact Below.refl _ _ | with_reducible assumption | (with_reducible refine Below.setCell ?_ ?_ _; rotate_left; exact (by first | omega | (simp; done) | (simp; omega))) | (with_reducible refine Below.alloc ?_ ?_ _; rotate_left; exact (by first | omega | (simp; done) | (simp; omega))) | with_reducible refine Below.drew ?_ | with_reducible refine Below_drewN ?_ _)⟩
        case measure => simp [intOf]; omega
      · have HN : Hid ((j : Int) = G) := Lib.hid (by rw [← hG.out, HS.out, hp]; rfl)
        have HC := Lib.hid (show ∀ W, Below w.heap.size w W → Calls Tryd.prog k #[intV x, .pointer (some ⟨c0, 0, none⟩), .pointer (some ⟨c1, 0, none⟩)] W (Ret (.bool true) W) from fun W h => by have := HC.out W HM.out h; rwa [hp] at this)
        clear hp
        go_wp2_with ((with_reducible show Calls _ k _ _ _); refine (HC.out _ (by (repeat first | with_reducible exact Below.refl _ _ | with_reducible assumption | (with_reducible refine Below.setCell ?_ ?_ _; rotate_left; exact (by first | omega | (simp; done) | (simp; omega))) | (with_reducible refine Below.alloc ?_ ?_ _; rotate_left; exact (by first | omega | (simp; done) | (simp; omega))) | with_reducible refine Below.drew ?_ | with_reducible refine Below_drewN ?_ _))).mono ?_; rintro e w1 ⟨rfl, hb⟩; have hB1 : Below w.heap.size w w1 := Below.trans (by (repeat first | with_reducible exact Below.refl _ _ | with_reducible assumption | (with_reducible refine Below.setCell ?_ ?_ _; rotate_left; exact (by first | omega | (simp; done) | (simp; omega))) | (with_reducible refine Below.alloc ?_ ?_ _; rotate_left; exact (by first | omega | (simp; done) | (simp; omega))) | with_reducible refine Below.drew ?_ | with_reducible refine Below_drewN ?_ _)) (hb.mono (by first | omega | ((try simp only [World.size_alloc, World.size_setCell, size_drew, size_drewN]); omega) | (simp; done) | (simp; omega))))
        go_ret
        exact ⟨by rw [← HN.out]; rfl, by (repeat first | with_reducible exact Below.refl _ _ | with_reducible assumption | (with_reducible refine Below.setCell ?_ ?_ _; rotate_left; exact (by first | omega | (simp; done) | (simp; omega))) | (with_reducible refine Below.alloc ?_ ?_ _; rotate_left; exact (by first | omega | (simp; done) | (simp; omega))) | with_reducible refine Below.drew ?_ | with_reducible refine Below_drewN ?_ _)⟩
    · have HN : Hid ((-1 : Int) = G) := Lib.hid (by rw [← hG.out, List.drop_of_length_le (by rw [HI.out.1]; omega)]; rfl)
      go_wp2
      go_ret
      exact ⟨by rw [← HN.out]; rfl, hB⟩

set_option maxHeartbeats 1000000 in
theorem containsint2 (k : Nat) (c0 : Nat) (c1 : Nat) (p : Int → Bool) (A : Option Addr) (len cap : Nat) (zs : List Int) (w : World) (hI : IsT 1 intCells w A len zs) (hl : len ≤ 1000000000000000)
    (hE : ∀ (args : Array Value) (W : World), (callFunc k args).run Tryd.prog W = .ok (.enter k args) W)
    (hk : ∀ (x : Int) (W : World), x ∈ zs → Below w.heap.size w W → Calls Tryd.prog k #[intV x, .pointer (some ⟨c0, 0, none⟩), .pointer (some ⟨c1, 0, none⟩)] W (Ret (.bool (p x)) W)) :
    Calls Tryd.prog 85 #[.slice A len cap, .func (.func k) #[] #[.pointer (some ⟨c0, 0, none⟩), .pointer (some ⟨c1, 0, none⟩)]] w (Ret (.bool (zs.any p)) w) := by
  have HI := Lib.hid (indexint2 k c0 c1 p A len cap zs w hI hl hE hk)
  have HA := Lib.hid (idxL_nonneg p zs)
  obtain ⟨b1, b2⟩ := idxL_bd p zs
  rw [hI.1] at b2
  clear hI hE hk
  generalize idxL p zs = G at *
  go_enter Tryd.func85, Tryd.ntmps85
  go_wp2_with (go_at_call 106; refine HI.out.mono ?_; rintro e w1 ⟨rfl, hb⟩)
  go_ret
  exact ⟨by rw [← HA.out]; rfl, hb⟩

end Go.Proofs.YtpnoinkiblnplaaDoor
end
section
/- Package machine: contracts of allWithin and Total, over this seat's translation; what valid currents are. -/
namespace Go.Proofs.YtpnoinkiblnplaaDoor
set_option linter.unusedVariables false
set_option linter.unusedSimpArgs false
open Go.RowKit Go.Shelf

/-- wpAnyH_take with the operation's place for its result written out. -/
theorem wpAnyH_takeD {P : Program} {md : Region.Mode} {ops : Array Oper} {Q : Exit → Act → World → Prop} {S : World → Prop} {i : Nat} {oi : Oper} {v : Value} {fuel : Nat} {listed : Array Bool} {a : Act} {w : World} (d : Option Tmp) (hi : ops[i]? = some oi) (hd : oi.dst = d)
    (hs : Region.noSelect ops = true) (hf : Region.free md ops listed i = true) (hr : (Region.ready md ops listed).contains i = true)
    (hQ : ∀ c a w, Q (.panic c) (a.put d v) w → Q (.panic c) a w) (hy : YieldsIf P ops S oi v a) (hS : S w)
    (h : wpAnyH P md ops Q S fuel (listed.setIfInBounds i true) (a.put d v) w) : wpAnyH P md ops Q S (fuel + 1) listed a w := by
  subst hd
  exact wpAnyH_take hi hs hf hr hQ hy hS h

set_option maxHeartbeats 1000000 in
theorem allWithin1_any (x a b : Int) (c0 c1 : Nat) (w : World) (h0 : w.cell? ⟨c0, 0, none⟩ = some (.int .i64 a)) (h1 : w.cell? ⟨c1, 0, none⟩ = some (.int .i64 b)) :
    Calls Tryd.prog 86 #[intV x, .pointer (some ⟨c0, 0, none⟩), .pointer (some ⟨c1, 0, none⟩)] w (Ret (.bool (!wthn x a b)) w) := by
  go_enter Tryd.func86, Tryd.ntmps86
  go_wp2_with (go_at_call 32; refine (mwithin_any _ _ _ _).mono ?_; rintro e w1 ⟨rfl, rfl⟩)
  go_ret
  exact ⟨rfl, by (repeat first | with_reducible exact Below.refl _ _ | with_reducible assumption | (with_reducible refine Below.setCell ?_ ?_ _; rotate_left; exact (by first | omega | (simp; done) | (simp; omega))) | (with_reducible refine Below.alloc ?_ ?_ _; rotate_left; exact (by first | omega | (simp; done) | (simp; omega))) | with_reducible refine Below.drew ?_ | with_reducible refine Below_drewN ?_ _)⟩

def allW (l : List Int) (a b : Int) : Bool := l.all fun x => wthn x a b
theorem not_any_allW (l : List Int) (a b : Int) : (!(l.any fun x => !wthn x a b)) = allW l a b := by
  unfold allW
  induction l with
  | nil => rfl
  | cons x r ih => simp only [List.any_cons, List.all_cons, Bool.not_or, Bool.not_not, ih]

set_option maxHeartbeats 1000000 in
theorem allWithin_any (A : Option Addr) (len cap : Nat) (zs : List Int) (a b : Int) (w : World) (hI : IsT 1 intCells w A len zs) (hl : len ≤ 1000000000000000) :
    Calls Tryd.prog 44 #[.slice A len cap, .int .i64 a, .int .i64 b] w (Ret (.bool (allW zs a b)) w) := by
  have HE := Lib.hid (not_any_allW zs a b)
  have HC := Lib.hid (fun W (hb : Below w.heap.size w W) (h0 : w.heap.size + 1 < W.heap.size) (h1 : W.cell? ⟨w.heap.size, 0, none⟩ = some (.int .i64 a)) (h2 : W.cell? ⟨w.heap.size + 1, 0, none⟩ = some (.int .i64 b)) =>
    containsint2 86 w.heap.size (w.heap.size + 1) (fun x => !wthn x a b) A len cap zs W (hI.below hb) hl (fun args W => enters_of Tryd.func86 (by kernel_rfl) rfl args W)
      (fun x W' _ hB => allWithin1_any x a b _ _ W' ((hB.cell (p := ⟨w.heap.size, 0, none⟩) (by show w.heap.size < _; omega)).trans h1) ((hB.cell (p := ⟨w.heap.size + 1, 0, none⟩) (by show w.heap.size + 1 < _; omega)).trans h2)))
  clear hI
  generalize allW zs a b = G at *
  generalize (zs.any fun x => !wthn x a b) = K at *
  go_enter Tryd.func44, Tryd.ntmps44
  go_wp2_with (go_at_call 85; refine (HC.out _ (by (repeat first | with_reducible exact Below.refl _ _ | with_reducible assumption | (with_reducible refine Below.setCell ?_ ?_ _; rotate_left; exact (by first | omega | (simp; done) | (simp; omega))) | (with_reducible refine Below.alloc ?_ ?_ _; rotate_left; exact (by first | omega | (simp; done) | (simp; omega))) | with_reducible refine Below.drew ?_ | with_reducible refine Below_drewN ?_ _)) (by first | omega | ((try simp only [World.size_alloc, World.size_setCell, size_drew, size_drewN]); omega) | (simp; done) | (simp; omega)) (by go_simp) (by go_simp)).mono ?_; rintro e w1 ⟨rfl, hb⟩)
  go_ret
  exact ⟨by rw [← HE.out]; rfl, Below.trans (by (repeat first | with_reducible exact Below.refl _ _ | with_reducible assumption | (with_reducible refine Below.setCell ?_ ?_ _; rotate_left; exact (by first | omega | (simp; done) | (simp; omega))) | (with_reducible refine Below.alloc ?_ ?_ _; rotate_left; exact (by first | omega | (simp; done) | (simp; omega))) | with_reducible refine Below.drew ?_ | with_reducible refine Below_drewN ?_ _)) (hb.mono (by first | omega | ((try simp only [World.size_alloc, World.size_setCell, size_drew, size_drewN]); omega) | (simp; done) | (simp; omega)))⟩

/-- The sum, as the program adds. -/
def tot (s : Int) : List Int → Int
  | [] => s
  | x :: r => tot (wrap64 (s + x)) r
theorem tot_drop {l : List Int} {k : Nat} {x : Int} (h : l[k]? = some x) (s : Int) : tot s (l.drop k) = tot (wrap64 (s + x)) (l.drop (k + 1)) := by
  obtain ⟨hk, rfl⟩ := List.getElem?_eq_some_iff.1 h
  rw [List.drop_eq_getElem_cons hk]; rfl

/-- Where the lists of currents lie. -/
structure CurR where
  (A B C : Option Addr) (la ca lb cb lc cc : Nat)
structure CurD where
  (coils shells plasma : List Int)
abbrev CurR.v (R : CurR) : Value := .agg #[.slice R.A R.la R.ca, .slice R.B R.lb R.cb, .slice R.C R.lc R.cc]
structure IsC (w : World) (R : CurR) (C : CurD) : Prop where
  coils : IsT 1 intCells w R.A R.la C.coils
  shells : IsT 1 intCells w R.B R.lb C.shells
  plasma : IsT 1 intCells w R.C R.lc C.plasma
  la : R.la ≤ R.ca
  lb : R.lb ≤ R.cb
  lc : R.lc ≤ R.cc
  ca : R.ca ≤ 9223372036854775807
  cb : R.cb ≤ 9223372036854775807
  cc : R.cc ≤ 9223372036854775807
  ka : R.la ≤ 1000000000000000
  kb : R.lb ≤ 1000000000000000
  kc : R.lc ≤ 1000000000000000
theorem IsC.below {w w1 : World} {R : CurR} {C : CurD} (h : IsC w R C) (hb : Below w.heap.size w w1) : IsC w1 R C :=
  ⟨h.coils.below hb, h.shells.below hb, h.plasma.below hb, h.la, h.lb, h.lc, h.ca, h.cb, h.cc, h.ka, h.kb, h.kc⟩

set_option maxHeartbeats 1000000 in
theorem total_any (A B C : Option Addr) (la ca lb cb len cap : Nat) (zs : List Int) (w : World) (hI : IsT 1 intCells w C len zs) (hl : len ≤ 1000000000000000) :
    Calls Tryd.prog 46 #[.agg #[.slice A la ca, .slice B lb cb, .slice C len cap]] w (Ret (.int .i64 (tot 0 zs)) w) := by
  have HI := Lib.hid hI
  obtain ⟨G, hG0⟩ : ∃ G, tot 0 zs = G := ⟨_, rfl⟩
  have HG := Lib.hid hG0
  rw [hG0]
  clear hG0 hI
  go_enter Tryd.func46, Tryd.ntmps46
  go_wp2_with fail
  go_loopw [3, 5, 9] (fun s _ i wr => ∃ (j : Nat) (t : Int), j ≤ len ∧ i = .int .i64 j ∧ s = .int .i64 t ∧ Hid (tot t (zs.drop j) = G) ∧ Below w.heap.size w wr) (fun _ _ i _ => len - (intOf i).toNat)
  case atStart => exact ⟨0, 0, Nat.zero_le _, rfl, rfl, Lib.hid HG.out, by (repeat first | with_reducible exact Below.refl _ _ | with_reducible assumption | (with_reducible refine Below.setCell ?_ ?_ _; rotate_left; exact (by first | omega | (simp; done) | (simp; omega))) | (with_reducible refine Below.alloc ?_ ?_ _; rotate_left; exact (by first | omega | (simp; done) | (simp; omega))) | with_reducible refine Below.drew ?_ | with_reducible refine Below_drewN ?_ _)⟩
  case round =>
    obtain ⟨j, t, hj, rfl, rfl, hG, hB⟩ := hrel
    by_cases hlt : j < len
    · obtain ⟨hzl, hcl⟩ := HI.out.below hB
      obtain ⟨b, o, rfl, hb0, hcl⟩ := hcl (by omega)
      obtain ⟨x, hx⟩ : ∃ x, zs[j]? = some x := ⟨_, List.getElem?_eq_getElem (by omega)⟩
      have HN := Lib.hid ((tot_drop hx t).symm.trans hG.out)
      have x0 : wr.cell? ⟨b, o + j, none⟩ = some (.int .i64 x) := by have h := hcl j x hx 0 _ rfl; simpa using h
      clear hcl hx hzl
      go_wp2_with fail
      go_roundw
      case rel => exact ⟨j + 1, _, by omega, by go_num, rfl, HN, hB⟩
      case measure => simp [intOf]; omega
    · have HN : Hid (t = G) := Lib.hid (by rw [← hG.out, List.drop_of_length_le (by rw [HI.out.1]; omega)]; rfl)
      go_wp2
      go_ret
      exact ⟨by rw [← HN.out]; rfl, hB⟩

/-- Currents are valid for a machine. -/
def validC (M : MachD) (C : CurD) : Bool :=
  decide (checkC M = 0) && (decide (C.coils.length = M.coils.length) && (allW C.coils (-1000000) 1000000 && (decide (C.shells.length = M.shells.length) && (allW C.shells (-1000000) 1000000 &&
    (decide ((C.plasma.length : Int) = M.grid.nr * M.grid.nz) && (allW C.plasma 0 1000000 && decide (tot 0 C.plasma ≤ 1000000)))))))

end Go.Proofs.YtpnoinkiblnplaaDoor
end
