import Derived.Test.YtnplgnennmhkeaaJAA
import Derived.Test.YtnplgnennmhkeaaJAD
import Derived.Test.YtnplgnennmhkeaaJAI
import Derived.Deep.RegionHeld3
import Derived.Deep.DeepCutAuto
import Derived.Deep.QuietTactic
import Derived.BigQuiet
import Derived.IntWalk
import Derived.Lib.Hide
section
/- Package control: gains, setups, shapes, wishes as data, over this seat's translation (written by mk_ctg.py). -/
namespace Go.Proofs.Ytnplgnennmhkeaa
set_option linter.unusedVariables false
set_option linter.unusedSimpArgs false
open Go.RowKit Go.Shelf

structure GainD where
  (r z sr sz : Int)
abbrev GainD.v (x : GainD) : Value := .agg #[.int .i64 x.r, .int .i64 x.z, .int .i64 x.sr, .int .i64 x.sz]
def GainD.cells (x : GainD) : List Value := [.int .i64 x.r, .int .i64 x.z, .int .i64 x.sr, .int .i64 x.sz]
structure QuantD where
  (word : ByteArray) (k : Nat)
abbrev QuantD.v (x : QuantD) : Value := .agg #[.string x.word, .func (.func x.k) #[] #[]]
def QuantD.cells (x : QuantD) : List Value := [.string x.word, .func (.func x.k) #[] #[]]
/-- A gain has a number beyond 10^6. -/
def strongB (x : GainD) : Bool := [x.r, x.z, x.sr, x.sz].any fun n => !wthn n (-1000000) 1000000
/-- What a valid setup is. -/
def setupB (M : MachD) (gs : List GainD) (most : Int) : Bool := decide (checkC M = 0) && (decide (gs.length = M.coils.length) && (!(gs.any strongB) && wthn most 0 1000000000))
structure ShapeD where
  (a0 b0 a1 b1 a2 b2 a3 b3 a4 b4 a5 b5 a6 b6 a7 b7 : Int)
abbrev ShapeD.v (s : ShapeD) : Value := .agg #[.int .i64 s.a0, .int .i64 s.b0, .int .i64 s.a1, .int .i64 s.b1, .int .i64 s.a2, .int .i64 s.b2, .int .i64 s.a3, .int .i64 s.b3, .int .i64 s.a4, .int .i64 s.b4, .int .i64 s.a5, .int .i64 s.b5, .int .i64 s.a6, .int .i64 s.b6, .int .i64 s.a7, .int .i64 s.b7]
def okS (s : ShapeD) : Bool := (vld s.a0 s.b0 && (vld s.a1 s.b1 && (vld s.a2 s.b2 && (vld s.a3 s.b3 && (vld s.a4 s.b4 && (vld s.a5 s.b5 && (vld s.a6 s.b6 && vld s.a7 s.b7)))))))
def numB (l : List Int) : Bool := l.all fun x => wthn x (-1000000000000000) 1000000000000000

end Go.Proofs.Ytnplgnennmhkeaa
end
section
/- slices.IndexFunc and ContainsFunc over []Quant, over this seat's translation (written by mk_mac.py). -/
namespace Go.Proofs.Ytnplgnennmhkeaa
set_option linter.unusedVariables false
set_option linter.unusedSimpArgs false
open Go.RowKit

set_option maxHeartbeats 2000000 in
theorem indexQuant1 (k : Nat) (c0 : Nat) (p : QuantD → Bool) (A : Option Addr) (len cap : Nat) (zs : List QuantD) (w : World) (hI : IsT 2 QuantD.cells w A len zs) (hl : len ≤ 1000000000000000)
    (hE : ∀ (args : Array Value) (W : World), (callFunc k args).run Try.prog W = .ok (.enter k args) W)
    (hk : ∀ (x : QuantD) (W : World), x ∈ zs → Below w.heap.size w W → Calls Try.prog k #[QuantD.v x, .pointer (some ⟨c0, 0, none⟩)] W (Ret (.bool (p x)) W)) :
    Calls Try.prog 94 #[.slice A len cap, .func (.func k) #[] #[.pointer (some ⟨c0, 0, none⟩)]] w (Ret (.int .i64 (idxL p zs)) w) := by
  have HI := Lib.hid hI
  have HK := Lib.hid hk
  have HG : Hid (idxL p zs = idxGo p zs 0) := Lib.hid rfl
  generalize idxL p zs = G at *
  clear hI hk
  go_enter Try.func94, Try.ntmps94
  go_wp2_with fail
  go_loopw [5, 8] (fun _ i wr => ∃ j : Nat, j ≤ len ∧ i = .int .i64 j ∧ Hid (idxGo p (zs.drop j) j = G) ∧ Below w.heap.size w wr) (fun _ i _ => len - (intOf i).toNat)
  case atStart => exact ⟨0, Nat.zero_le _, rfl, Lib.hid HG.out.symm, Below.refl _ _⟩
  case round =>
    obtain ⟨j, hj, rfl, hG, hB⟩ := hrel
    by_cases hlt : j < len
    · obtain ⟨hzl, hcl⟩ := HI.out.below hB
      obtain ⟨b, o, rfl, hb0, hcl⟩ := hcl (by omega)
      obtain ⟨x, hx⟩ : ∃ x, zs[j]? = some x := ⟨_, List.getElem?_eq_getElem (by omega)⟩
      have HM := Lib.hid (List.mem_of_getElem? hx)
      have HS := Lib.hid (idxGo_drop p hx (j : Int))
      have x0 : wr.cell? ⟨b, o + j * 2, none⟩ = some (.string x.word) := by have h := hcl j x hx 0 _ rfl; simpa using h
      have x1 : wr.cell? ⟨b, o + j * 2 + 1, none⟩ = some (.func (.func x.k) #[] #[]) := by have h := hcl j x hx 1 _ rfl; simpa using h
      have hsz := hB.size
      have HC := Lib.hid (HK.out x)
      clear hcl hx hzl
      cases hp : p x
      · have HN : Hid (idxGo p (zs.drop (j + 1)) ((j + 1 : Nat) : Int) = G) := Lib.hid (by rw [← hG.out, HS.out, hp]; rfl)
        have HC := Lib.hid (show ∀ W, Below w.heap.size w W → Calls Try.prog k #[QuantD.v x, .pointer (some ⟨c0, 0, none⟩)] W (Ret (.bool false) W) from fun W h => by have := HC.out W HM.out h; rwa [hp] at this)
        clear hp
        go_wp2_with ((with_reducible show Calls _ k _ _ _); refine (HC.out _ (by (repeat first | with_reducible exact Below.refl _ _ | with_reducible assumption | (with_reducible refine Below.setCell ?_ ?_ _; rotate_left; exact (by first | omega | (simp; done) | (simp; omega))) | (with_reducible refine Below.alloc ?_ ?_ _; rotate_left; exact (by first | omega | (simp; done) | (simp; omega))) | with_reducible refine Below.drew ?_ | with_reducible refine Below_drewN ?_ _))).mono ?_; rintro e w1 ⟨rfl, hb⟩; have hB1 : Below w.heap.size w w1 := Below.trans (by (repeat first | with_reducible exact Below.refl _ _ | with_reducible assumption | (with_reducible refine Below.setCell ?_ ?_ _; rotate_left; exact (by first | omega | (simp; done) | (simp; omega))) | (with_reducible refine Below.alloc ?_ ?_ _; rotate_left; exact (by first | omega | (simp; done) | (simp; omega))) | with_reducible refine Below.drew ?_ | with_reducible refine Below_drewN ?_ _)) (hb.mono (by first | omega | ((try simp only [World.size_alloc, World.size_setCell, size_drew, size_drewN]); omega) | (simp; done) | (simp; omega))))
        go_roundw
        case rel => exact ⟨j + 1, by omega, by go_num, HN, by (repeat first | with_reducible exact Below.refl _ _ | with_reducible assumption | (with_reducible refine Below.setCell ?_ ?_ _; rotate_left; exact (by first | omega | (simp; done) | (simp; omega))) | (with_reducible refine Below.alloc ?_ ?_ _; rotate_left; exact (by first | omega | (simp; done) | (simp; omega))) | with_reducible refine Below.drew ?_ | with_reducible refine Below_drewN ?_ _)⟩
        case measure => simp [intOf]; omega
      · have HN : Hid ((j : Int) = G) := Lib.hid (by rw [← hG.out, HS.out, hp]; rfl)
        have HC := Lib.hid (show ∀ W, Below w.heap.size w W → Calls Try.prog k #[QuantD.v x, .pointer (some ⟨c0, 0, none⟩)] W (Ret (.bool true) W) from fun W h => by have := HC.out W HM.out h; rwa [hp] at this)
        clear hp
        go_wp2_with ((with_reducible show Calls _ k _ _ _); refine (HC.out _ (by (repeat first | with_reducible exact Below.refl _ _ | with_reducible assumption | (with_reducible refine Below.setCell ?_ ?_ _; rotate_left; exact (by first | omega | (simp; done) | (simp; omega))) | (with_reducible refine Below.alloc ?_ ?_ _; rotate_left; exact (by first | omega | (simp; done) | (simp; omega))) | with_reducible refine Below.drew ?_ | with_reducible refine Below_drewN ?_ _))).mono ?_; rintro e w1 ⟨rfl, hb⟩; have hB1 : Below w.heap.size w w1 := Below.trans (by (repeat first | with_reducible exact Below.refl _ _ | with_reducible assumption | (with_reducible refine Below.setCell ?_ ?_ _; rotate_left; exact (by first | omega | (simp; done) | (simp; omega))) | (with_reducible refine Below.alloc ?_ ?_ _; rotate_left; exact (by first | omega | (simp; done) | (simp; omega))) | with_reducible refine Below.drew ?_ | with_reducible refine Below_drewN ?_ _)) (hb.mono (by first | omega | ((try simp only [World.size_alloc, World.size_setCell, size_drew, size_drewN]); omega) | (simp; done) | (simp; omega))))
        go_ret
        exact ⟨by rw [← HN.out]; rfl, by (repeat first | with_reducible exact Below.refl _ _ | with_reducible assumption | (with_reducible refine Below.setCell ?_ ?_ _; rotate_left; exact (by first | omega | (simp; done) | (simp; omega))) | (with_reducible refine Below.alloc ?_ ?_ _; rotate_left; exact (by first | omega | (simp; done) | (simp; omega))) | with_reducible refine Below.drew ?_ | with_reducible refine Below_drewN ?_ _)⟩
    · have HN : Hid ((-1 : Int) = G) := Lib.hid (by rw [← hG.out, List.drop_of_length_le (by rw [HI.out.1]; omega)]; rfl)
      go_wp2
      go_ret
      exact ⟨by rw [← HN.out]; rfl, hB⟩

set_option maxHeartbeats 1000000 in
theorem containsQuant1 (k : Nat) (c0 : Nat) (p : QuantD → Bool) (A : Option Addr) (len cap : Nat) (zs : List QuantD) (w : World) (hI : IsT 2 QuantD.cells w A len zs) (hl : len ≤ 1000000000000000)
    (hE : ∀ (args : Array Value) (W : World), (callFunc k args).run Try.prog W = .ok (.enter k args) W)
    (hk : ∀ (x : QuantD) (W : World), x ∈ zs → Below w.heap.size w W → Calls Try.prog k #[QuantD.v x, .pointer (some ⟨c0, 0, none⟩)] W (Ret (.bool (p x)) W)) :
    Calls Try.prog 65 #[.slice A len cap, .func (.func k) #[] #[.pointer (some ⟨c0, 0, none⟩)]] w (Ret (.bool (zs.any p)) w) := by
  have HI := Lib.hid (indexQuant1 k c0 p A len cap zs w hI hl hE hk)
  have HA := Lib.hid (idxL_nonneg p zs)
  obtain ⟨b1, b2⟩ := idxL_bd p zs
  rw [hI.1] at b2
  clear hI hE hk
  generalize idxL p zs = G at *
  go_enter Try.func65, Try.ntmps65
  go_wp2_with (go_at_call 94; refine HI.out.mono ?_; rintro e w1 ⟨rfl, hb⟩)
  go_ret
  exact ⟨by rw [← HA.out]; rfl, hb⟩

end Go.Proofs.Ytnplgnennmhkeaa
end
section
/- Plain arithmetic of gains: what a pair leaves possible, what all pairs leave, which pair is the first that leaves nothing; it speaks of no walk. -/
namespace Go.Proofs.Ytnplgnennmhkeaa
set_option linter.unusedVariables false
set_option linter.unusedSimpArgs false

/-- A pair: the value, and the ends of its reading. -/
abbrev Tri := Int × Int × Int
def okP (x : Tri) : Bool := inR x.1 && vld x.2.1 x.2.2
def gLo (x : Tri) : Int := if 0 < x.1 then flo (x.2.1 * 1000) x.1 else if x.1 < 0 then flo (x.2.2 * 1000) x.1 else if x.2.1 ≤ 0 ∧ 0 ≤ x.2.2 then -1000000000 else 1
def gHi (x : Tri) : Int := if 0 < x.1 then cei (x.2.2 * 1000) x.1 else if x.1 < 0 then cei (x.2.1 * 1000) x.1 else if x.2.1 ≤ 0 ∧ 0 ≤ x.2.2 then 1000000000 else 0
/-- What is left of the gains s behind one pair more. -/
def nar (s : Int × Int) (x : Tri) : Int × Int := (max s.1 (gLo x), min s.2 (gHi x))
def all0 : Int × Int := (-1000000000, 1000000000)
def left (s : Int × Int) : List Tri → Int × Int
  | [] => s
  | x :: r => left (nar s x) r
/-- The place of the first pair with which nothing is left, or -1. -/
def first (s : Int × Int) : List Tri → Int → Int
  | [], _ => -1
  | x :: r, i => if vld (nar s x).1 (nar s x).2 = true then first (nar s x) r (i + 1) else i
def allOk (l : List Tri) : Bool := l.all okP
def calL (l : List Tri) : Int × Int × Int :=
  if allOk l = true then if vld (left all0 l).1 (left all0 l).2 = true then ((left all0 l).1, (left all0 l).2, 0) else (0, 0, 8) else (0, 0, 1)
def brokL (l : List Tri) : Int := if allOk l = true then first all0 l 0 else -1

theorem okP_iff {x : Tri} : okP x = true ↔ (-1000000000000000 ≤ x.1 ∧ x.1 ≤ 1000000000000000) ∧ x.2.1 ≤ x.2.2 ∧ -1000000000000000 ≤ x.2.1 ∧ x.2.2 ≤ 1000000000000000 := by
  simp [okP, inR_iff, vld_iff]

/-- The gains that are left lie within the greatest ones. -/
def Near (s : Int × Int) : Prop := -1000000000 ≤ s.1 ∧ s.2 ≤ 1000000000
theorem near_all0 : Near all0 := by unfold Near all0; omega
theorem near_nar {s : Int × Int} (h : Near s) (x : Tri) : Near (nar s x) := by
  unfold Near nar at *; dsimp only; omega
theorem near_left {s : Int × Int} (h : Near s) (l : List Tri) : Near (left s l) := by
  induction l generalizing s with
  | nil => exact h
  | cons x r ih => exact ih (near_nar h x)
theorem vld_near {s : Int × Int} (h : Near s) : vld s.1 s.2 = true ↔ s.1 ≤ s.2 := by
  rw [vld_iff]; unfold Near at h; omega
theorem nar_le {s : Int × Int} (x : Tri) : s.1 ≤ (nar s x).1 ∧ (nar s x).2 ≤ s.2 := by unfold nar; dsimp only; omega
theorem left_le (s : Int × Int) (l : List Tri) : s.1 ≤ (left s l).1 ∧ (left s l).2 ≤ s.2 := by
  induction l generalizing s with
  | nil => exact ⟨Int.le_refl _, Int.le_refl _⟩
  | cons x r ih =>
    have h1 := ih (nar s x)
    have h2 := nar_le (s := s) x
    show s.1 ≤ (left (nar s x) r).1 ∧ (left (nar s x) r).2 ≤ s.2
    omega

/-- There is a first pair with which nothing is left exactly if nothing is left in the end. -/
theorem first_iff {s : Int × Int} (h : Near s) (hs : vld s.1 s.2 = true) (l : List Tri) (i : Int) (hi : 0 ≤ i) : first s l i = -1 ↔ vld (left s l).1 (left s l).2 = true := by
  induction l generalizing s i with
  | nil => simp [first, left, hs]
  | cons x r ih =>
    show (if vld (nar s x).1 (nar s x).2 = true then first (nar s x) r (i + 1) else i) = -1 ↔ vld (left (nar s x) r).1 (left (nar s x) r).2 = true
    by_cases hv : vld (nar s x).1 (nar s x).2 = true
    · rw [if_pos hv]; exact ih (near_nar h x) hv (i + 1) (by omega)
    · rw [if_neg hv]
      refine ⟨fun e => absurd e (by omega), fun e => ?_⟩
      exfalso
      apply hv
      rw [vld_near (near_nar h x)]
      rw [vld_near (near_left (near_nar h x) r)] at e
      have := left_le (nar s x) r
      omega

theorem vld_all0 : vld all0.1 all0.2 = true := by rw [vld_iff]; unfold all0; omega

theorem brok_iff (l : List Tri) (h : allOk l = true) : brokL l = -1 ↔ (calL l).2.2 = 0 := by
  unfold brokL calL
  rw [if_pos h, if_pos h, first_iff near_all0 vld_all0 l 0 (by omega)]
  by_cases hv : vld (left all0 l).1 (left all0 l).2 = true
  · rw [if_pos hv]; simp [hv]
  · rw [if_neg hv]; simp [hv]

/-- The gain g is one of those of the pair. -/
def Lies (g : Int) (x : Tri) : Prop := x.2.1 * 1000 ≤ x.1 * g ∧ x.1 * g ≤ x.2.2 * 1000

theorem flo_le_of {a v g : Int} (hv : 0 < v) (h : a ≤ v * g) : flo a v ≤ g := by
  unfold flo; rw [if_pos hv]
  have h1 : a ≤ g * v := by rw [Int.mul_comm]; exact h
  have h2 : a / v ≤ g * v / v := Int.ediv_le_ediv hv h1
  rwa [Int.mul_ediv_cancel _ (by omega)] at h2
theorem flo_le_of_neg {a v g : Int} (hv : v < 0) (h : v * g ≤ a) : flo a v ≤ g := by
  unfold flo; rw [if_neg (by omega)]
  have h1 : -a ≤ g * -v := by rw [Int.mul_neg, Int.mul_comm]; omega
  have h2 : -a / -v ≤ g * -v / -v := Int.ediv_le_ediv (by omega) h1
  rwa [Int.mul_ediv_cancel _ (by omega)] at h2
theorem le_cei_of {a v g : Int} (hv : 0 < v) (h : v * g ≤ a) : g ≤ cei a v := by
  unfold cei
  have := flo_le_of (a := -a) (g := -g) hv (by rw [Int.mul_neg]; omega)
  omega
theorem le_cei_of_neg {a v g : Int} (hv : v < 0) (h : a ≤ v * g) : g ≤ cei a v := by
  unfold cei
  have := flo_le_of_neg (a := -a) (g := -g) hv (by rw [Int.mul_neg]; omega)
  omega

theorem gain_of {x : Tri} {g : Int} (h0 : -1000000000 ≤ g) (h1 : g ≤ 1000000000) (h : Lies g x) : gLo x ≤ g ∧ g ≤ gHi x := by
  obtain ⟨a, b⟩ := h
  unfold gLo gHi
  by_cases p : 0 < x.1
  · rw [if_pos p, if_pos p]; exact ⟨flo_le_of p a, le_cei_of p b⟩
  · by_cases n : x.1 < 0
    · rw [if_neg p, if_neg p, if_pos n, if_pos n]; exact ⟨flo_le_of_neg n b, le_cei_of_neg n a⟩
    · have z : x.1 = 0 := by omega
      rw [z, Int.zero_mul] at a b
      rw [if_neg p, if_neg p, if_neg n, if_neg n, if_pos (by omega), if_pos (by omega)]
      exact ⟨h0, h1⟩

theorem left_of {g : Int} (h0 : -1000000000 ≤ g) (h1 : g ≤ 1000000000) (l : List Tri) (s : Int × Int) (hs : s.1 ≤ g ∧ g ≤ s.2) (h : ∀ x ∈ l, Lies g x) : (left s l).1 ≤ g ∧ g ≤ (left s l).2 := by
  induction l generalizing s with
  | nil => exact hs
  | cons x r ih =>
    refine ih (nar s x) ?_ (fun y hy => h y (List.mem_cons_of_mem _ hy))
    have := gain_of h0 h1 (h x (List.mem_cons_self ..))
    unfold nar; dsimp only; omega

/-- What the law says. -/
theorem cal_of {g : Int} (h0 : -1000000000 ≤ g) (h1 : g ≤ 1000000000) (l : List Tri) (hok : allOk l = true) (h : ∀ x ∈ l, Lies g x) : calL l = ((left all0 l).1, (left all0 l).2, 0) ∧ (left all0 l).1 ≤ g ∧ g ≤ (left all0 l).2 := by
  have hl := left_of h0 h1 l all0 (by unfold all0; dsimp only; omega) h
  have hv : vld (left all0 l).1 (left all0 l).2 = true := by rw [vld_near (near_left near_all0 l)]; omega
  refine ⟨?_, hl⟩
  unfold calL; rw [if_pos hok, if_pos hv]

theorem left_drop {s : Int × Int} {l : List Tri} {k : Nat} (h : k < l.length) : left s (l.drop k) = left (nar s l[k]) (l.drop (k + 1)) := by
  rw [List.drop_eq_getElem_cons h]; rfl
theorem first_drop {s : Int × Int} {l : List Tri} {k : Nat} (h : k < l.length) (i : Int) : first s (l.drop k) i = if vld (nar s l[k]).1 (nar s l[k]).2 = true then first (nar s l[k]) (l.drop (k + 1)) (i + 1) else i := by
  rw [List.drop_eq_getElem_cons h]; rfl

end Go.Proofs.Ytnplgnennmhkeaa
end
section
/- Package sense: contracts of down and up (quotients rounded down and up), over this seat's translation. -/
namespace Go.Proofs.Ytnplgnennmhkeaa
set_option linter.unusedVariables false
set_option linter.unusedSimpArgs false
open Go.RowKit

theorem flo_t (a b : Int) (hb : b ≠ 0) : flo a b = if a.tmod b ≠ 0 ∧ (decide (a < 0) != decide (b < 0)) = true then a.tdiv b - 1 else a.tdiv b := by
  have key : ∀ Z m : Int, 0 ≤ Z → 0 < m → Z.tdiv m = Z / m ∧ Z.tmod m = Z % m := fun Z m h0 h1 => ⟨Int.tdiv_eq_ediv_of_nonneg h0, Int.tmod_eq_emod_of_nonneg h0⟩
  by_cases h1 : a < 0 <;> by_cases h2 : b < 0
  · obtain ⟨Z, rfl⟩ : ∃ Z, a = -Z := ⟨-a, by omega⟩
    obtain ⟨m, rfl⟩ : ∃ m, b = -m := ⟨-b, by omega⟩
    obtain ⟨k1, k2⟩ := key Z m (by omega) (by omega)
    rw [Int.neg_tdiv, Int.tdiv_neg, Int.neg_tmod, Int.tmod_neg, k1, k2]
    unfold flo
    rw [if_neg (by omega), Int.neg_neg, Int.neg_neg, if_neg (fun h => absurd h.2 (by rw [decide_eq_true h1, decide_eq_true h2]; decide)), Int.neg_neg]
  · obtain ⟨Z, rfl⟩ : ∃ Z, a = -Z := ⟨-a, by omega⟩
    obtain ⟨k1, k2⟩ := key Z b (by omega) (by omega)
    rw [Int.neg_tdiv, Int.neg_tmod, k1, k2]
    unfold flo
    rw [if_pos (by omega)]
    rcases neg_quo Z b (by omega) with ⟨c, d⟩ | ⟨c, d⟩
    · rw [d, if_neg (by rw [c]; simp)]
    · rw [d, if_pos ⟨by omega, by simp [h1, h2]; try omega⟩]; omega
  · obtain ⟨m, rfl⟩ : ∃ m, b = -m := ⟨-b, by omega⟩
    obtain ⟨k1, k2⟩ := key a m (by omega) (by omega)
    rw [Int.tdiv_neg, Int.tmod_neg, k1, k2]
    unfold flo
    rw [if_neg (by omega), Int.neg_neg]
    rcases neg_quo a m (by omega) with ⟨c, d⟩ | ⟨c, d⟩
    · rw [d, if_neg (by rw [c]; simp)]
    · rw [d, if_pos ⟨by omega, by simp [h1, h2]; try omega⟩]; omega
  · obtain ⟨k1, k2⟩ := key a b (by omega) (by omega)
    rw [k1, k2]
    unfold flo
    rw [if_pos (by omega), if_neg (by simp [h1, h2])]

theorem tdiv_fit (a b : Int) (h1 : -1000000000000000000 ≤ a) (h2 : a ≤ 1000000000000000000) (hb : b ≠ 0) : (-1000000000000000000 ≤ a.tdiv b ∧ a.tdiv b ≤ 1000000000000000000) ∧ (-1000000000000000000 ≤ a.tmod b ∧ a.tmod b ≤ 1000000000000000000) := by
  have k1 := Int.natAbs_tdiv a b
  have k2 := Int.natAbs_tmod a b
  have k3 := Nat.div_le_self a.natAbs b.natAbs
  have k4 := Nat.mod_le a.natAbs b.natAbs
  have k5 : (a.tdiv b).natAbs ≤ a.natAbs := by rw [k1]; exact k3
  have k6 : (a.tmod b).natAbs ≤ a.natAbs := by rw [k2]; exact k4
  omega

theorem flo_bd (a b : Int) (h1 : -1000000000000000000 ≤ a) (h2 : a ≤ 1000000000000000000) (hb : b ≠ 0) : -1000000000000000001 ≤ flo a b ∧ flo a b ≤ 1000000000000000000 := by
  have h := tdiv_fit a b h1 h2 hb
  rw [flo_t a b hb]
  split <;> omega

end Go.Proofs.Ytnplgnennmhkeaa
end
section
/- Package sense: contracts of validPair, everyGain and possibleGains, over this seat's translation. -/
namespace Go.Proofs.Ytnplgnennmhkeaa
set_option linter.unusedVariables false
set_option linter.unusedSimpArgs false
open Go.RowKit

/-- A struct of two cells behind its last store, as the one result. -/
theorem resS {fn : Func} {p : Tmp} (h : fn.results = #[.cell p 45]) (tmps : Array Value) (W : World) (b : Nat) (x y : Value)
    (hp : tmps.getD p undef = .pointer (some ⟨b, 0, none⟩)) (h0 : (W.cell? ⟨b, 0, none⟩).isSome = true) (h1 : (W.cell? ⟨b, 1, none⟩).isSome = true) :
    (results fn tmps).run Try.prog ((W.setCell ⟨b, 0, none⟩ x).setCell ⟨b, 1, none⟩ y) = .ok (.agg #[x, y]) ((W.setCell ⟨b, 0, none⟩ x).setCell ⟨b, 1, none⟩ y) := by
  have n1 : (⟨b, 1, none⟩ : Addr) ≠ ⟨b, 0, none⟩ := by simp
  have n0 : (⟨b, 0, none⟩ : Addr) ≠ ⟨b, 1, none⟩ := by simp
  have e1 : ((W.setCell ⟨b, 0, none⟩ x).setCell ⟨b, 1, none⟩ y).cell? ⟨b, 0, none⟩ = some x :=
    (World.cell?_setCell_other _ _ _ _ n1).trans (World.cell?_setCell_same' _ _ _ h0)
  have e2 : ((W.setCell ⟨b, 0, none⟩ x).setCell ⟨b, 1, none⟩ y).cell? ⟨b, 1, none⟩ = some y :=
    World.cell?_setCell_same' _ _ _ (by rw [World.cell?_setCell_other _ _ _ _ n0]; exact h1)
  have hp' : tmps[p]?.getD undef = .pointer (some ⟨b, 0, none⟩) := by simpa using hp
  simp only [results, h]
  simp [Sem.run_bind, Result.andThen, go_sem, hp', e1, e2]

/-- The same, behind a region. -/
theorem resF {fn : Func} {p : Tmp} (h : fn.results = #[.cell p 45]) (tmps : Array Value) (W : World) (b : Nat) (x y : Value)
    (hp : tmps.getD p undef = .pointer (some ⟨b, 0, none⟩)) (h0 : (W.cell? ⟨b, 0, none⟩).isSome = true) (h1 : (W.cell? ⟨b, 1, none⟩).isSome = true) :
    (results fn tmps).run Try.prog ((W.setCell ⟨b, 0, none⟩ x).setCell ⟨b, 1, none⟩ y).drew = .ok (.agg #[x, y]) ((W.setCell ⟨b, 0, none⟩ x).setCell ⟨b, 1, none⟩ y).drew := by
  have n1 : (⟨b, 1, none⟩ : Addr) ≠ ⟨b, 0, none⟩ := by simp
  have n0 : (⟨b, 0, none⟩ : Addr) ≠ ⟨b, 1, none⟩ := by simp
  have e1 : ((W.setCell ⟨b, 0, none⟩ x).setCell ⟨b, 1, none⟩ y).drew.cell? ⟨b, 0, none⟩ = some x := by
    rw [World.cell?_drew]; exact (World.cell?_setCell_other _ _ _ _ n1).trans (World.cell?_setCell_same' _ _ _ h0)
  have e2 : ((W.setCell ⟨b, 0, none⟩ x).setCell ⟨b, 1, none⟩ y).drew.cell? ⟨b, 1, none⟩ = some y := by
    rw [World.cell?_drew]; exact World.cell?_setCell_same' _ _ _ (by rw [World.cell?_setCell_other _ _ _ _ n0]; exact h1)
  have hp' : tmps[p]?.getD undef = .pointer (some ⟨b, 0, none⟩) := by simpa using hp
  simp only [results, h]
  simp [Sem.run_bind, Result.andThen, go_sem, hp', e1, e2]

/-- The same, just made. -/
theorem resP {fn : Func} {p : Tmp} (h : fn.results = #[.cell p 45]) (tmps : Array Value) (W : World) (b : Nat) (x y : Value)
    (hp : tmps.getD p undef = .pointer (some ⟨b, 0, none⟩)) (h0 : W.cell? ⟨b, 0, none⟩ = some x) (h1 : W.cell? ⟨b, 1, none⟩ = some y) :
    (results fn tmps).run Try.prog W = .ok (.agg #[x, y]) W := by
  have hp' : tmps[p]?.getD undef = .pointer (some ⟨b, 0, none⟩) := by simpa using hp
  simp only [results, h]
  simp [Sem.run_bind, Result.andThen, go_sem, hp', h0, h1]

/-- A pair as a value. -/
abbrev Pr (x : Tri) : Value := .agg #[.int .i64 x.1, .int .i64 x.2.1, .int .i64 x.2.2]

end Go.Proofs.Ytnplgnennmhkeaa
end
