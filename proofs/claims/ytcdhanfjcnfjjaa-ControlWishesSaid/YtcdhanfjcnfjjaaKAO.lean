import Derived.Test.YtcdhanfjcnfjjaaKAA
import Derived.Test.YtcdhanfjcnfjjaaKAK
import Derived.Test.YtcdhanfjcnfjjaaKAN
import Derived.Deep.RegionHeld3
import Derived.Deep.DeepCutAuto
import Derived.Deep.QuietTactic
import Derived.BigQuiet
import Derived.IntWalk
import Derived.Lib.Hide
import Derived.Laws.EntriesVeiled
section
/- slices.IndexFunc and ContainsFunc over []Quant, over this seat's translation (written by mk_mac.py). -/
namespace Go.Proofs.Ytcdhanfjcnfjjaa
set_option linter.unusedVariables false
set_option linter.unusedSimpArgs false
open Go.RowKit

set_option maxHeartbeats 2000000 in
theorem indexQuant1 (k : Nat) (c0 : Nat) (p : QuantD → Bool) (A : Option Addr) (len cap : Nat) (zs : List QuantD) (w : World) (hI : IsT 2 QuantD.cells w A len zs) (hl : len ≤ 1000000000000000)
    (hE : ∀ (args : Array Value) (W : World), (callFunc k args).run Try.prog W = .ok (.enter k args) W)
    (hk : ∀ (x : QuantD) (W : World), x ∈ zs → Below w.heap.size w W → Calls Try.prog k #[QuantD.v x, .pointer (some ⟨c0, 0, none⟩)] W (Ret (.bool (p x)) W)) :
    Calls Try.prog 71 #[.slice A len cap, .func (.func k) #[] #[.pointer (some ⟨c0, 0, none⟩)]] w (Ret (.int .i64 (idxL p zs)) w) := by
  have HI := Lib.hid hI
  have HK := Lib.hid hk
  have HG : Hid (idxL p zs = idxGo p zs 0) := Lib.hid rfl
  generalize idxL p zs = G at *
  clear hI hk
  go_enter Try.func71, Try.ntmps71
  go_wp2_with fail
  go_loopw [5, 8] (fun _ i wr => ∃ j : Nat, j ≤ len ∧ i = .int .i64 j ∧ Hid (idxGo p (zs.drop j) j = G) ∧ Below w.heap.size w wr) (fun _ i _ => len - (intOf i).toNat)
  case atStart => exact ⟨0, Nat.zero_le _, rfl, Lib.hid HG.out.symm, Below.refl _ _⟩
  case round =>
    obtain ⟨j, hj, rfl, hG, hB⟩ := hrel
    by_cases hlt : j < len
    · obtain ⟨hzl, hcl⟩ := HI.out.below hB
      obtain ⟨b, o, rfl, hb0, hcl⟩ := hcl (by omega)
      obtain ⟨x, hx⟩ : ∃ x, zs[j]? = some x := ⟨_, List.getElem?_eq_getElem (by omega)⟩
      have HM := Lib.hid (List.mem_of_getElem? hx)
      have HS := Lib.hid (idxGo_drop p hx (j : Int))
      have x0 : wr.cell? ⟨b, o + j * 2, none⟩ = some (.string x.word) := by have h := hcl j x hx 0 _ rfl; simpa using h
      have x1 : wr.cell? ⟨b, o + j * 2 + 1, none⟩ = some (.func (.func x.k) #[] #[]) := by have h := hcl j x hx 1 _ rfl; simpa using h
      have hsz := hB.size
      have HC := Lib.hid (HK.out x)
      clear hcl hx hzl
      cases hp : p x
      · have HN : Hid (idxGo p (zs.drop (j + 1)) ((j + 1 : Nat) : Int) = G) := Lib.hid (by rw [← hG.out, HS.out, hp]; rfl)
        have HC := Lib.hid (show ∀ W, Below w.heap.size w W → Calls Try.prog k #[QuantD.v x, .pointer (some ⟨c0, 0, none⟩)] W (Ret (.bool false) W) from fun W h => by have := HC.out W HM.out h; rwa [hp] at this)
        clear hp
        go_wp2_with ((with_reducible show Calls _ k _ _ _); refine (HC.out _ (by (with_reducible repeat first | exact Below.refl _ _ | assumption | ((first | refine Below.setCell ?_ ?_ _ | refine Below.alloc ?_ ?_ _); rotate_left; exact (by first | omega | (simp; done) | (simp; omega))) | refine Below.drew ?_ | refine Below_drewN ?_ _))).mono ?_; rintro e w1 ⟨rfl, hb⟩; have hB1 : Below w.heap.size w w1 := Below.trans (by (with_reducible repeat first | exact Below.refl _ _ | assumption | ((first | refine Below.setCell ?_ ?_ _ | refine Below.alloc ?_ ?_ _); rotate_left; exact (by first | omega | (simp; done) | (simp; omega))) | refine Below.drew ?_ | refine Below_drewN ?_ _)) (hb.mono (by first | omega | ((try simp only [World.size_alloc, World.size_setCell, size_drew, size_drewN]); omega) | (simp; done) | (simp; omega))))
        go_roundw
        case rel => exact ⟨j + 1, by omega, by go_num, HN, by (with_reducible repeat first | exact Below.refl _ _ | assumption | ((first | refine Below.setCell ?_ ?_ _ | refine Below.alloc ?_ ?_ _); rotate_left; exact (by first | omega | (simp; done) | (simp; omega))) | refine Below.drew ?_ | refine Below_drewN ?_ _)⟩
        case measure => simp [intOf]; omega
      · have HN : Hid ((j : Int) = G) := Lib.hid (by rw [← hG.out, HS.out, hp]; rfl)
        have HC := Lib.hid (show ∀ W, Below w.heap.size w W → Calls Try.prog k #[QuantD.v x, .pointer (some ⟨c0, 0, none⟩)] W (Ret (.bool true) W) from fun W h => by have := HC.out W HM.out h; rwa [hp] at this)
        clear hp
        go_wp2_with ((with_reducible show Calls _ k _ _ _); refine (HC.out _ (by (with_reducible repeat first | exact Below.refl _ _ | assumption | ((first | refine Below.setCell ?_ ?_ _ | refine Below.alloc ?_ ?_ _); rotate_left; exact (by first | omega | (simp; done) | (simp; omega))) | refine Below.drew ?_ | refine Below_drewN ?_ _))).mono ?_; rintro e w1 ⟨rfl, hb⟩; have hB1 : Below w.heap.size w w1 := Below.trans (by (with_reducible repeat first | exact Below.refl _ _ | assumption | ((first | refine Below.setCell ?_ ?_ _ | refine Below.alloc ?_ ?_ _); rotate_left; exact (by first | omega | (simp; done) | (simp; omega))) | refine Below.drew ?_ | refine Below_drewN ?_ _)) (hb.mono (by first | omega | ((try simp only [World.size_alloc, World.size_setCell, size_drew, size_drewN]); omega) | (simp; done) | (simp; omega))))
        go_ret
        exact ⟨by rw [← HN.out]; rfl, by (with_reducible repeat first | exact Below.refl _ _ | assumption | ((first | refine Below.setCell ?_ ?_ _ | refine Below.alloc ?_ ?_ _); rotate_left; exact (by first | omega | (simp; done) | (simp; omega))) | refine Below.drew ?_ | refine Below_drewN ?_ _)⟩
    · have HN : Hid ((-1 : Int) = G) := Lib.hid (by rw [← hG.out, List.drop_of_length_le (by rw [HI.out.1]; omega)]; rfl)
      go_wp2
      go_ret
      exact ⟨by rw [← HN.out]; rfl, hB⟩

set_option maxHeartbeats 1000000 in
theorem containsQuant1 (k : Nat) (c0 : Nat) (p : QuantD → Bool) (A : Option Addr) (len cap : Nat) (zs : List QuantD) (w : World) (hI : IsT 2 QuantD.cells w A len zs) (hl : len ≤ 1000000000000000)
    (hE : ∀ (args : Array Value) (W : World), (callFunc k args).run Try.prog W = .ok (.enter k args) W)
    (hk : ∀ (x : QuantD) (W : World), x ∈ zs → Below w.heap.size w W → Calls Try.prog k #[QuantD.v x, .pointer (some ⟨c0, 0, none⟩)] W (Ret (.bool (p x)) W)) :
    Calls Try.prog 41 #[.slice A len cap, .func (.func k) #[] #[.pointer (some ⟨c0, 0, none⟩)]] w (Ret (.bool (zs.any p)) w) := by
  have HI := Lib.hid (indexQuant1 k c0 p A len cap zs w hI hl hE hk)
  have HA := Lib.hid (idxL_nonneg p zs)
  obtain ⟨b1, b2⟩ := idxL_bd p zs
  rw [hI.1] at b2
  clear hI hE hk
  generalize idxL p zs = G at *
  go_enter Try.func41, Try.ntmps41
  go_wp2_with (go_at_call 71; refine HI.out.mono ?_; rintro e w1 ⟨rfl, hb⟩)
  go_ret
  exact ⟨by rw [← HA.out]; rfl, hb⟩

end Go.Proofs.Ytcdhanfjcnfjjaa
end
section
/- Plain arithmetic of gains: what a pair leaves possible, what all pairs leave, which pair is the first that leaves nothing; it speaks of no walk. -/
namespace Go.Proofs.Ytcdhanfjcnfjjaa
set_option linter.unusedVariables false
set_option linter.unusedSimpArgs false

/-- A pair: the value, and the ends of its reading. -/
abbrev Tri := Int × Int × Int
def gLo (x : Tri) : Int := if 0 < x.1 then flo (x.2.1 * 1000) x.1 else if x.1 < 0 then flo (x.2.2 * 1000) x.1 else if x.2.1 ≤ 0 ∧ 0 ≤ x.2.2 then -1000000000 else 1
def gHi (x : Tri) : Int := if 0 < x.1 then cei (x.2.2 * 1000) x.1 else if x.1 < 0 then cei (x.2.1 * 1000) x.1 else if x.2.1 ≤ 0 ∧ 0 ≤ x.2.2 then 1000000000 else 0
/-- What is left of the gains s behind one pair more. -/
def nar (s : Int × Int) (x : Tri) : Int × Int := (max s.1 (gLo x), min s.2 (gHi x))
def left (s : Int × Int) : List Tri → Int × Int
  | [] => s
  | x :: r => left (nar s x) r
/-- The place of the first pair with which nothing is left, or -1. -/
def first (s : Int × Int) : List Tri → Int → Int
  | [], _ => -1
  | x :: r, i => if vld (nar s x).1 (nar s x).2 = true then first (nar s x) r (i + 1) else i
/-- The gain g is one of those of the pair. -/
def Lies (g : Int) (x : Tri) : Prop := x.2.1 * 1000 ≤ x.1 * g ∧ x.1 * g ≤ x.2.2 * 1000

end Go.Proofs.Ytcdhanfjcnfjjaa
end
section
/- Package sense: contracts of down and up (quotients rounded down and up), over this seat's translation. -/
namespace Go.Proofs.Ytcdhanfjcnfjjaa
set_option linter.unusedVariables false
set_option linter.unusedSimpArgs false
open Go.RowKit

end Go.Proofs.Ytcdhanfjcnfjjaa
end
section
/- Package sense: contracts of validPair, everyGain and possibleGains, over this seat's translation. -/
namespace Go.Proofs.Ytcdhanfjcnfjjaa
set_option linter.unusedVariables false
set_option linter.unusedSimpArgs false
open Go.RowKit

/-- A struct of two cells behind its last store, as the one result. -/
theorem resS {fn : Func} {p : Tmp} (h : fn.results = #[.cell p 38]) (tmps : Array Value) (W : World) (b : Nat) (x y : Value)
    (hp : tmps.getD p undef = .pointer (some ⟨b, 0, none⟩)) (h0 : (W.cell? ⟨b, 0, none⟩).isSome = true) (h1 : (W.cell? ⟨b, 1, none⟩).isSome = true) :
    (results fn tmps).run Try.prog ((W.setCell ⟨b, 0, none⟩ x).setCell ⟨b, 1, none⟩ y) = .ok (.agg #[x, y]) ((W.setCell ⟨b, 0, none⟩ x).setCell ⟨b, 1, none⟩ y) := by
  have n1 : (⟨b, 1, none⟩ : Addr) ≠ ⟨b, 0, none⟩ := by simp
  have n0 : (⟨b, 0, none⟩ : Addr) ≠ ⟨b, 1, none⟩ := by simp
  have e1 : ((W.setCell ⟨b, 0, none⟩ x).setCell ⟨b, 1, none⟩ y).cell? ⟨b, 0, none⟩ = some x :=
    (World.cell?_setCell_other _ _ _ _ n1).trans (World.cell?_setCell_same' _ _ _ h0)
  have e2 : ((W.setCell ⟨b, 0, none⟩ x).setCell ⟨b, 1, none⟩ y).cell? ⟨b, 1, none⟩ = some y :=
    World.cell?_setCell_same' _ _ _ (by rw [World.cell?_setCell_other _ _ _ _ n0]; exact h1)
  have hp' : tmps[p]?.getD undef = .pointer (some ⟨b, 0, none⟩) := by simpa using hp
  simp only [results, h]
  simp [Sem.run_bind, Result.andThen, go_sem, hp', e1, e2]

/-- The same, just made. -/
theorem resP {fn : Func} {p : Tmp} (h : fn.results = #[.cell p 38]) (tmps : Array Value) (W : World) (b : Nat) (x y : Value)
    (hp : tmps.getD p undef = .pointer (some ⟨b, 0, none⟩)) (h0 : W.cell? ⟨b, 0, none⟩ = some x) (h1 : W.cell? ⟨b, 1, none⟩ = some y) :
    (results fn tmps).run Try.prog W = .ok (.agg #[x, y]) W := by
  have hp' : tmps[p]?.getD undef = .pointer (some ⟨b, 0, none⟩) := by simpa using hp
  simp only [results, h]
  simp [Sem.run_bind, Result.andThen, go_sem, hp', h0, h1]

end Go.Proofs.Ytcdhanfjcnfjjaa
end
section
/- Package shape: the quantities, ValidShape, over this seat's translation (written by mk_ctq.py). -/
namespace Go.Proofs.Ytcdhanfjcnfjjaa
set_option linter.unusedVariables false
set_option linter.unusedSimpArgs false
open Go.RowKit Go.Shelf

def quantsL : List QuantD := [⟨⟨#[114, 97, 100, 105, 117, 115]⟩, 63⟩, ⟨⟨#[104, 101, 105, 103, 104, 116]⟩, 64⟩, ⟨⟨#[97, 114, 101, 97]⟩, 65⟩, ⟨⟨#[116, 111, 112]⟩, 66⟩, ⟨⟨#[98, 111, 116, 116, 111, 109]⟩, 67⟩, ⟨⟨#[105, 110, 110, 101, 114]⟩, 68⟩, ⟨⟨#[111, 117, 116, 101, 114]⟩, 69⟩, ⟨⟨#[108, 105, 102, 116]⟩, 70⟩]
def quantRow : List Value := [.string ⟨#[]⟩, .nilFunc, .string ⟨#[114, 97, 100, 105, 117, 115]⟩, .func (.func 63) #[] #[], .string ⟨#[104, 101, 105, 103, 104, 116]⟩, .func (.func 64) #[] #[], .string ⟨#[97, 114, 101, 97]⟩, .func (.func 65) #[] #[], .string ⟨#[116, 111, 112]⟩, .func (.func 66) #[] #[], .string ⟨#[98, 111, 116, 116, 111, 109]⟩, .func (.func 67) #[] #[], .string ⟨#[105, 110, 110, 101, 114]⟩, .func (.func 68) #[] #[], .string ⟨#[111, 117, 116, 101, 114]⟩, .func (.func 69) #[] #[], .string ⟨#[108, 105, 102, 116]⟩, .func (.func 70) #[] #[]]
def vldK (s : ShapeD) (k : Nat) : Bool := if k = 63 then vld s.a0 s.b0 else if k = 64 then vld s.a1 s.b1 else if k = 65 then vld s.a2 s.b2 else if k = 66 then vld s.a3 s.b3 else if k = 67 then vld s.a4 s.b4 else if k = 68 then vld s.a5 s.b5 else if k = 69 then vld s.a6 s.b6 else if k = 70 then vld s.a7 s.b7 else false
theorem any_quants (s : ShapeD) : (!(quantsL.any fun q => !vldK s q.k)) = okS s := by
  simp [quantsL, vldK, okS]
theorem quants_isT {b : Nat} {W : World} (h : RowL b quantRow W) : IsT 2 QuantD.cells W (some ⟨b, 2, none⟩) 8 quantsL := by
  refine ⟨rfl, fun _ => ⟨b, 2, rfl, h.lt, fun j x hx i v hv => h.cell (2 + j * 2 + i) v ?_⟩⟩
  rcases j with _ | _ | _ | _ | _ | _ | _ | _ | j
  all_goals first | (have h9 := (List.getElem?_eq_some_iff.1 hx).1; simp [quantsL] at h9; omega) | skip
  all_goals obtain rfl := Option.some.inj hx
  all_goals rcases i with _ | _ | i
  all_goals first | exact hv | (have h9 := (List.getElem?_eq_some_iff.1 hv).1; simp [QuantD.cells] at h9; omega)

set_option maxRecDepth 100000 in
theorem quant0_any (s : ShapeD) (w : World) : Calls Try.prog 63 #[s.v] w (Ret (Sp s.a0 s.b0) w) := by
  obtain ⟨a0, b0, a1, b1, a2, b2, a3, b3, a4, b4, a5, b5, a6, b6, a7, b7⟩ := s
  dsimp only
  show Calls Try.prog 63 #[.agg #[.int .i64 a0, .int .i64 b0, .int .i64 a1, .int .i64 b1, .int .i64 a2, .int .i64 b2, .int .i64 a3, .int .i64 b3, .int .i64 a4, .int .i64 b4, .int .i64 a5, .int .i64 b5, .int .i64 a6, .int .i64 b6, .int .i64 a7, .int .i64 b7]] w _
  go_enter Try.func63, Try.ntmps63
  go_wp2_with fail
  first | exact bodyPost_ret (resP Try.results63 _ _ _ _ _ rfl (by go_simp) (by go_simp)) rfl ⟨rfl, by (with_reducible repeat first | exact Below.refl _ _ | assumption | ((first | refine Below.setCell ?_ ?_ _ | refine Below.alloc ?_ ?_ _); rotate_left; exact (by first | omega | (simp; done) | (simp; omega))) | refine Below.drew ?_ | refine Below_drewN ?_ _)⟩ | exact bodyPost_ret (resS Try.results63 _ _ _ _ _ rfl (by (try simp only [isSome_setCell]); first | assumption | go_simp) (by (try simp only [isSome_setCell]); first | assumption | go_simp)) rfl ⟨rfl, by (with_reducible repeat first | exact Below.refl _ _ | assumption | ((first | refine Below.setCell ?_ ?_ _ | refine Below.alloc ?_ ?_ _); rotate_left; exact (by first | omega | (simp; done) | (simp; omega))) | refine Below.drew ?_ | refine Below_drewN ?_ _)⟩

set_option maxRecDepth 100000 in
theorem quant1_any (s : ShapeD) (w : World) : Calls Try.prog 64 #[s.v] w (Ret (Sp s.a1 s.b1) w) := by
  obtain ⟨a0, b0, a1, b1, a2, b2, a3, b3, a4, b4, a5, b5, a6, b6, a7, b7⟩ := s
  dsimp only
  show Calls Try.prog 64 #[.agg #[.int .i64 a0, .int .i64 b0, .int .i64 a1, .int .i64 b1, .int .i64 a2, .int .i64 b2, .int .i64 a3, .int .i64 b3, .int .i64 a4, .int .i64 b4, .int .i64 a5, .int .i64 b5, .int .i64 a6, .int .i64 b6, .int .i64 a7, .int .i64 b7]] w _
  go_enter Try.func64, Try.ntmps64
  go_wp2_with fail
  first | exact bodyPost_ret (resP Try.results64 _ _ _ _ _ rfl (by go_simp) (by go_simp)) rfl ⟨rfl, by (with_reducible repeat first | exact Below.refl _ _ | assumption | ((first | refine Below.setCell ?_ ?_ _ | refine Below.alloc ?_ ?_ _); rotate_left; exact (by first | omega | (simp; done) | (simp; omega))) | refine Below.drew ?_ | refine Below_drewN ?_ _)⟩ | exact bodyPost_ret (resS Try.results64 _ _ _ _ _ rfl (by (try simp only [isSome_setCell]); first | assumption | go_simp) (by (try simp only [isSome_setCell]); first | assumption | go_simp)) rfl ⟨rfl, by (with_reducible repeat first | exact Below.refl _ _ | assumption | ((first | refine Below.setCell ?_ ?_ _ | refine Below.alloc ?_ ?_ _); rotate_left; exact (by first | omega | (simp; done) | (simp; omega))) | refine Below.drew ?_ | refine Below_drewN ?_ _)⟩

set_option maxRecDepth 100000 in
theorem quant2_any (s : ShapeD) (w : World) : Calls Try.prog 65 #[s.v] w (Ret (Sp s.a2 s.b2) w) := by
  obtain ⟨a0, b0, a1, b1, a2, b2, a3, b3, a4, b4, a5, b5, a6, b6, a7, b7⟩ := s
  dsimp only
  show Calls Try.prog 65 #[.agg #[.int .i64 a0, .int .i64 b0, .int .i64 a1, .int .i64 b1, .int .i64 a2, .int .i64 b2, .int .i64 a3, .int .i64 b3, .int .i64 a4, .int .i64 b4, .int .i64 a5, .int .i64 b5, .int .i64 a6, .int .i64 b6, .int .i64 a7, .int .i64 b7]] w _
  go_enter Try.func65, Try.ntmps65
  go_wp2_with fail
  first | exact bodyPost_ret (resP Try.results65 _ _ _ _ _ rfl (by go_simp) (by go_simp)) rfl ⟨rfl, by (with_reducible repeat first | exact Below.refl _ _ | assumption | ((first | refine Below.setCell ?_ ?_ _ | refine Below.alloc ?_ ?_ _); rotate_left; exact (by first | omega | (simp; done) | (simp; omega))) | refine Below.drew ?_ | refine Below_drewN ?_ _)⟩ | exact bodyPost_ret (resS Try.results65 _ _ _ _ _ rfl (by (try simp only [isSome_setCell]); first | assumption | go_simp) (by (try simp only [isSome_setCell]); first | assumption | go_simp)) rfl ⟨rfl, by (with_reducible repeat first | exact Below.refl _ _ | assumption | ((first | refine Below.setCell ?_ ?_ _ | refine Below.alloc ?_ ?_ _); rotate_left; exact (by first | omega | (simp; done) | (simp; omega))) | refine Below.drew ?_ | refine Below_drewN ?_ _)⟩

set_option maxRecDepth 100000 in
theorem quant3_any (s : ShapeD) (w : World) : Calls Try.prog 66 #[s.v] w (Ret (Sp s.a3 s.b3) w) := by
  obtain ⟨a0, b0, a1, b1, a2, b2, a3, b3, a4, b4, a5, b5, a6, b6, a7, b7⟩ := s
  dsimp only
  show Calls Try.prog 66 #[.agg #[.int .i64 a0, .int .i64 b0, .int .i64 a1, .int .i64 b1, .int .i64 a2, .int .i64 b2, .int .i64 a3, .int .i64 b3, .int .i64 a4, .int .i64 b4, .int .i64 a5, .int .i64 b5, .int .i64 a6, .int .i64 b6, .int .i64 a7, .int .i64 b7]] w _
  go_enter Try.func66, Try.ntmps66
  go_wp2_with fail
  first | exact bodyPost_ret (resP Try.results66 _ _ _ _ _ rfl (by go_simp) (by go_simp)) rfl ⟨rfl, by (with_reducible repeat first | exact Below.refl _ _ | assumption | ((first | refine Below.setCell ?_ ?_ _ | refine Below.alloc ?_ ?_ _); rotate_left; exact (by first | omega | (simp; done) | (simp; omega))) | refine Below.drew ?_ | refine Below_drewN ?_ _)⟩ | exact bodyPost_ret (resS Try.results66 _ _ _ _ _ rfl (by (try simp only [isSome_setCell]); first | assumption | go_simp) (by (try simp only [isSome_setCell]); first | assumption | go_simp)) rfl ⟨rfl, by (with_reducible repeat first | exact Below.refl _ _ | assumption | ((first | refine Below.setCell ?_ ?_ _ | refine Below.alloc ?_ ?_ _); rotate_left; exact (by first | omega | (simp; done) | (simp; omega))) | refine Below.drew ?_ | refine Below_drewN ?_ _)⟩

set_option maxRecDepth 100000 in
theorem quant4_any (s : ShapeD) (w : World) : Calls Try.prog 67 #[s.v] w (Ret (Sp s.a4 s.b4) w) := by
  obtain ⟨a0, b0, a1, b1, a2, b2, a3, b3, a4, b4, a5, b5, a6, b6, a7, b7⟩ := s
  dsimp only
  show Calls Try.prog 67 #[.agg #[.int .i64 a0, .int .i64 b0, .int .i64 a1, .int .i64 b1, .int .i64 a2, .int .i64 b2, .int .i64 a3, .int .i64 b3, .int .i64 a4, .int .i64 b4, .int .i64 a5, .int .i64 b5, .int .i64 a6, .int .i64 b6, .int .i64 a7, .int .i64 b7]] w _
  go_enter Try.func67, Try.ntmps67
  go_wp2_with fail
  first | exact bodyPost_ret (resP Try.results67 _ _ _ _ _ rfl (by go_simp) (by go_simp)) rfl ⟨rfl, by (with_reducible repeat first | exact Below.refl _ _ | assumption | ((first | refine Below.setCell ?_ ?_ _ | refine Below.alloc ?_ ?_ _); rotate_left; exact (by first | omega | (simp; done) | (simp; omega))) | refine Below.drew ?_ | refine Below_drewN ?_ _)⟩ | exact bodyPost_ret (resS Try.results67 _ _ _ _ _ rfl (by (try simp only [isSome_setCell]); first | assumption | go_simp) (by (try simp only [isSome_setCell]); first | assumption | go_simp)) rfl ⟨rfl, by (with_reducible repeat first | exact Below.refl _ _ | assumption | ((first | refine Below.setCell ?_ ?_ _ | refine Below.alloc ?_ ?_ _); rotate_left; exact (by first | omega | (simp; done) | (simp; omega))) | refine Below.drew ?_ | refine Below_drewN ?_ _)⟩

set_option maxRecDepth 100000 in
theorem quant5_any (s : ShapeD) (w : World) : Calls Try.prog 68 #[s.v] w (Ret (Sp s.a5 s.b5) w) := by
  obtain ⟨a0, b0, a1, b1, a2, b2, a3, b3, a4, b4, a5, b5, a6, b6, a7, b7⟩ := s
  dsimp only
  show Calls Try.prog 68 #[.agg #[.int .i64 a0, .int .i64 b0, .int .i64 a1, .int .i64 b1, .int .i64 a2, .int .i64 b2, .int .i64 a3, .int .i64 b3, .int .i64 a4, .int .i64 b4, .int .i64 a5, .int .i64 b5, .int .i64 a6, .int .i64 b6, .int .i64 a7, .int .i64 b7]] w _
  go_enter Try.func68, Try.ntmps68
  go_wp2_with fail
  first | exact bodyPost_ret (resP Try.results68 _ _ _ _ _ rfl (by go_simp) (by go_simp)) rfl ⟨rfl, by (with_reducible repeat first | exact Below.refl _ _ | assumption | ((first | refine Below.setCell ?_ ?_ _ | refine Below.alloc ?_ ?_ _); rotate_left; exact (by first | omega | (simp; done) | (simp; omega))) | refine Below.drew ?_ | refine Below_drewN ?_ _)⟩ | exact bodyPost_ret (resS Try.results68 _ _ _ _ _ rfl (by (try simp only [isSome_setCell]); first | assumption | go_simp) (by (try simp only [isSome_setCell]); first | assumption | go_simp)) rfl ⟨rfl, by (with_reducible repeat first | exact Below.refl _ _ | assumption | ((first | refine Below.setCell ?_ ?_ _ | refine Below.alloc ?_ ?_ _); rotate_left; exact (by first | omega | (simp; done) | (simp; omega))) | refine Below.drew ?_ | refine Below_drewN ?_ _)⟩

set_option maxRecDepth 100000 in
theorem quant6_any (s : ShapeD) (w : World) : Calls Try.prog 69 #[s.v] w (Ret (Sp s.a6 s.b6) w) := by
  obtain ⟨a0, b0, a1, b1, a2, b2, a3, b3, a4, b4, a5, b5, a6, b6, a7, b7⟩ := s
  dsimp only
  show Calls Try.prog 69 #[.agg #[.int .i64 a0, .int .i64 b0, .int .i64 a1, .int .i64 b1, .int .i64 a2, .int .i64 b2, .int .i64 a3, .int .i64 b3, .int .i64 a4, .int .i64 b4, .int .i64 a5, .int .i64 b5, .int .i64 a6, .int .i64 b6, .int .i64 a7, .int .i64 b7]] w _
  go_enter Try.func69, Try.ntmps69
  go_wp2_with fail
  first | exact bodyPost_ret (resP Try.results69 _ _ _ _ _ rfl (by go_simp) (by go_simp)) rfl ⟨rfl, by (with_reducible repeat first | exact Below.refl _ _ | assumption | ((first | refine Below.setCell ?_ ?_ _ | refine Below.alloc ?_ ?_ _); rotate_left; exact (by first | omega | (simp; done) | (simp; omega))) | refine Below.drew ?_ | refine Below_drewN ?_ _)⟩ | exact bodyPost_ret (resS Try.results69 _ _ _ _ _ rfl (by (try simp only [isSome_setCell]); first | assumption | go_simp) (by (try simp only [isSome_setCell]); first | assumption | go_simp)) rfl ⟨rfl, by (with_reducible repeat first | exact Below.refl _ _ | assumption | ((first | refine Below.setCell ?_ ?_ _ | refine Below.alloc ?_ ?_ _); rotate_left; exact (by first | omega | (simp; done) | (simp; omega))) | refine Below.drew ?_ | refine Below_drewN ?_ _)⟩

set_option maxRecDepth 100000 in
theorem quant7_any (s : ShapeD) (w : World) : Calls Try.prog 70 #[s.v] w (Ret (Sp s.a7 s.b7) w) := by
  obtain ⟨a0, b0, a1, b1, a2, b2, a3, b3, a4, b4, a5, b5, a6, b6, a7, b7⟩ := s
  dsimp only
  show Calls Try.prog 70 #[.agg #[.int .i64 a0, .int .i64 b0, .int .i64 a1, .int .i64 b1, .int .i64 a2, .int .i64 b2, .int .i64 a3, .int .i64 b3, .int .i64 a4, .int .i64 b4, .int .i64 a5, .int .i64 b5, .int .i64 a6, .int .i64 b6, .int .i64 a7, .int .i64 b7]] w _
  go_enter Try.func70, Try.ntmps70
  go_wp2_with fail
  first | exact bodyPost_ret (resP Try.results70 _ _ _ _ _ rfl (by go_simp) (by go_simp)) rfl ⟨rfl, by (with_reducible repeat first | exact Below.refl _ _ | assumption | ((first | refine Below.setCell ?_ ?_ _ | refine Below.alloc ?_ ?_ _); rotate_left; exact (by first | omega | (simp; done) | (simp; omega))) | refine Below.drew ?_ | refine Below_drewN ?_ _)⟩ | exact bodyPost_ret (resS Try.results70 _ _ _ _ _ rfl (by (try simp only [isSome_setCell]); first | assumption | go_simp) (by (try simp only [isSome_setCell]); first | assumption | go_simp)) rfl ⟨rfl, by (with_reducible repeat first | exact Below.refl _ _ | assumption | ((first | refine Below.setCell ?_ ?_ _ | refine Below.alloc ?_ ?_ _); rotate_left; exact (by first | omega | (simp; done) | (simp; omega))) | refine Below.drew ?_ | refine Below_drewN ?_ _)⟩

set_option maxRecDepth 100000 in
set_option maxHeartbeats 8000000 in
theorem resQ9 {fn : Func} {p : Tmp} (h : fn.results = #[.cell p 86]) (tmps : Array Value) (W : World) (b : Nat) (hp : tmps.getD p undef = .pointer (some ⟨b, 0, none⟩)) (hr : ∀ (k : Nat) v, quantRow[k]? = some v → W.cell? ⟨b, k, none⟩ = some v) :
    (results fn tmps).run Try.prog W = .ok (.agg quantRow.toArray) W := by
  have hp' : tmps[p]?.getD undef = .pointer (some ⟨b, 0, none⟩) := by simpa using hp
  have h0 := hr 0 _ rfl
  have h1 := hr 1 _ rfl
  have h2 := hr 2 _ rfl
  have h3 := hr 3 _ rfl
  have h4 := hr 4 _ rfl
  have h5 := hr 5 _ rfl
  have h6 := hr 6 _ rfl
  have h7 := hr 7 _ rfl
  have h8 := hr 8 _ rfl
  have h9 := hr 9 _ rfl
  have h10 := hr 10 _ rfl
  have h11 := hr 11 _ rfl
  have h12 := hr 12 _ rfl
  have h13 := hr 13 _ rfl
  have h14 := hr 14 _ rfl
  have h15 := hr 15 _ rfl
  have h16 := hr 16 _ rfl
  have h17 := hr 17 _ rfl
  simp only [results, h]
  simp [Sem.run_bind, Result.andThen, go_sem, hp', quantRow, h0, h1, h2, h3, h4, h5, h6, h7, h8, h9, h10, h11, h12, h13, h14, h15, h16, h17]

set_option maxRecDepth 100000 in
set_option maxHeartbeats 8000000 in
theorem quants_any (w : World) : Calls Try.prog 40 #[] w (Ret (.agg quantRow.toArray) w) := by
  go_enter Try.func40, Try.ntmps40
  go_wp2_with fail
  refine bodyPost_ret (resQ9 Try.results40 _ _ w.heap.size rfl (fun k v hv => ?_)) rfl ⟨rfl, by (with_reducible repeat first | exact Below.refl _ _ | assumption | ((first | refine Below.setCell ?_ ?_ _ | refine Below.alloc ?_ ?_ _); rotate_left; exact (by first | omega | (simp; done) | (simp; omega))) | refine Below.drew ?_ | refine Below_drewN ?_ _)⟩
  rcases k with _ | _ | _ | _ | _ | _ | _ | _ | _ | _ | _ | _ | _ | _ | _ | _ | _ | _ | k
  all_goals first | (obtain rfl := Option.some.inj hv; go_simp; done) | (have h9 := (List.getElem?_eq_some_iff.1 hv).1; simp [quantRow] at h9; omega)

set_option maxRecDepth 100000 in
set_option maxHeartbeats 8000000 in
theorem validShape1_any (s : ShapeD) (wd : ByteArray) (k : Nat) (u v : Int) (c0 : Nat) (w : World) (hr : RowL c0 [.int .i64 s.a0, .int .i64 s.b0, .int .i64 s.a1, .int .i64 s.b1, .int .i64 s.a2, .int .i64 s.b2, .int .i64 s.a3, .int .i64 s.b3, .int .i64 s.a4, .int .i64 s.b4, .int .i64 s.a5, .int .i64 s.b5, .int .i64 s.a6, .int .i64 s.b6, .int .i64 s.a7, .int .i64 s.b7] w)
    (hE : ∀ (args : Array Value) (W : World), (callFunc k args).run Try.prog W = .ok (.enter k args) W) (hk : ∀ W, Calls Try.prog k #[s.v] W (Ret (Sp u v) W)) :
    Calls Try.prog 42 #[.agg #[.string wd, .func (.func k) #[] #[]], .pointer (some ⟨c0, 0, none⟩)] w (Ret (.bool (!vld u v)) w) := by
  obtain ⟨a0, b0, a1, b1, a2, b2, a3, b3, a4, b4, a5, b5, a6, b6, a7, b7⟩ := s
  dsimp only at *
  have HK := Lib.hid (show ∀ W, Calls Try.prog k #[.agg #[.int .i64 a0, .int .i64 b0, .int .i64 a1, .int .i64 b1, .int .i64 a2, .int .i64 b2, .int .i64 a3, .int .i64 b3, .int .i64 a4, .int .i64 b4, .int .i64 a5, .int .i64 b5, .int .i64 a6, .int .i64 b6, .int .i64 a7, .int .i64 b7]] W (Ret (Sp u v) W) from hk)
  have HV := Lib.hid (fun W => valid_any u v W)
  have HR := Lib.hid hr
  clear hk hr
  generalize vld u v = B at *
  go_enter Try.func42, Try.ntmps42
  go_upto_region 1 with (fail)
  have Fq : Hid (RowL (w.heap.size) [.string wd, .func (.func k) #[] #[]] (w.alloc (.cells #[.string wd, .func (.func k) #[] #[]] 85))) := Lib.hid (by have h := RowL.new w #[.string wd, .func (.func k) #[] #[]] 85; (try simp only [World.size_alloc] at h); exact h)
  have hB0 : Below w.heap.size w (w.alloc (.cells #[.string wd, .func (.func k) #[] #[]] 85)) := by (with_reducible repeat first | exact Below.refl _ _ | assumption | ((first | refine Below.setCell ?_ ?_ _ | refine Below.alloc ?_ ?_ _); rotate_left; exact (by first | omega | (simp; done) | (simp; omega))) | refine Below.drew ?_ | refine Below_drewN ?_ _)
  have sW0 : w.heap.size < (w.alloc (.cells #[.string wd, .func (.func k) #[] #[]] 85)).heap.size := by simp only [World.size_alloc]; omega
  obtain ⟨W0, hW0⟩ : ∃ W, (w.alloc (.cells #[.string wd, .func (.func k) #[] #[]] 85)) = W := ⟨_, rfl⟩
  rw [hW0] at Fq hB0 sW0 ⊢
  clear hW0
  have FS : Hid (RowL c0 [.int .i64 a0, .int .i64 b0, .int .i64 a1, .int .i64 b1, .int .i64 a2, .int .i64 b2, .int .i64 a3, .int .i64 b3, .int .i64 a4, .int .i64 b4, .int .i64 a5, .int .i64 b5, .int .i64 a6, .int .i64 b6, .int .i64 a7, .int .i64 b7] W0) := Lib.hid (HR.out.below hB0)
  have q0 := Fq.out.cell 0 (.string wd) rfl
  have q1 := Fq.out.cell 1 (.func (.func k) #[] #[]) rfl
  have S0 := FS.out.cell 0 (.int .i64 a0) rfl
  have S1 := FS.out.cell 1 (.int .i64 b0) rfl
  have S2 := FS.out.cell 2 (.int .i64 a1) rfl
  have S3 := FS.out.cell 3 (.int .i64 b1) rfl
  have S4 := FS.out.cell 4 (.int .i64 a2) rfl
  have S5 := FS.out.cell 5 (.int .i64 b2) rfl
  have S6 := FS.out.cell 6 (.int .i64 a3) rfl
  have S7 := FS.out.cell 7 (.int .i64 b3) rfl
  have S8 := FS.out.cell 8 (.int .i64 a4) rfl
  have S9 := FS.out.cell 9 (.int .i64 b4) rfl
  have S10 := FS.out.cell 10 (.int .i64 a5) rfl
  have S11 := FS.out.cell 11 (.int .i64 b5) rfl
  have S12 := FS.out.cell 12 (.int .i64 a6) rfl
  have S13 := FS.out.cell 13 (.int .i64 b6) rfl
  have S14 := FS.out.cell 14 (.int .i64 a7) rfl
  have S15 := FS.out.cell 15 (.int .i64 b7) rfl
  have c0lt := HR.out.lt
  go_wp2_with fail
  refine (HK.out _).mono ?_
  rintro e w1 ⟨rfl, hb⟩
  clear HK
  have hB1 := hB0.trans (hb.mono hB0.size)
  go_wp2_with fail
  refine (HV.out _).mono ?_
  rintro e w2 ⟨rfl, hb2⟩
  have hB2 := hB1.trans (hb2.mono hB1.size)
  go_wp2_with fail
  go_ret
  exact ⟨rfl, by (with_reducible repeat first | exact Below.refl _ _ | assumption | ((first | refine Below.setCell ?_ ?_ _ | refine Below.alloc ?_ ?_ _); rotate_left; exact (by first | omega | (simp; done) | (simp; omega))) | refine Below.drew ?_ | refine Below_drewN ?_ _)⟩

set_option maxRecDepth 100000 in
set_option maxHeartbeats 8000000 in
theorem validShape_any (s : ShapeD) (w : World) :
    Calls Try.prog 26 #[s.v] w (Ret (.bool (okS s)) w) := by
  have HS := Lib.hid (any_quants s)
  have HQ := Lib.hid (fun W => quants_any W)
  have HC0 := Lib.hid (fun W (b c0 : Nat) (hl : RowL b quantRow W) (hr : RowL c0 [.int .i64 s.a0, .int .i64 s.b0, .int .i64 s.a1, .int .i64 s.b1, .int .i64 s.a2, .int .i64 s.b2, .int .i64 s.a3, .int .i64 s.b3, .int .i64 s.a4, .int .i64 s.b4, .int .i64 s.a5, .int .i64 s.b5, .int .i64 s.a6, .int .i64 s.b6, .int .i64 s.a7, .int .i64 s.b7] W) => containsQuant1 42 c0 (fun q => !vldK s q.k) (some ⟨b, 2, none⟩) 8 8 quantsL W (quants_isT hl) (by omega) (fun args W => enters_of Try.func42 (by kernel_rfl) rfl args W)
    (fun x W' hx hB => by
      simp only [quantsL, List.mem_cons, List.not_mem_nil, or_false] at hx
      rcases hx with rfl | rfl | rfl | rfl | rfl | rfl | rfl | rfl
      · exact (show Calls _ _ _ _ (Ret (.bool (!vldK s 63)) W') from by rw [show vldK s 63 = vld s.a0 s.b0 from by simp [vldK]]; exact validShape1_any s _ _ _ _ _ W' (hr.below hB) (fun args W => enters_of Try.func63 (by kernel_rfl) rfl args W) (fun W => quant0_any s W))
      · exact (show Calls _ _ _ _ (Ret (.bool (!vldK s 64)) W') from by rw [show vldK s 64 = vld s.a1 s.b1 from by simp [vldK]]; exact validShape1_any s _ _ _ _ _ W' (hr.below hB) (fun args W => enters_of Try.func64 (by kernel_rfl) rfl args W) (fun W => quant1_any s W))
      · exact (show Calls _ _ _ _ (Ret (.bool (!vldK s 65)) W') from by rw [show vldK s 65 = vld s.a2 s.b2 from by simp [vldK]]; exact validShape1_any s _ _ _ _ _ W' (hr.below hB) (fun args W => enters_of Try.func65 (by kernel_rfl) rfl args W) (fun W => quant2_any s W))
      · exact (show Calls _ _ _ _ (Ret (.bool (!vldK s 66)) W') from by rw [show vldK s 66 = vld s.a3 s.b3 from by simp [vldK]]; exact validShape1_any s _ _ _ _ _ W' (hr.below hB) (fun args W => enters_of Try.func66 (by kernel_rfl) rfl args W) (fun W => quant3_any s W))
      · exact (show Calls _ _ _ _ (Ret (.bool (!vldK s 67)) W') from by rw [show vldK s 67 = vld s.a4 s.b4 from by simp [vldK]]; exact validShape1_any s _ _ _ _ _ W' (hr.below hB) (fun args W => enters_of Try.func67 (by kernel_rfl) rfl args W) (fun W => quant4_any s W))
      · exact (show Calls _ _ _ _ (Ret (.bool (!vldK s 68)) W') from by rw [show vldK s 68 = vld s.a5 s.b5 from by simp [vldK]]; exact validShape1_any s _ _ _ _ _ W' (hr.below hB) (fun args W => enters_of Try.func68 (by kernel_rfl) rfl args W) (fun W => quant5_any s W))
      · exact (show Calls _ _ _ _ (Ret (.bool (!vldK s 69)) W') from by rw [show vldK s 69 = vld s.a6 s.b6 from by simp [vldK]]; exact validShape1_any s _ _ _ _ _ W' (hr.below hB) (fun args W => enters_of Try.func69 (by kernel_rfl) rfl args W) (fun W => quant6_any s W))
      · exact (show Calls _ _ _ _ (Ret (.bool (!vldK s 70)) W') from by rw [show vldK s 70 = vld s.a7 s.b7 from by simp [vldK]]; exact validShape1_any s _ _ _ _ _ W' (hr.below hB) (fun args W => enters_of Try.func70 (by kernel_rfl) rfl args W) (fun W => quant7_any s W))))
  generalize okS s = K at *
  generalize (quantsL.any fun q => !vldK s q.k) = K2 at *
  obtain ⟨a0, b0, a1, b1, a2, b2, a3, b3, a4, b4, a5, b5, a6, b6, a7, b7⟩ := s
  dsimp only at *
  have HC := Lib.hid (show ∀ W (b c0 : Nat), RowL b quantRow W → RowL c0 [.int .i64 a0, .int .i64 b0, .int .i64 a1, .int .i64 b1, .int .i64 a2, .int .i64 b2, .int .i64 a3, .int .i64 b3, .int .i64 a4, .int .i64 b4, .int .i64 a5, .int .i64 b5, .int .i64 a6, .int .i64 b6, .int .i64 a7, .int .i64 b7] W → Calls Try.prog 41 #[.slice (some ⟨b, 2, none⟩) 8 8, .func (.func 42) #[] #[.pointer (some ⟨c0, 0, none⟩)]] W (Ret (.bool K2) W) from HC0.out)
  clear HC0
  show Calls Try.prog 26 #[.agg #[.int .i64 a0, .int .i64 b0, .int .i64 a1, .int .i64 b1, .int .i64 a2, .int .i64 b2, .int .i64 a3, .int .i64 b3, .int .i64 a4, .int .i64 b4, .int .i64 a5, .int .i64 b5, .int .i64 a6, .int .i64 b6, .int .i64 a7, .int .i64 b7]] w _
  go_enter Try.func26, Try.ntmps26
  go_upto_region 1 with (fail)
  have Fs : Hid (RowL (w.heap.size) [.int .i64 a0, .int .i64 b0, .int .i64 a1, .int .i64 b1, .int .i64 a2, .int .i64 b2, .int .i64 a3, .int .i64 b3, .int .i64 a4, .int .i64 b4, .int .i64 a5, .int .i64 b5, .int .i64 a6, .int .i64 b6, .int .i64 a7, .int .i64 b7] (w.alloc (.cells #[.int .i64 a0, .int .i64 b0, .int .i64 a1, .int .i64 b1, .int .i64 a2, .int .i64 b2, .int .i64 a3, .int .i64 b3, .int .i64 a4, .int .i64 b4, .int .i64 a5, .int .i64 b5, .int .i64 a6, .int .i64 b6, .int .i64 a7, .int .i64 b7] 40))) := Lib.hid (by have h := RowL.new w #[.int .i64 a0, .int .i64 b0, .int .i64 a1, .int .i64 b1, .int .i64 a2, .int .i64 b2, .int .i64 a3, .int .i64 b3, .int .i64 a4, .int .i64 b4, .int .i64 a5, .int .i64 b5, .int .i64 a6, .int .i64 b6, .int .i64 a7, .int .i64 b7] 40; (try simp only [World.size_alloc] at h); exact h)
  have hB0 : Below w.heap.size w (w.alloc (.cells #[.int .i64 a0, .int .i64 b0, .int .i64 a1, .int .i64 b1, .int .i64 a2, .int .i64 b2, .int .i64 a3, .int .i64 b3, .int .i64 a4, .int .i64 b4, .int .i64 a5, .int .i64 b5, .int .i64 a6, .int .i64 b6, .int .i64 a7, .int .i64 b7] 40)) := by (with_reducible repeat first | exact Below.refl _ _ | assumption | ((first | refine Below.setCell ?_ ?_ _ | refine Below.alloc ?_ ?_ _); rotate_left; exact (by first | omega | (simp; done) | (simp; omega))) | refine Below.drew ?_ | refine Below_drewN ?_ _)
  have sW0 : w.heap.size < (w.alloc (.cells #[.int .i64 a0, .int .i64 b0, .int .i64 a1, .int .i64 b1, .int .i64 a2, .int .i64 b2, .int .i64 a3, .int .i64 b3, .int .i64 a4, .int .i64 b4, .int .i64 a5, .int .i64 b5, .int .i64 a6, .int .i64 b6, .int .i64 a7, .int .i64 b7] 40)).heap.size := by simp only [World.size_alloc]; omega
  obtain ⟨W0, hW0⟩ : ∃ W, (w.alloc (.cells #[.int .i64 a0, .int .i64 b0, .int .i64 a1, .int .i64 b1, .int .i64 a2, .int .i64 b2, .int .i64 a3, .int .i64 b3, .int .i64 a4, .int .i64 b4, .int .i64 a5, .int .i64 b5, .int .i64 a6, .int .i64 b6, .int .i64 a7, .int .i64 b7] 40)) = W := ⟨_, rfl⟩
  rw [hW0] at Fs hB0 sW0 ⊢
  clear hW0
  go_wp2_with fail
  refine (HQ.out _).mono ?_
  rintro e w1 ⟨rfl, hb⟩
  have FS1 := Lib.hid (Fs.out.below hb)
  have hB1 := hB0.trans (hb.mono hB0.size)
  clear Fs HQ hb
  dsimp only [quantRow] at *
  go_upto_region 2 with (fail)
  have Fl : Hid (RowL (w1.heap.size) [.string ⟨#[]⟩, .nilFunc, .string ⟨#[114, 97, 100, 105, 117, 115]⟩, .func (.func 63) #[] #[], .string ⟨#[104, 101, 105, 103, 104, 116]⟩, .func (.func 64) #[] #[], .string ⟨#[97, 114, 101, 97]⟩, .func (.func 65) #[] #[], .string ⟨#[116, 111, 112]⟩, .func (.func 66) #[] #[], .string ⟨#[98, 111, 116, 116, 111, 109]⟩, .func (.func 67) #[] #[], .string ⟨#[105, 110, 110, 101, 114]⟩, .func (.func 68) #[] #[], .string ⟨#[111, 117, 116, 101, 114]⟩, .func (.func 69) #[] #[], .string ⟨#[108, 105, 102, 116]⟩, .func (.func 70) #[] #[]] (w1.alloc (.cells #[.string ⟨#[]⟩, .nilFunc, .string ⟨#[114, 97, 100, 105, 117, 115]⟩, .func (.func 63) #[] #[], .string ⟨#[104, 101, 105, 103, 104, 116]⟩, .func (.func 64) #[] #[], .string ⟨#[97, 114, 101, 97]⟩, .func (.func 65) #[] #[], .string ⟨#[116, 111, 112]⟩, .func (.func 66) #[] #[], .string ⟨#[98, 111, 116, 116, 111, 109]⟩, .func (.func 67) #[] #[], .string ⟨#[105, 110, 110, 101, 114]⟩, .func (.func 68) #[] #[], .string ⟨#[111, 117, 116, 101, 114]⟩, .func (.func 69) #[] #[], .string ⟨#[108, 105, 102, 116]⟩, .func (.func 70) #[] #[]] 86))) := Lib.hid (by have h := RowL.new w1 #[.string ⟨#[]⟩, .nilFunc, .string ⟨#[114, 97, 100, 105, 117, 115]⟩, .func (.func 63) #[] #[], .string ⟨#[104, 101, 105, 103, 104, 116]⟩, .func (.func 64) #[] #[], .string ⟨#[97, 114, 101, 97]⟩, .func (.func 65) #[] #[], .string ⟨#[116, 111, 112]⟩, .func (.func 66) #[] #[], .string ⟨#[98, 111, 116, 116, 111, 109]⟩, .func (.func 67) #[] #[], .string ⟨#[105, 110, 110, 101, 114]⟩, .func (.func 68) #[] #[], .string ⟨#[111, 117, 116, 101, 114]⟩, .func (.func 69) #[] #[], .string ⟨#[108, 105, 102, 116]⟩, .func (.func 70) #[] #[]] 86; (try simp only [World.size_alloc] at h); exact h)
  have hb2 : Below w1.heap.size w1 (w1.alloc (.cells #[.string ⟨#[]⟩, .nilFunc, .string ⟨#[114, 97, 100, 105, 117, 115]⟩, .func (.func 63) #[] #[], .string ⟨#[104, 101, 105, 103, 104, 116]⟩, .func (.func 64) #[] #[], .string ⟨#[97, 114, 101, 97]⟩, .func (.func 65) #[] #[], .string ⟨#[116, 111, 112]⟩, .func (.func 66) #[] #[], .string ⟨#[98, 111, 116, 116, 111, 109]⟩, .func (.func 67) #[] #[], .string ⟨#[105, 110, 110, 101, 114]⟩, .func (.func 68) #[] #[], .string ⟨#[111, 117, 116, 101, 114]⟩, .func (.func 69) #[] #[], .string ⟨#[108, 105, 102, 116]⟩, .func (.func 70) #[] #[]] 86)) := by (with_reducible repeat first | exact Below.refl _ _ | assumption | ((first | refine Below.setCell ?_ ?_ _ | refine Below.alloc ?_ ?_ _); rotate_left; exact (by first | omega | (simp; done) | (simp; omega))) | refine Below.drew ?_ | refine Below_drewN ?_ _)
  have sW2 : w1.heap.size < (w1.alloc (.cells #[.string ⟨#[]⟩, .nilFunc, .string ⟨#[114, 97, 100, 105, 117, 115]⟩, .func (.func 63) #[] #[], .string ⟨#[104, 101, 105, 103, 104, 116]⟩, .func (.func 64) #[] #[], .string ⟨#[97, 114, 101, 97]⟩, .func (.func 65) #[] #[], .string ⟨#[116, 111, 112]⟩, .func (.func 66) #[] #[], .string ⟨#[98, 111, 116, 116, 111, 109]⟩, .func (.func 67) #[] #[], .string ⟨#[105, 110, 110, 101, 114]⟩, .func (.func 68) #[] #[], .string ⟨#[111, 117, 116, 101, 114]⟩, .func (.func 69) #[] #[], .string ⟨#[108, 105, 102, 116]⟩, .func (.func 70) #[] #[]] 86)).heap.size := by simp only [World.size_alloc]; omega
  obtain ⟨W2, hW2⟩ : ∃ W, (w1.alloc (.cells #[.string ⟨#[]⟩, .nilFunc, .string ⟨#[114, 97, 100, 105, 117, 115]⟩, .func (.func 63) #[] #[], .string ⟨#[104, 101, 105, 103, 104, 116]⟩, .func (.func 64) #[] #[], .string ⟨#[97, 114, 101, 97]⟩, .func (.func 65) #[] #[], .string ⟨#[116, 111, 112]⟩, .func (.func 66) #[] #[], .string ⟨#[98, 111, 116, 116, 111, 109]⟩, .func (.func 67) #[] #[], .string ⟨#[105, 110, 110, 101, 114]⟩, .func (.func 68) #[] #[], .string ⟨#[111, 117, 116, 101, 114]⟩, .func (.func 69) #[] #[], .string ⟨#[108, 105, 102, 116]⟩, .func (.func 70) #[] #[]] 86)) = W := ⟨_, rfl⟩
  rw [hW2] at Fl hb2 sW2 ⊢
  clear hW2
  have HL : Hid (RowL w1.heap.size quantRow W2) := Lib.hid Fl.out
  have FS2 := Lib.hid (FS1.out.below hb2)
  have hB2 := hB1.trans (hb2.mono hB1.size)
  clear Fl FS1
  go_wp2_with fail
  refine (HC.out _ _ _ HL.out FS2.out).mono ?_
  rintro e w3 ⟨rfl, hb3⟩
  have hB3 := hB2.trans (hb3.mono hB2.size)
  go_wp2_with fail
  go_ret
  exact ⟨by rw [← HS.out]; rfl, by (with_reducible repeat first | exact Below.refl _ _ | assumption | ((first | refine Below.setCell ?_ ?_ _ | refine Below.alloc ?_ ?_ _); rotate_left; exact (by first | omega | (simp; done) | (simp; omega))) | refine Below.drew ?_ | refine Below_drewN ?_ _)⟩

end Go.Proofs.Ytcdhanfjcnfjjaa
end
