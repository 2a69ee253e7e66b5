import Derived.Test.YthggkidiidnaoaaGreatWAA
import Derived.Test.YthggkidiidnaoaaGreatWAL
import Derived.Test.YthggkidiidnaoaaGreatWAS
import Derived.Test.YthggkidiidnaoaaGreatWAT
import Derived.Test.YthggkidiidnaoaaGreatRows
import Derived.KernelRfl
import Derived.Laws.StructEq
import Derived.Recover
namespace Go.Proofs.YthggkidiidnaoaaGreat
set_option linter.unusedVariables false
set_option linter.unusedSimpArgs false
section
open Go.RowKit
structure StD where
 (tick : Int) (C : CurD) (heat : List Int) (trip : List Bool)
structure StR where
 (Q : CurR) (H T : Option Addr) (lh ch lt ct : Nat)
def boolCells (b : Bool) : List Value := [.bool b]
abbrev StR.v (R : StR) (n : Int) : Value := .agg #[.int .i64 n, .slice R.Q.A R.Q.la R.Q.ca, .slice R.Q.B R.Q.lb R.Q.cb, .slice R.Q.C R.Q.lc R.Q.cc, .slice R.H R.lh R.ch, .slice R.T R.lt R.ct]
structure IsS (w : World) (R : StR) (S : StD) : Prop where
 cur : IsC w R.Q S.C
 heat : IsT 1 intCells w R.H R.lh S.heat
 trip : IsT 1 boolCells w R.T R.lt S.trip
 lh : R.lh ≤ R.ch
 lt : R.lt ≤ R.ct
 ch : R.ch ≤ 9223372036854775807
 ct : R.ct ≤ 9223372036854775807
 kh : R.lh ≤ 1000000000000000
 kt : R.lt ≤ 9223372036854775807
theorem IsS.below {w w1 : World} {R : StR} {S : StD} (h : IsS w R S) (hb : Below w.heap.size w w1) : IsS w1 R S :=
 ⟨h.cur.below hb, h.heat.below hb, h.trip.below hb, h.lh, h.lt, h.ch, h.ct, h.kh, h.kt⟩
def iA (l : List Int) (k : Nat) : Int := l.getD k 0
def bA (l : List Bool) (k : Nat) : Bool := l.getD k false
def cA (M : MachD) (k : Nat) : CoilD := M.coils.getD k ⟨⟨#[]⟩, 0, 0, 0, 0, 0, 0, 0⟩
def sA (M : MachD) (k : Nat) : ShellD := M.shells.getD k ⟨0, 0, 0, 0⟩
theorem getD_get {α : Type} {l : List α} {d : α} {k : Nat} (h : k < l.length) : l[k]? = some (l.getD k d) := by
 rw [List.getD_eq_getElem?_getD, List.getElem?_eq_getElem h]; rfl
theorem iA_get {l : List Int} {k : Nat} (h : k < l.length) : l[k]? = some (iA l k) := getD_get h
theorem bA_get {l : List Bool} {k : Nat} (h : k < l.length) : l[k]? = some (bA l k) := getD_get h
theorem cA_get {M : MachD} {k : Nat} (h : k < M.coils.length) : M.coils[k]? = some (cA M k) := getD_get h
theorem sA_get {M : MachD} {k : Nat} (h : k < M.shells.length) : M.shells[k]? = some (sA M k) := getD_get h
theorem iA_mem {l : List Int} {k : Nat} (h : k < l.length) : iA l k ∈ l := List.mem_of_getElem? (iA_get h)
theorem cA_mem {M : MachD} {k : Nat} (h : k < M.coils.length) : cA M k ∈ M.coils := List.mem_of_getElem? (cA_get h)
theorem sA_mem {M : MachD} {k : Nat} (h : k < M.shells.length) : sA M k ∈ M.shells := List.mem_of_getElem? (sA_get h)
theorem iA_of {l : List Int} {k : Nat} {x : Int} (h : l[k]? = some x) : iA l k = x := by simp [iA, List.getD_eq_getElem?_getD, h]
theorem bA_of {l : List Bool} {k : Nat} {x : Bool} (h : l[k]? = some x) : bA l k = x := by simp [bA, List.getD_eq_getElem?_getD, h]
theorem iA_out {l : List Int} {k : Nat} (h : l.length ≤ k) : iA l k = 0 := by simp [iA, List.getD_eq_getElem?_getD, List.getElem?_eq_none h]
def lst {α : Type} (n : Nat) (f : Nat → α) : List α := (List.range n).map f
theorem lst_length {α : Type} (n : Nat) (f : Nat → α) : (lst n f).length = n := by simp [lst]
theorem lst_get {α : Type} {n k : Nat} (f : Nat → α) (h : k < n) : (lst n f)[k]? = some (f k) := by simp [lst, h]
theorem iA_lst {n k : Nat} (f : Nat → Int) (h : k < n) : iA (lst n f) k = f k := iA_of (lst_get f h)
theorem bA_lst {n k : Nat} (f : Nat → Bool) (h : k < n) : bA (lst n f) k = f k := bA_of (lst_get f h)
theorem lst_take {α : Type} {n k : Nat} (f : Nat → α) (h : k < n) : (lst n f).take (k + 1) = (lst n f).take k ++ [f k] := take_snoc (lst_get f h)
theorem lst_snoc {α : Type} (k : Nat) (f : Nat → α) : lst (k + 1) f = lst k f ++ [f k] := by simp [lst, List.range_succ]
theorem lst_all {α : Type} {n : Nat} {f : Nat → α} {p : α → Prop} : (∀ x ∈ lst n f, p x) ↔ ∀ k, k < n → p (f k) := by simp [lst]
theorem list_lst (l : List Int) : l = lst l.length (iA l) := by
 apply List.ext_getElem?
 intro k
 rcases Nat.lt_or_ge k l.length with h | h
 ·rw [iA_get h, lst_get _ h]
 ·rw [List.getElem?_eq_none h, List.getElem?_eq_none (by rw [lst_length]; exact h)]
theorem listB_lst (l : List Bool) : l = lst l.length (bA l) := by
 apply List.ext_getElem?
 intro k
 rcases Nat.lt_or_ge k l.length with h | h
 ·rw [bA_get h, lst_get _ h]
 ·rw [List.getElem?_eq_none h, List.getElem?_eq_none (by rw [lst_length]; exact h)]
theorem lst_ext {α : Type} {n : Nat} {f g : Nat → α} (h : ∀ k, k < n → f k = g k) : lst n f = lst n g := by
 unfold lst
 apply List.map_congr_left
 intro k hk
 exact h k (List.mem_range.1 hk)
def validS (M : MachD) (S : StD) : Bool :=
 validC M S.C && (wthn S.tick 0 1000000000 && ((decide (S.heat.length = M.coils.length) && allW S.heat 0 1000000000000000) && decide (S.trip.length = M.coils.length)))
structure FitS (M : MachD) (S : StD) : Prop where
 cur : Fit2 M S.C
 tick : 0 ≤ S.tick ∧ S.tick ≤ 1000000000
 heat : S.heat.length = M.coils.length ∧ ∀ x ∈ S.heat, 0 ≤ x ∧ x ≤ 1000000000000000
 trip : S.trip.length = M.coils.length
theorem fitS_iff {M : MachD} {S : StD} : validS M S = true ↔ FitS M S := by
 unfold validS
 simp only [Bool.and_eq_true, decide_eq_true_eq, allW_iff, fit2_iff, wthn_iff]
 exact ⟨fun ⟨a, b, c, d⟩ => ⟨a, b, c, d⟩, fun h => ⟨h.cur, h.tick, h.heat, h.trip⟩⟩
def validCh (M : MachD) (l : List Int) (most : Int) : Bool := decide (l.length = M.coils.length) && allW l (-most) most
theorem validCh_iff {M : MachD} {l : List Int} {most : Int} : validCh M l most = true ↔ l.length = M.coils.length ∧ ∀ x ∈ l, -most ≤ x ∧ x ≤ most := by
 unfold validCh; simp only [Bool.and_eq_true, decide_eq_true_eq, allW_iff]
def zerosI (n : Nat) : List Int := List.replicate n 0
def validPl (M : MachD) (pl : List Int) : Bool := validC M ⟨zerosI M.coils.length, zerosI M.shells.length, pl⟩
structure FitP (M : MachD) (pl : List Int) : Prop where
 check : checkC M = 0
 plasma : (pl.length : Int) = M.grid.nr * M.grid.nz ∧ ∀ x ∈ pl, 0 ≤ x ∧ x ≤ 1000000
 total : tot 0 pl ≤ 1000000
theorem fitP_iff {M : MachD} {pl : List Int} : validPl M pl = true ↔ FitP M pl := by
 unfold validPl
 rw [fit2_iff]
 refine ⟨fun h => ⟨h.check, h.plasma, h.total⟩, fun h => ⟨h.check, ⟨by simp [zerosI], fun x hx => ?_⟩, ⟨by simp [zerosI], fun x hx => ?_⟩, h.plasma, h.total⟩⟩
 ·obtain ⟨_, rfl⟩ := List.mem_replicate.1 hx; omega
 ·obtain ⟨_, rfl⟩ := List.mem_replicate.1 hx; omega
structure Coil2 (c : CoilD) : Prop where
 turns : 1 ≤ c.turns ∧ c.turns ≤ 100
 cur : 1 ≤ c.cur ∧ c.cur ≤ 1000000
 step : 1 ≤ c.step ∧ c.step ≤ 1000000
 heat : 1 ≤ c.heat ∧ c.heat ≤ 1000000000000
 cool : 0 ≤ c.cool ∧ c.cool ≤ 1000000000
structure Shell2 (s : ShellD) : Prop where
 self : 1 ≤ s.self ∧ s.self ≤ 1000000000
 loss : 1 ≤ s.loss ∧ s.loss ≤ 1000
theorem coil2_of {c : CoilD} {e : List CoilD} (h : coilC c e = 0) : Coil2 c := by
 unfold coilC at h
 split at h
 ·split at h
  ·simp at h
  ·have h1 := rng_zero h
   simp only [Bool.and_eq_true, wthn_iff] at h1
   exact ⟨h1.2.1, h1.2.2.1, h1.2.2.2.1, h1.2.2.2.2.1, h1.2.2.2.2.2⟩
 ·simp at h
theorem shell2_of {s : ShellD} {e : List ShellD} (h : shellC s e = 0) : Shell2 s := by
 unfold shellC at h
 have h1 := rng_zero h
 simp only [Bool.and_eq_true, wthn_iff] at h1
 exact ⟨h1.2.1, h1.2.2⟩
theorem coils2 {M : MachD} (h : checkC M = 0) : ∀ x ∈ M.coils, Coil2 x := fun x hx => by
 have h1 := (orL_zero (orL_zero h).2)
 exact ((eachC_all h1.1).2 x hx).elim fun e he => coil2_of he
theorem shells2 {M : MachD} (h : checkC M = 0) : ∀ x ∈ M.shells, Shell2 x := fun x hx => by
 have h1 := (orL_zero (orL_zero h).2)
 have h2 := orL_zero h1.2
 exact ((eachC_all h2.1).2 x hx).elim fun e he => shell2_of he
theorem cA_ok {M : MachD} (h : checkC M = 0) {k : Nat} (hk : k < M.coils.length) : Coil2 (cA M k) := coils2 h _ (cA_mem hk)
theorem sA_ok {M : MachD} (h : checkC M = 0) {k : Nat} (hk : k < M.shells.length) : Shell2 (sA M k) := shells2 h _ (sA_mem hk)
def cutI (n most : Int) : Int := max (-most) (min n most)
theorem cutI_bd {n most : Int} (h : 0 ≤ most) : -most ≤ cutI n most ∧ cutI n most ≤ most := by unfold cutI; omega
def appI (c : CoilD) (cur ch : Int) (t : Bool) : Int := if t = true then cutI (-cur) c.step else cutI (cutI (cur + cutI ch c.step) c.cur - cur) c.step
theorem appI_bd {c : CoilD} (h : Coil2 c) (cur ch : Int) (t : Bool) : -c.step ≤ appI c cur ch t ∧ appI c cur ch t ≤ c.step := by
 have := h.step
 unfold appI; split <;> exact cutI_bd om9
def appA (M : MachD) (S : StD) (ch : List Int) (k : Nat) : Int := appI (cA M k) (iA S.C.coils k) (iA ch k) (bA S.trip k)
def appL (M : MachD) (S : StD) (ch : List Int) : List Int := lst M.coils.length (appA M S ch)
def cellN (M : MachD) : Nat := (M.grid.nr * M.grid.nz).toNat
def lkA (M : MachD) (s : ShellD) (j : Nat) : Int := if j < M.coils.length then (cA M j).turns * infl s.r s.z (cA M j).r (cA M j).z else infl s.r s.z (cellR M.grid ((j - M.coils.length : Nat) : Int)) (cellZ M.grid ((j - M.coils.length : Nat) : Int))
def linkL (M : MachD) (s : ShellD) : List Int := lst (M.coils.length + cellN M) (lkA M s)
theorem lk_bd {M : MachD} (h : checkC M = 0) (s : ShellD) (j : Nat) : 0 ≤ lkA M s j ∧ lkA M s j ≤ 25000000 := by
 unfold lkA
 split
 ·rename_i hj
  have h1 := (cA_ok h hj).turns
  have h2 := infl_bd s.r s.z (cA M j).r (cA M j).z
  exact ⟨Int.mul_nonneg om9 h2.1, by have := Int.mul_le_mul h1.2 h2.2 h2.1 om9; omega⟩
 ·have h2 := infl_bd s.r s.z (cellR M.grid ((j - M.coils.length : Nat) : Int)) (cellZ M.grid ((j - M.coils.length : Nat) : Int))
  omega
def dotTo (f : Nat → Int) : Nat → Int
 | 0 => 0
 | n + 1 => dotTo f n + f n
theorem dotTo_bd {f : Nat → Int} {B : Int} : ∀ n : Nat, (∀ k, k < n → -B ≤ f k ∧ f k ≤ B) → -(n * B) ≤ dotTo f n ∧ dotTo f n ≤ n * B
 | 0, _ => by simp [dotTo]
 | n + 1, h => by
  have h1 := dotTo_bd n (fun k hk => h k om9)
  have h2 := h n om9
  have e : ((n + 1 : Nat) : Int) * B = n * B + B := by rw [Int.natCast_succ, Int.add_mul]; omega
  rw [e]
  simp only [dotTo]
  omega
theorem mulP_bd {x y X Y : Int} (hx : 0 ≤ x ∧ x ≤ X) (hy : -Y ≤ y ∧ y ≤ Y) : -(X * Y) ≤ x * y ∧ x * y ≤ X * Y := by
 have h0 : 0 ≤ Y := by omega
 have h1 : x * y ≤ x * Y := Int.mul_le_mul_of_nonneg_left hy.2 hx.1
 have h2 : x * -Y ≤ x * y := Int.mul_le_mul_of_nonneg_left hy.1 hx.1
 have h3 : x * Y ≤ X * Y := Int.mul_le_mul_of_nonneg_right hx.2 h0
 have h4 : x * -Y = -(x * Y) := by rw [Int.mul_neg]
 omega
def termA (M : MachD) (co ce : List Int) (s : ShellD) (j : Nat) : Int := lkA M s j * iA (co ++ ce) j
def indA (M : MachD) (co ce : List Int) (i : Nat) : Int := (dotTo (termA M co ce (sA M i)) (M.coils.length + cellN M)).tdiv (sA M i).self
def indL (M : MachD) (co ce : List Int) : List Int := lst M.shells.length (indA M co ce)
def diffL (a b : List Int) : List Int := lst a.length fun k => iA a k - iA b k
def lostI (cur loss : Int) : Int := if cur < 0 then -((max cur (-cur) * loss + 1000 - 1).tdiv 1000) else (max cur (-cur) * loss + 1000 - 1).tdiv 1000
def heatI (c : CoilD) (cur h : Int) : Int := max 0 (min (h + (cur * cur).tdiv 1000 - c.cool) 1000000000000000)
def tripI (c : CoilD) (cur heat : Int) (t : Bool) : Bool := if c.heat < heat then true else if cur = 0 ∧ heat ≤ c.heat.tdiv 2 then false else t
def coilN (M : MachD) (S : StD) (ch : List Int) (k : Nat) : Int := iA S.C.coils k + appA M S ch k
def shellN (M : MachD) (S : StD) (ch pl : List Int) (i : Nat) : Int := cutI (iA S.C.shells i - lostI (iA S.C.shells i) (sA M i).loss - indA M (appL M S ch) (diffL pl S.C.plasma) i) 1000000
def heatN (M : MachD) (S : StD) (ch : List Int) (k : Nat) : Int := heatI (cA M k) (coilN M S ch k) (iA S.heat k)
def tripN (M : MachD) (S : StD) (ch : List Int) (k : Nat) : Bool := tripI (cA M k) (coilN M S ch k) (heatN M S ch k) (bA S.trip k)
def stepD (M : MachD) (S : StD) (ch pl : List Int) : StD :=
 ⟨S.tick + 1, ⟨lst M.coils.length (coilN M S ch), lst M.shells.length (shellN M S ch pl), pl⟩, lst M.coils.length (heatN M S ch), lst M.coils.length (tripN M S ch)⟩
theorem lost_bd {cur loss : Int} (hl : 1 ≤ loss ∧ loss ≤ 1000) : (0 ≤ cur → 0 ≤ lostI cur loss ∧ lostI cur loss ≤ cur ∧ (0 < cur → 0 < lostI cur loss)) ∧ (cur < 0 → cur ≤ lostI cur loss ∧ lostI cur loss < 0) := by
 have key : ∀ m : Int, 0 ≤ m → 0 ≤ (m * loss + 1000 - 1).tdiv 1000 ∧ (m * loss + 1000 - 1).tdiv 1000 ≤ m ∧ (0 < m → 0 < (m * loss + 1000 - 1).tdiv 1000) := fun m hm => by
  have h1 : m * loss ≤ m * 1000 := Int.mul_le_mul_of_nonneg_left hl.2 hm
  have h2 : m * 1 ≤ m * loss := Int.mul_le_mul_of_nonneg_left hl.1 hm
  rw [Int.tdiv_eq_ediv_of_nonneg om9]
  omega
 refine ⟨fun h => ?_, fun h => ?_⟩
 ·have e : max cur (-cur) = cur := by omega
  unfold lostI
  rw [if_neg om9, e]
  exact key cur h
 ·have e : max cur (-cur) = -cur := by omega
  unfold lostI
  rw [if_pos h, e]
  have := key (-cur) om9
  have := this.2.2 om9
  omega
theorem new_bd {c : CoilD} (h : Coil2 c) {cur ch : Int} {t : Bool} (hc : -1000000 ≤ cur ∧ cur ≤ 1000000) : -1000000 ≤ cur + appI c cur ch t ∧ cur + appI c cur ch t ≤ 1000000 := by
 have h1 := h.cur
 have h2 := h.step
 unfold appI cutI
 split <;> omega
theorem step_fit {M : MachD} {S : StD} {ch pl : List Int} (h : FitS M S) (ht : S.tick < 1000000000) (hp : FitP M pl) : FitS M (stepD M S ch pl) := by
 have h0 := h.cur.check
 refine ⟨⟨h0, ⟨lst_length _ _, lst_all.2 fun k hk => ?_⟩, ⟨lst_length _ _, lst_all.2 fun k hk => ?_⟩, hp.plasma, hp.total⟩, ⟨?_, ?_⟩, ⟨lst_length _ _, lst_all.2 fun k hk => ?_⟩, lst_length _ _⟩
 ·exact new_bd (cA_ok h0 hk) (h.cur.coils.2 _ (iA_mem (by rw [h.cur.coils.1]; exact hk)))
 ·exact cutI_bd om9
 ·have := h.tick; simp only [stepD]; omega
 ·have := h.tick; simp only [stepD]; omega
 ·unfold heatN heatI; omega
end
section
open Go.RowKit
end
section
set_option autoImplicit false
open Go.RowKit
section
variable {P : Program} {e0 : Cfg} {U : Snaps} {l : Slots} {L : Boxes} {ops : Array Oper} {Q : Exit → Act → World → Prop} {rest : List Oper} {d : Nat} {v : Value}
variable {ty : TypeId} {pos : String} {af : Array Edge} {g : Option (Nat × Bool)} {dd : Option Nat}
theorem Fr.defer {n : Nat} {D : List Deferred} {w0 : World} {bs : List Nat} {a : Act} (h : Fr ⟨n, D, w0, bs⟩ l a) (x : Deferred) (u : Value) : Fr ⟨n, x :: D, w0, bs⟩ l ({ a with defers := x :: a.defers }.put none u) :=
 ⟨h.size, by show x :: a.defers = x :: D; rw [h.defers], h.slot⟩
end
end
section
open Go.RowKit
theorem flat_get {α : Type} {n : Nat} {enc : α → List Value} (hl : ∀ x, (enc x).length = n) : ∀ (zs : List α) (j : Nat) (x : α), zs[j]? = some x → ∀ (i : Nat) (v : Value), (enc x)[i]? = some v → (zs.flatMap enc)[j * n + i]? = some v
 | [], j, x, h, i, v, hv => by simp at h
 | z :: zs, 0, x, h, i, v, hv => by
  obtain rfl : z = x := by simpa using h
  have hi := (List.getElem?_eq_some_iff.1 hv).1
  simp only [List.flatMap_cons, Nat.zero_mul, Nat.zero_add]
  rw [List.getElem?_append_left hi]; exact hv
 | z :: zs, j + 1, x, h, i, v, hv => by
  simp only [List.flatMap_cons]
  rw [List.getElem?_append_right (by rw [hl, Nat.add_mul]; omega), hl]
  have e : (j + 1) * n + i - n = j * n + i := by rw [Nat.add_mul]; omega
  rw [e]
  exact flat_get hl zs j x (by simpa using h) i v hv
theorem isT_box {α : Type} {n : Nat} {enc : α → List Value} (hl : ∀ x, (enc x).length = n) {w : World} {b : Nat} {cs sp : List Value} {zs : List α} {len : Nat} (h : BoxAt w b (.cells (cs ++ sp))) (hz : zs.flatMap enc = cs) (hn : zs.length = len) : IsT n enc w (some ⟨b, 0, none⟩) len zs := by
 refine ⟨hn, fun _ => ⟨b, 0, rfl, h.lt, fun j x hx i v hv => ?_⟩⟩
 have hc := flat_get hl zs j x hx i v hv
 rw [hz] at hc
 have hlt := (List.getElem?_eq_some_iff.1 hc).1
 rw [Nat.zero_add]
 exact (h.cell _ rfl _ v (by rw [List.getElem?_append_left hlt]; exact hc)).1
theorem isT_box0 {α : Type} {n : Nat} {enc : α → List Value} (hl : ∀ x, (enc x).length = n) {w : World} {b : Nat} {cs : List Value} {zs : List α} {len : Nat} (h : BoxAt w b (.cells cs)) (hz : zs.flatMap enc = cs) (hn : zs.length = len) : IsT n enc w (some ⟨b, 0, none⟩) len zs :=
 isT_box (sp := []) hl (by simpa using h) hz hn
theorem Sta.at {E : Cfg} {U : Snaps} {L : Boxes} {w : World} (h : Sta E U L w) (i : Nat) {b : Nat} {c : Cont} (hi : L[i]? = some (b, c)) : BoxAt w b c := (h.box i b c hi).2
theorem Sta.isT {α : Type} {n : Nat} {enc : α → List Value} {E : Cfg} {U : Snaps} {L : Boxes} {w : World} (h : Sta E U L w) {lo : Nat} {u : World} (hu : (lo, u) ∈ U) {A : Option Addr} {len : Nat} {zs : List α} (hz : IsT n enc u A len zs)
  (hA : ∀ b o, A = some ⟨b, o, none⟩ → lo ≤ b ∨ b < E.w.heap.size ∧ b ∉ E.lent) : IsT n enc w A len zs :=
 ⟨hz.1, fun h0 => by
  obtain ⟨b, o, e, h1, h2⟩ := hz.2 h0
  have hk : w.heap[b]? = u.heap[b]? := h.old hu (by rcases hA b o e with g | g; exact Or.inl ⟨g, h1⟩; exact Or.inr g)
  refine ⟨b, o, e, ?_, fun j x hx i v hv => ?_⟩
  ·have := (h.snap lo u hu).2.2.1; omega
  ·rw [World.cell?_of_block (w := u) (w' := w) (a := ⟨b, _, none⟩) hk]; exact h2 j x hx i v hv⟩
structure NewM (w : World) (R : MachR) : Prop where
 a : ∀ b o, R.A = some ⟨b, o, none⟩ → w.heap.size ≤ b
 b : ∀ b o, R.B = some ⟨b, o, none⟩ → w.heap.size ≤ b
 c : ∀ b o, R.C = some ⟨b, o, none⟩ → w.heap.size ≤ b
 d : ∀ b o, R.D = some ⟨b, o, none⟩ → w.heap.size ≤ b
theorem NewM.mono {w v : World} {R : MachR} (h : NewM v R) (hz : w.heap.size ≤ v.heap.size) : NewM w R :=
 ⟨fun b o e => Nat.le_trans hz (h.a b o e), fun b o e => Nat.le_trans hz (h.b b o e), fun b o e => Nat.le_trans hz (h.c b o e), fun b o e => Nat.le_trans hz (h.d b o e)⟩
theorem Sta.new {n : Nat} {D : List Deferred} {w0 : World} {U : Snaps} {L : Boxes} {w : World} (h : Sta ⟨n, D, w0, []⟩ U L w) (i : Nat) {b : Nat} {c : Cont} (hi : L[i]? = some (b, c)) : ∀ b' o, some (⟨b, 0, none⟩ : Addr) = some ⟨b', o, none⟩ → w0.heap.size ≤ b' := fun b' o e => by
 cases e
 rcases (h.box i b c hi).1 with g | g
 ·exact g
 ·cases g
theorem Sta.isM {E : Cfg} {U : Snaps} {L : Boxes} {w : World} (h : Sta E U L w) {v u : World} (hu : (v.heap.size, u) ∈ U) {R : MachR} {M : MachD} (hM : IsM u R M) (hN : NewM v R) : IsM w R M :=
 ⟨h.isT hu hM.coils fun b o e => Or.inl (hN.a b o e), h.isT hu hM.shells fun b o e => Or.inl (hN.b b o e), h.isT hu hM.limits fun b o e => Or.inl (hN.c b o e), h.isT hu hM.sensors fun b o e => Or.inl (hN.d b o e), hM.la, hM.lb, hM.lc, hM.ld, hM.ca, hM.cb, hM.cc, hM.cd, hM.ka, hM.kb, hM.kc, hM.kd⟩
end
end Go.Proofs.YthggkidiidnaoaaGreat
