import Derived.Test.YtfpjhobhmcfpnaaDoorRows
import Derived.WalkKit
import Derived.WalkSpells
import Derived.WalkLawsBesides
import Derived.Lib.Hide
import Derived.Deep.RegionHeld3
import Derived.Deep.DeepCutAuto
import Derived.Deep.QuietTactic
import Derived.BigQuiet
import Derived.IntWalk
import Derived.Handy
section
/- Package span and its specification: contracts of the small functions (Valid, Contains, Inside and so on), over this seat's translation. -/
namespace Go.Proofs.YtfpjhobhmcfpnaaDoor
set_option linter.unusedVariables false
set_option linter.unusedSimpArgs false
open Go.RowKit

/-- A span as a value. -/
abbrev Sp (lo hi : Int) : Value := .agg #[.int .i64 lo, .int .i64 hi]

/-- What a call that only makes memory leaves. -/
def Ret (v : Value) (w : World) (e : Ending) (w' : World) : Prop := e = .returned v ∧ Below w.heap.size w w'

theorem bcell {W w1 : World} (hb : Below W.heap.size W w1) : (∀ b o, b < W.heap.size → w1.cell? ⟨b, o, none⟩ = W.cell? ⟨b, o, none⟩) ∧ (∀ b o, b < W.heap.size → w1.frozen? ⟨b, o, none⟩ = W.frozen? ⟨b, o, none⟩) :=
  ⟨fun b o h => hb.cell (p := ⟨b, o, none⟩) h, fun b o h => hb.frozen (p := ⟨b, o, none⟩) h⟩

/-- A struct of two cells behind its last store, and a plain result beside it. -/
theorem res3 {fn : Func} {p u : Tmp} (h : fn.results = #[.cell p 66, .tmp u]) (tmps : Array Value) (W : World) (b : Nat) (x y z : Value)
    (hp : tmps.getD p undef = .pointer (some ⟨b, 0, none⟩)) (hu : tmps.getD u undef = z) (h0 : (W.cell? ⟨b, 0, none⟩).isSome = true) (h1 : (W.cell? ⟨b, 1, none⟩).isSome = true) :
    (results fn tmps).run Tryd.prog ((W.setCell ⟨b, 0, none⟩ x).setCell ⟨b, 1, none⟩ y) = .ok (.tuple #[.agg #[x, y], z]) ((W.setCell ⟨b, 0, none⟩ x).setCell ⟨b, 1, none⟩ y) := by
  have n1 : (⟨b, 1, none⟩ : Addr) ≠ ⟨b, 0, none⟩ := by simp
  have n0 : (⟨b, 0, none⟩ : Addr) ≠ ⟨b, 1, none⟩ := by simp
  have e1 : ((W.setCell ⟨b, 0, none⟩ x).setCell ⟨b, 1, none⟩ y).cell? ⟨b, 0, none⟩ = some x :=
    (World.cell?_setCell_other _ _ _ _ n1).trans (World.cell?_setCell_same' _ _ _ h0)
  have e2 : ((W.setCell ⟨b, 0, none⟩ x).setCell ⟨b, 1, none⟩ y).cell? ⟨b, 1, none⟩ = some y :=
    World.cell?_setCell_same' _ _ _ (by rw [World.cell?_setCell_other _ _ _ _ n0]; exact h1)
  rw [results_cell_tmp h, hp, hu]
  simp [go_sem, e1, e2]

/-- From W to w': every block of W but block x is as it was; block x stands, with its marks. -/
structure Reg (x : Nat) (W w' : World) : Prop where
  os : w'.os = W.os
  tape : w'.tape = W.tape
  output : w'.output = W.output
  size : W.heap.size ≤ w'.heap.size
  block : ∀ k, k < W.heap.size → k ≠ x → w'.heap[k]? = W.heap[k]?
  some : ∀ b o, b < W.heap.size → (w'.cell? ⟨b, o, none⟩).isSome = (W.cell? ⟨b, o, none⟩).isSome
  frozen : ∀ b o, b < W.heap.size → w'.frozen? ⟨b, o, none⟩ = W.frozen? ⟨b, o, none⟩
theorem Reg.refl (x : Nat) (W : World) : Reg x W W := ⟨rfl, rfl, rfl, Nat.le_refl _, fun _ _ _ => rfl, fun _ _ _ => rfl, fun _ _ _ => rfl⟩
theorem Reg.cells {x : Nat} {W w1 : World} (h : Reg x W w1) : ∀ b o, b < W.heap.size → b ≠ x → w1.cell? ⟨b, o, none⟩ = W.cell? ⟨b, o, none⟩ := fun b o hb hx => World.cell?_of_block (w := W) (a := ⟨b, o, none⟩) (h.block b hb hx)
theorem Reg.drew {x : Nat} {W w1 : World} (h : Reg x W w1) : Reg x W w1.drew :=
  ⟨h.os, h.tape, h.output, h.size, h.block, fun b o hb => by rw [World.cell?_drew]; exact h.some b o hb, fun b o hb => by rw [World.frozen?_drew]; exact h.frozen b o hb⟩
theorem Reg.call {x : Nat} {W w1 w2 : World} (h : Reg x W w1) (hb : Below w1.heap.size w1 w2) : Reg x W w2 :=
  ⟨hb.os.trans h.os, hb.tape.trans h.tape, hb.output.trans h.output, Nat.le_trans h.size hb.size, fun k hk hx => (hb.block k (Nat.lt_of_lt_of_le hk h.size)).trans (h.block k hk hx),
    fun b o hw => by rw [hb.cell (p := ⟨b, o, none⟩) (Nat.lt_of_lt_of_le hw h.size)]; exact h.some b o hw, fun b o hw => by rw [hb.frozen (p := ⟨b, o, none⟩) (Nat.lt_of_lt_of_le hw h.size)]; exact h.frozen b o hw⟩
theorem Reg.alloc {x : Nat} {W w1 : World} (h : Reg x W w1) (o : Obj) : Reg x W (w1.alloc o) :=
  h.call ((Below.refl _ _).alloc (Nat.le_refl _) o)
theorem isSome_setCell (w : World) (a q : Addr) (v : Value) : ((w.setCell a v).cell? q).isSome = (w.cell? q).isSome := by
  by_cases h : a = q
  · subst h
    cases hc : w.cell? a with
    | some u => rw [World.cell?_setCell_same _ _ _ hc]; rfl
    | none =>
      cases hd : (w.setCell a v).cell? a with
      | none => rfl
      | some u =>
        exfalso
        unfold World.cell? at hc
        simp only [World.setCell, World.cell?, Array.getElem?_modify, ↓reduceIte] at hd
        cases hh : w.heap[a.block]? with
        | none => simp [hh] at hd
        | some o =>
          cases o with
          | cells c t f =>
            simp only [hh, Option.map_some] at hd hc
            cases hs : a.spot.isSome with
            | true => simp [hs] at hd
            | false =>
              simp [hs] at hd hc
              have := Array.getElem?_eq_none hc
              rw [Array.getElem?_eq_none (by simpa using hc)] at hd
              simp at hd
          | _ => simp [hh] at hd
  · rw [World.cell?_setCell_other _ _ _ _ h]
theorem Reg.setCell {x : Nat} {W w1 : World} (h : Reg x W w1) {p : Addr} (hp : p.block = x ∨ W.heap.size ≤ p.block) (v : Value) : Reg x W (w1.setCell p v) :=
  ⟨h.os, h.tape, h.output, by rw [World.size_setCell]; exact h.size, fun k hk hx => (Below.heap_setCell _ _ _ _ (by omega)).trans (h.block k hk hx),
    fun b o hw => by rw [isSome_setCell]; exact h.some b o hw, fun b o hw => by rw [World.frozen?_setCell]; exact h.frozen b o hw⟩

theorem Reg.out {x : Nat} {w W w1 : World} (h : Reg x W w1) (h0 : Below w.heap.size w W) (hB : w.heap.size ≤ x) : Below w.heap.size w w1 :=
  ⟨h.os.trans h0.os, h.tape.trans h0.tape, h.output.trans h0.output, Nat.le_trans h0.size h.size, fun k hk => (h.block k (Nat.lt_of_lt_of_le hk h0.size) (by omega)).trans (h0.block k hk)⟩
theorem size_drew (w : World) : w.drew.heap.size = w.heap.size := rfl
theorem Below_drewN {B : Nat} {a w : World} (h : Below B a w) (n : Nat) : Below B a (w.drewN n) := ⟨h.os, h.tape, h.output, h.size, h.block⟩
theorem Reg.drewN {x : Nat} {W w1 : World} (h : Reg x W w1) (n : Nat) : Reg x W (w1.drewN n) :=
  ⟨h.os, h.tape, h.output, h.size, h.block, fun b o hb => h.some b o hb, fun b o hb => h.frozen b o hb⟩
theorem Reg.drewN2 (x : Nat) (W : World) (n m : Nat) : Reg x (W.drewN n) (W.drewN m) := ⟨rfl, rfl, rfl, Nat.le_refl _, fun _ _ _ => rfl, fun _ _ _ => rfl, fun _ _ _ => rfl⟩
theorem size_drewN (w : World) (n : Nat) : (w.drewN n).heap.size = w.heap.size := rfl
theorem size_alloc_lt (w : World) (o : Obj) : w.heap.size < (w.alloc o).heap.size := by simp
theorem size_alloc_drew_lt (w : World) (o : Obj) : w.heap.size < (w.alloc o).drew.heap.size := by rw [show (w.alloc o).drew.heap.size = (w.alloc o).heap.size from rfl]; simp

/-- What a cell holds, whatever it is. -/
def cur (w : World) (a : Addr) : Value := (w.cell? a).getD undef
theorem cur_iff (w : World) (a : Addr) : (w.cell? a = some (cur w a)) = ((w.cell? a).isSome = true) := by
  unfold cur
  cases w.cell? a <;> simp

def inR (n : Int) : Bool := decide (-1000000000000000 ≤ n) && decide (n ≤ 1000000000000000)
def vld (lo hi : Int) : Bool := decide (lo ≤ hi) && (inR lo && inR hi)
def cont (lo hi n : Int) : Bool := vld lo hi && (decide (lo ≤ n) && decide (n ≤ hi))
theorem inR_iff {n : Int} : inR n = true ↔ -1000000000000000 ≤ n ∧ n ≤ 1000000000000000 := by simp [inR]
theorem vld_iff {lo hi : Int} : vld lo hi = true ↔ lo ≤ hi ∧ -1000000000000000 ≤ lo ∧ hi ≤ 1000000000000000 := by simp [vld, inR]; omega

set_option maxHeartbeats 400000 in
theorem inRange_any (n : Int) (w : World) :
    Calls Tryd.prog 91 #[.int .i64 n] w fun e w' => e = .returned (.bool (inR n)) ∧ w = w' := by
  go_enter Tryd.func91, Tryd.ntmps91
  go_wp2
  all_goals go_ret
  all_goals (simp [inR]; try omega)

set_option maxHeartbeats 400000 in
theorem valid_any (lo hi : Int) (w : World) :
    Calls Tryd.prog 51 #[Sp lo hi] w (Ret (.bool (vld lo hi)) w) := by
  go_enter Tryd.func51, Tryd.ntmps51
  go_wp2_with (go_at_call 91; refine (inRange_any _ _).mono ?_; rintro e w' ⟨rfl, rfl⟩)
  all_goals go_ret
  all_goals exact ⟨by simp [vld, *] <;> omega, by (with_reducible repeat first | exact Below.refl _ _ | assumption | ((first | refine Below.setCell ?_ ?_ _ | refine Below.alloc ?_ ?_ _); rotate_left; exact (by first | omega | (simp; done) | (simp; omega))) | refine Below.drew ?_ | refine Below_drewN ?_ _)⟩

set_option maxHeartbeats 400000 in
theorem contains_any (lo hi n : Int) (w : World) :
    Calls Tryd.prog 88 #[Sp lo hi, .int .i64 n] w (Ret (.bool (cont lo hi n)) w) := by
  go_enter Tryd.func88, Tryd.ntmps88
  go_wp2_with (go_at_call 51; refine (valid_any _ _ _).mono ?_; rintro e w1 ⟨rfl, hb⟩; have hB : Below w.heap.size w w1 := Below.trans (by (with_reducible repeat first | exact Below.refl _ _ | assumption | ((first | refine Below.setCell ?_ ?_ _ | refine Below.alloc ?_ ?_ _); rotate_left; exact (by first | omega | (simp; done) | (simp; omega))) | refine Below.drew ?_ | refine Below_drewN ?_ _)) (hb.mono (by first | omega | (simp; done) | (simp; omega))); obtain ⟨hc, hf⟩ := bcell hb; have hs := hb.size; clear hb; (try simp only [World.size_alloc, World.size_setCell] at hc hf); (try simp only [World.size_alloc, World.size_setCell] at hs); (try have hs' := Nat.lt_of_succ_le hs); (try have hs0 : w.heap.size < w1.heap.size := by omega); (try have hs1 : w.heap.size + 1 < w1.heap.size := by omega); (try have hs2 : w.heap.size + 1 + 1 < w1.heap.size := by omega); (try have hs3 : w.heap.size + 1 + 1 + 1 < w1.heap.size := by omega))
  all_goals go_ret
  all_goals exact ⟨by simp [cont, *] <;> omega, by (with_reducible repeat first | exact Below.refl _ _ | assumption | ((first | refine Below.setCell ?_ ?_ _ | refine Below.alloc ?_ ?_ _); rotate_left; exact (by first | omega | (simp; done) | (simp; omega))) | refine Below.drew ?_ | refine Below_drewN ?_ _)⟩

end Go.Proofs.YtfpjhobhmcfpnaaDoor
end
section
/- A machine as data, and what the document asks of it (Name, Check): plain functions; and how its lists lie in memory. -/
namespace Go.Proofs.YtfpjhobhmcfpnaaDoor
set_option linter.unusedVariables false
set_option linter.unusedSimpArgs false
open Go.RowKit

structure CoilD where
  (name : ByteArray) (r z turns cur step heat cool : Int)
structure ShellD where
  (r z self loss : Int)
structure PointD where
  (r z : Int)
structure SensorD where
  (name : ByteArray) (kind r z error : Int)
structure FaultD where
  (at_ sensor kind n : Int)
structure SpanD where
  (lo hi : Int)
structure GridD where
  (r z nr nz step : Int)
structure MachD where
  (name : ByteArray) (coils : List CoilD) (shells : List ShellD) (limits : List PointD) (grid : GridD) (sensors : List SensorD)

def CoilD.cells (x : CoilD) : List Value := [.string x.name, .int .i64 x.r, .int .i64 x.z, .int .i64 x.turns, .int .i64 x.cur, .int .i64 x.step, .int .i64 x.heat, .int .i64 x.cool]
def ShellD.cells (x : ShellD) : List Value := [.int .i64 x.r, .int .i64 x.z, .int .i64 x.self, .int .i64 x.loss]
def PointD.cells (x : PointD) : List Value := [.int .i64 x.r, .int .i64 x.z]
def SensorD.cells (x : SensorD) : List Value := [.string x.name, .int .i64 x.kind, .int .i64 x.r, .int .i64 x.z, .int .i64 x.error]
def FaultD.cells (x : FaultD) : List Value := [.int .i64 x.at_, .int .i64 x.sensor, .int .i64 x.kind, .int .i64 x.n]
def SpanD.cells (x : SpanD) : List Value := [.int .i64 x.lo, .int .i64 x.hi]
def intCells (x : Int) : List Value := [.int .i64 x]
abbrev CoilD.v (x : CoilD) : Value := .agg #[.string x.name, .int .i64 x.r, .int .i64 x.z, .int .i64 x.turns, .int .i64 x.cur, .int .i64 x.step, .int .i64 x.heat, .int .i64 x.cool]
abbrev ShellD.v (x : ShellD) : Value := .agg #[.int .i64 x.r, .int .i64 x.z, .int .i64 x.self, .int .i64 x.loss]
abbrev PointD.v (x : PointD) : Value := .agg #[.int .i64 x.r, .int .i64 x.z]
abbrev SensorD.v (x : SensorD) : Value := .agg #[.string x.name, .int .i64 x.kind, .int .i64 x.r, .int .i64 x.z, .int .i64 x.error]
abbrev FaultD.v (x : FaultD) : Value := .agg #[.int .i64 x.at_, .int .i64 x.sensor, .int .i64 x.kind, .int .i64 x.n]
abbrev SpanD.v (x : SpanD) : Value := .agg #[.int .i64 x.lo, .int .i64 x.hi]
abbrev intV (x : Int) : Value := .int .i64 x
/-- A list whose items take n cells each lies at A (nil, where there is none). -/
def IsT {α : Type} (n : Nat) (enc : α → List Value) (w : World) (A : Option Addr) (len : Nat) (zs : List α) : Prop :=
  zs.length = len ∧ (0 < len → ∃ b o : Nat, A = some ⟨b, o, none⟩ ∧ b < w.heap.size ∧ ∀ (j : Nat) (x : α), zs[j]? = some x → ∀ (i : Nat) (v : Value), (enc x)[i]? = some v → w.cell? ⟨b, o + j * n + i, none⟩ = some v)
theorem IsT.below {α : Type} {n : Nat} {enc : α → List Value} {w w1 : World} {A : Option Addr} {len : Nat} {zs : List α} (h : IsT n enc w A len zs) (hb : Below w.heap.size w w1) : IsT n enc w1 A len zs :=
  ⟨h.1, fun h0 => by
    obtain ⟨b, o, e, h1, h2⟩ := h.2 h0
    exact ⟨b, o, e, Nat.lt_of_lt_of_le h1 hb.size, fun j x hx i v hv => (hb.cell (p := ⟨b, _, none⟩) h1).trans (h2 j x hx i v hv)⟩⟩
theorem IsT.take {α : Type} {n : Nat} {enc : α → List Value} {w : World} {A : Option Addr} {len : Nat} {zs : List α} (h : IsT n enc w A len zs) {k : Nat} (hk : k ≤ len) : IsT n enc w A k (zs.take k) :=
  ⟨by rw [List.length_take, h.1]; omega, fun h0 => by
    obtain ⟨b, o, e, h1, h2⟩ := h.2 (by omega)
    refine ⟨b, o, e, h1, fun j x hx i v hv => h2 j x ?_ i v hv⟩
    rw [List.getElem?_take] at hx
    split at hx
    · exact hx
    · cases hx⟩
theorem IsT.nil {α : Type} (n : Nat) (enc : α → List Value) (w : World) (A : Option Addr) : IsT n enc w A 0 ([] : List α) := ⟨rfl, fun h => absurd h (by omega)⟩

/-- Where the first item lies for which p holds, or -1. -/
def idxGo {α : Type} (p : α → Bool) : List α → Int → Int
  | [], _ => -1
  | x :: r, i => if p x = true then i else idxGo p r (i + 1)
def idxL {α : Type} (p : α → Bool) (l : List α) : Int := idxGo p l 0
theorem idxGo_drop {α : Type} (p : α → Bool) {l : List α} {k : Nat} {x : α} (h : l[k]? = some x) (i : Int) : idxGo p (l.drop k) i = if p x = true then i else idxGo p (l.drop (k + 1)) (i + 1) := by
  obtain ⟨hk, rfl⟩ := List.getElem?_eq_some_iff.1 h
  rw [List.drop_eq_getElem_cons hk]; rfl
theorem idxGo_nonneg {α : Type} (p : α → Bool) (l : List α) (i : Int) (hi : 0 ≤ i) : 0 ≤ idxGo p l i ↔ l.any p = true := by
  induction l generalizing i with
  | nil => simp [idxGo]
  | cons x r ih =>
    show 0 ≤ (if p x = true then i else idxGo p r (i + 1)) ↔ _
    by_cases h : p x = true
    · simp [h, hi]
    · rw [if_neg h, ih (i + 1) (by omega)]; simp [h]
theorem idxL_nonneg {α : Type} (p : α → Bool) (l : List α) : decide (0 ≤ idxL p l) = l.any p := by
  have h := idxGo_nonneg p l 0 (by omega)
  unfold idxL
  cases hb : l.any p with
  | true => exact decide_eq_true (h.2 hb)
  | false => exact decide_eq_false (fun h0 => by rw [h.1 h0] at hb; cases hb)
theorem idxGo_bd {α : Type} (p : α → Bool) (l : List α) (i : Int) (hi : 0 ≤ i) : -1 ≤ idxGo p l i ∧ idxGo p l i < i + l.length + 1 := by
  induction l generalizing i with
  | nil => simp [idxGo]; omega
  | cons x r ih =>
    show -1 ≤ (if p x = true then i else idxGo p r (i + 1)) ∧ (if p x = true then i else idxGo p r (i + 1)) < i + (r.length + 1 : Nat) + 1
    have := ih (i + 1) (by omega)
    split <;> omega
theorem idxL_bd {α : Type} (p : α → Bool) (l : List α) : -1 ≤ idxL p l ∧ idxL p l ≤ l.length := by
  have := idxGo_bd p l 0 (by omega); unfold idxL; omega

/-- Each item is checked, with those before it; the first error counts. -/
def eachGo {α : Type} (chk : α → List α → Int) : List α → List α → Int
  | _, [] => 0
  | pre, x :: r => if chk x pre = 0 then eachGo chk (pre ++ [x]) r else chk x pre
def eachC {α : Type} (chk : α → List α → Int) (most : Int) (l : List α) : Int := if most < l.length then 4 else eachGo chk [] l
theorem eachGo_step {α : Type} (chk : α → List α → Int) {l : List α} {k : Nat} {x : α} (h : l[k]? = some x) : eachGo chk (l.take k) (l.drop k) = if chk x (l.take k) = 0 then eachGo chk (l.take (k + 1)) (l.drop (k + 1)) else chk x (l.take k) := by
  obtain ⟨hk, rfl⟩ := List.getElem?_eq_some_iff.1 h
  rw [List.drop_eq_getElem_cons hk, List.take_succ_eq_append_getElem hk]; rfl

def wthn (n a b : Int) : Bool := decide (a ≤ n) && decide (n ≤ b)
def nearB (r z f : Int) : Bool := wthn r (-f) f && wthn z (-f) f
def smallB (b : Int) : Bool := decide (97 ≤ b) && decide (b ≤ 122)
def nameByte (b : Int) : Bool := smallB b || (decide (b = 95) || (decide (48 ≤ b) && decide (b ≤ 57)))
def nameB : List UInt8 → Bool
  | [] => false
  | c :: r => decide (r.length < 16) && (smallB c.toNat && (c :: r).all fun b => nameByte b.toNat)
def rng (b : Bool) : Int := if b = true then 0 else 7
def coilC (c : CoilD) (e : List CoilD) : Int :=
  if nameB c.name.data.toList = true then
    if e.any (fun x => decide (x.name = c.name)) = true then 6
    else rng (nearB c.r c.z 60 && (wthn c.turns 1 100 && (wthn c.cur 1 1000000 && (wthn c.step 1 1000000 && (wthn c.heat 1 1000000000000 && wthn c.cool 0 1000000000)))))
  else 1
def shellC (s : ShellD) (_ : List ShellD) : Int := rng (nearB s.r s.z 60 && (wthn s.self 1 1000000000 && wthn s.loss 1 1000))
def limitC (p : PointD) (e : List PointD) : Int := if nearB p.r p.z 60 = true then if e.any (fun x => decide (x.r = p.r) && decide (x.z = p.z)) = true then 6 else 0 else 7
def sensorC (s : SensorD) (e : List SensorD) : Int :=
  if nameB s.name.data.toList = true then
    if e.any (fun x => decide (x.name = s.name)) = true then 6
    else rng (wthn s.kind 1 3 && (nearB s.r s.z 60 && wthn s.error 0 1000000000))
  else 1
def cellR (g : GridD) (i : Int) : Int := g.r + i % g.nr * g.step
def cellZ (g : GridD) (i : Int) : Int := g.z + i / g.nr * g.step
def gridC (g : GridD) : Int :=
  if (wthn g.nr 1 8 && (wthn g.nz 1 8 && wthn g.step 1 10)) = true then
    if nearB g.r g.z 60 = true then rng (nearB (cellR g (g.nr * g.nz - 1)) (cellZ g (g.nr * g.nz - 1)) 60) else 7
  else 7
def limitsC (l : List PointD) : Int := if l.length = 0 then 8 else eachC limitC 16 l
def orL : List Int → Int
  | [] => 0
  | x :: r => if x = 0 then orL r else x
def nameC (s : ByteArray) : Int := if nameB s.data.toList = true then 0 else 1
def checkC (m : MachD) : Int := orL [nameC m.name, eachC coilC 12 m.coils, eachC shellC 16 m.shells, limitsC m.limits, gridC m.grid, eachC sensorC 24 m.sensors]

end Go.Proofs.YtfpjhobhmcfpnaaDoor
end
section
/- Package machine: contracts of the small functions (within, near, validPlace, checkRange, small, Name, checkName, cells, cellPlace, checkGrid), over this seat's translation. -/
namespace Go.Proofs.YtfpjhobhmcfpnaaDoor
set_option linter.unusedVariables false
set_option linter.unusedSimpArgs false
open Go.RowKit

set_option maxHeartbeats 400000 in
theorem mwithin_any (n a b : Int) (w : World) :
    Calls Tryd.prog 58 #[.int .i64 n, .int .i64 a, .int .i64 b] w fun e w' => e = .returned (.bool (wthn n a b)) ∧ w = w' := by
  go_enter Tryd.func58, Tryd.ntmps58
  go_wp2
  all_goals go_ret
  all_goals (simp [wthn]; try omega)

set_option maxHeartbeats 400000 in
theorem near_any (r z f : Int) (w : World) (h0 : 0 ≤ f) (h1 : f ≤ 1000000) :
    Calls Tryd.prog 128 #[.int .i64 r, .int .i64 z, .int .i64 f] w fun e w' => e = .returned (.bool (nearB r z f)) ∧ w = w' := by
  have HE : Hid (nearB r z f = (wthn r (-f) f && wthn z (-f) f)) := Lib.hid rfl
  cases h : wthn r (-f) f
  · go_enter Tryd.func128, Tryd.ntmps128
    go_wp2_with (go_at_call 58; refine (mwithin_any _ _ _ _).mono ?_; rintro e w1 ⟨rfl, rfl⟩)
    go_ret
    exact ⟨by rw [HE.out, h]; rfl, rfl⟩
  · go_enter Tryd.func128, Tryd.ntmps128
    go_wp2_with (go_at_call 58; refine (mwithin_any _ _ _ _).mono ?_; rintro e w1 ⟨rfl, rfl⟩)
    go_ret
    exact ⟨by rw [HE.out, h]; rfl, rfl⟩

set_option maxHeartbeats 400000 in
theorem validPlace_any (r z : Int) (w : World) :
    Calls Tryd.prog 122 #[.int .i64 r, .int .i64 z] w fun e w' => e = .returned (.bool (nearB r z 60)) ∧ w = w' := by
  go_enter Tryd.func122, Tryd.ntmps122
  go_wp2_with (go_at_call 128; refine (near_any _ _ _ _ (by omega) (by omega)).mono ?_; rintro e w1 ⟨rfl, rfl⟩)
  go_ret
  exact ⟨rfl, rfl⟩

set_option maxHeartbeats 400000 in
theorem checkRange_any (b : Bool) (w : World) :
    Calls Tryd.prog 121 #[.bool b] w fun e w' => e = .returned (.int .i64 (rng b)) ∧ w = w' := by
  cases b
  · go_enter Tryd.func121, Tryd.ntmps121
    go_wp2
    go_ret
    exact ⟨rfl, rfl⟩
  · go_enter Tryd.func121, Tryd.ntmps121
    go_wp2
    go_ret
    exact ⟨rfl, rfl⟩

set_option maxHeartbeats 400000 in
theorem small_any (b : Int) (w : World) :
    Calls Tryd.prog 132 #[.int .u8 b] w fun e w' => e = .returned (.bool (smallB b)) ∧ w = w' := by
  go_enter Tryd.func132, Tryd.ntmps132
  go_wp2
  all_goals go_ret
  all_goals (simp [smallB]; try omega)

theorem indexS_any (B : ByteArray) (l : List UInt8) (hl : B.data.toList = l) (k : Nat) (h : k < l.length) (W : World) :
    (Instr.index 9 (.string B) (.int .i64 (k : Int))).run Tryd.prog W = .ok (.int .u8 (l[k].toNat : Int)) W := by
  subst hl
  have hk : k < B.size := by have : B.data.toList.length = B.size := Array.length_toList; omega
  rw [run_index_string _ _ _ _ _ (by kernel_rfl), dif_pos ⟨by omega, by omega⟩]
  rfl

set_option maxHeartbeats 2000000 in
theorem name_any (s : ByteArray) (w : World) :
    Calls Tryd.prog 119 #[.string s] w fun e w' => e = .returned (.bool (nameB s.data.toList)) ∧ w = w' := by
  have hz : s.data.toList.length = s.size := Array.length_toList
  cases hL : s.data.toList with
  | nil =>
    rw [hL] at hz
    have h1 : s.size = 0 := hz.symm
    clear hz hL
    go_enter Tryd.func119, Tryd.ntmps119
    go_wp2
    go_ret
    exact ⟨rfl, rfl⟩
  | cons c r =>
    rw [hL] at hz
    have hz1 : s.size = r.length + 1 := by rw [← hz]; rfl
    have ix0 : ∀ W : World, (Instr.index 9 (.string s) (.int .i64 0)).run Tryd.prog W = .ok (.int .u8 (c.toNat : Int)) W := fun W => indexS_any s (c :: r) hL 0 (by simp) W
    have HG : Hid (nameB (c :: r) = (decide (r.length < 16) && (smallB c.toNat && (c :: r).all fun b => nameByte b.toNat))) := Lib.hid rfl
    generalize nameB (c :: r) = G at *
    have hs1 : 1 ≤ s.size := by omega
    have hs0 : ((s.size : Int) == 0) = false := by rw [beq_eq_false_iff_ne]; omega
    by_cases h16 : r.length < 16
    · have hs2 : s.size ≤ 16 := by omega
      cases hsm : smallB c.toNat
      · have HN : Hid (G = false) := Lib.hid (by rw [HG.out, hsm]; simp)
        clear hz hz1 hL HG
        generalize (c.toNat : Int) = ci at *
        go_enter Tryd.func119, Tryd.ntmps119
        go_wp2_with (go_at_call 132; refine (small_any _ _).mono ?_; rintro e w1 ⟨rfl, rfl⟩)
        go_ret
        exact ⟨by rw [HN.out]; rfl, rfl⟩
      · have HN : Hid (G = (c :: r).all fun b => nameByte b.toNat) := Lib.hid (by rw [HG.out, hsm, decide_eq_true h16]; simp)
        obtain ⟨l, hl⟩ : ∃ l, c :: r = l := ⟨_, rfl⟩
        rw [hl] at HN hL hz
        clear HG hl hz1
        generalize (c.toNat : Int) = ci at *
        have HL := Lib.hid hL
        have HZ := Lib.hid hz
        clear hL hz
        go_enter Tryd.func119, Tryd.ntmps119
        go_wp2_with (go_at_call 132; refine (small_any _ _).mono ?_; rintro e w1 ⟨rfl, rfl⟩)
        clear ix0 hsm
        go_loop [3, 4, 21] (fun _ _ i => ∃ k : Nat, k ≤ s.size ∧ i = .int .i64 k ∧ Hid (((l.drop k).all fun b => nameByte b.toNat) = G)) (fun _ _ i => s.size - (intOf i).toNat)
        case atStart => exact ⟨0, Nat.zero_le _, rfl, Lib.hid (by rw [HN.out]; rfl)⟩
        case round =>
          obtain ⟨k, hk, rfl, hG⟩ := hrel
          by_cases hlt : k < s.size
          · have hkl : k < l.length := by rw [HZ.out]; exact hlt
            have ix := indexS_any s l HL.out k hkl
            have HS := Lib.hid (show (nameByte l[k].toNat && ((l.drop (k + 1)).all fun b => nameByte b.toNat)) = G from by rw [← hG.out, List.drop_eq_getElem_cons hkl]; rfl)
            have c255 : l[k].toNat < 256 := l[k].toNat_lt
            obtain ⟨x, hxe⟩ : ∃ x : Int, (l[k].toNat : Int) = x := ⟨_, rfl⟩
            rw [hxe] at ix HS
            have hx0 : 0 ≤ x := by omega
            have hx1 : x < 256 := by omega
            clear hkl hxe c255
            cases hnb : nameByte x
            · have HF : Hid (G = false) := Lib.hid (by rw [← HS.out, hnb]; rfl)
              have h1 : smallB x = false := by unfold nameByte at hnb; simp at hnb; exact hnb.1
              have h2 : x ≠ 95 := by unfold nameByte at hnb; simp at hnb; omega
              have h3 : x < 48 ∨ 57 < x := by unfold nameByte at hnb; simp at hnb; omega
              have hne : (x != 95) = true := by rw [bne_iff_ne]; exact h2
              clear HS hnb h2
              rcases h3 with h3 | h3
              · go_wp2_with (go_at_call 132; refine (small_any _ _).mono ?_; rintro e w1 ⟨rfl, rfl⟩)
                go_ret
                exact ⟨by rw [HF.out]; rfl, rfl⟩
              · go_wp2_with (go_at_call 132; refine (small_any _ _).mono ?_; rintro e w1 ⟨rfl, rfl⟩)
                go_ret
                exact ⟨by rw [HF.out]; rfl, rfl⟩
            · have HT : Hid (((l.drop (k + 1)).all fun b => nameByte b.toNat) = G) := Lib.hid (by rw [← HS.out, hnb]; rfl)
              clear HS
              cases hsm : smallB x
              · by_cases h95 : x = 95
                · have hne : (x != 95) = false := by rw [h95]; rfl
                  clear hnb h95
                  go_wp2_with (go_at_call 132; refine (small_any _ _).mono ?_; rintro e w1 ⟨rfl, rfl⟩)
                  go_round
                  case rel => exact ⟨k + 1, by omega, by go_num, HT⟩
                  case measure => simp [intOf]; omega
                · have hne : (x != 95) = true := by rw [bne_iff_ne]; exact h95
                  have h48 : 48 ≤ x ∧ x ≤ 57 := by unfold nameByte at hnb; rw [hsm] at hnb; simp [h95] at hnb; exact hnb
                  obtain ⟨h48, h57⟩ := h48
                  clear hnb h95
                  go_wp2_with (go_at_call 132; refine (small_any _ _).mono ?_; rintro e w1 ⟨rfl, rfl⟩)
                  go_round
                  case rel => exact ⟨k + 1, by omega, by go_num, HT⟩
                  case measure => simp [intOf]; omega
              · clear hnb
                go_wp2_with (go_at_call 132; refine (small_any _ _).mono ?_; rintro e w1 ⟨rfl, rfl⟩)
                go_round
                case rel => exact ⟨k + 1, by omega, by go_num, HT⟩
                case measure => simp [intOf]; omega
          · have HT : Hid (G = true) := Lib.hid (by rw [← hG.out, List.drop_of_length_le (by rw [HZ.out]; omega)]; rfl)
            go_wp2
            go_ret
            exact ⟨by rw [HT.out]; rfl, rfl⟩
    · have hs2 : 16 < s.size := by omega
      have HN : Hid (G = false) := Lib.hid (by rw [HG.out, decide_eq_false h16]; rfl)
      clear hz hz1 hL HG h16
      go_enter Tryd.func119, Tryd.ntmps119
      go_wp2_with fail
      go_ret
      exact ⟨by rw [HN.out]; rfl, rfl⟩

set_option maxHeartbeats 400000 in
theorem checkName_any (s : ByteArray) (w : World) :
    Calls Tryd.prog 94 #[.string s] w fun e w' => e = .returned (.int .i64 (nameC s)) ∧ w = w' := by
  have HE : Hid (nameC s = if nameB s.data.toList = true then 0 else 1) := Lib.hid rfl
  have HN := Lib.hid (fun W => name_any s W)
  cases h : nameB s.data.toList
  all_goals rw [h] at HN HE
  all_goals clear h
  all_goals go_enter Tryd.func94, Tryd.ntmps94
  all_goals go_wp2_with (go_at_call 119; refine (HN.out _).mono ?_; rintro e w1 ⟨rfl, rfl⟩)
  all_goals go_ret
  all_goals exact ⟨by rw [HE.out]; rfl, rfl⟩

end Go.Proofs.YtfpjhobhmcfpnaaDoor
end
section
/- Package machine: the contract of Influence, over this seat's translation. -/
namespace Go.Proofs.YtfpjhobhmcfpnaaDoor
set_option linter.unusedVariables false
set_option linter.unusedSimpArgs false
open Go.RowKit

/-- The influence of two places. -/
def infl (a b c d : Int) : Int := if nearB a b 1000 = true ∧ nearB c d 1000 = true then 1000000 / (4 + (a - c) * (a - c) + (b - d) * (b - d)) else 0

theorem sq_bd {x : Int} (h0 : -2000 ≤ x) (h1 : x ≤ 2000) : 0 ≤ x * x ∧ x * x ≤ 4000000 := by
  rcases Int.le_total 0 x with h | h
  · exact ⟨Int.mul_nonneg h h, Int.mul_le_mul h1 h1 h (by omega)⟩
  · rw [← Int.neg_mul_neg]
    exact ⟨Int.mul_nonneg (by omega) (by omega), Int.mul_le_mul (a := -x) (b := -x) (c := 2000) (d := 2000) (by omega) (by omega) (by omega) (by omega)⟩
theorem nearB_bd {r z f : Int} (h : nearB r z f = true) : (-f ≤ r ∧ r ≤ f) ∧ -f ≤ z ∧ z ≤ f := by simpa [nearB, wthn] using h
theorem infl_bd (a b c d : Int) : 0 ≤ infl a b c d ∧ infl a b c d ≤ 250000 := by
  unfold infl
  split
  · rename_i h
    have h1 := nearB_bd h.1
    have h2 := nearB_bd h.2
    have s1 := sq_bd (x := a - c) (by omega) (by omega)
    have s2 := sq_bd (x := b - d) (by omega) (by omega)
    generalize (a - c) * (a - c) = p at *
    generalize (b - d) * (b - d) = q at *
    refine ⟨Int.ediv_nonneg (by omega) (by omega), ?_⟩
    have : 1000000 / (4 + p + q) ≤ 1000000 / 4 := by
      rw [Int.le_ediv_iff_mul_le (by omega)]
      have h4 : 1000000 / (4 + p + q) * (4 + p + q) ≤ 1000000 := Int.ediv_mul_le _ (by omega)
      have h5 : 0 ≤ 1000000 / (4 + p + q) := Int.ediv_nonneg (by omega) (by omega)
      have h6 : 1000000 / (4 + p + q) * 4 ≤ 1000000 / (4 + p + q) * (4 + p + q) := Int.mul_le_mul_of_nonneg_left (by omega) h5
      omega
    omega
  · omega

set_option maxRecDepth 100000 in
set_option maxHeartbeats 2000000 in
theorem influence_any (a b c d : Int) (w : World) :
    Calls Tryd.prog 106 #[.agg #[.int .i64 a, .int .i64 b], .agg #[.int .i64 c, .int .i64 d]] w (Ret (.int .i64 (infl a b c d)) w) := by
  cases n1 : nearB a b 1000
  · have HE : Hid (infl a b c d = 0) := Lib.hid (by unfold infl; rw [if_neg (by simp [n1])])
    go_enter Tryd.func106, Tryd.ntmps106
    go_wp2_with (go_at_call 128; refine (near_any _ _ _ _ (by omega) (by omega)).mono ?_; rintro e w1 ⟨rfl, rfl⟩)
    go_ret
    exact ⟨by rw [HE.out]; rfl, by (with_reducible repeat first | exact Below.refl _ _ | assumption | ((first | refine Below.setCell ?_ ?_ _ | refine Below.alloc ?_ ?_ _); rotate_left; exact (by first | omega | (simp; done) | (simp; omega))) | refine Below.drew ?_ | refine Below_drewN ?_ _)⟩
  cases n2 : nearB c d 1000
  · have HE : Hid (infl a b c d = 0) := Lib.hid (by unfold infl; rw [if_neg (by simp [n2])])
    go_enter Tryd.func106, Tryd.ntmps106
    go_wp2_with (go_at_call 128; refine (near_any _ _ _ _ (by omega) (by omega)).mono ?_; rintro e w1 ⟨rfl, rfl⟩)
    go_ret
    exact ⟨by rw [HE.out]; rfl, by (with_reducible repeat first | exact Below.refl _ _ | assumption | ((first | refine Below.setCell ?_ ?_ _ | refine Below.alloc ?_ ?_ _); rotate_left; exact (by first | omega | (simp; done) | (simp; omega))) | refine Below.drew ?_ | refine Below_drewN ?_ _)⟩
  have HE : Hid (infl a b c d = 1000000 / (4 + (a - c) * (a - c) + (b - d) * (b - d))) := Lib.hid (by unfold infl; rw [if_pos ⟨n1, n2⟩])
  obtain ⟨⟨a0, a1⟩, b0, b1⟩ := nearB_bd n1
  obtain ⟨⟨c0, c1⟩, d0, d1⟩ := nearB_bd n2
  have s1 := sq_bd (x := a - c) (by omega) (by omega)
  have s2 := sq_bd (x := b - d) (by omega) (by omega)
  have e1 : IntKind.i64.wrap (a - c) = a - c := IntWalk.i64_in _ (by omega)
  have e2 : IntKind.i64.wrap (b - d) = b - d := IntWalk.i64_in _ (by omega)
  go_enter Tryd.func106, Tryd.ntmps106
  go_wp2_with (go_at_call 128; refine (near_any _ _ _ _ (by omega) (by omega)).mono ?_; rintro e w1 ⟨rfl, rfl⟩)
  go_quiet (fail)
  obtain ⟨g0, g1⟩ := infl_bd a b c d
  generalize infl a b c d = G at *
  generalize hx : a - c = x at *
  generalize hy : b - d = y at *
  clear n1 n2
  generalize hp : x * x = p at *
  generalize hq : y * y = q at *
  have k0 : ¬(4 + p + q = 0) := by omega
  have k1 : ((4 + p + q) == 0) = false := by rw [beq_eq_false_iff_ne]; omega
  have k2 : (1000000 : Int).tdiv (4 + p + q) = G := by rw [HE.out]; exact Int.tdiv_eq_ediv_of_nonneg (by omega)
  have k3 : (1000000 : Int) / (4 + p + q) = G := HE.out.symm
  clear HE
  go_wp2_with fail
  go_ret
  exact ⟨rfl, by (with_reducible repeat first | exact Below.refl _ _ | assumption | ((first | refine Below.setCell ?_ ?_ _ | refine Below.alloc ?_ ?_ _); rotate_left; exact (by first | omega | (simp; done) | (simp; omega))) | refine Below.drew ?_ | refine Below_drewN ?_ _)⟩

end Go.Proofs.YtfpjhobhmcfpnaaDoor
end
section
/- The specification of package machine: contracts of within, placed, Name, over this seat's translation. -/
namespace Go.Proofs.YtfpjhobhmcfpnaaDoor
set_option linter.unusedVariables false
set_option linter.unusedSimpArgs false
open Go.RowKit

theorem IsT.get {α : Type} {n : Nat} {enc : α → List Value} {w : World} {b o len : Nat} {zs : List α} (h : IsT n enc w (some ⟨b, o, none⟩) len zs) {j : Nat} {x : α} (hx : zs[j]? = some x) {i : Nat} {v : Value} (hv : (enc x)[i]? = some v) : w.cell? ⟨b, o + j * n + i, none⟩ = some v := by
  have hj := (List.getElem?_eq_some_iff.1 hx).1
  obtain ⟨b', o', e, _, hc⟩ := h.2 (by rw [← h.1]; omega)
  injection e with e
  injection e with e1 e2
  subst e1 e2
  exact hc j x hx i v hv

set_option maxHeartbeats 400000 in
theorem rwithin2_any (n a b : Int) (w : World) :
    Calls Tryd.prog 63 #[.int .i64 n, .int .i64 a, .int .i64 b] w fun e w' => e = .returned (.bool (wthn n a b)) ∧ w = w' := by
  go_enter Tryd.func63, Tryd.ntmps63
  go_wp2
  all_goals go_ret
  all_goals (simp [wthn]; try omega)

set_option maxHeartbeats 400000 in
theorem rplaced_any (r z : Int) (w : World) :
    Calls Tryd.prog 71 #[.int .i64 r, .int .i64 z] w fun e w' => e = .returned (.bool (nearB r z 60)) ∧ w = w' := by
  have HE : Hid (nearB r z 60 = (wthn r (-60) 60 && wthn z (-60) 60)) := Lib.hid rfl
  cases h : wthn r (-60) 60
  all_goals go_enter Tryd.func71, Tryd.ntmps71
  all_goals go_wp2_with (go_at_call 63; refine (rwithin2_any _ _ _ _).mono ?_; rintro e w1 ⟨rfl, rfl⟩)
  all_goals go_ret
  all_goals exact ⟨by rw [HE.out, h]; rfl, rfl⟩

theorem nameByte_ways {x : Int} (h0 : 0 ≤ x) (h1 : x < 256) :
    (x < 48 ∧ nameByte x = false) ∨ (48 ≤ x ∧ x ≤ 57 ∧ nameByte x = true) ∨ (57 < x ∧ x < 95 ∧ nameByte x = false) ∨ (x = 95 ∧ nameByte x = true) ∨ (95 < x ∧ x < 97 ∧ nameByte x = false) ∨ (97 ≤ x ∧ x ≤ 122 ∧ nameByte x = true) ∨ (122 < x ∧ nameByte x = false) := by
  have e : nameByte x = true ↔ (97 ≤ x ∧ x ≤ 122) ∨ x = 95 ∨ (48 ≤ x ∧ x ≤ 57) := by simp [nameByte, smallB]
  have f : nameByte x = false ↔ ¬((97 ≤ x ∧ x ≤ 122) ∨ x = 95 ∨ (48 ≤ x ∧ x ≤ 57)) := by rw [← e]; simp
  rw [e, f]
  omega

set_option maxHeartbeats 4000000 in
theorem rname_any (s : ByteArray) (w : World) :
    Calls Tryd.prog 67 #[.string s] w fun e w' => e = .returned (.bool (nameB s.data.toList)) ∧ w = w' := by
  have hz : s.data.toList.length = s.size := Array.length_toList
  cases hL : s.data.toList with
  | nil =>
    rw [hL] at hz
    have h1 : s.size = 0 := hz.symm
    clear hz hL
    go_enter Tryd.func67, Tryd.ntmps67
    go_wp2
    go_ret
    exact ⟨rfl, rfl⟩
  | cons c r =>
    rw [hL] at hz
    have hz1 : s.size = r.length + 1 := by rw [← hz]; rfl
    have ix0 : ∀ W : World, (Instr.index 9 (.string s) (.int .i64 0)).run Tryd.prog W = .ok (.int .u8 (c.toNat : Int)) W := fun W => indexS_any s (c :: r) hL 0 (by simp) W
    have HG : Hid (nameB (c :: r) = (decide (r.length < 16) && (smallB c.toNat && (c :: r).all fun b => nameByte b.toNat))) := Lib.hid rfl
    generalize nameB (c :: r) = G at *
    have hs1 : 1 ≤ s.size := by omega
    have hs0 : ¬((s.size : Int) < 1) := by omega
    by_cases h16 : r.length < 16
    · have hs2 : s.size ≤ 16 := by omega
      have c0 : (0 : Int) ≤ c.toNat := by omega
      by_cases hsm : smallB c.toNat = true
      · have HN : Hid (G = (c :: r).all fun b => nameByte b.toNat) := Lib.hid (by rw [HG.out, decide_eq_true h16, hsm]; simp)
        obtain ⟨s1, s2⟩ : (97 : Int) ≤ c.toNat ∧ (c.toNat : Int) ≤ 122 := by simpa [smallB] using hsm
        obtain ⟨l, hl⟩ : ∃ l, c :: r = l := ⟨_, rfl⟩
        rw [hl] at HN hL hz
        clear HG hl hz1 hsm
        generalize (c.toNat : Int) = ci at *
        have HL := Lib.hid hL
        have HZ := Lib.hid hz
        clear hL hz
        go_enter Tryd.func67, Tryd.ntmps67
        go_wp2_with fail
        clear ix0 s1 s2
        go_loop [3, 4] (fun i _ => ∃ k : Nat, k ≤ s.size ∧ i = .int .i64 k ∧ Hid (((l.drop k).all fun b => nameByte b.toNat) = G)) (fun i _ => s.size - (intOf i).toNat)
        case atStart => exact ⟨0, Nat.zero_le _, rfl, Lib.hid (by rw [HN.out]; rfl)⟩
        case round =>
          obtain ⟨k, hk, rfl, hG⟩ := hrel
          by_cases hlt : k < s.size
          · have hkl : k < l.length := by rw [HZ.out]; exact hlt
            have ix := indexS_any s l HL.out k hkl
            have HS := Lib.hid (show (nameByte l[k].toNat && ((l.drop (k + 1)).all fun b => nameByte b.toNat)) = G from by rw [← hG.out, List.drop_eq_getElem_cons hkl]; rfl)
            have c255 : l[k].toNat < 256 := l[k].toNat_lt
            obtain ⟨x, hxe⟩ : ∃ x : Int, (l[k].toNat : Int) = x := ⟨_, rfl⟩
            rw [hxe] at ix HS
            have hx0 : 0 ≤ x := by omega
            have hx1 : x < 256 := by omega
            clear hkl hxe c255
            rcases nameByte_ways hx0 hx1 with ⟨h1, hnb⟩ | ⟨h1, h2, hnb⟩ | ⟨h1, h2, hnb⟩ | ⟨rfl, hnb⟩ | ⟨h1, h2, hnb⟩ | ⟨h1, h2, hnb⟩ | ⟨h1, hnb⟩
            · rw [hnb] at HS; clear hnb
              have h95 : (x == 95) = false := by rw [beq_eq_false_iff_ne]; omega
              go_wp2_with fail
              go_ret
              exact ⟨by rw [← HS.out]; rfl, rfl⟩
            · rw [hnb] at HS; clear hnb
              have HT : Hid (((l.drop (k + 1)).all fun b => nameByte b.toNat) = G) := Lib.hid (by have h := HS.out; rwa [Bool.true_and] at h)
              have h95 : (x == 95) = false := by rw [beq_eq_false_iff_ne]; omega
              go_wp2_with fail
              all_goals go_round
              all_goals first | exact ⟨k + 1, by omega, by go_num, HT⟩ | (simp [intOf]; omega)
            · rw [hnb] at HS; clear hnb
              have d57 : decide (x ≤ 57) = false := decide_eq_false (by omega)
              have h95 : (x == 95) = false := by rw [beq_eq_false_iff_ne]; omega
              go_wp2_with fail
              go_ret
              exact ⟨by rw [← HS.out]; rfl, rfl⟩
            · rw [hnb] at HS; clear hnb
              have HT : Hid (((l.drop (k + 1)).all fun b => nameByte b.toNat) = G) := Lib.hid (by have h := HS.out; rwa [Bool.true_and] at h)
              go_wp2_with fail
              all_goals go_round
              all_goals first | exact ⟨k + 1, by omega, by go_num, HT⟩ | (simp [intOf]; omega)
            · rw [hnb] at HS; clear hnb
              have d57 : decide (x ≤ 57) = false := decide_eq_false (by omega)
              have h95 : (x == 95) = false := by rw [beq_eq_false_iff_ne]; omega
              go_wp2_with fail
              go_ret
              exact ⟨by rw [← HS.out]; rfl, rfl⟩
            · rw [hnb] at HS; clear hnb
              have HT : Hid (((l.drop (k + 1)).all fun b => nameByte b.toNat) = G) := Lib.hid (by have h := HS.out; rwa [Bool.true_and] at h)
              have h95 : (x == 95) = false := by rw [beq_eq_false_iff_ne]; omega
              go_wp2_with fail
              all_goals go_round
              all_goals first | exact ⟨k + 1, by omega, by go_num, HT⟩ | (simp [intOf]; omega)
            · rw [hnb] at HS; clear hnb
              have d57 : decide (x ≤ 57) = false := decide_eq_false (by omega)
              have d122 : decide (x ≤ 122) = false := decide_eq_false (by omega)
              have h95 : (x == 95) = false := by rw [beq_eq_false_iff_ne]; omega
              go_wp2_with fail
              go_ret
              exact ⟨by rw [← HS.out]; rfl, rfl⟩
          · have HT : Hid (G = true) := Lib.hid (by rw [← hG.out, List.drop_of_length_le (by rw [HZ.out]; omega)]; rfl)
            go_wp2
            go_ret
            exact ⟨by rw [HT.out]; rfl, rfl⟩
      · have hsf : smallB c.toNat = false := by simpa using hsm
        have HN : Hid (G = false) := Lib.hid (by rw [HG.out, hsf]; simp)
        have hw : (c.toNat : Int) < 97 ∨ ((97 : Int) ≤ c.toNat ∧ 122 < (c.toNat : Int)) := by
          simp [smallB] at hsf; omega
        clear hz hz1 hL HG hsm hsf
        generalize (c.toNat : Int) = ci at *
        rcases hw with hw | ⟨hw1, hw2⟩
        all_goals go_enter Tryd.func67, Tryd.ntmps67
        all_goals go_wp2_with fail
        all_goals go_ret
        all_goals exact ⟨by rw [HN.out]; rfl, rfl⟩
    · have hs2 : 16 < s.size := by omega
      have HN : Hid (G = false) := Lib.hid (by rw [HG.out, decide_eq_false h16]; rfl)
      clear hz hz1 hL HG h16
      go_enter Tryd.func67, Tryd.ntmps67
      go_wp2_with fail
      go_ret
      exact ⟨by rw [HN.out]; rfl, rfl⟩

end Go.Proofs.YtfpjhobhmcfpnaaDoor
end
section
/- The specification of layer 2: Influence, over this seat's translation. -/
namespace Go.Proofs.YtfpjhobhmcfpnaaDoor
set_option linter.unusedVariables false
set_option linter.unusedSimpArgs false
open Go.RowKit

theorem four_get {a b c d x : Int} {j : Nat} (h : ([a, b, c, d] : List Int)[j]? = some x) : (j = 0 ∧ x = a) ∨ (j = 1 ∧ x = b) ∨ (j = 2 ∧ x = c) ∨ (j = 3 ∧ x = d) := by
  match j, h with
  | 0, h => exact .inl ⟨rfl, by simpa using h.symm⟩
  | 1, h => exact .inr (.inl ⟨rfl, by simpa using h.symm⟩)
  | 2, h => exact .inr (.inr (.inl ⟨rfl, by simpa using h.symm⟩))
  | 3, h => exact .inr (.inr (.inr ⟨rfl, by simpa using h.symm⟩))
theorem infl_no {a b c d x : Int} {j : Nat} (h : ([a, b, c, d] : List Int)[j]? = some x) (hx : wthn x (-1000) 1000 = false) : infl a b c d = 0 := by
  unfold infl
  rw [if_neg]
  rintro ⟨h1, h2⟩
  simp only [nearB, Bool.and_eq_true] at h1 h2
  rcases four_get h with ⟨-, rfl⟩ | ⟨-, rfl⟩ | ⟨-, rfl⟩ | ⟨-, rfl⟩ <;> simp_all
theorem infl_yes {a b c d : Int} (h : ∀ (j : Nat) (x : Int), ([a, b, c, d] : List Int)[j]? = some x → wthn x (-1000) 1000 = true) : infl a b c d = 1000000 / (4 + (a - c) * (a - c) + (b - d) * (b - d)) ∧ ((-1000 ≤ a ∧ a ≤ 1000) ∧ -1000 ≤ b ∧ b ≤ 1000) ∧ (-1000 ≤ c ∧ c ≤ 1000) ∧ -1000 ≤ d ∧ d ≤ 1000 := by
  have h0 := h 0 a rfl
  have h1 := h 1 b rfl
  have h2 := h 2 c rfl
  have h3 := h 3 d rfl
  have g : ∀ x : Int, wthn x (-1000) 1000 = true → -1000 ≤ x ∧ x ≤ 1000 := fun x hx => by simpa [wthn] using hx
  refine ⟨?_, ⟨g _ h0, g _ h1⟩, g _ h2, g _ h3⟩
  unfold infl
  rw [if_pos (by simp [nearB, h0, h1, h2, h3])]

set_option maxRecDepth 100000 in
set_option maxHeartbeats 4000000 in
theorem rinfluence_any (a b c d : Int) (w : World) :
    Calls Tryd.prog 129 #[.agg #[.int .i64 a, .int .i64 b], .agg #[.int .i64 c, .int .i64 d]] w (Ret (.int .i64 (infl a b c d)) w) := by
  have HN := Lib.hid (fun (j : Nat) (x : Int) h hx => infl_no (a := a) (b := b) (c := c) (d := d) (j := j) (x := x) h hx)
  have HY := Lib.hid (fun h => infl_yes (a := a) (b := b) (c := c) (d := d) h)
  have HB := infl_bd a b c d
  generalize infl a b c d = G at *
  go_enter Tryd.func129, Tryd.ntmps129
  go_upto_region 3 with (fail)
  have HC : Hid (∀ (j : Nat) (x : Int), ([a, b, c, d] : List Int)[j]? = some x → (((w.alloc (.cells #[.int .i64 a, .int .i64 b] 76)).alloc (.cells #[.int .i64 c, .int .i64 d] 76)).alloc (.cells #[.int .i64 a, .int .i64 b, .int .i64 c, .int .i64 d] 3)).cell? ⟨w.heap.size + 1 + 1, j, none⟩ = some (.int .i64 x)) := Lib.hid (fun j x h => by
    rcases four_get h with ⟨rfl, rfl⟩ | ⟨rfl, rfl⟩ | ⟨rfl, rfl⟩ | ⟨rfl, rfl⟩ <;> go_simp)
  have p0 : (((w.alloc (.cells #[.int .i64 a, .int .i64 b] 76)).alloc (.cells #[.int .i64 c, .int .i64 d] 76)).alloc (.cells #[.int .i64 a, .int .i64 b, .int .i64 c, .int .i64 d] 3)).cell? ⟨w.heap.size, 0, none⟩ = some (.int .i64 a) := by go_simp
  have p1 : (((w.alloc (.cells #[.int .i64 a, .int .i64 b] 76)).alloc (.cells #[.int .i64 c, .int .i64 d] 76)).alloc (.cells #[.int .i64 a, .int .i64 b, .int .i64 c, .int .i64 d] 3)).cell? ⟨w.heap.size, 1, none⟩ = some (.int .i64 b) := by go_simp
  have p2 : (((w.alloc (.cells #[.int .i64 a, .int .i64 b] 76)).alloc (.cells #[.int .i64 c, .int .i64 d] 76)).alloc (.cells #[.int .i64 a, .int .i64 b, .int .i64 c, .int .i64 d] 3)).cell? ⟨w.heap.size + 1, 0, none⟩ = some (.int .i64 c) := by go_simp
  have p3 : (((w.alloc (.cells #[.int .i64 a, .int .i64 b] 76)).alloc (.cells #[.int .i64 c, .int .i64 d] 76)).alloc (.cells #[.int .i64 a, .int .i64 b, .int .i64 c, .int .i64 d] 3)).cell? ⟨w.heap.size + 1, 1, none⟩ = some (.int .i64 d) := by go_simp
  have hB : Below w.heap.size w (((w.alloc (.cells #[.int .i64 a, .int .i64 b] 76)).alloc (.cells #[.int .i64 c, .int .i64 d] 76)).alloc (.cells #[.int .i64 a, .int .i64 b, .int .i64 c, .int .i64 d] 3)) := by (with_reducible repeat first | exact Below.refl _ _ | assumption | ((first | refine Below.setCell ?_ ?_ _ | refine Below.alloc ?_ ?_ _); rotate_left; exact (by first | omega | (simp; done) | (simp; omega))) | refine Below.drew ?_ | refine Below_drewN ?_ _)
  obtain ⟨W, hW⟩ : ∃ W, ((w.alloc (.cells #[.int .i64 a, .int .i64 b] 76)).alloc (.cells #[.int .i64 c, .int .i64 d] 76)).alloc (.cells #[.int .i64 a, .int .i64 b, .int .i64 c, .int .i64 d] 3) = W := ⟨_, rfl⟩
  rw [hW] at HC p0 p1 p2 p3 hB ⊢
  clear hW
  go_loopw [6] (fun i wr => ∃ j : Nat, j ≤ 4 ∧ i = .int .i64 j ∧ wr = W ∧ Hid (∀ (k : Nat) (x : Int), k < j → ([a, b, c, d] : List Int)[k]? = some x → wthn x (-1000) 1000 = true)) (fun i _ => 4 - (intOf i).toNat)
  case atStart => exact ⟨0, by omega, rfl, rfl, Lib.hid (fun k x hk => absurd hk (Nat.not_lt_zero k))⟩
  case round =>
    obtain ⟨j, hj, rfl, rfl, HA⟩ := hrel
    by_cases hlt : j < 4
    · obtain ⟨x, hx⟩ : ∃ x, ([a, b, c, d] : List Int)[j]? = some x := ⟨_, List.getElem?_eq_getElem (by simpa using hlt)⟩
      have x0 := HC.out j x hx
      have HX := Lib.hid hx
      clear hx
      have jc : (0 : Int) ≤ j := by omega
      have j4 : (j : Int) < 4 := by omega
      have jn : ((j : Int)).toNat = j := by omega
      have HW := Lib.hid (fun V => rwithin2_any x (-1000) 1000 V)
      cases hw : wthn x (-1000) 1000
      · rw [hw] at HW
        obtain rfl : G = 0 := HN.out j x HX.out hw
        clear HN HY HA hw
        go_wp2_with (go_at_call 63; refine (HW.out _).mono ?_; rintro e w' ⟨rfl, rfl⟩)
        go_ret
        exact ⟨rfl, by (with_reducible repeat first | exact Below.refl _ _ | assumption | ((first | refine Below.setCell ?_ ?_ _ | refine Below.alloc ?_ ?_ _); rotate_left; exact (by first | omega | (simp; done) | (simp; omega))) | refine Below.drew ?_ | refine Below_drewN ?_ _)⟩
      · rw [hw] at HW
        have HA' : Hid (∀ (k : Nat) (x : Int), k < j + 1 → ([a, b, c, d] : List Int)[k]? = some x → wthn x (-1000) 1000 = true) := Lib.hid (fun k y hk hy => by
          by_cases h : k < j
          · exact HA.out k y h hy
          · obtain rfl : k = j := by omega
            obtain rfl : x = y := Option.some.inj (HX.out.symm.trans hy)
            exact hw)
        clear HA hw HX
        go_wp2_with (go_at_call 63; refine (HW.out _).mono ?_; rintro e w' ⟨rfl, rfl⟩)
        go_roundw
        case rel => exact ⟨j + 1, by omega, by go_num, by first | rfl | trivial, HA'⟩
        case measure => simp [intOf]; omega
    · have HA2 := HY.out (fun k x hx => HA.out k x (by have := (List.getElem?_eq_some_iff.1 hx).1; simp at this; omega) hx)
      have j4 : ¬ (j : Int) < 4 := by omega
      have j5 : decide ((j : Int) < 4) = false := decide_eq_false j4
      obtain ⟨hG, ⟨⟨a0, a1⟩, b0, b1⟩, ⟨c0, c1⟩, d0, d1⟩ := HA2
      have HE := Lib.hid hG
      clear HA HN HY HC hG
      have s1 := sq_bd (x := a - c) (by omega) (by omega)
      have s2 := sq_bd (x := b - d) (by omega) (by omega)
      have e1 : IntKind.i64.wrap (a - c) = a - c := IntWalk.i64_in _ (by omega)
      have e2 : IntKind.i64.wrap (b - d) = b - d := IntWalk.i64_in _ (by omega)
      obtain ⟨g0, g1⟩ := HB
      obtain ⟨x, hx⟩ : ∃ x, a - c = x := ⟨_, rfl⟩
      obtain ⟨y, hy⟩ : ∃ y, b - d = y := ⟨_, rfl⟩
      rw [hx] at s1 e1 HE
      rw [hy] at s2 e2 HE
      obtain ⟨p, hp⟩ : ∃ p, x * x = p := ⟨_, rfl⟩
      obtain ⟨q, hq⟩ : ∃ q, y * y = q := ⟨_, rfl⟩
      rw [hp] at s1 HE
      rw [hq] at s2 HE
      have k0 : ¬(4 + p + q = 0) := by omega
      have k1 : ((4 + p + q) == 0) = false := by rw [beq_eq_false_iff_ne]; omega
      have k2 : (1000000 : Int).tdiv (4 + p + q) = G := by rw [HE.out]; exact Int.tdiv_eq_ediv_of_nonneg (by omega)
      have k3 : (1000000 : Int) / (4 + p + q) = G := HE.out.symm
      clear HE hlt
      go_wp2_with fail
      go_ret
      exact ⟨rfl, by (with_reducible repeat first | exact Below.refl _ _ | assumption | ((first | refine Below.setCell ?_ ?_ _ | refine Below.alloc ?_ ?_ _); rotate_left; exact (by first | omega | (simp; done) | (simp; omega))) | refine Below.drew ?_ | refine Below_drewN ?_ _)⟩

end Go.Proofs.YtfpjhobhmcfpnaaDoor
end
