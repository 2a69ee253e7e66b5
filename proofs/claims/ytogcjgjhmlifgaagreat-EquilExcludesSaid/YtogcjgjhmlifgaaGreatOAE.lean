import Derived.Test.YtogcjgjhmlifgaaGreatOAA
import Derived.Lib.Hide
import Derived.Deep.RegionHeld3
import Derived.Deep.DeepCutAuto
import Derived.Deep.QuietTactic
import Derived.BigQuiet
import Derived.IntWalk
import Derived.Shelf.Abstract
namespace Go.Proofs.YtogcjgjhmlifgaaGreat
set_option linter.unusedVariables false
set_option linter.unusedSimpArgs false
section
open Go.RowKit
structure CoilD where
  (name : ByteArray) (r z turns cur step heat cool : Int)
structure ShellD where
  (r z self loss : Int)
structure PointD where
  (r z : Int)
structure SensorD where
  (name : ByteArray) (kind r z error : Int)
structure FaultD where
  (at_ sensor kind n : Int)
structure SpanD where
  (lo hi : Int)
structure GridD where
  (r z nr nz step : Int)
structure MachD where
  (name : ByteArray) (coils : List CoilD) (shells : List ShellD) (limits : List PointD) (grid : GridD) (sensors : List SensorD)
def CoilD.cells (x : CoilD) : List Value := [.string x.name, .int .i64 x.r, .int .i64 x.z, .int .i64 x.turns, .int .i64 x.cur, .int .i64 x.step, .int .i64 x.heat, .int .i64 x.cool]
def ShellD.cells (x : ShellD) : List Value := [.int .i64 x.r, .int .i64 x.z, .int .i64 x.self, .int .i64 x.loss]
def PointD.cells (x : PointD) : List Value := [.int .i64 x.r, .int .i64 x.z]
def SensorD.cells (x : SensorD) : List Value := [.string x.name, .int .i64 x.kind, .int .i64 x.r, .int .i64 x.z, .int .i64 x.error]
def FaultD.cells (x : FaultD) : List Value := [.int .i64 x.at_, .int .i64 x.sensor, .int .i64 x.kind, .int .i64 x.n]
def SpanD.cells (x : SpanD) : List Value := [.int .i64 x.lo, .int .i64 x.hi]
def intCells (x : Int) : List Value := [.int .i64 x]
abbrev CoilD.v (x : CoilD) : Value := .agg #[.string x.name, .int .i64 x.r, .int .i64 x.z, .int .i64 x.turns, .int .i64 x.cur, .int .i64 x.step, .int .i64 x.heat, .int .i64 x.cool]
abbrev ShellD.v (x : ShellD) : Value := .agg #[.int .i64 x.r, .int .i64 x.z, .int .i64 x.self, .int .i64 x.loss]
abbrev PointD.v (x : PointD) : Value := .agg #[.int .i64 x.r, .int .i64 x.z]
abbrev SensorD.v (x : SensorD) : Value := .agg #[.string x.name, .int .i64 x.kind, .int .i64 x.r, .int .i64 x.z, .int .i64 x.error]
abbrev FaultD.v (x : FaultD) : Value := .agg #[.int .i64 x.at_, .int .i64 x.sensor, .int .i64 x.kind, .int .i64 x.n]
abbrev SpanD.v (x : SpanD) : Value := .agg #[.int .i64 x.lo, .int .i64 x.hi]
abbrev intV (x : Int) : Value := .int .i64 x
def IsT {α : Type} (n : Nat) (enc : α → List Value) (w : World) (A : Option Addr) (len : Nat) (zs : List α) : Prop :=
  zs.length = len ∧ (0 < len → ∃ b o : Nat, A = some ⟨b, o, none⟩ ∧ b < w.heap.size ∧ ∀ (j : Nat) (x : α), zs[j]? = some x → ∀ (i : Nat) (v : Value), (enc x)[i]? = some v → w.cell? ⟨b, o + j * n + i, none⟩ = some v)
theorem IsT.below {α : Type} {n : Nat} {enc : α → List Value} {w w1 : World} {A : Option Addr} {len : Nat} {zs : List α} (h : IsT n enc w A len zs) (hb : Below w.heap.size w w1) : IsT n enc w1 A len zs :=
  ⟨h.1, fun h0 => by
    obtain ⟨b, o, e, h1, h2⟩ := h.2 h0
    exact ⟨b, o, e, Nat.lt_of_lt_of_le h1 hb.size, fun j x hx i v hv => (hb.cell (p := ⟨b, _, none⟩) h1).trans (h2 j x hx i v hv)⟩⟩
theorem IsT.take {α : Type} {n : Nat} {enc : α → List Value} {w : World} {A : Option Addr} {len : Nat} {zs : List α} (h : IsT n enc w A len zs) {k : Nat} (hk : k ≤ len) : IsT n enc w A k (zs.take k) :=
  ⟨by rw [List.length_take, h.1]; omega, fun h0 => by
    obtain ⟨b, o, e, h1, h2⟩ := h.2 (by omega)
    refine ⟨b, o, e, h1, fun j x hx i v hv => h2 j x ?_ i v hv⟩
    rw [List.getElem?_take] at hx
    split at hx
    · exact hx
    · cases hx⟩
theorem IsT.nil {α : Type} (n : Nat) (enc : α → List Value) (w : World) (A : Option Addr) : IsT n enc w A 0 ([] : List α) := ⟨rfl, fun h => absurd h (by omega)⟩
def idxGo {α : Type} (p : α → Bool) : List α → Int → Int
  | [], _ => -1
  | x :: r, i => if p x = true then i else idxGo p r (i + 1)
def idxL {α : Type} (p : α → Bool) (l : List α) : Int := idxGo p l 0
theorem idxGo_drop {α : Type} (p : α → Bool) {l : List α} {k : Nat} {x : α} (h : l[k]? = some x) (i : Int) : idxGo p (l.drop k) i = if p x = true then i else idxGo p (l.drop (k + 1)) (i + 1) := by
  obtain ⟨hk, rfl⟩ := List.getElem?_eq_some_iff.1 h
  rw [List.drop_eq_getElem_cons hk]; rfl
theorem idxGo_nonneg {α : Type} (p : α → Bool) (l : List α) (i : Int) (hi : 0 ≤ i) : 0 ≤ idxGo p l i ↔ l.any p = true := by
  induction l generalizing i with
  | nil => simp [idxGo]
  | cons x r ih =>
    show 0 ≤ (if p x = true then i else idxGo p r (i + 1)) ↔ _
    by_cases h : p x = true
    · simp [h, hi]
    · rw [if_neg h, ih (i + 1) (by omega)]; simp [h]
theorem idxL_nonneg {α : Type} (p : α → Bool) (l : List α) : decide (0 ≤ idxL p l) = l.any p := by
  have h := idxGo_nonneg p l 0 (by omega)
  unfold idxL
  cases hb : l.any p with
  | true => exact decide_eq_true (h.2 hb)
  | false => exact decide_eq_false (fun h0 => by rw [h.1 h0] at hb; cases hb)
theorem idxGo_bd {α : Type} (p : α → Bool) (l : List α) (i : Int) (hi : 0 ≤ i) : -1 ≤ idxGo p l i ∧ idxGo p l i < i + l.length + 1 := by
  induction l generalizing i with
  | nil => simp [idxGo]; omega
  | cons x r ih =>
    show -1 ≤ (if p x = true then i else idxGo p r (i + 1)) ∧ (if p x = true then i else idxGo p r (i + 1)) < i + (r.length + 1 : Nat) + 1
    have := ih (i + 1) (by omega)
    split <;> omega
theorem idxL_bd {α : Type} (p : α → Bool) (l : List α) : -1 ≤ idxL p l ∧ idxL p l ≤ l.length := by
  have := idxGo_bd p l 0 (by omega); unfold idxL; omega
def eachGo {α : Type} (chk : α → List α → Int) : List α → List α → Int
  | _, [] => 0
  | pre, x :: r => if chk x pre = 0 then eachGo chk (pre ++ [x]) r else chk x pre
def eachC {α : Type} (chk : α → List α → Int) (most : Int) (l : List α) : Int := if most < l.length then 4 else eachGo chk [] l
theorem eachGo_step {α : Type} (chk : α → List α → Int) {l : List α} {k : Nat} {x : α} (h : l[k]? = some x) : eachGo chk (l.take k) (l.drop k) = if chk x (l.take k) = 0 then eachGo chk (l.take (k + 1)) (l.drop (k + 1)) else chk x (l.take k) := by
  obtain ⟨hk, rfl⟩ := List.getElem?_eq_some_iff.1 h
  rw [List.drop_eq_getElem_cons hk, List.take_succ_eq_append_getElem hk]; rfl
def wthn (n a b : Int) : Bool := decide (a ≤ n) && decide (n ≤ b)
def nearB (r z f : Int) : Bool := wthn r (-f) f && wthn z (-f) f
def smallB (b : Int) : Bool := decide (97 ≤ b) && decide (b ≤ 122)
def nameByte (b : Int) : Bool := smallB b || (decide (b = 95) || (decide (48 ≤ b) && decide (b ≤ 57)))
def nameB : List UInt8 → Bool
  | [] => false
  | c :: r => decide (r.length < 16) && (smallB c.toNat && (c :: r).all fun b => nameByte b.toNat)
def rng (b : Bool) : Int := if b = true then 0 else 7
def coilC (c : CoilD) (e : List CoilD) : Int :=
  if nameB c.name.data.toList = true then
    if e.any (fun x => decide (x.name = c.name)) = true then 6
    else rng (nearB c.r c.z 60 && (wthn c.turns 1 100 && (wthn c.cur 1 1000000 && (wthn c.step 1 1000000 && (wthn c.heat 1 1000000000000 && wthn c.cool 0 1000000000)))))
  else 1
def shellC (s : ShellD) (_ : List ShellD) : Int := rng (nearB s.r s.z 60 && (wthn s.self 1 1000000000 && wthn s.loss 1 1000))
def limitC (p : PointD) (e : List PointD) : Int := if nearB p.r p.z 60 = true then if e.any (fun x => decide (x.r = p.r) && decide (x.z = p.z)) = true then 6 else 0 else 7
def sensorC (s : SensorD) (e : List SensorD) : Int :=
  if nameB s.name.data.toList = true then
    if e.any (fun x => decide (x.name = s.name)) = true then 6
    else rng (wthn s.kind 1 3 && (nearB s.r s.z 60 && wthn s.error 0 1000000000))
  else 1
def cellR (g : GridD) (i : Int) : Int := g.r + i % g.nr * g.step
def cellZ (g : GridD) (i : Int) : Int := g.z + i / g.nr * g.step
def gridC (g : GridD) : Int :=
  if (wthn g.nr 1 8 && (wthn g.nz 1 8 && wthn g.step 1 10)) = true then
    if nearB g.r g.z 60 = true then rng (nearB (cellR g (g.nr * g.nz - 1)) (cellZ g (g.nr * g.nz - 1)) 60) else 7
  else 7
def limitsC (l : List PointD) : Int := if l.length = 0 then 8 else eachC limitC 16 l
def orL : List Int → Int
  | [] => 0
  | x :: r => if x = 0 then orL r else x
def nameC (s : ByteArray) : Int := if nameB s.data.toList = true then 0 else 1
def checkC (m : MachD) : Int := orL [nameC m.name, eachC coilC 12 m.coils, eachC shellC 16 m.shells, limitsC m.limits, gridC m.grid, eachC sensorC 24 m.sensors]
end
section
open Go.RowKit
set_option maxHeartbeats 400000 in
theorem mwithin_any (n a b : Int) (w : World) :
    Calls Tryz.prog 146 #[.int .i64 n, .int .i64 a, .int .i64 b] w fun e w' => e = .returned (.bool (wthn n a b)) ∧ w = w' := by
  go_enter Tryz.func146, Tryz.ntmps146
  go_wp2
  all_goals go_ret
  all_goals (simp [wthn]; try omega)
set_option maxHeartbeats 400000 in
theorem near_any (r z f : Int) (w : World) (h0 : 0 ≤ f) (h1 : f ≤ 1000000) :
    Calls Tryz.prog 116 #[.int .i64 r, .int .i64 z, .int .i64 f] w fun e w' => e = .returned (.bool (nearB r z f)) ∧ w = w' := by
  have HE : Hid (nearB r z f = (wthn r (-f) f && wthn z (-f) f)) := Lib.hid rfl
  cases h : wthn r (-f) f
  · go_enter Tryz.func116, Tryz.ntmps116
    go_wp2_with (go_at_call 146; refine (mwithin_any _ _ _ _).mono ?_; rintro e w1 ⟨rfl, rfl⟩)
    go_ret
    exact ⟨by rw [HE.out, h]; rfl, rfl⟩
  · go_enter Tryz.func116, Tryz.ntmps116
    go_wp2_with (go_at_call 146; refine (mwithin_any _ _ _ _).mono ?_; rintro e w1 ⟨rfl, rfl⟩)
    go_ret
    exact ⟨by rw [HE.out, h]; rfl, rfl⟩
set_option maxHeartbeats 400000 in
theorem validPlace_any (r z : Int) (w : World) :
    Calls Tryz.prog 168 #[.int .i64 r, .int .i64 z] w fun e w' => e = .returned (.bool (nearB r z 60)) ∧ w = w' := by
  go_enter Tryz.func168, Tryz.ntmps168
  go_wp2_with (go_at_call 116; refine (near_any _ _ _ _ (by omega) (by omega)).mono ?_; rintro e w1 ⟨rfl, rfl⟩)
  go_ret
  exact ⟨rfl, rfl⟩
set_option maxHeartbeats 400000 in
theorem checkRange_any (b : Bool) (w : World) :
    Calls Tryz.prog 115 #[.bool b] w fun e w' => e = .returned (.int .i64 (rng b)) ∧ w = w' := by
  cases b
  · go_enter Tryz.func115, Tryz.ntmps115
    go_wp2
    go_ret
    exact ⟨rfl, rfl⟩
  · go_enter Tryz.func115, Tryz.ntmps115
    go_wp2
    go_ret
    exact ⟨rfl, rfl⟩
set_option maxHeartbeats 400000 in
theorem small_any (b : Int) (w : World) :
    Calls Tryz.prog 176 #[.int .u8 b] w fun e w' => e = .returned (.bool (smallB b)) ∧ w = w' := by
  go_enter Tryz.func176, Tryz.ntmps176
  go_wp2
  all_goals go_ret
  all_goals (simp [smallB]; try omega)
theorem indexS_any (B : ByteArray) (l : List UInt8) (hl : B.data.toList = l) (k : Nat) (h : k < l.length) (W : World) :
    (Instr.index 9 (.string B) (.int .i64 (k : Int))).run Tryz.prog W = .ok (.int .u8 (l[k].toNat : Int)) W := by
  subst hl
  have hk : k < B.size := by have : B.data.toList.length = B.size := Array.length_toList; omega
  rw [run_index_string _ _ _ _ _ (by kernel_rfl), dif_pos ⟨by omega, by omega⟩]
  rfl
set_option maxHeartbeats 2000000 in
theorem name_any (s : ByteArray) (w : World) :
    Calls Tryz.prog 166 #[.string s] w fun e w' => e = .returned (.bool (nameB s.data.toList)) ∧ w = w' := by
  have hz : s.data.toList.length = s.size := Array.length_toList
  cases hL : s.data.toList with
  | nil =>
    rw [hL] at hz
    have h1 : s.size = 0 := hz.symm
    clear hz hL
    go_enter Tryz.func166, Tryz.ntmps166
    go_wp2
    go_ret
    exact ⟨rfl, rfl⟩
  | cons c r =>
    rw [hL] at hz
    have hz1 : s.size = r.length + 1 := by rw [← hz]; rfl
    have ix0 : ∀ W : World, (Instr.index 9 (.string s) (.int .i64 0)).run Tryz.prog W = .ok (.int .u8 (c.toNat : Int)) W := fun W => indexS_any s (c :: r) hL 0 (by simp) W
    have HG : Hid (nameB (c :: r) = (decide (r.length < 16) && (smallB c.toNat && (c :: r).all fun b => nameByte b.toNat))) := Lib.hid rfl
    generalize nameB (c :: r) = G at *
    have hs1 : 1 ≤ s.size := by omega
    have hs0 : ((s.size : Int) == 0) = false := by rw [beq_eq_false_iff_ne]; omega
    by_cases h16 : r.length < 16
    · have hs2 : s.size ≤ 16 := by omega
      cases hsm : smallB c.toNat
      · have HN : Hid (G = false) := Lib.hid (by rw [HG.out, hsm]; simp)
        clear hz hz1 hL HG
        generalize (c.toNat : Int) = ci at *
        go_enter Tryz.func166, Tryz.ntmps166
        go_wp2_with (go_at_call 176; refine (small_any _ _).mono ?_; rintro e w1 ⟨rfl, rfl⟩)
        go_ret
        exact ⟨by rw [HN.out]; rfl, rfl⟩
      · have HN : Hid (G = (c :: r).all fun b => nameByte b.toNat) := Lib.hid (by rw [HG.out, hsm, decide_eq_true h16]; simp)
        obtain ⟨l, hl⟩ : ∃ l, c :: r = l := ⟨_, rfl⟩
        rw [hl] at HN hL hz
        clear HG hl hz1
        generalize (c.toNat : Int) = ci at *
        have HL := Lib.hid hL
        have HZ := Lib.hid hz
        clear hL hz
        go_enter Tryz.func166, Tryz.ntmps166
        go_wp2_with (go_at_call 176; refine (small_any _ _).mono ?_; rintro e w1 ⟨rfl, rfl⟩)
        clear ix0 hsm
        go_loop [3, 4, 21] (fun _ _ i => ∃ k : Nat, k ≤ s.size ∧ i = .int .i64 k ∧ Hid (((l.drop k).all fun b => nameByte b.toNat) = G)) (fun _ _ i => s.size - (intOf i).toNat)
        case atStart => exact ⟨0, Nat.zero_le _, rfl, Lib.hid (by rw [HN.out]; rfl)⟩
        case round =>
          obtain ⟨k, hk, rfl, hG⟩ := hrel
          by_cases hlt : k < s.size
          · have hkl : k < l.length := by rw [HZ.out]; exact hlt
            have ix := indexS_any s l HL.out k hkl
            have HS := Lib.hid (show (nameByte l[k].toNat && ((l.drop (k + 1)).all fun b => nameByte b.toNat)) = G from by rw [← hG.out, List.drop_eq_getElem_cons hkl]; rfl)
            have c255 : l[k].toNat < 256 := l[k].toNat_lt
            obtain ⟨x, hxe⟩ : ∃ x : Int, (l[k].toNat : Int) = x := ⟨_, rfl⟩
            rw [hxe] at ix HS
            have hx0 : 0 ≤ x := by omega
            have hx1 : x < 256 := by omega
            clear hkl hxe c255
            cases hnb : nameByte x
            · have HF : Hid (G = false) := Lib.hid (by rw [← HS.out, hnb]; rfl)
              have h1 : smallB x = false := by unfold nameByte at hnb; simp at hnb; exact hnb.1
              have h2 : x ≠ 95 := by unfold nameByte at hnb; simp at hnb; omega
              have h3 : x < 48 ∨ 57 < x := by unfold nameByte at hnb; simp at hnb; omega
              have hne : (x != 95) = true := by rw [bne_iff_ne]; exact h2
              clear HS hnb h2
              rcases h3 with h3 | h3
              · go_wp2_with (go_at_call 176; refine (small_any _ _).mono ?_; rintro e w1 ⟨rfl, rfl⟩)
                go_ret
                exact ⟨by rw [HF.out]; rfl, rfl⟩
              · go_wp2_with (go_at_call 176; refine (small_any _ _).mono ?_; rintro e w1 ⟨rfl, rfl⟩)
                go_ret
                exact ⟨by rw [HF.out]; rfl, rfl⟩
            · have HT : Hid (((l.drop (k + 1)).all fun b => nameByte b.toNat) = G) := Lib.hid (by rw [← HS.out, hnb]; rfl)
              clear HS
              cases hsm : smallB x
              · by_cases h95 : x = 95
                · have hne : (x != 95) = false := by rw [h95]; rfl
                  clear hnb h95
                  go_wp2_with (go_at_call 176; refine (small_any _ _).mono ?_; rintro e w1 ⟨rfl, rfl⟩)
                  go_round
                  case rel => exact ⟨k + 1, by omega, by go_num, HT⟩
                  case measure => simp [intOf]; omega
                · have hne : (x != 95) = true := by rw [bne_iff_ne]; exact h95
                  have h48 : 48 ≤ x ∧ x ≤ 57 := by unfold nameByte at hnb; rw [hsm] at hnb; simp [h95] at hnb; exact hnb
                  obtain ⟨h48, h57⟩ := h48
                  clear hnb h95
                  go_wp2_with (go_at_call 176; refine (small_any _ _).mono ?_; rintro e w1 ⟨rfl, rfl⟩)
                  go_round
                  case rel => exact ⟨k + 1, by omega, by go_num, HT⟩
                  case measure => simp [intOf]; omega
              · clear hnb
                go_wp2_with (go_at_call 176; refine (small_any _ _).mono ?_; rintro e w1 ⟨rfl, rfl⟩)
                go_round
                case rel => exact ⟨k + 1, by omega, by go_num, HT⟩
                case measure => simp [intOf]; omega
          · have HT : Hid (G = true) := Lib.hid (by rw [← hG.out, List.drop_of_length_le (by rw [HZ.out]; omega)]; rfl)
            go_wp2
            go_ret
            exact ⟨by rw [HT.out]; rfl, rfl⟩
    · have hs2 : 16 < s.size := by omega
      have HN : Hid (G = false) := Lib.hid (by rw [HG.out, decide_eq_false h16]; rfl)
      clear hz hz1 hL HG h16
      go_enter Tryz.func166, Tryz.ntmps166
      go_wp2_with fail
      go_ret
      exact ⟨by rw [HN.out]; rfl, rfl⟩
set_option maxHeartbeats 400000 in
theorem checkName_any (s : ByteArray) (w : World) :
    Calls Tryz.prog 135 #[.string s] w fun e w' => e = .returned (.int .i64 (nameC s)) ∧ w = w' := by
  have HE : Hid (nameC s = if nameB s.data.toList = true then 0 else 1) := Lib.hid rfl
  have HN := Lib.hid (fun W => name_any s W)
  cases h : nameB s.data.toList
  all_goals rw [h] at HN HE
  all_goals clear h
  all_goals go_enter Tryz.func135, Tryz.ntmps135
  all_goals go_wp2_with (go_at_call 166; refine (HN.out _).mono ?_; rintro e w1 ⟨rfl, rfl⟩)
  all_goals go_ret
  all_goals exact ⟨by rw [HE.out]; rfl, rfl⟩
end
section
open Go.RowKit
theorem resQ {fn : Func} {p : Tmp} (h : fn.results = #[.cell p 36]) (tmps : Array Value) (W : World) (b : Nat) (x y : Value)
    (hp : tmps.getD p undef = .pointer (some ⟨b, 0, none⟩)) (h0 : (W.cell? ⟨b, 0, none⟩).isSome = true) (h1 : (W.cell? ⟨b, 1, none⟩).isSome = true) :
    (results fn tmps).run Tryz.prog ((W.setCell ⟨b, 0, none⟩ x).setCell ⟨b, 1, none⟩ y).drew = .ok (.agg #[x, y]) ((W.setCell ⟨b, 0, none⟩ x).setCell ⟨b, 1, none⟩ y).drew := by
  have n1 : (⟨b, 1, none⟩ : Addr) ≠ ⟨b, 0, none⟩ := by simp
  have n0 : (⟨b, 0, none⟩ : Addr) ≠ ⟨b, 1, none⟩ := by simp
  have e1 : ((W.setCell ⟨b, 0, none⟩ x).setCell ⟨b, 1, none⟩ y).drew.cell? ⟨b, 0, none⟩ = some x := by
    rw [World.cell?_drew]; exact (World.cell?_setCell_other _ _ _ _ n1).trans (World.cell?_setCell_same' _ _ _ h0)
  have e2 : ((W.setCell ⟨b, 0, none⟩ x).setCell ⟨b, 1, none⟩ y).drew.cell? ⟨b, 1, none⟩ = some y := by
    rw [World.cell?_drew]; exact World.cell?_setCell_same' _ _ _ (by rw [World.cell?_setCell_other _ _ _ _ n0]; exact h1)
  have hp' : tmps[p]?.getD undef = .pointer (some ⟨b, 0, none⟩) := by simpa using hp
  simp only [results, h]
  simp [Sem.run_bind, Result.andThen, go_sem, hp', e1, e2]
abbrev GridD.v (g : GridD) : Value := .agg #[.int .i64 g.r, .int .i64 g.z, .int .i64 g.nr, .int .i64 g.nz, .int .i64 g.step]
structure GridD.Fine (g : GridD) : Prop where
  r0 : -60 ≤ g.r
  r1 : g.r ≤ 60
  z0 : -60 ≤ g.z
  z1 : g.z ≤ 60
  n0 : 1 ≤ g.nr
  n1 : g.nr ≤ 8
  k0 : 1 ≤ g.nz
  k1 : g.nz ≤ 8
  s0 : 1 ≤ g.step
  s1 : g.step ≤ 10
theorem wthn_iff {n a b : Int} : wthn n a b = true ↔ a ≤ n ∧ n ≤ b := by simp [wthn]
theorem nearB_iff {r z f : Int} : nearB r z f = true ↔ (-f ≤ r ∧ r ≤ f) ∧ -f ≤ z ∧ z ≤ f := by simp [nearB, wthn_iff]
theorem fine_of {g : GridD} (h1 : (wthn g.nr 1 8 && (wthn g.nz 1 8 && wthn g.step 1 10)) = true) (h2 : nearB g.r g.z 60 = true) : g.Fine := by
  simp only [Bool.and_eq_true, wthn_iff] at h1
  rw [nearB_iff] at h2
  exact ⟨h2.1.1, h2.1.2, h2.2.1, h2.2.2, h1.1.1, h1.1.2, h1.2.1.1, h1.2.1.2, h1.2.2.1, h1.2.2.2⟩
theorem mul_small {a b x y : Int} (a0 : 0 ≤ a) (a1 : a ≤ x) (b0 : 0 ≤ b) (b1 : b ≤ y) : 0 ≤ a * b ∧ a * b ≤ x * y :=
  ⟨Int.mul_nonneg a0 b0, Int.mul_le_mul a1 b1 b0 (by omega)⟩
theorem cell_bd {g : GridD} (h : g.Fine) {i : Int} (i0 : 0 ≤ i) (i1 : i ≤ 1000) : (0 ≤ i % g.nr * g.step ∧ i % g.nr * g.step ≤ 80) ∧ (0 ≤ i / g.nr * g.step ∧ i / g.nr * g.step ≤ 10000) := by
  obtain ⟨r0, r1, z0, z1, n0, n1, k0, k1, s0, s1⟩ := h
  have a0 := Int.emod_nonneg i (show g.nr ≠ 0 by omega)
  have a1 := Int.emod_lt_of_pos i (show 0 < g.nr by omega)
  have b0 := Int.ediv_nonneg i0 (show 0 ≤ g.nr by omega)
  have b1 := Int.ediv_le_self g.nr i0
  exact ⟨mul_small (x := 8) (y := 10) a0 (by omega) (by omega) s1, mul_small (x := 1000) (y := 10) b0 (by omega) (by omega) s1⟩
set_option maxHeartbeats 2000000 in
theorem cellPlace_any (g : GridD) (i : Int) (w : World) (h : g.Fine) (i0 : 0 ≤ i) (i1 : i ≤ 1000) :
    Calls Tryz.prog 159 #[g.v, .int .i64 i] w (Ret (.agg #[.int .i64 (cellR g i), .int .i64 (cellZ g i)]) w) := by
  obtain ⟨⟨p0, p1⟩, q0, q1⟩ := cell_bd h i0 i1
  obtain ⟨r0, r1, z0, z1, n0, n1, k0, k1, s0, s1⟩ := h
  obtain ⟨r, z, nr, nz, step⟩ := g
  dsimp only at *
  have e1 : (nr == 0) = false := by rw [beq_eq_false_iff_ne]; omega
  have e2 : ¬nr = 0 := by omega
  have e3 := Int.tmod_eq_emod_of_nonneg (b := nr) i0
  have e4 := Int.tdiv_eq_ediv_of_nonneg (b := nr) i0
  have e5 : IntKind.i64.wrap (i % nr * step) = i % nr * step := IntWalk.i64_in _ (by omega)
  have e6 : IntKind.i64.wrap (i / nr * step) = i / nr * step := IntWalk.i64_in _ (by omega)
  have b0 := Int.ediv_nonneg i0 (show 0 ≤ nr by omega)
  have b1 := Int.ediv_le_self nr i0
  have e7 : IntKind.i64.wrap (i / nr) = i / nr := IntWalk.i64_in _ (by omega)
  have HR : Hid (IntKind.i64.wrap (r + IntKind.i64.wrap (i % nr * step)) = cellR ⟨r, z, nr, nz, step⟩ i) := Lib.hid (by rw [e5, IntWalk.i64_in _ (by omega)]; rfl)
  have HZ : Hid (IntKind.i64.wrap (z + IntKind.i64.wrap (i / nr * step)) = cellZ ⟨r, z, nr, nz, step⟩ i) := Lib.hid (by rw [e6, IntWalk.i64_in _ (by omega)]; rfl)
  generalize cellR ⟨r, z, nr, nz, step⟩ i = R at *
  generalize cellZ ⟨r, z, nr, nz, step⟩ i = Z at *
  clear e5 e6 p0 p1 q0 q1
  generalize i % nr = M at *
  generalize i / nr = D at *
  show Calls Tryz.prog 159 #[.agg #[.int .i64 r, .int .i64 z, .int .i64 nr, .int .i64 nz, .int .i64 step], .int .i64 i] w _
  go_enter Tryz.func159, Tryz.ntmps159
  go_upto_region 0 with fail
  go_cut [2, 4] (fun s2 s4 wx => s2 = .pointer (some ⟨w.heap.size, 0, none⟩) ∧ s4 = .pointer (some ⟨w.heap.size + 1, 0, none⟩) ∧ wx.cell? ⟨w.heap.size, 0, none⟩ = some (.int .i64 r) ∧ wx.cell? ⟨w.heap.size, 1, none⟩ = some (.int .i64 z) ∧ wx.cell? ⟨w.heap.size, 2, none⟩ = some (.int .i64 nr) ∧ wx.cell? ⟨w.heap.size, 4, none⟩ = some (.int .i64 step) ∧ w.heap.size + 1 < wx.heap.size ∧ Below w.heap.size w wx ∧ (wx).cell? ⟨w.heap.size + 1, 0, none⟩ = some (cur (wx) ⟨w.heap.size + 1, 0, none⟩) ∧ (wx).frozen? ⟨w.heap.size + 1, 0, none⟩ = false ∧ (wx).cell? ⟨w.heap.size + 1, 1, none⟩ = some (cur (wx) ⟨w.heap.size + 1, 1, none⟩) ∧ (wx).frozen? ⟨w.heap.size + 1, 1, none⟩ = false)
  case first =>
    go_wp2_with fail
    go_meet
    exact ⟨rfl, (by go_simp), (by go_simp), (by go_simp), (by go_simp), (by go_simp), (by ((try simp only [World.size_alloc, World.size_setCell, size_drew, size_drewN]); omega)), (by (repeat first | with_reducible exact Below.refl _ _ | (with_reducible refine Below.alloc ?_ ?_ _; rotate_left; exact (by first | omega | (simp; done))))), (by simp only [cur_iff]; go_simp), (by go_simp), (by simp only [cur_iff]; go_simp), (by go_simp)⟩
  case rest =>
    obtain ⟨rfl, rfl, c0, c1, c2, c4, hs, hB, k0, q0', k1, q1'⟩ := hcut
    go_wp2_with fail
    have HS : Hid (∀ w' : World, Reg (w.heap.size + 1) (wc) w' → (Reg (w.heap.size + 1) (wc) w' ∧ w'.cell? ⟨w.heap.size, 0, none⟩ = some (.int .i64 r) ∧ w'.cell? ⟨w.heap.size, 1, none⟩ = some (.int .i64 z) ∧ w'.cell? ⟨w.heap.size, 2, none⟩ = some (.int .i64 nr) ∧ w'.cell? ⟨w.heap.size, 4, none⟩ = some (.int .i64 step))) := (fun w' h => by (have hc := h.cells; have hs := h.some; have hf := h.frozen; refine ⟨h, ?_⟩; (try simp only [World.size_alloc, World.size_setCell, size_drew, size_drewN] at hc hs hf); first | (simp (disch := omega) only [hc, hs, hf, cur_iff]; (try go_simp); done) | (simp (disch := first | omega | (simp; done)) only [hc, hs, hf, cur_iff]; (try go_simp); done) | (simp (maxDischargeDepth := 4) [hc, hs, hf, cur_iff, go_sem]; done) | (go_simp; done) | (simp (maxDischargeDepth := 4) [hc, hs, hf, cur_iff, go_sem]; go_simp))); go_region_held3 (fun w' => Reg (w.heap.size + 1) (wc) w' ∧ w'.cell? ⟨w.heap.size, 0, none⟩ = some (.int .i64 r) ∧ w'.cell? ⟨w.heap.size, 1, none⟩ = some (.int .i64 z) ∧ w'.cell? ⟨w.heap.size, 2, none⟩ = some (.int .i64 nr) ∧ w'.cell? ⟨w.heap.size, 4, none⟩ = some (.int .i64 step)) (exact HS.out _ (by (repeat first | with_reducible exact Reg.refl _ _ | (with_reducible refine Reg.setCell ?_ ?_ _; rotate_left; exact (by (simp; done))) | with_reducible refine Reg.drew ?_))) (first | fail)
    all_goals go_wp2_with fail
    all_goals exact bodyPost_ret (resQ Tryz.results159 _ _ _ _ _ rfl (by (try simp only [isSome_setCell]); first | assumption | go_simp) (by (try simp only [isSome_setCell]); first | assumption | go_simp)) rfl ⟨by rw [HR.out, HZ.out], by (repeat first | with_reducible assumption | (with_reducible refine Below.setCell ?_ ?_ _; rotate_left; exact (by (simp; done))) | with_reducible refine Below.drew ?_)⟩
set_option maxHeartbeats 400000 in
theorem cells_any (g : GridD) (w : World) (h0 : 0 ≤ g.nr * g.nz) (h1 : g.nr * g.nz ≤ 1000000) :
    Calls Tryz.prog 90 #[g.v] w (Ret (.int .i64 (g.nr * g.nz)) w) := by
  obtain ⟨r, z, nr, nz, step⟩ := g
  dsimp only at *
  have e5 : IntKind.i64.wrap (nr * nz) = nr * nz := IntWalk.i64_in _ (by omega)
  generalize hP : nr * nz = P at *
  show Calls Tryz.prog 90 #[.agg #[.int .i64 r, .int .i64 z, .int .i64 nr, .int .i64 nz, .int .i64 step]] w _
  go_enter Tryz.func90, Tryz.ntmps90
  go_wp2
  go_ret
  exact ⟨rfl, by (repeat first | with_reducible exact Below.refl _ _ | (with_reducible refine Below.alloc ?_ ?_ _; rotate_left; exact (by omega)))⟩
end
section
open Go.RowKit
set_option maxHeartbeats 2000000 in
theorem indexCoil1 (k : Nat) (c0 : Nat) (p : CoilD → Bool) (A : Option Addr) (len cap : Nat) (zs : List CoilD) (w : World) (hI : IsT 8 CoilD.cells w A len zs) (hl : len ≤ 1000000000000000)
    (hE : ∀ (args : Array Value) (W : World), (callFunc k args).run Tryz.prog W = .ok (.enter k args) W)
    (hk : ∀ (x : CoilD) (W : World), x ∈ zs → Below w.heap.size w W → Calls Tryz.prog k #[CoilD.v x, .pointer (some ⟨c0, 0, none⟩)] W (Ret (.bool (p x)) W)) :
    Calls Tryz.prog 177 #[.slice A len cap, .func (.func k) #[] #[.pointer (some ⟨c0, 0, none⟩)]] w (Ret (.int .i64 (idxL p zs)) w) := by
  have HI := Lib.hid hI
  have HK := Lib.hid hk
  have HG : Hid (idxL p zs = idxGo p zs 0) := Lib.hid rfl
  generalize idxL p zs = G at *
  clear hI hk
  go_enter Tryz.func177, Tryz.ntmps177
  go_wp2_with fail
  go_loopw [5, 8] (fun _ i wr => ∃ j : Nat, j ≤ len ∧ i = .int .i64 j ∧ Hid (idxGo p (zs.drop j) j = G) ∧ Below w.heap.size w wr) (fun _ i _ => len - (intOf i).toNat)
  case atStart => exact ⟨0, Nat.zero_le _, rfl, Lib.hid HG.out.symm, Below.refl _ _⟩
  case round =>
    obtain ⟨j, hj, rfl, hG, hB⟩ := hrel
    by_cases hlt : j < len
    · obtain ⟨hzl, hcl⟩ := HI.out.below hB
      obtain ⟨b, o, rfl, hb0, hcl⟩ := hcl (by omega)
      obtain ⟨x, hx⟩ : ∃ x, zs[j]? = some x := ⟨_, List.getElem?_eq_getElem (by omega)⟩
      have HM := Lib.hid (List.mem_of_getElem? hx)
      have HS := Lib.hid (idxGo_drop p hx (j : Int))
      have x0 : wr.cell? ⟨b, o + j * 8, none⟩ = some (.string x.name) := by have h := hcl j x hx 0 _ rfl; simpa using h
      have x1 : wr.cell? ⟨b, o + j * 8 + 1, none⟩ = some (.int .i64 x.r) := by have h := hcl j x hx 1 _ rfl; simpa using h
      have x2 : wr.cell? ⟨b, o + j * 8 + 2, none⟩ = some (.int .i64 x.z) := by have h := hcl j x hx 2 _ rfl; simpa using h
      have x3 : wr.cell? ⟨b, o + j * 8 + 3, none⟩ = some (.int .i64 x.turns) := by have h := hcl j x hx 3 _ rfl; simpa using h
      have x4 : wr.cell? ⟨b, o + j * 8 + 4, none⟩ = some (.int .i64 x.cur) := by have h := hcl j x hx 4 _ rfl; simpa using h
      have x5 : wr.cell? ⟨b, o + j * 8 + 5, none⟩ = some (.int .i64 x.step) := by have h := hcl j x hx 5 _ rfl; simpa using h
      have x6 : wr.cell? ⟨b, o + j * 8 + 6, none⟩ = some (.int .i64 x.heat) := by have h := hcl j x hx 6 _ rfl; simpa using h
      have x7 : wr.cell? ⟨b, o + j * 8 + 7, none⟩ = some (.int .i64 x.cool) := by have h := hcl j x hx 7 _ rfl; simpa using h
      have hsz := hB.size
      have HC := Lib.hid (HK.out x)
      clear hcl hx hzl
      cases hp : p x
      · have HN : Hid (idxGo p (zs.drop (j + 1)) ((j + 1 : Nat) : Int) = G) := Lib.hid (by rw [← hG.out, HS.out, hp]; rfl)
        have HC := Lib.hid (show ∀ W, Below w.heap.size w W → Calls Tryz.prog k #[CoilD.v x, .pointer (some ⟨c0, 0, none⟩)] W (Ret (.bool false) W) from fun W h => by have := HC.out W HM.out h; rwa [hp] at this)
        clear hp
        go_wp2_with ((with_reducible show Calls _ k _ _ _); refine (HC.out _ (by (repeat with_reducible assumption))).mono ?_; rintro e w1 ⟨rfl, hb⟩; have hB1 : Below w.heap.size w w1 := Below.trans (by (repeat with_reducible assumption)) (hb.mono (by omega)))
        go_roundw
        case rel => exact ⟨j + 1, by omega, by go_num, HN, by (repeat with_reducible assumption)⟩
        case measure => simp [intOf]; omega
      · have HN : Hid ((j : Int) = G) := Lib.hid (by rw [← hG.out, HS.out, hp]; rfl)
        have HC := Lib.hid (show ∀ W, Below w.heap.size w W → Calls Tryz.prog k #[CoilD.v x, .pointer (some ⟨c0, 0, none⟩)] W (Ret (.bool true) W) from fun W h => by have := HC.out W HM.out h; rwa [hp] at this)
        clear hp
        go_wp2_with ((with_reducible show Calls _ k _ _ _); refine (HC.out _ (by (repeat with_reducible assumption))).mono ?_; rintro e w1 ⟨rfl, hb⟩; have hB1 : Below w.heap.size w w1 := Below.trans (by (repeat with_reducible assumption)) (hb.mono (by omega)))
        go_ret
        exact ⟨by rw [← HN.out]; rfl, by (repeat with_reducible assumption)⟩
    · have HN : Hid ((-1 : Int) = G) := Lib.hid (by rw [← hG.out, List.drop_of_length_le (by rw [HI.out.1]; omega)]; rfl)
      go_wp2
      go_ret
      exact ⟨by rw [← HN.out]; rfl, hB⟩
end
section
open Go.RowKit
set_option maxHeartbeats 2000000 in
theorem indexSensor1 (k : Nat) (c0 : Nat) (p : SensorD → Bool) (A : Option Addr) (len cap : Nat) (zs : List SensorD) (w : World) (hI : IsT 5 SensorD.cells w A len zs) (hl : len ≤ 1000000000000000)
    (hE : ∀ (args : Array Value) (W : World), (callFunc k args).run Tryz.prog W = .ok (.enter k args) W)
    (hk : ∀ (x : SensorD) (W : World), x ∈ zs → Below w.heap.size w W → Calls Tryz.prog k #[SensorD.v x, .pointer (some ⟨c0, 0, none⟩)] W (Ret (.bool (p x)) W)) :
    Calls Tryz.prog 180 #[.slice A len cap, .func (.func k) #[] #[.pointer (some ⟨c0, 0, none⟩)]] w (Ret (.int .i64 (idxL p zs)) w) := by
  have HI := Lib.hid hI
  have HK := Lib.hid hk
  have HG : Hid (idxL p zs = idxGo p zs 0) := Lib.hid rfl
  generalize idxL p zs = G at *
  clear hI hk
  go_enter Tryz.func180, Tryz.ntmps180
  go_wp2_with fail
  go_loopw [5, 8] (fun _ i wr => ∃ j : Nat, j ≤ len ∧ i = .int .i64 j ∧ Hid (idxGo p (zs.drop j) j = G) ∧ Below w.heap.size w wr) (fun _ i _ => len - (intOf i).toNat)
  case atStart => exact ⟨0, Nat.zero_le _, rfl, Lib.hid HG.out.symm, Below.refl _ _⟩
  case round =>
    obtain ⟨j, hj, rfl, hG, hB⟩ := hrel
    by_cases hlt : j < len
    · obtain ⟨hzl, hcl⟩ := HI.out.below hB
      obtain ⟨b, o, rfl, hb0, hcl⟩ := hcl (by omega)
      obtain ⟨x, hx⟩ : ∃ x, zs[j]? = some x := ⟨_, List.getElem?_eq_getElem (by omega)⟩
      have HM := Lib.hid (List.mem_of_getElem? hx)
      have HS := Lib.hid (idxGo_drop p hx (j : Int))
      have x0 : wr.cell? ⟨b, o + j * 5, none⟩ = some (.string x.name) := by have h := hcl j x hx 0 _ rfl; simpa using h
      have x1 : wr.cell? ⟨b, o + j * 5 + 1, none⟩ = some (.int .i64 x.kind) := by have h := hcl j x hx 1 _ rfl; simpa using h
      have x2 : wr.cell? ⟨b, o + j * 5 + 2, none⟩ = some (.int .i64 x.r) := by have h := hcl j x hx 2 _ rfl; simpa using h
      have x3 : wr.cell? ⟨b, o + j * 5 + 3, none⟩ = some (.int .i64 x.z) := by have h := hcl j x hx 3 _ rfl; simpa using h
      have x4 : wr.cell? ⟨b, o + j * 5 + 4, none⟩ = some (.int .i64 x.error) := by have h := hcl j x hx 4 _ rfl; simpa using h
      have hsz := hB.size
      have HC := Lib.hid (HK.out x)
      clear hcl hx hzl
      cases hp : p x
      · have HN : Hid (idxGo p (zs.drop (j + 1)) ((j + 1 : Nat) : Int) = G) := Lib.hid (by rw [← hG.out, HS.out, hp]; rfl)
        have HC := Lib.hid (show ∀ W, Below w.heap.size w W → Calls Tryz.prog k #[SensorD.v x, .pointer (some ⟨c0, 0, none⟩)] W (Ret (.bool false) W) from fun W h => by have := HC.out W HM.out h; rwa [hp] at this)
        clear hp
        go_wp2_with ((with_reducible show Calls _ k _ _ _); refine (HC.out _ (by (repeat with_reducible assumption))).mono ?_; rintro e w1 ⟨rfl, hb⟩; have hB1 : Below w.heap.size w w1 := Below.trans (by (repeat with_reducible assumption)) (hb.mono (by omega)))
        go_roundw
        case rel => exact ⟨j + 1, by omega, by go_num, HN, by (repeat with_reducible assumption)⟩
        case measure => simp [intOf]; omega
      · have HN : Hid ((j : Int) = G) := Lib.hid (by rw [← hG.out, HS.out, hp]; rfl)
        have HC := Lib.hid (show ∀ W, Below w.heap.size w W → Calls Tryz.prog k #[SensorD.v x, .pointer (some ⟨c0, 0, none⟩)] W (Ret (.bool true) W) from fun W h => by have := HC.out W HM.out h; rwa [hp] at this)
        clear hp
        go_wp2_with ((with_reducible show Calls _ k _ _ _); refine (HC.out _ (by (repeat with_reducible assumption))).mono ?_; rintro e w1 ⟨rfl, hb⟩; have hB1 : Below w.heap.size w w1 := Below.trans (by (repeat with_reducible assumption)) (hb.mono (by omega)))
        go_ret
        exact ⟨by rw [← HN.out]; rfl, by (repeat with_reducible assumption)⟩
    · have HN : Hid ((-1 : Int) = G) := Lib.hid (by rw [← hG.out, List.drop_of_length_le (by rw [HI.out.1]; omega)]; rfl)
      go_wp2
      go_ret
      exact ⟨by rw [← HN.out]; rfl, hB⟩
end
section
open Go.RowKit Go.Shelf
theorem str_beq (a b : ByteArray) : (a.toList == b.toList) = decide (a = b) := by
  rw [ByteArray.toList_eq, ByteArray.toList_eq]
  by_cases h : a = b
  · subst h; simp
  · have h2 : ¬a.data = b.data := fun e => h (by cases a; cases b; simp at e; simp [e])
    simp [h, h2]
set_option maxHeartbeats 1000000 in
theorem coilNamed1_any (x : CoilD) (s : ByteArray) (c0 : Nat) (w : World) (h0 : c0 < w.heap.size) (hc : w.cell? ⟨c0, 0, none⟩ = some (.string s)) :
    Calls Tryz.prog 178 #[x.v, .pointer (some ⟨c0, 0, none⟩)] w (Ret (.bool (decide (x.name = s))) w) := by
  obtain ⟨name, r, z, turns, cur, step, heat, cool⟩ := x
  dsimp only
  have hq := str_beq name s
  show Calls Tryz.prog 178 #[.agg #[.string name, .int .i64 r, .int .i64 z, .int .i64 turns, .int .i64 cur, .int .i64 step, .int .i64 heat, .int .i64 cool], .pointer (some ⟨c0, 0, none⟩)] w _
  go_enter Tryz.func178, Tryz.ntmps178
  go_wp2
  go_ret
  exact ⟨rfl, by (repeat first | with_reducible exact Below.refl _ _ | (with_reducible refine Below.alloc ?_ ?_ _; rotate_left; exact (by omega)))⟩
set_option maxHeartbeats 1000000 in
theorem sensorNamed1_any (x : SensorD) (s : ByteArray) (c0 : Nat) (w : World) (h0 : c0 < w.heap.size) (hc : w.cell? ⟨c0, 0, none⟩ = some (.string s)) :
    Calls Tryz.prog 181 #[x.v, .pointer (some ⟨c0, 0, none⟩)] w (Ret (.bool (decide (x.name = s))) w) := by
  obtain ⟨name, kind, r, z, error⟩ := x
  dsimp only
  have hq := str_beq name s
  show Calls Tryz.prog 181 #[.agg #[.string name, .int .i64 kind, .int .i64 r, .int .i64 z, .int .i64 error], .pointer (some ⟨c0, 0, none⟩)] w _
  go_enter Tryz.func181, Tryz.ntmps181
  go_wp2
  go_ret
  exact ⟨rfl, by (repeat first | with_reducible exact Below.refl _ _ | (with_reducible refine Below.alloc ?_ ?_ _; rotate_left; exact (by omega)))⟩
set_option maxHeartbeats 1000000 in
theorem coilNamed_any (A : Option Addr) (len cap : Nat) (zs : List CoilD) (s : ByteArray) (w : World) (hI : IsT 8 CoilD.cells w A len zs) (hl : len ≤ 1000000000000000) :
    Calls Tryz.prog 167 #[.slice A len cap, .string s] w (Ret (.int .i64 (idxL (fun x => decide (x.name = s)) zs)) w) := by
  have HC := Lib.hid (fun W (hb : Below w.heap.size w W) (h0 : w.heap.size < W.heap.size) (hc : W.cell? ⟨w.heap.size, 0, none⟩ = some (.string s)) =>
    indexCoil1 178 w.heap.size (fun x => decide (x.name = s)) A len cap zs W (hI.below hb) hl (fun args W => enters_of Tryz.func178 (by kernel_rfl) rfl args W)
      (fun x W' _ hB => coilNamed1_any x s w.heap.size W' (Nat.lt_of_lt_of_le h0 hB.size) ((hB.cell (p := ⟨w.heap.size, 0, none⟩) h0).trans hc)))
  generalize idxL (fun x : CoilD => decide (x.name = s)) zs = G at *
  clear hI
  go_enter Tryz.func167, Tryz.ntmps167
  go_wp2_with (go_at_call 177; refine (HC.out _ (by (repeat first | with_reducible exact Below.refl _ _ | (with_reducible refine Below.alloc ?_ ?_ _; rotate_left; exact (by omega)))) (by ((try simp only [World.size_alloc, World.size_setCell, size_drew, size_drewN]); omega)) (by go_simp)).mono ?_; rintro e w1 ⟨rfl, hb⟩)
  go_ret
  exact ⟨rfl, Below.trans (by (repeat first | with_reducible exact Below.refl _ _ | (with_reducible refine Below.alloc ?_ ?_ _; rotate_left; exact (by omega)))) (hb.mono (by ((try simp only [World.size_alloc, World.size_setCell, size_drew, size_drewN]); omega)))⟩
set_option maxHeartbeats 1000000 in
theorem sensorNamed_any (A : Option Addr) (len cap : Nat) (zs : List SensorD) (s : ByteArray) (w : World) (hI : IsT 5 SensorD.cells w A len zs) (hl : len ≤ 1000000000000000) :
    Calls Tryz.prog 171 #[.slice A len cap, .string s] w (Ret (.int .i64 (idxL (fun x => decide (x.name = s)) zs)) w) := by
  have HC := Lib.hid (fun W (hb : Below w.heap.size w W) (h0 : w.heap.size < W.heap.size) (hc : W.cell? ⟨w.heap.size, 0, none⟩ = some (.string s)) =>
    indexSensor1 181 w.heap.size (fun x => decide (x.name = s)) A len cap zs W (hI.below hb) hl (fun args W => enters_of Tryz.func181 (by kernel_rfl) rfl args W)
      (fun x W' _ hB => sensorNamed1_any x s w.heap.size W' (Nat.lt_of_lt_of_le h0 hB.size) ((hB.cell (p := ⟨w.heap.size, 0, none⟩) h0).trans hc)))
  generalize idxL (fun x : SensorD => decide (x.name = s)) zs = G at *
  clear hI
  go_enter Tryz.func171, Tryz.ntmps171
  go_wp2_with (go_at_call 180; refine (HC.out _ (by (repeat first | with_reducible exact Below.refl _ _ | (with_reducible refine Below.alloc ?_ ?_ _; rotate_left; exact (by omega)))) (by ((try simp only [World.size_alloc, World.size_setCell, size_drew, size_drewN]); omega)) (by go_simp)).mono ?_; rintro e w1 ⟨rfl, hb⟩)
  go_ret
  exact ⟨rfl, Below.trans (by (repeat first | with_reducible exact Below.refl _ _ | (with_reducible refine Below.alloc ?_ ?_ _; rotate_left; exact (by omega)))) (hb.mono (by ((try simp only [World.size_alloc, World.size_setCell, size_drew, size_drewN]); omega)))⟩
set_option maxRecDepth 100000 in
set_option maxHeartbeats 2000000 in
theorem checkGrid_any (g : GridD) (w : World) :
    Calls Tryz.prog 141 #[g.v] w (Ret (.int .i64 (gridC g)) w) := by
  have HE : Hid (gridC g = if (wthn g.nr 1 8 && (wthn g.nz 1 8 && wthn g.step 1 10)) = true then (if nearB g.r g.z 60 = true then rng (nearB (cellR g (g.nr * g.nz - 1)) (cellZ g (g.nr * g.nz - 1)) 60) else 7) else 7) := Lib.hid rfl
  by_cases hs : (wthn g.nr 1 8 && (wthn g.nz 1 8 && wthn g.step 1 10)) = true
  · by_cases hn : nearB g.r g.z 60 = true
    · have hf := fine_of hs hn
      have hp := mul_small (x := 8) (y := 8) (show 0 ≤ g.nr by have := hf.n0; omega) hf.n1 (show 0 ≤ g.nz by have := hf.k0; omega) hf.k1
      have hp1 : 1 ≤ g.nr * g.nz := by
        have h1 := hf.n0
        have h2 := hf.k0
        have h3 := Int.mul_le_mul h1 h2 (by omega) (by omega)
        omega
      have HC := Lib.hid (fun W => cellPlace_any g (g.nr * g.nz - 1) W hf (by omega) (by omega))
      rw [if_pos hs, if_pos hn] at HE
      simp only [Bool.and_eq_true] at hs
      obtain ⟨s1, s2, s3⟩ := hs
      generalize gridC g = G at *
      generalize cellR g (g.nr * g.nz - 1) = R at *
      generalize cellZ g (g.nr * g.nz - 1) = Z at *
      clear hf
      obtain ⟨r, z, nr, nz, step⟩ := g
      dsimp only at *
      have e5 : IntKind.i64.wrap (nr * nz) = nr * nz := IntWalk.i64_in _ (by omega)
      have e6 : IntKind.i64.wrap (nr * nz - 1) = nr * nz - 1 := IntWalk.i64_in _ (by omega)
      generalize hP : nr * nz = P at *
      have HC := Lib.hid (show ∀ W, Calls Tryz.prog 159 #[.agg #[.int .i64 r, .int .i64 z, .int .i64 nr, .int .i64 nz, .int .i64 step], .int .i64 (P - 1)] W (Ret (.agg #[.int .i64 R, .int .i64 Z]) W) from HC.out)
      show Calls Tryz.prog 141 #[.agg #[.int .i64 r, .int .i64 z, .int .i64 nr, .int .i64 nz, .int .i64 step]] w _
      go_enter Tryz.func141, Tryz.ntmps141
      go_wp2_with (first | (go_at_call 146; refine (mwithin_any _ _ _ _).mono ?_; rintro e w1 ⟨rfl, rfl⟩) | (go_at_call 168; refine (validPlace_any _ _ _).mono ?_; rintro e w1 ⟨rfl, rfl⟩) | (go_at_call 115; refine (checkRange_any _ _).mono ?_; rintro e w1 ⟨rfl, rfl⟩) | (go_at_call 159; refine (HC.out _).mono ?_; rintro e w1 ⟨rfl, hb⟩; have hB : Below w.heap.size w w1 := Below.trans (by (repeat first | with_reducible exact Below.refl _ _ | (with_reducible refine Below.alloc ?_ ?_ _; rotate_left; exact (by omega)))) (hb.mono (by (simp; done))); obtain ⟨hc, hf⟩ := bcell hb; have hs := hb.size; clear hb; (try simp only [World.size_alloc, World.size_setCell] at hc hf); (try simp only [World.size_alloc, World.size_setCell] at hs); (try have hs' := Nat.lt_of_succ_le hs); (try have hs0 : w.heap.size < w1.heap.size := by omega); (try have hs1 : w.heap.size + 1 < w1.heap.size := by omega); (try have hs2 : w.heap.size + 1 + 1 < w1.heap.size := by omega); (try have hs3 : w.heap.size + 1 + 1 + 1 < w1.heap.size := by omega)))
      go_ret
      exact ⟨by rw [HE.out]; rfl, by (repeat first | with_reducible assumption | (with_reducible refine Below.alloc ?_ ?_ _; rotate_left; exact (by omega)))⟩
    · rw [if_pos hs, if_neg hn] at HE
      have hn : nearB g.r g.z 60 = false := by simpa using hn
      simp only [Bool.and_eq_true] at hs
      obtain ⟨s1, s2, s3⟩ := hs
      generalize gridC g = G at *
      obtain ⟨r, z, nr, nz, step⟩ := g
      dsimp only at *
      show Calls Tryz.prog 141 #[.agg #[.int .i64 r, .int .i64 z, .int .i64 nr, .int .i64 nz, .int .i64 step]] w _
      go_enter Tryz.func141, Tryz.ntmps141
      go_wp2_with (first | (go_at_call 146; refine (mwithin_any _ _ _ _).mono ?_; rintro e w1 ⟨rfl, rfl⟩) | (go_at_call 168; refine (validPlace_any _ _ _).mono ?_; rintro e w1 ⟨rfl, rfl⟩))
      go_ret
      exact ⟨by rw [HE.out]; rfl, by (repeat first | with_reducible exact Below.refl _ _ | (with_reducible refine Below.alloc ?_ ?_ _; rotate_left; exact (by omega)))⟩
  · rw [if_neg hs] at HE
    generalize gridC g = G at *
    obtain ⟨r, z, nr, nz, step⟩ := g
    dsimp only at *
    show Calls Tryz.prog 141 #[.agg #[.int .i64 r, .int .i64 z, .int .i64 nr, .int .i64 nz, .int .i64 step]] w _
    have key : ∀ b1 b2 b3 : Bool, wthn nr 1 8 = b1 → wthn nz 1 8 = b2 → wthn step 1 10 = b3 → (b1 && (b2 && b3)) = false → Calls Tryz.prog 141 #[.agg #[.int .i64 r, .int .i64 z, .int .i64 nr, .int .i64 nz, .int .i64 step]] w (Ret (.int .i64 G) w) := by
      intro b1 b2 b3 s1 s2 s3 hb
      cases b1 <;> cases b2 <;> cases b3
      all_goals first | (exfalso; simp at hb; done) | skip
      all_goals clear hb hs
      all_goals go_enter Tryz.func141, Tryz.ntmps141
      all_goals go_wp2_with (go_at_call 146; refine (mwithin_any _ _ _ _).mono ?_; rintro e w1 ⟨rfl, rfl⟩)
      all_goals go_ret
      all_goals exact ⟨by rw [HE.out]; rfl, by (repeat first | with_reducible exact Below.refl _ _ | (with_reducible refine Below.alloc ?_ ?_ _; rotate_left; exact (by omega)))⟩
    exact key _ _ _ rfl rfl rfl (by simpa using hs)
end
end Go.Proofs.YtogcjgjhmlifgaaGreat
