import Derived.Test.YtapldonpflgnfaaDoorMAN
import Derived.Test.YtapldonpflgnfaaDoorMAT
import Derived.Test.YtapldonpflgnfaaDoorMAW
import Derived.Lib.AppendZeros
namespace Go.Proofs.YtapldonpflgnfaaDoor
set_option linter.unusedVariables false
set_option linter.unusedSimpArgs false
section
open Go.RowKit Go.Shelf
theorem tot_zeros4 (n : Nat) (s : Int) (h0 : 0 ≤ s) (h1 : s ≤ 1000000) : tot s (List.replicate n 0) = s := by
  induction n with
  | zero => rfl
  | succ n ih =>
    rw [List.replicate_succ]
    unfold tot
    rw [IntWalk.wrap64_in _ (by omega), show s + 0 = s by omega]
    exact ih
theorem tot_put (c : Int) (c0 : 0 ≤ c) (c1 : c ≤ 1000000) : ∀ (n i : Nat), i < n → tot 0 ((List.replicate n 0).set i c) = c
  | 0, i, h => absurd h (Nat.not_lt_zero i)
  | n + 1, 0, _ => by
    rw [List.replicate_succ, List.set_cons_zero]
    unfold tot
    rw [IntWalk.wrap64_in _ (by omega), show (0 : Int) + c = c by omega]
    exact tot_zeros4 n c c0 c1
  | n + 1, i + 1, h => by
    rw [List.replicate_succ, List.set_cons_succ]
    unfold tot
    rw [IntWalk.wrap64_in _ (by omega), show (0 : Int) + 0 = 0 by omega]
    exact tot_put c c0 c1 n i (by omega)
theorem set_mem {n i : Nat} {c x : Int} (h : x ∈ (List.replicate n (0 : Int)).set i c) : x = c ∨ x = 0 := by
  rcases List.mem_or_eq_of_mem_set h with h | h
  · exact .inr (List.eq_of_mem_replicate h)
  · exact .inl h
theorem fila_fit {M : MachD} {C : CurD} {cell cur : Int} (h : Fit2 M C) (hi : inB C cell cur = true) : Fit2 M (filaD C cell cur) := by
  unfold inB at hi
  rw [Bool.and_eq_true] at hi
  have a := wthn_iff.1 hi.1
  have b := wthn_iff.1 hi.2
  exact ⟨h.check, h.coils, h.shells, ⟨by unfold filaD; simpa using h.plasma.1, fun x hx => by
    rcases set_mem hx with rfl | rfl <;> omega⟩, by
    show tot 0 ((List.replicate C.plasma.length 0).set cell.toNat cur) ≤ 1000000
    rw [tot_put cur b.1 b.2 _ _ (by omega)]; exact b.2⟩
theorem dark_fit {M : MachD} {C : CurD} (h : Fit2 M C) : Fit2 M (darkD C) :=
  ⟨h.check, h.coils, h.shells, ⟨by unfold darkD; simpa using h.plasma.1, fun x hx => by
    have := List.eq_of_mem_replicate hx
    omega⟩, by
    show tot 0 (List.replicate C.plasma.length 0) ≤ 1000000
    rw [tot_zeros4 _ 0 (by omega) (by omega)]; omega⟩
theorem fluxP_one (p : Int × Int) (x : Src) : fluxP p [x] = infl p.1 p.2 x.1.1 x.1.2 * x.2 := by simp [fluxP]
theorem cells_zero (p : Int × Int) (g : GridD) (n : Nat) : ∀ k, k ≤ n → fluxP p (cellSrc g (List.replicate n 0) k) = 0
  | 0, _ => rfl
  | k + 1, h => by
    rw [cellSrc_succ, fluxP_append, cells_zero p g n k (by omega), fluxP_one]
    simp [List.getElem?_replicate, show k < n by omega]
theorem cells_put (p : Int × Int) (g : GridD) (n i : Nat) (hi : i < n) (c : Int) : ∀ k, k ≤ n → fluxP p (cellSrc g ((List.replicate n 0).set i c) k) = if i < k then infl p.1 p.2 (cellR g i) (cellZ g i) * c else 0
  | 0, _ => by simp [cellSrc, fluxP]
  | k + 1, h => by
    rw [cellSrc_succ, fluxP_append, cells_put p g n i hi c k (by omega), fluxP_one]
    by_cases e : i = k
    · subst e
      simp [hi]
    · rw [List.getElem?_set_ne e, List.getElem?_replicate, if_pos (show k < n by omega)]
      by_cases h1 : i < k
      · rw [if_pos h1, if_pos (by omega)]; simp
      · rw [if_neg h1, if_neg (by omega)]; simp
theorem flux_fila (M : MachD) (C : CurD) (cell cur : Int) (h0 : 0 ≤ cell) (h1 : cell ≤ (C.plasma.length : Int) - 1) (p : Int × Int) :
    fluxP p (srcM M (filaD C cell cur)) = fluxP p (srcM M (darkD C)) + infl p.1 p.2 (cellR M.grid cell) (cellZ M.grid cell) * cur := by
  obtain ⟨i, rfl⟩ : ∃ i : Nat, cell = i := ⟨cell.toNat, by omega⟩
  unfold srcM srcL filaD darkD
  dsimp only
  rw [Int.toNat_natCast]
  simp only [fluxP_append, List.length_set, List.length_replicate]
  rw [cells_zero p M.grid _ _ (Nat.le_refl _), cells_put p M.grid _ i (by omega) cur _ (Nat.le_refl _), if_pos (by omega)]
  omega
def sensOne (x : SensorD) (X Y : Int) : Int := sensP [((X, Y), 1)] x
theorem sens_fila (M : MachD) (C : CurD) (cell cur : Int) (h0 : 0 ≤ cell) (h1 : cell ≤ (C.plasma.length : Int) - 1) (x : SensorD) :
    sensP (srcM M (filaD C cell cur)) x = sensP (srcM M (darkD C)) x + sensOne x (cellR M.grid cell) (cellZ M.grid cell) * cur := by
  have H := flux_fila M C cell cur h0 h1
  unfold sensOne sensP fieldP
  simp only [H, fluxP_one, Int.mul_one]
  split
  · rfl
  · split
    · rw [Int.sub_mul]; omega
    · rw [Int.sub_mul]; omega
theorem sensOne_bd (x : SensorD) (X Y : Int) : -250000 ≤ sensOne x X Y ∧ sensOne x X Y ≤ 250000 := by
  unfold sensOne sensP fieldP
  simp only [fluxP_one, Int.mul_one]
  have a := infl_bd x.r x.z X Y
  have b := infl_bd x.r (x.z - 1) X Y
  have c := infl_bd x.r (x.z + 1) X Y
  have d := infl_bd (x.r + 1) x.z X Y
  have e := infl_bd (x.r - 1) x.z X Y
  split
  · omega
  · split <;> omega
theorem sensP_bd {S : List Src} (h : Small S) (x : SensorD) : -50000000000000000 ≤ sensP S x ∧ sensP S x ≤ 50000000000000000 := by
  unfold sensP fieldP
  have a := h.bd (x.r, x.z)
  have b := h.bd (x.r, x.z - 1)
  have c := h.bd (x.r, x.z + 1)
  have d := h.bd (x.r + 1, x.z)
  have e := h.bd (x.r - 1, x.z)
  split
  · omega
  · split
    · dsimp only; omega
    · dsimp only; omega
theorem cell_near {M : MachD} (h : checkC M = 0) {i : Int} (h0 : 0 ≤ i) (h1 : i ≤ M.grid.nr * M.grid.nz - 1) : nearB (cellR M.grid i) (cellZ M.grid i) 60 = true := by
  have hg := grid_of h
  have hf := fine_grid hg
  have hc := cells_fine hf
  unfold gridC at hg
  obtain ⟨r0, r1, z0, z1, n0, n1, k0, k1, s0, s1⟩ := hf
  split at hg
  · split at hg
    · have hl := near_iff.1 (rng_zero hg)
      unfold cellR cellZ at *
      generalize M.grid.r = r at *
      generalize M.grid.z = z at *
      generalize M.grid.nr = a at *
      generalize M.grid.nz = b at *
      generalize M.grid.step = s at *
      have m1 : (a * b - 1) % a = a - 1 := by
        rw [show a * b - 1 = (a - 1) + (b - 1) * a by rw [Int.sub_mul, Int.one_mul, Int.mul_comm b a]; omega, Int.add_mul_emod_self_right]
        exact Int.emod_eq_of_lt (by omega) (by omega)
      have d1 : (a * b - 1) / a = b - 1 := by
        rw [show a * b - 1 = (a - 1) + (b - 1) * a by rw [Int.sub_mul, Int.one_mul, Int.mul_comm b a]; omega, Int.add_mul_ediv_right _ _ (by omega), Int.ediv_eq_zero_of_lt (by omega) (by omega)]
        omega
      rw [m1, d1] at hl
      have a0 := Int.emod_nonneg i (show a ≠ 0 by omega)
      have a1 := Int.emod_lt_of_pos i (show 0 < a by omega)
      have b0 := Int.ediv_nonneg h0 (show 0 ≤ a by omega)
      have b1 : i / a ≤ b - 1 := by
        have : i / a < b := Int.ediv_lt_of_lt_mul (by omega) (by rw [Int.mul_comm b a]; omega)
        omega
      have u0 := Int.mul_nonneg a0 (show 0 ≤ s by omega)
      have u1 := Int.mul_le_mul_of_nonneg_right (show i % a ≤ a - 1 by omega) (show 0 ≤ s by omega)
      have v0 := Int.mul_nonneg b0 (show 0 ≤ s by omega)
      have v1 := Int.mul_le_mul_of_nonneg_right b1 (show 0 ≤ s by omega)
      rw [near_iff]
      omega
    · simp at hg
  · simp at hg
theorem eachGo_first {α : Type} {chk : α → List α → Int} {y : α} {r : List α} (h : eachGo chk [] (y :: r) = 0) : chk y [] = 0 := by
  unfold eachGo at h
  by_cases hc : chk y [] = 0
  · exact hc
  · rw [if_neg hc] at h; exact absurd h hc
theorem sensor_alone {x : SensorD} {e : List SensorD} (h : sensorC x e = 0) : sensorC x [] = 0 := by
  unfold sensorC at *
  split at h
  · rename_i hn
    rw [if_pos hn]
    split at h
    · simp at h
    · simpa using h
  · simp at h
theorem alone_check {M : MachD} (h : checkC M = 0) {x : SensorD} (hx : x ∈ M.sensors) {X Y : Int} (hn : nearB X Y 60 = true) : checkC (aloneM M x X Y) = 0 := by
  have g1 := (orL_zero h).1
  have h4 := (orL_zero (orL_zero (orL_zero (orL_zero h).2).2).2).1
  have h6 := (orL_zero (orL_zero (orL_zero (orL_zero (orL_zero (orL_zero h).2).2).2).2).2).1
  obtain ⟨e, he⟩ := (eachC_all h6).2 x hx
  have g6 : eachC sensorC 24 [x] = 0 := by
    unfold eachC
    rw [if_neg (by simp)]
    unfold eachGo
    rw [if_pos (sensor_alone he)]; rfl
  have g4 : limitsC (M.limits.take 1) = 0 := by
    unfold limitsC at *
    cases hm : M.limits with
    | nil => rw [hm] at h4; simp at h4
    | cons y r =>
      rw [hm] at h4
      rw [if_neg (by simp)] at h4
      unfold eachC at h4
      split at h4
      · simp at h4
      · have := eachGo_first h4
        rw [if_neg (by simp)]
        unfold eachC
        rw [if_neg (by simp), List.take_succ_cons, List.take_zero]
        unfold eachGo
        rw [if_pos this]; rfl
  have g5 : gridC ⟨X, Y, 1, 1, 1⟩ = 0 := by
    unfold gridC
    rw [if_pos (by simp [wthn]), if_pos hn]
    have : nearB (cellR ⟨X, Y, 1, 1, 1⟩ (1 * 1 - 1)) (cellZ ⟨X, Y, 1, 1, 1⟩ (1 * 1 - 1)) 60 = nearB X Y 60 := by simp [cellR, cellZ]
    dsimp only at this ⊢
    rw [this, hn]; rfl
  unfold checkC aloneM
  dsimp only
  rw [g1, g4, g5, g6]
  rfl
theorem alone_fit4 {M : MachD} (h : checkC M = 0) {x : SensorD} (hx : x ∈ M.sensors) {X Y : Int} (hn : nearB X Y 60 = true) : Fit2 (aloneM M x X Y) oneC4 :=
  ⟨alone_check h hx hn, ⟨rfl, fun y hy => by cases hy⟩, ⟨rfl, fun y hy => by cases hy⟩, ⟨rfl, fun y hy => by
    have : y = 1 := by simpa [oneC4] using hy
    omega⟩, by show tot 0 [1] ≤ 1000000; simp only [tot]; rw [IntWalk.wrap64_in _ (by omega)]; omega⟩
theorem alone_exact {M : MachD} (h : checkC M = 0) {x : SensorD} (hx : x ∈ M.sensors) {X Y : Int} (hn : nearB X Y 60 = true) : (exactL (aloneM M x X Y) oneC4 0).1 = sensOne x X Y := by
  unfold exactL
  rw [fit2_iff.2 (alone_fit4 h hx hn), if_pos rfl, if_pos (by rfl)]
  show sensP (srcM (aloneM M x X Y) oneC4) x = _
  have : srcM (aloneM M x X Y) oneC4 = [((X, Y), 1)] := by
    simp [srcM, srcL, aloneM, oneC4, cellSrc, cellR, cellZ]
  rw [this]; rfl
theorem linear {M : MachD} {C : CurD} {s cell cur : Int} (h1 : filaE M C cell cur = 0) (h2 : (backL M C s).2 = 0) (h3 : (respL M s cell).2 = 0) :
    exactL M (filaD C cell cur) s = ((backL M C s).1 + (respL M s cell).1 * cur, 0) ∧ (-50000000000000000 ≤ (backL M C s).1 ∧ (backL M C s).1 ≤ 50000000000000000) ∧ (-250000 ≤ (respL M s cell).1 ∧ (respL M s cell).1 ≤ 250000) ∧ 0 ≤ cur ∧ cur ≤ 1000000 := by
  have hv : validC M C = true := by
    unfold filaE at h1
    cases hv : validC M C
    · rw [hv] at h1; simp at h1
    · rfl
  have hi : inB C cell cur = true := by
    unfold filaE at h1
    rw [hv, if_pos rfl] at h1
    cases hi : inB C cell cur
    · rw [hi] at h1; simp at h1
    · rfl
  have hf := fit2_iff.1 hv
  have hd := dark_fit hf
  have hl := fila_fit hf hi
  have hi' := hi
  unfold inB at hi'
  rw [Bool.and_eq_true] at hi'
  have a := wthn_iff.1 hi'.1
  have b := wthn_iff.1 hi'.2
  have hp := hf.plasma.1
  have hcl : cellL M cell = (cellR M.grid cell, cellZ M.grid cell, 0) := by
    unfold cellL
    rw [if_pos hf.check, if_pos (wthn_iff.2 (by omega))]
  have hw : wthn s 0 ((M.sensors.length : Int) - 1) = true := by
    unfold respL at h3
    rw [hcl, if_pos rfl] at h3
    cases hw : wthn s 0 ((M.sensors.length : Int) - 1)
    · rw [hw] at h3; simp at h3
    · rfl
  have c := wthn_iff.1 hw
  obtain ⟨x, hx⟩ : ∃ x, M.sensors[s.toNat]? = some x := ⟨_, List.getElem?_eq_getElem (by omega)⟩
  have hm := List.mem_of_getElem? hx
  have e1 : exactL M (filaD C cell cur) s = (sensP (srcM M (filaD C cell cur)) x, 0) := by
    unfold exactL; rw [fit2_iff.2 hl, if_pos rfl, hw, if_pos rfl, hx]
  have e2 : backL M C s = (sensP (srcM M (darkD C)) x, 0) := by
    unfold backL exactL; rw [hv, if_pos rfl, fit2_iff.2 hd, if_pos rfl, hw, if_pos rfl, hx]
  have e3 : respL M s cell = (sensOne x (cellR M.grid cell) (cellZ M.grid cell), 0) := by
    unfold respL
    rw [hcl, if_pos rfl, hw, if_pos rfl, hx]
    dsimp only
    rw [alone_exact hf.check hm (cell_near hf.check (by omega) (by omega))]
  rw [e1, e2, e3]
  dsimp only
  exact ⟨by rw [sens_fila M C cell cur (by omega) (by omega) x], sensP_bd (small_of hd) x, sensOne_bd _ _ _, b.1, b.2⟩
end
section
open Go.RowKit
structure StD where
  (tick : Int) (C : CurD) (heat : List Int) (trip : List Bool)
structure StR where
  (Q : CurR) (H T : Option Addr) (lh ch lt ct : Nat)
def boolCells (b : Bool) : List Value := [.bool b]
abbrev StR.v (R : StR) (n : Int) : Value := .agg #[.int .i64 n, .slice R.Q.A R.Q.la R.Q.ca, .slice R.Q.B R.Q.lb R.Q.cb, .slice R.Q.C R.Q.lc R.Q.cc, .slice R.H R.lh R.ch, .slice R.T R.lt R.ct]
structure IsS (w : World) (R : StR) (S : StD) : Prop where
  cur : IsC w R.Q S.C
  heat : IsT 1 intCells w R.H R.lh S.heat
  trip : IsT 1 boolCells w R.T R.lt S.trip
  lh : R.lh ≤ R.ch
  lt : R.lt ≤ R.ct
  ch : R.ch ≤ 9223372036854775807
  ct : R.ct ≤ 9223372036854775807
  kh : R.lh ≤ 1000000000000000
  kt : R.lt ≤ 9223372036854775807
theorem IsS.below {w w1 : World} {R : StR} {S : StD} (h : IsS w R S) (hb : Below w.heap.size w w1) : IsS w1 R S :=
  ⟨h.cur.below hb, h.heat.below hb, h.trip.below hb, h.lh, h.lt, h.ch, h.ct, h.kh, h.kt⟩
theorem getD_get {α : Type} {l : List α} {d : α} {k : Nat} (h : k < l.length) : l[k]? = some (l.getD k d) := by
  rw [List.getD_eq_getElem?_getD, List.getElem?_eq_getElem h]; rfl
end
section
set_option autoImplicit false
open Go.RowKit
def mixF (n k : Nat) (F G : Nat → List Value) : List Value := (List.range n).flatMap fun j => if j < k then F j else G j
theorem flatMap_len {α : Type} {z : Nat} (l : List α) {F : α → List Value} (hF : ∀ j, (F j).length = z) : (l.flatMap F).length = l.length * z := by
  induction l with
  | nil => simp
  | cons x r ih => rw [List.flatMap_cons, List.length_append, hF, ih, List.length_cons, Nat.add_mul]; omega
theorem flatMap_ext {α : Type} {l : List α} {F G : α → List Value} (h : ∀ x ∈ l, F x = G x) : l.flatMap F = l.flatMap G := by
  induction l with
  | nil => rfl
  | cons x r ih => rw [List.flatMap_cons, List.flatMap_cons, h x (by simp), ih (fun y hy => h y (by simp [hy]))]
theorem mixF_len {n k z : Nat} {F G : Nat → List Value} (hF : ∀ j, (F j).length = z) (hG : ∀ j, (G j).length = z) : (mixF n k F G).length = n * z := by
  have := flatMap_len (z := z) (List.range n) (F := fun j => if j < k then F j else G j) (fun j => by split <;> simp [hF, hG])
  rw [List.length_range] at this; exact this
theorem mixF_zero (n : Nat) (F G : Nat → List Value) : mixF n 0 F G = (List.range n).flatMap G := by simp [mixF]
theorem mixF_all (n : Nat) (F G : Nat → List Value) : mixF n n F G = (List.range n).flatMap F := flatMap_ext fun j hj => by rw [if_pos (List.mem_range.1 hj)]
theorem range_at {n k : Nat} (hk : k < n) : List.range n = List.range k ++ k :: List.range' (k + 1) (n - (k + 1)) := by
  have h : n = k + ((n - (k + 1)) + 1) := by omega
  conv => lhs; rw [h, List.range_add, List.range_succ_eq_map]
  rw [List.map_cons, List.map_map, Nat.add_zero, List.range'_eq_map_range]
  congr 2
  apply List.map_congr_left
  intro a _
  simp only [Function.comp_def]
  omega
theorem mixF_store {n k z : Nat} {F G : Nat → List Value} (hF : ∀ j, (F j).length = z) (hG : ∀ j, (G j).length = z) (hk : k < n) : mixF n (k + 1) F G = (mixF n k F G).take (k * z) ++ F k ++ (mixF n k F G).drop (k * z + (F k).length) := by
  have e1 : mixF n k F G = (List.range k).flatMap F ++ (G k ++ (List.range' (k + 1) (n - (k + 1))).flatMap G) := by
    unfold mixF
    rw [range_at hk, List.flatMap_append, List.flatMap_cons, if_neg (by omega)]
    congr 1
    · exact flatMap_ext fun j hj => by rw [if_pos (List.mem_range.1 hj)]
    · congr 1
      exact flatMap_ext fun j hj => by rw [List.mem_range'_1] at hj; rw [if_neg (by omega)]
  have e2 : mixF n (k + 1) F G = (List.range k).flatMap F ++ (F k ++ (List.range' (k + 1) (n - (k + 1))).flatMap G) := by
    unfold mixF
    rw [range_at hk, List.flatMap_append, List.flatMap_cons, if_pos (by omega)]
    congr 1
    · exact flatMap_ext fun j hj => by rw [if_pos (by have := List.mem_range.1 hj; omega)]
    · congr 1
      exact flatMap_ext fun j hj => by rw [List.mem_range'_1] at hj; rw [if_neg (by omega)]
  have hA : ((List.range k).flatMap F).length = k * z := by rw [flatMap_len _ hF, List.length_range]
  rw [e1, e2, List.take_left' hA, ← List.append_assoc ((List.range k).flatMap F) (G k), List.drop_left' (by rw [List.length_append, hA, hG, hF]), List.append_assoc]
theorem made_flat (zs : List Value) (n : Nat) (hz : 0 < zs.length) : (madeCells zs.toArray (n * zs.length)).toList = (List.range n).flatMap (fun _ => zs) := by
  apply List.ext_getElem?
  intro i
  rcases Nat.lt_or_ge i (n * zs.length) with h | h
  · have hm : i % zs.length < zs.length := Nat.mod_lt _ hz
    have hd : i / zs.length < n := Nat.div_lt_of_lt_mul (by rw [Nat.mul_comm]; exact h)
    have e := flat_get (n := zs.length) (enc := fun _ : Nat => zs) (fun _ => rfl) (List.range n) (i / zs.length) (i / zs.length) (by simp [hd]) (i % zs.length) _ (List.getElem?_eq_getElem hm)
    rw [Nat.div_add_mod'] at e
    rw [e]
    simp [madeCells, h, hm]
  · rw [List.getElem?_eq_none (by rw [Array.length_toList, size_madeCells]; exact h), List.getElem?_eq_none (by rw [flatMap_len (z := zs.length) _ (fun _ => rfl), List.length_range]; exact h)]
section
variable {P : Program} {e0 : Cfg} {U : Snaps} {l : Slots} {L : Boxes} {ops : Array Oper} {Q : Exit → Act → World → Prop} {rest : List Oper} {d : Nat} {v : Value}
variable {ty : TypeId} {pos : String} {af : Array Edge} {g : Option (Nat × Bool)} {dd : Option Nat}
theorem al_makeAgg {t e bytes n z : Nat} (zs : List Value) {zv : Value} {x : Int} {ol oc : Operand} (hl : E l ol = some (.int .i64 x)) (hc : E l oc = some (.int .i64 x)) (hx : x = (n : Int)) (hu : P.underlying t = some (.slice e)) (hinfo : (P.info? e).map (fun i => (i.zero, i.size, i.bytes)) = some (some zv, z, bytes)) (hz1 : zv.cells = zs.toArray) (hz : zs.length = z) (h0 : Nat.blt 0 z = true) (hm : n ≤ 1000000) (hb : bytes ≤ 10000)
    (hn : Nat.blt d e0.n = true) (hw : want ops l g = some true)
    (k : ∀ b, AL P ops Q e0 U ((d, .slice (some ⟨b, 0, none⟩) n n) :: l) ((b, .cells ((List.range n).flatMap fun _ => zs)) :: L) rest) :
    AL P ops Q e0 U l L (⟨some d, .makeSlice t ol oc, ty, pos, af, g⟩ :: rest) :=
  al_run2 (K := True) hw rfl hn (fun a w hf hs => by
    subst hx
    obtain ⟨i, hi, hzz, h1, rfl⟩ := info_split hinfo
    have hnb : i.bytes * n ≤ 10000 * 1000000 := Nat.mul_le_mul hb hm
    have hb' : (i.bytes : Int) * (n : Int) ≤ 281474976710656 := by
      have h : ((i.bytes * n : Nat) : Int) ≤ 281474976710656 := by omega
      rwa [Int.natCast_mul] at h
    have hr := run_make (P := P) w t e i zv hu hi hzz .i64 .i64 (n : Int) (n : Int) (by omega) (Int.le_refl _) hb' (by omega)
    simp only [Int.toNat_natCast, h1, hz1] at hr
    have hq := made_flat zs n (by rw [hz]; simpa [Nat.blt_eq] using h0)
    rw [hz] at hq
    have hA : madeCells zs.toArray (n * z) = ((List.range n).flatMap fun _ => zs).toArray := Array.ext' (by simpa using hq)
    rw [hA] at hr
    exact ⟨_, _, U, _, by simp [execOp, hf.ev hl, hf.ev hc, hr], hs.alloc _ e, k _⟩)
theorem al_storeV {t b off i z : Nat} {cs cs' vs : List Value} {L' : Boxes} {ox oy : Operand} (hx : E l ox = some (.pointer (some ⟨b, off, none⟩))) (hy : E l oy = some (.agg vs.toArray)) (hi : L[i]? = some (b, .cells cs))
    (hz : ∀ w, (sizeOf t).run P w = .ok z w) (hz' : vs.length = z) (hl : off + z ≤ cs.length) (hone : vs.all (fun v => v.oneCell') = true) (hc : cs' = cs.take off ++ vs ++ cs.drop (off + vs.length)) (hL : SetAt i (b, .cells cs') L L') (hw : want ops l g = some true)
    (k : AL P ops Q e0 U l L' rest) : AL P ops Q e0 U l L (⟨none, .store t ox oy, ty, pos, af, g⟩ :: rest) :=
  al_store (cs' := cs') hx hy rfl hi hz hz' (by simpa using hl) hone hc _ hL.eq hw k
end
def RowsF (F : Nat → List Int) (m : Nat) (G : Boxes) (rows : List (Option Addr × Nat)) : Prop := ∀ (i : Nat) r, rows[i]? = some r → ∃ b sp, r.1 = some ⟨b, 0, none⟩ ∧ (b, Cont.cells ((F i).map (Value.int .i64) ++ sp)) ∈ G ∧ (F i).length = m ∧ m ≤ r.2 ∧ r.2 ≤ 9223372036854775807
theorem RowsF.nil (F : Nat → List Int) (m : Nat) (G : Boxes) : RowsF F m G [] := fun i r h => by simp at h
theorem RowsF.snoc {F : Nat → List Int} {m : Nat} {G : Boxes} {rows : List (Option Addr × Nat)} (h : RowsF F m G rows) {o : Gr} {cs : List Value} (hg : gok o m 1 cs) (hn : 0 < m) (hl : (F rows.length).length = m) (hcs : cs = (F rows.length).map (Value.int .i64)) : RowsF F m (gt o cs ++ G) (rows ++ [(gA o, gC o)]) := by
  intro i r hr
  rcases Nat.lt_or_ge i rows.length with g1 | g1
  · rw [List.getElem?_append_left g1] at hr
    obtain ⟨b, sp, e, hm, h1⟩ := h i r hr
    exact ⟨b, sp, e, List.mem_append_right _ hm, h1⟩
  · rw [List.getElem?_append_right g1] at hr
    have hi : i - rows.length = 0 := by
      have := (List.getElem?_eq_some_iff.1 hr).1
      simp only [List.length_cons, List.length_nil] at this; omega
    rw [hi] at hr
    obtain rfl : (gA o, gC o) = r := by simpa using hr
    obtain ⟨b, c, sp, rfl⟩ := hg.some hn
    obtain ⟨h1, h2, h3⟩ := hg.own b c sp rfl
    obtain rfl : i = rows.length := by omega
    refine ⟨b, sp, rfl, List.mem_append_left _ ?_, hl, h1, h2⟩
    rw [← hcs]; simp [gt]
end
section
set_option autoImplicit false
open Go.RowKit
section
variable {P : Program} {e0 : Cfg} {U : Snaps} {l : Slots} {L : Boxes} {ops : Array Oper} {Q : Exit → Act → World → Prop} {rest : List Oper} {d : Nat} {v : Value}
variable {ty : TypeId} {pos : String} {af : Array Edge} {g : Option (Nat × Bool)} {dd : Option Nat}
end
end
end Go.Proofs.YtapldonpflgnfaaDoor
