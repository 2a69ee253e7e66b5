import Derived.Test.YthggkidiidnaoaaGreatDoorMAH
import Derived.Test.YthggkidiidnaoaaGreatDoorMAL
import Derived.Test.YthggkidiidnaoaaGreatDoorMAS
import Derived.Test.YthggkidiidnaoaaGreatDoorRows
import Derived.KernelRfl
import Derived.Laws.StructEq
namespace Go.Proofs.YthggkidiidnaoaaGreatDoor
set_option linter.unusedVariables false
set_option linter.unusedSimpArgs false
section
set_option autoImplicit false
open Go.RowKit
structure Chn where
  (ia ib t : Nat) (z f : List Value)
abbrev Ph := Option (Nat × Bool)
def Chn.box (c : Chn) : Ph → Boxes
  | none => []
  | some (b, false) => [(b, .cells c.z)]
  | some (b, true) => [(b, .cells c.f)]
abbrev Phs := List (Chn × Ph)
def Apt (c d : Chn) : Prop := c.ia ≠ d.ia ∧ c.ia ≠ d.ib ∧ c.ib ≠ d.ia ∧ c.ib ≠ d.ib ∧ c.t ≠ d.t
theorem Apt.symm {c d : Chn} (h : Apt c d) : Apt d c := ⟨h.1.symm, h.2.2.1.symm, h.2.1.symm, h.2.2.2.1.symm, h.2.2.2.2.symm⟩
section
variable {P : Program} {e0 : Cfg} {U : Snaps} {ops : Array Oper} {Q : Exit → Act → World → Prop} {l0 : Slots} {L0 : Boxes}
def waits (ops : Array Oper) (listed : Array Bool) (j : Nat) (k : Option Nat) : Bool := match ops[j]? with
  | some o => o.after.all fun e => !Region.binds .any e || listed.getD e.on false || k == some e.on
  | none => false
structure Lis (ops : Array Oper) (base listed : Array Bool) (s : Phs) : Prop where
  size : listed.size = ops.size
  base : ∀ j, base.getD j false = true → listed.getD j false = true
  ch : ∀ x ∈ s, listed.getD x.1.ia false = x.2.isSome ∧ listed.getD x.1.ib false = (match x.2 with | some (_, true) => true | _ => false)
  rest : ∀ j, j < ops.size → (∀ x ∈ s, j ≠ x.1.ia ∧ j ≠ x.1.ib) → listed.getD j false = true
theorem getD_put {listed : Array Bool} {i j : Nat} : (listed.setIfInBounds i true).getD j false = if i = j ∧ i < listed.size then true else listed.getD j false := by
  simp only [Array.getD_eq_getD_getElem?, Array.getElem?_setIfInBounds]
  by_cases h : i = j
  · subst h
    by_cases g : i < listed.size
    · simp [g]
    · simp [g]
  · simp [h]
theorem Lis.put {base listed : Array Bool} {S1 S2 : Phs} {c : Chn} {p q : Ph} {i : Nat} (h : Lis ops base listed (S1 ++ (c, p) :: S2)) (hi : i < ops.size) (hap : ∀ x, x ∈ S1 ∨ x ∈ S2 → Apt c x.1) (hne : c.ia ≠ c.ib)
    (hq : (i = c.ia ∧ p = none ∧ ∃ b, q = some (b, false)) ∨ (i = c.ib ∧ ∃ b, p = some (b, false) ∧ q = some (b, true))) : Lis ops base (listed.setIfInBounds i true) (S1 ++ (c, q) :: S2) := by
  have hsz := h.size
  have mem : ∀ x, x ∈ S1 ∨ x ∈ S2 → x ∈ S1 ++ (c, p) :: S2 := fun x hx => by simp only [List.mem_append, List.mem_cons]; rcases hx with g | g <;> simp [g]
  refine ⟨by simp [hsz], fun j hj => by rw [getD_put]; split; rfl; exact h.base j hj, fun x hx => ?_, fun j hj hall => ?_⟩
  · have hx' : x = (c, q) ∨ (x ∈ S1 ∨ x ∈ S2) := by simp only [List.mem_append, List.mem_cons] at hx; rcases hx with g | g | g <;> simp [g]
    rcases hx' with rfl | hx'
    · have hc := h.ch (c, p) (by simp)
      simp only at hc ⊢
      rcases hq with ⟨rfl, rfl, b, rfl⟩ | ⟨rfl, b, rfl, rfl⟩
      · rw [getD_put, getD_put, if_pos ⟨rfl, by omega⟩, if_neg (fun g => hne g.1)]
        exact ⟨rfl, hc.2⟩
      · rw [getD_put, getD_put, if_neg (fun g => hne g.1.symm), if_pos ⟨rfl, by omega⟩]
        exact ⟨hc.1, rfl⟩
    · have ha := hap x hx'
      have hc := h.ch x (mem x hx')
      rw [getD_put, getD_put]
      rcases hq with ⟨rfl, -, -⟩ | ⟨rfl, -, -⟩
      · rw [if_neg (fun g => ha.1 g.1), if_neg (fun g => ha.2.1 g.1)]; exact hc
      · rw [if_neg (fun g => ha.2.2.1 g.1), if_neg (fun g => ha.2.2.2.1 g.1)]; exact hc
  · rw [getD_put]
    split
    · rfl
    · refine h.rest j hj fun x hx => ?_
      have hx' : x = (c, p) ∨ (x ∈ S1 ∨ x ∈ S2) := by simp only [List.mem_append, List.mem_cons] at hx; rcases hx with g | g | g <;> simp [g]
      rcases hx' with rfl | hx'
      · exact hall (c, q) (by simp)
      · exact hall x (by simp only [List.mem_append, List.mem_cons]; rcases hx' with g | g <;> simp [g])
theorem IsT.drop {α : Type} {n : Nat} {enc : α → List Value} {w : World} {b o len : Nat} {zs : List α} (h : IsT n enc w (some ⟨b, o, none⟩) len zs) (k : Nat) : IsT n enc w (some ⟨b, o + k * n, none⟩) (len - k) (zs.drop k) :=
  ⟨by rw [List.length_drop, h.1], fun h0 => by
    obtain ⟨b', o', e, h1, h2⟩ := h.2 (by omega)
    cases e
    refine ⟨b, o + k * n, rfl, h1, fun j x hx i v hv => ?_⟩
    rw [List.getElem?_drop] at hx
    have := h2 (k + j) x hx i v hv
    rwa [Nat.add_mul, ← Nat.add_assoc] at this⟩
end
end
section
open Go.RowKit
theorem mke_bl_apiPoint_0_1 (a0 a1 : Value) (ha0 : a0.oneCell' = true) (ha1 : a1.oneCell' = true) : ∀ w, (Instr.build 76 #[(0, a0), (1, a1)]).run Tryz.prog w = .ok (.agg #[a0, a1]) w := by
  have ea0 : a0.cells = #[a0] := cells_one ha0
  have ea1 : a1.cells = #[a1] := cells_one ha1
  intro w; simp [Instr.build, Instr.fill, cells_agg, Tryz.runUnderlying76, Tryz.zeroValue76, Tryz.sizeOf3, ea0, ea1]
set_option maxRecDepth 100000 in
theorem exact9_any (R : MachR) (M : MachD) (Q : CurR) (C : CurD) (i : Int) (w : World) (hM : IsM w R M) (hC : IsC w Q C) (i0 : -9223372036854775808 ≤ i) (i1 : i ≤ 9223372036854775807) : Calls Tryz.prog 42 #[(.agg (machCells R M)), Q.v, (.int .i64 i)] w (Ret (.tuple #[.int .i64 (exactL M C i).1, .int .i64 (exactL M C i).2]) w) := by
  have hld := hM.sensors.1
  have hkd := hM.ld
  refine calls_ax (vs := [(.agg (machCells R M)), Q.v, (.int .i64 i)]) Tryz.func42 rfl rfl ?_
  refine ac_seq (ac_region ?_)
  refine al_new (fun b => .pointer (some ⟨b, 0, none⟩)) (r_box rfl rfl) rfl rfl rfl ?_
  intro b1
  refine al_new (fun b => .pointer (some ⟨b, 0, none⟩)) (r_box rfl rfl) rfl rfl rfl ?_
  intro b2
  refine al_p (q_assign rfl) (al_p (q_assign rfl) (al_end (aq_then ?_)))
  refine ac_seq (ac_seq (ac_region ?_))
  refine al_p (q_loadAll (i := 1) rfl rfl Tryz.isAgg29 Tryz.sizeOf29 rfl) (al_p (q_loadAll (i := 0) rfl rfl Tryz.isAgg32 Tryz.sizeOf32 rfl) (al_call Tryz.call40 (.cons rfl (.cons rfl .nil)) rfl rfl (fun w1 hs1 => ?_)))
  refine (validCurrents_any R M Q C _ (hM.below hs1.below) (hC.below hs1.below)).mono ?_
  rintro e u1 ⟨rfl, hb_1⟩
  refine ⟨_, rfl, hb_1, ?_⟩
  clear hs1
  refine al_p (q_not rfl) (al_end (aq_then ?_))
  refine ac_cond rfl (fun h1 => ?_) (fun h1 => ?_)
  · have q1 : validC M C = false := by simpa using h1
    refine ac_seq (ac_region ?_)
    refine al_p (q_assign rfl) (al_p (q_assign rfl) (al_end (aq_then ?_)))
    refine ac_ret (aq_thenR (ret2 Tryz.results42 rfl rfl (fun w9 hs => ?_)))
    exact ⟨by unfold exactL; rw [q1]; rfl, hs.below⟩
  · have hvc : validC M C = true := by simpa using h1
    have hv := fit2_iff.1 hvc
    have hsn := (sound_of hv.check).sensors.1
    refine ac_skip (aq_then (ac_seq (ac_seq (ac_region ?_))))
    refine al_p (q_move rfl) ?_
    refine al_p (q_fieldAddr 9 rfl Tryz.runUnderlying29 rfl Tryz.sizeOf27 (by decide) rfl) (al_p (q_load (i := 1) rfl rfl rfl Tryz.isAgg27) (al_p (q_lenS rfl Tryz.runUnderlying27) ?_))
    refine al_p (q_sub rfl rfl (by omega)) (al_call Tryz.call78 (.cons rfl (.cons rfl (.cons rfl .nil))) rfl rfl (fun w2 hs2 => ?_))
    refine (mwithin_any i 0 ((R.ld : Int) - 1) _).mono ?_
    rintro e u2 ⟨rfl, rfl⟩
    refine ⟨_, rfl, (Below.refl _ _), ?_⟩
    clear hs2
    refine al_p (q_not rfl) (al_end (aq_then ?_))
    refine ac_cond rfl (fun h2 => ?_) (fun h2 => ?_)
    · have q2 : wthn i 0 ((M.sensors.length : Int) - 1) = false := by rw [hld]; simpa using h2
      refine ac_seq (ac_region ?_)
      refine al_p (q_assign rfl) (al_p (q_assign rfl) (al_end (aq_then ?_)))
      refine ac_ret (aq_thenR (ret2 Tryz.results42 rfl rfl (fun w9 hs => ?_)))
      exact ⟨by unfold exactL; rw [if_pos hvc, q2]; rfl, hs.below⟩
    · have hw : wthn i 0 ((M.sensors.length : Int) - 1) = true := by rw [hld]; simpa using h2
      have hwi := wthn_iff.1 hw
      obtain ⟨x, hx⟩ : ∃ x, M.sensors[i.toNat]? = some x := ⟨_, List.getElem?_eq_getElem (by omega)⟩
      have hso := (sound_of hv.check).sensors.2 x (List.mem_of_getElem? hx)
      obtain ⟨b11, o11, hA1, hlt1, hget1⟩ := hM.sensors.2 (by omega)
      have hx1 := hx
      refine ac_skip (aq_then (ac_seq (ac_region ?_)))
      refine al_p (q_fieldAddr 9 rfl Tryz.runUnderlying29 rfl Tryz.sizeOf27 (by decide) rfl) (al_p (q_load (i := 1) rfl rfl rfl Tryz.isAgg27) (al_p (q_move rfl) ?_))
      refine al_p (q_indexAddrA (i := i.toNat) (o11 + i.toNat * 5 + 0) hA1 rfl rfl (by omega) (by omega) Tryz.runUnderlying27 Tryz.sizeOf78 rfl) (al_p (q_loadXs (SensorD.cells x) rfl Tryz.isAgg78 Tryz.sizeOf78 (fun w9 hs j9 v9 h9 => by rw [addr_add]; exact (hs.below.cell (p := ⟨_, _, none⟩) hlt1).trans ((hget1 i.toNat _ hx1) j9 v9 h9)) rfl) (al_new (fun b => .pointer (some ⟨b, 0, none⟩)) (r_alloc Tryz.zeroValue78 rfl) rfl rfl rfl ?_))
      intro b3
      refine al_storeAll (i := 0) rfl rfl rfl rfl Tryz.sizeOf78 rfl rfl .k0 rfl (al_end (aq_then ?_))
      refine ac_seq (ac_region ?_)
      refine al_p (q_fieldAddr 2 rfl Tryz.runUnderlying78 rfl Tryz.sizeOf3 (by decide) rfl) (al_p (q_load (i := 0) rfl rfl rfl Tryz.isAgg3) ?_)
      refine al_p (q_fieldAddr 3 rfl Tryz.runUnderlying78 rfl Tryz.sizeOf3 (by decide) rfl) (al_p (q_load (i := 0) rfl rfl rfl Tryz.isAgg3) (al_p (q_build (.cons rfl (.cons rfl .nil)) (mke_bl_apiPoint_0_1 _ _ rfl rfl)) (al_new (fun b => .pointer (some ⟨b, 0, none⟩)) (r_alloc Tryz.zeroValue76 rfl) rfl rfl rfl ?_)))
      intro b4
      refine al_storeAll (i := 0) rfl rfl rfl rfl Tryz.sizeOf76 rfl rfl .k0 rfl (al_end (aq_then ?_))
      refine ac_seq (ac_seq (ac_region ?_))
      refine al_p (q_fieldAddr 1 rfl Tryz.runUnderlying78 rfl Tryz.sizeOf3 (by decide) rfl) (al_p (q_load (i := 1) rfl rfl rfl Tryz.isAgg3) (al_p (q_eql rfl rfl) (al_end (aq_then ?_))))
      refine ac_cond rfl (fun h3 => ?_) (fun h3 => ?_)
      · have k1 : x.kind = 1 := by have := of_decide_eq_true h3; omega
        refine ac_seq (ac_region ?_)
        refine al_p (q_loadAll (i := 3) rfl rfl Tryz.isAgg29 Tryz.sizeOf29 rfl) (al_p (q_loadAll (i := 2) rfl rfl Tryz.isAgg32 Tryz.sizeOf32 rfl) (al_p (q_loadAll (i := 0) rfl rfl Tryz.isAgg76 Tryz.sizeOf76 rfl) (al_call Tryz.call79 (.cons rfl (.cons rfl (.cons rfl .nil))) rfl rfl (fun w3 hs3 => ?_))))
        refine (fluxAt_any R M Q C x.r x.z _ (hM.below hs3.below) (hC.below hs3.below) hv).mono ?_
        rintro e u3 ⟨rfl, hb_3⟩
        refine ⟨_, rfl, hb_3, ?_⟩
        clear hs3
        refine al_p (q_assign rfl) (al_p (q_assign rfl) (al_end (aq_then ?_)))
        refine ac_ret (aq_thenR (ret2 Tryz.results42 rfl rfl (fun w9 hs => ?_)))
        exact ⟨by rw [show exactL M C i = (sensP (srcM M C) x, 0) from by unfold exactL; rw [if_pos hvc, if_pos hw, hx]]; unfold sensP; rw [if_pos k1], hs.below⟩
      · have k1 : x.kind ≠ 1 := by have := of_decide_eq_false h3; omega
        refine ac_skip (aq_then (ac_seq (ac_region ?_)))
        refine al_p (q_loadAll (i := 3) rfl rfl Tryz.isAgg29 Tryz.sizeOf29 rfl) (al_p (q_loadAll (i := 2) rfl rfl Tryz.isAgg32 Tryz.sizeOf32 rfl) (al_p (q_loadAll (i := 0) rfl rfl Tryz.isAgg76 Tryz.sizeOf76 rfl) (al_call Tryz.call80 (.cons rfl (.cons rfl (.cons rfl .nil))) rfl rfl (fun w4 hs4 => ?_))))
        refine (fieldAt_any R M Q C x.r x.z _ (hM.below hs4.below) (hC.below hs4.below) hv (by omega) (by omega) (by omega) (by omega)).mono ?_
        rintro e u4 ⟨rfl, hb_4⟩
        refine ⟨_, rfl, hb_4, ?_⟩
        clear hs4
        refine al_p (q_move rfl) (al_p (q_extract rfl rfl) (al_p (q_extract rfl rfl) (al_p (q_assign rfl) (al_p (q_assign rfl) ?_))))
        refine al_end (aq_then ?_)
        refine ac_seq (ac_seq (ac_region ?_))
        refine al_p (q_fieldAddr 1 rfl Tryz.runUnderlying78 rfl Tryz.sizeOf3 (by decide) rfl) (al_p (q_load (i := 1) rfl rfl rfl Tryz.isAgg3) (al_p (q_eql rfl rfl) (al_end (aq_then ?_))))
        refine ac_cond rfl (fun h4 => ?_) (fun h4 => ?_)
        · have k2 : x.kind = 2 := by have := of_decide_eq_true h4; omega
          refine ac_seq (ac_region ?_)
          refine al_p (q_move rfl) (al_p (q_assign rfl) (al_p (q_assign rfl) (al_end (aq_then ?_))))
          refine ac_ret (aq_thenR (ret2 Tryz.results42 rfl rfl (fun w9 hs => ?_)))
          exact ⟨by rw [show exactL M C i = (sensP (srcM M C) x, 0) from by unfold exactL; rw [if_pos hvc, if_pos hw, hx]]; unfold sensP; rw [if_neg k1, if_pos k2], hs.below⟩
        · have k2 : x.kind ≠ 2 := by have := of_decide_eq_false h4; omega
          refine ac_skip (aq_then (ac_seq (ac_region ?_)))
          refine al_p (q_move rfl) (al_p (q_assign rfl) (al_p (q_assign rfl) (al_end (aq_then ?_))))
          refine ac_ret (ret2 Tryz.results42 rfl rfl (fun w9 hs => ?_))
          exact ⟨by rw [show exactL M C i = (sensP (srcM M C) x, 0) from by unfold exactL; rw [if_pos hvc, if_pos hw, hx]]; unfold sensP; rw [if_neg k1, if_neg k2], hs.below⟩
end
section
open Go.RowKit Go.Shelf
theorem isT_zero {b n : Nat} {W : World} (h : ZeroL b n W) : IsT 1 intCells W (some ⟨b, 0, none⟩) n (List.replicate n 0) := by
  refine ⟨by simp, fun _ => ⟨b, 0, rfl, h.lt, fun j x hx k v hv => ?_⟩⟩
  have hk : k = 0 := by
    have := (List.getElem?_eq_some_iff.1 hv).1
    simp [intCells] at this; omega
  subst hk
  have hv' : v = .int .i64 x := by simpa [intCells] using hv.symm
  subst hv'
  have hj : j < n := by
    have := (List.getElem?_eq_some_iff.1 hx).1
    simpa using this
  have hx0 : x = 0 := by
    rw [List.getElem?_replicate, if_pos hj] at hx
    exact (Option.some.inj hx).symm
  subst hx0
  rw [show (0 + j * 1 + 0 : Nat) = j by omega]
  exact h.cell j hj
theorem dark_isC {B : Nat} {W : World} {A : Option Addr} {na ca : Nat} {z1 : List Int} {A2 : Option Addr} {nb cb : Nat} {z2 : List Int} {pb nc : Nat} (h : DarkAt B W A na ca z1 A2 nb cb z2 pb nc) (l1 : na ≤ 1000) (l2 : nb ≤ 1000) (l3 : nc ≤ 1000) :
    IsC W ⟨A, A2, some ⟨pb, 0, none⟩, na, ca, nb, cb, nc, nc⟩ ⟨z1, z2, List.replicate nc 0⟩ := by
  have c1 := h.coils.cap
  have c2 := h.shells.cap
  unfold maxLen at c1 c2
  exact ⟨h.coils.isT, h.shells.isT, isT_zero h.zero, h.coils.le, h.shells.le, Nat.le_refl _, by dsimp only; omega, by dsimp only; omega, by dsimp only; omega, by dsimp only; omega, by dsimp only; omega, by dsimp only; omega⟩
def darkD (C : CurD) : CurD := ⟨C.coils, C.shells, List.replicate C.plasma.length 0⟩
def backL (M : MachD) (C : CurD) (s : Int) : Int × Int := if validC M C = true then exactL M (darkD C) s else (0, 1)
set_option maxRecDepth 100000 in
set_option maxHeartbeats 8000000 in
theorem background_any (R : MachR) (M : MachD) (Qr : CurR) (Cd : CurD) (s : Int) (w : World) (hM : IsM w R M) (hC : IsC w Qr Cd) (i0 : -9223372036854775808 ≤ s) (i1 : s ≤ 9223372036854775807) :
    Calls Tryz.prog 66 #[.agg (machCells R M), Qr.v, .int .i64 s] w (Ret (.tuple #[.int .i64 (backL M Cd s).1, .int .i64 (backL M Cd s).2]) w) := by
  unfold backL
  cases hv : validC M Cd
  · have HV0 := Lib.hid (fun W (hb : Below w.heap.size w W) => (by have := validCurrents_any R M Qr Cd W (hM.below hb) (hC.below hb); rw [hv] at this; exact this : Calls Tryz.prog 40 #[.agg (machCells R M), Qr.v] W (Ret (.bool false) W)))
    clear hM hC hv
    obtain ⟨A, B, Cl, D, la, ca, lb, cb, lc, cl, ld, cd⟩ := R
    obtain ⟨name, coils, shells, limits, ⟨r, z, nr, nz, step⟩, sensors⟩ := M
    obtain ⟨A1, B1, C1, na, qa, nb, qb, nc, qc⟩ := Qr
    have HV := Lib.hid (show ∀ W, Below w.heap.size w W → Calls Tryz.prog 40 #[.agg #[.string name, .slice A la ca, .slice B lb cb, .slice Cl lc cl, .int .i64 r, .int .i64 z, .int .i64 nr, .int .i64 nz, .int .i64 step, .slice D ld cd], .agg #[.slice A1 na qa, .slice B1 nb qb, .slice C1 nc qc]] W (Ret (.bool false) W) from HV0.out)
    show Calls Tryz.prog 66 #[.agg #[.string name, .slice A la ca, .slice B lb cb, .slice Cl lc cl, .int .i64 r, .int .i64 z, .int .i64 nr, .int .i64 nz, .int .i64 step, .slice D ld cd], .agg #[.slice A1 na qa, .slice B1 nb qb, .slice C1 nc qc], .int .i64 s] w _
    go_enter Tryz.func66, Tryz.ntmps66
    go_wp2_with fail
    refine (HV.out _ (by (repeat first | with_reducible exact Below.refl _ _ | (with_reducible refine Below.alloc ?_ ?_ _; rotate_left; exact (by first | omega | (simp; done)))))).mono ?_
    rintro e w1 ⟨rfl, hb⟩
    have m0 : w1.cell? ⟨w.heap.size, 0, none⟩ = some (.string name) := by rw [hb.cell (p := ⟨w.heap.size, 0, none⟩) (by ((try simp only [World.size_alloc, World.size_setCell, size_drew, size_drewN]); omega))]; go_simp
    have m1 : w1.cell? ⟨w.heap.size, 1, none⟩ = some (.slice A la ca) := by rw [hb.cell (p := ⟨w.heap.size, 1, none⟩) (by ((try simp only [World.size_alloc, World.size_setCell, size_drew, size_drewN]); omega))]; go_simp
    have m2 : w1.cell? ⟨w.heap.size, 2, none⟩ = some (.slice B lb cb) := by rw [hb.cell (p := ⟨w.heap.size, 2, none⟩) (by ((try simp only [World.size_alloc, World.size_setCell, size_drew, size_drewN]); omega))]; go_simp
    have m3 : w1.cell? ⟨w.heap.size, 3, none⟩ = some (.slice Cl lc cl) := by rw [hb.cell (p := ⟨w.heap.size, 3, none⟩) (by ((try simp only [World.size_alloc, World.size_setCell, size_drew, size_drewN]); omega))]; go_simp
    have m4 : w1.cell? ⟨w.heap.size, 4, none⟩ = some (.int .i64 r) := by rw [hb.cell (p := ⟨w.heap.size, 4, none⟩) (by ((try simp only [World.size_alloc, World.size_setCell, size_drew, size_drewN]); omega))]; go_simp
    have m5 : w1.cell? ⟨w.heap.size, 5, none⟩ = some (.int .i64 z) := by rw [hb.cell (p := ⟨w.heap.size, 5, none⟩) (by ((try simp only [World.size_alloc, World.size_setCell, size_drew, size_drewN]); omega))]; go_simp
    have m6 : w1.cell? ⟨w.heap.size, 6, none⟩ = some (.int .i64 nr) := by rw [hb.cell (p := ⟨w.heap.size, 6, none⟩) (by ((try simp only [World.size_alloc, World.size_setCell, size_drew, size_drewN]); omega))]; go_simp
    have m7 : w1.cell? ⟨w.heap.size, 7, none⟩ = some (.int .i64 nz) := by rw [hb.cell (p := ⟨w.heap.size, 7, none⟩) (by ((try simp only [World.size_alloc, World.size_setCell, size_drew, size_drewN]); omega))]; go_simp
    have m8 : w1.cell? ⟨w.heap.size, 8, none⟩ = some (.int .i64 step) := by rw [hb.cell (p := ⟨w.heap.size, 8, none⟩) (by ((try simp only [World.size_alloc, World.size_setCell, size_drew, size_drewN]); omega))]; go_simp
    have m9 : w1.cell? ⟨w.heap.size, 9, none⟩ = some (.slice D ld cd) := by rw [hb.cell (p := ⟨w.heap.size, 9, none⟩) (by ((try simp only [World.size_alloc, World.size_setCell, size_drew, size_drewN]); omega))]; go_simp
    have c0 : w1.cell? ⟨w.heap.size + 1, 0, none⟩ = some (.slice A1 na qa) := by rw [hb.cell (p := ⟨w.heap.size + 1, 0, none⟩) (by ((try simp only [World.size_alloc, World.size_setCell, size_drew, size_drewN]); omega))]; go_simp
    have c1 : w1.cell? ⟨w.heap.size + 1, 1, none⟩ = some (.slice B1 nb qb) := by rw [hb.cell (p := ⟨w.heap.size + 1, 1, none⟩) (by ((try simp only [World.size_alloc, World.size_setCell, size_drew, size_drewN]); omega))]; go_simp
    have c2 : w1.cell? ⟨w.heap.size + 1, 2, none⟩ = some (.slice C1 nc qc) := by rw [hb.cell (p := ⟨w.heap.size + 1, 2, none⟩) (by ((try simp only [World.size_alloc, World.size_setCell, size_drew, size_drewN]); omega))]; go_simp
    have hB : Below w.heap.size w w1 := Below.trans (by (repeat first | with_reducible exact Below.refl _ _ | (with_reducible refine Below.alloc ?_ ?_ _; rotate_left; exact (by first | omega | (simp; done))))) (hb.mono (by ((try simp only [World.size_alloc, World.size_setCell, size_drew, size_drewN]); omega)))
    have hz1 : w.heap.size + 1 < w1.heap.size := Nat.lt_of_lt_of_le (by ((try simp only [World.size_alloc, World.size_setCell, size_drew, size_drewN]); omega)) hb.size
    have hz0 : w.heap.size < w1.heap.size := by omega
    clear hb
    go_wp2_with fail
    go_ret2
    exact ⟨rfl, by (repeat with_reducible assumption)⟩
  rw [if_pos rfl]
  have hf := fit2_iff.1 hv
  have hs := sound_of hf.check
  have hfc := cells_fine hs.grid
  have e1 := hC.coils.1
  have e2 := hC.shells.1
  have e3 := hC.plasma.1
  have e4 := hf.coils.1
  have e5 := hf.shells.1
  have e6 := hf.plasma.1
  have e7 := hs.coils.1
  have e8 := hs.shells.1
  have l1 : Qr.la ≤ 1000 := by omega
  have l2 : Qr.lb ≤ 1000 := by omega
  have l3 : Qr.lc ≤ 1000 := by omega
  have HV0 := Lib.hid (fun W (hb : Below w.heap.size w W) => (by have := validCurrents_any R M Qr Cd W (hM.below hb) (hC.below hb); rw [hv] at this; exact this : Calls Tryz.prog 40 #[.agg (machCells R M), Qr.v] W (Ret (.bool true) W)))
  have HD0 := Lib.hid (fun W (hb : Below w.heap.size w W) => dark_any Qr.A Qr.B Qr.C Qr.la Qr.ca Qr.lb Qr.cb Qr.lc Qr.cc Cd.coils Cd.shells W (hC.below hb).coils (hC.below hb).shells (by omega) (by omega) (by omega))
  have HX0 := Lib.hid (fun (A' A2' : Option Addr) (ca' cb' pb : Nat) W (hb : Below w.heap.size w W) (hC' : IsC W ⟨A', A2', some ⟨pb, 0, none⟩, Qr.la, ca', Qr.lb, cb', Qr.lc, Qr.lc⟩ ⟨Cd.coils, Cd.shells, List.replicate Qr.lc 0⟩) => exact9_any R M ⟨A', A2', some ⟨pb, 0, none⟩, Qr.la, ca', Qr.lb, cb', Qr.lc, Qr.lc⟩ ⟨Cd.coils, Cd.shells, List.replicate Qr.lc 0⟩ s W (hM.below hb) hC' i0 i1)
  unfold darkD
  rw [e3]
  clear hM hC hv hf hs hfc e1 e2 e3 e4 e5 e6 e7 e8
  obtain ⟨z1, z2, z3⟩ := Cd
  dsimp only at *
  generalize exactL M ⟨z1, z2, List.replicate Qr.lc 0⟩ s = G at *
  obtain ⟨G1, G2⟩ := G
  obtain ⟨A, B, Cl, D, la, ca, lb, cb, lc, cl, ld, cd⟩ := R
  obtain ⟨name, coils, shells, limits, ⟨r, z, nr, nz, step⟩, sensors⟩ := M
  obtain ⟨A1, B1, C1, na, qa, nb, qb, nc, qc⟩ := Qr
  dsimp only at *
  have HV := Lib.hid (show ∀ W, Below w.heap.size w W → Calls Tryz.prog 40 #[.agg #[.string name, .slice A la ca, .slice B lb cb, .slice Cl lc cl, .int .i64 r, .int .i64 z, .int .i64 nr, .int .i64 nz, .int .i64 step, .slice D ld cd], .agg #[.slice A1 na qa, .slice B1 nb qb, .slice C1 nc qc]] W (Ret (.bool true) W) from HV0.out)
  have HD := Lib.hid (show ∀ W, Below w.heap.size w W → Calls Tryz.prog 108 #[.agg #[.slice A1 na qa, .slice B1 nb qb, .slice C1 nc qc]] W (Dark na nb nc z1 z2 W) from HD0.out)
  have HX := Lib.hid (show ∀ (A' A2' : Option Addr) (ca' cb' pb : Nat) W, Below w.heap.size w W → IsC W ⟨A', A2', some ⟨pb, 0, none⟩, na, ca', nb, cb', nc, nc⟩ ⟨z1, z2, List.replicate nc 0⟩ → Calls Tryz.prog 42 #[.agg #[.string name, .slice A la ca, .slice B lb cb, .slice Cl lc cl, .int .i64 r, .int .i64 z, .int .i64 nr, .int .i64 nz, .int .i64 step, .slice D ld cd], .agg #[.slice A' na ca', .slice A2' nb cb', .slice (some ⟨pb, 0, none⟩) nc nc], .int .i64 s] W (Ret (.tuple #[.int .i64 G1, .int .i64 G2]) W) from HX0.out)
  clear HV0 HD0 HX0
  show Calls Tryz.prog 66 #[.agg #[.string name, .slice A la ca, .slice B lb cb, .slice Cl lc cl, .int .i64 r, .int .i64 z, .int .i64 nr, .int .i64 nz, .int .i64 step, .slice D ld cd], .agg #[.slice A1 na qa, .slice B1 nb qb, .slice C1 nc qc], .int .i64 s] w _
  go_enter Tryz.func66, Tryz.ntmps66
  go_wp2_with fail
  refine (HV.out _ (by (repeat first | with_reducible exact Below.refl _ _ | (with_reducible refine Below.alloc ?_ ?_ _; rotate_left; exact (by first | omega | (simp; done)))))).mono ?_
  rintro e w1 ⟨rfl, hb⟩
  have m0 : w1.cell? ⟨w.heap.size, 0, none⟩ = some (.string name) := by rw [hb.cell (p := ⟨w.heap.size, 0, none⟩) (by ((try simp only [World.size_alloc, World.size_setCell, size_drew, size_drewN]); omega))]; go_simp
  have m1 : w1.cell? ⟨w.heap.size, 1, none⟩ = some (.slice A la ca) := by rw [hb.cell (p := ⟨w.heap.size, 1, none⟩) (by ((try simp only [World.size_alloc, World.size_setCell, size_drew, size_drewN]); omega))]; go_simp
  have m2 : w1.cell? ⟨w.heap.size, 2, none⟩ = some (.slice B lb cb) := by rw [hb.cell (p := ⟨w.heap.size, 2, none⟩) (by ((try simp only [World.size_alloc, World.size_setCell, size_drew, size_drewN]); omega))]; go_simp
  have m3 : w1.cell? ⟨w.heap.size, 3, none⟩ = some (.slice Cl lc cl) := by rw [hb.cell (p := ⟨w.heap.size, 3, none⟩) (by ((try simp only [World.size_alloc, World.size_setCell, size_drew, size_drewN]); omega))]; go_simp
  have m4 : w1.cell? ⟨w.heap.size, 4, none⟩ = some (.int .i64 r) := by rw [hb.cell (p := ⟨w.heap.size, 4, none⟩) (by ((try simp only [World.size_alloc, World.size_setCell, size_drew, size_drewN]); omega))]; go_simp
  have m5 : w1.cell? ⟨w.heap.size, 5, none⟩ = some (.int .i64 z) := by rw [hb.cell (p := ⟨w.heap.size, 5, none⟩) (by ((try simp only [World.size_alloc, World.size_setCell, size_drew, size_drewN]); omega))]; go_simp
  have m6 : w1.cell? ⟨w.heap.size, 6, none⟩ = some (.int .i64 nr) := by rw [hb.cell (p := ⟨w.heap.size, 6, none⟩) (by ((try simp only [World.size_alloc, World.size_setCell, size_drew, size_drewN]); omega))]; go_simp
  have m7 : w1.cell? ⟨w.heap.size, 7, none⟩ = some (.int .i64 nz) := by rw [hb.cell (p := ⟨w.heap.size, 7, none⟩) (by ((try simp only [World.size_alloc, World.size_setCell, size_drew, size_drewN]); omega))]; go_simp
  have m8 : w1.cell? ⟨w.heap.size, 8, none⟩ = some (.int .i64 step) := by rw [hb.cell (p := ⟨w.heap.size, 8, none⟩) (by ((try simp only [World.size_alloc, World.size_setCell, size_drew, size_drewN]); omega))]; go_simp
  have m9 : w1.cell? ⟨w.heap.size, 9, none⟩ = some (.slice D ld cd) := by rw [hb.cell (p := ⟨w.heap.size, 9, none⟩) (by ((try simp only [World.size_alloc, World.size_setCell, size_drew, size_drewN]); omega))]; go_simp
  have c0 : w1.cell? ⟨w.heap.size + 1, 0, none⟩ = some (.slice A1 na qa) := by rw [hb.cell (p := ⟨w.heap.size + 1, 0, none⟩) (by ((try simp only [World.size_alloc, World.size_setCell, size_drew, size_drewN]); omega))]; go_simp
  have c1 : w1.cell? ⟨w.heap.size + 1, 1, none⟩ = some (.slice B1 nb qb) := by rw [hb.cell (p := ⟨w.heap.size + 1, 1, none⟩) (by ((try simp only [World.size_alloc, World.size_setCell, size_drew, size_drewN]); omega))]; go_simp
  have c2 : w1.cell? ⟨w.heap.size + 1, 2, none⟩ = some (.slice C1 nc qc) := by rw [hb.cell (p := ⟨w.heap.size + 1, 2, none⟩) (by ((try simp only [World.size_alloc, World.size_setCell, size_drew, size_drewN]); omega))]; go_simp
  have hB : Below w.heap.size w w1 := Below.trans (by (repeat first | with_reducible exact Below.refl _ _ | (with_reducible refine Below.alloc ?_ ?_ _; rotate_left; exact (by first | omega | (simp; done))))) (hb.mono (by ((try simp only [World.size_alloc, World.size_setCell, size_drew, size_drewN]); omega)))
  have hz1 : w.heap.size + 1 < w1.heap.size := Nat.lt_of_lt_of_le (by ((try simp only [World.size_alloc, World.size_setCell, size_drew, size_drewN]); omega)) hb.size
  have hz0 : w.heap.size < w1.heap.size := by omega
  clear hb
  go_wp2_with fail
  have HS : Hid (∀ w' : World, Reg (w1.heap.size) (w1) w' → (Reg (w1.heap.size) (w1) w' ∧ w'.cell? ⟨w.heap.size, 0, none⟩ = some (.string name) ∧ w'.cell? ⟨w.heap.size, 1, none⟩ = some (.slice A la ca) ∧ w'.cell? ⟨w.heap.size, 2, none⟩ = some (.slice B lb cb) ∧ w'.cell? ⟨w.heap.size, 3, none⟩ = some (.slice Cl lc cl) ∧ w'.cell? ⟨w.heap.size, 4, none⟩ = some (.int .i64 r) ∧ w'.cell? ⟨w.heap.size, 5, none⟩ = some (.int .i64 z) ∧ w'.cell? ⟨w.heap.size, 6, none⟩ = some (.int .i64 nr) ∧ w'.cell? ⟨w.heap.size, 7, none⟩ = some (.int .i64 nz) ∧ w'.cell? ⟨w.heap.size, 8, none⟩ = some (.int .i64 step) ∧ w'.cell? ⟨w.heap.size, 9, none⟩ = some (.slice D ld cd) ∧ w'.cell? ⟨w.heap.size + 1, 0, none⟩ = some (.slice A1 na qa) ∧ w'.cell? ⟨w.heap.size + 1, 1, none⟩ = some (.slice B1 nb qb) ∧ w'.cell? ⟨w.heap.size + 1, 2, none⟩ = some (.slice C1 nc qc))) := (fun w' h => by (have hc := h.cells; have hs := h.some; have hf := h.frozen; refine ⟨h, ?_⟩; (try simp only [World.size_alloc, World.size_setCell, size_drew, size_drewN] at hc hs hf); first | (simp (disch := omega) only [hc, hs, hf, cur_iff]; (try go_simp); done) | (simp (disch := first | omega | (simp; done)) only [hc, hs, hf, cur_iff]; (try go_simp); done) | (simp (maxDischargeDepth := 4) [hc, hs, hf, cur_iff, go_sem]; done) | (go_simp; done) | (simp (maxDischargeDepth := 4) [hc, hs, hf, cur_iff, go_sem]; go_simp))); go_region_held3 (fun w' => Reg (w1.heap.size) (w1) w' ∧ w'.cell? ⟨w.heap.size, 0, none⟩ = some (.string name) ∧ w'.cell? ⟨w.heap.size, 1, none⟩ = some (.slice A la ca) ∧ w'.cell? ⟨w.heap.size, 2, none⟩ = some (.slice B lb cb) ∧ w'.cell? ⟨w.heap.size, 3, none⟩ = some (.slice Cl lc cl) ∧ w'.cell? ⟨w.heap.size, 4, none⟩ = some (.int .i64 r) ∧ w'.cell? ⟨w.heap.size, 5, none⟩ = some (.int .i64 z) ∧ w'.cell? ⟨w.heap.size, 6, none⟩ = some (.int .i64 nr) ∧ w'.cell? ⟨w.heap.size, 7, none⟩ = some (.int .i64 nz) ∧ w'.cell? ⟨w.heap.size, 8, none⟩ = some (.int .i64 step) ∧ w'.cell? ⟨w.heap.size, 9, none⟩ = some (.slice D ld cd) ∧ w'.cell? ⟨w.heap.size + 1, 0, none⟩ = some (.slice A1 na qa) ∧ w'.cell? ⟨w.heap.size + 1, 1, none⟩ = some (.slice B1 nb qb) ∧ w'.cell? ⟨w.heap.size + 1, 2, none⟩ = some (.slice C1 nc qc)) (exact HS.out _ (by (repeat first | with_reducible exact Reg.refl _ _ | with_reducible exact (‹Reg _ _ _ ∧ _›).1 | with_reducible refine Reg.drew ?_ | (with_reducible apply Reg.call; rotate_left; with_reducible assumption)))) (first | (go_at_call 108; (with_reducible refine (HD.out _ (Reg.out (‹Reg _ _ _ ∧ _›).1 (by (repeat with_reducible assumption)) (by omega))).mono ?_); rintro e w8 ⟨A', ca', A2', cb', pb, rfl, hd0, hb⟩; have hd := dark_isC hd0 l1 l2 l3; clear hd0; (skip); (try simp only [World.size_alloc, World.size_setCell, size_drew, size_drewN] at hk); obtain ⟨hc, hf⟩ := bcell hb; have hs := hb.size; (try simp only [World.size_alloc, World.size_setCell, size_drew, size_drewN] at hs)) | (go_at_call 42; (with_reducible refine (HX.out _ _ _ _ _ _ (Reg.out (‹Reg _ _ _ ∧ _›).1 (by (repeat with_reducible assumption)) (by omega)) (by assumption)).mono ?_); rintro e w9 ⟨rfl, hb⟩; (skip); (try simp only [World.size_alloc, World.size_setCell, size_drew, size_drewN] at hk); obtain ⟨hc, hf⟩ := bcell hb; have hs := hb.size; (try simp only [World.size_alloc, World.size_setCell, size_drew, size_drewN] at hs)))
  all_goals go_wp2_with fail
  all_goals go_ret2
  all_goals exact ⟨rfl, (Reg.out (‹Reg _ _ _ ∧ _›).1 (by (repeat with_reducible assumption)) (by omega))⟩
end
end Go.Proofs.YthggkidiidnaoaaGreatDoor
