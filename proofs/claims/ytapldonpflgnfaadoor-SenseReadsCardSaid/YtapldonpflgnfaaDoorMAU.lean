import Derived.Test.YtapldonpflgnfaaDoorMAG
import Derived.Test.YtapldonpflgnfaaDoorMAJ
import Derived.Test.YtapldonpflgnfaaDoorMAP
import Derived.Test.YtapldonpflgnfaaDoorMAQ
import Derived.Test.YtapldonpflgnfaaDoorMAR
import Derived.Test.YtapldonpflgnfaaDoorMAS
import Derived.Test.YtapldonpflgnfaaDoorMAT
import Derived.Test.YtapldonpflgnfaaDoorRows
import Derived.KernelRfl
import Derived.Laws.StructEq
import Derived.Handy
import Derived.Outline
namespace Go.Proofs.YtapldonpflgnfaaDoor
set_option linter.unusedVariables false
set_option linter.unusedSimpArgs false
section
set_option autoImplicit false
open Go.RowKit
structure Chn where
  (ia ib t : Nat) (z f : List Value)
abbrev Ph := Option (Nat × Bool)
def Chn.box (c : Chn) : Ph → Boxes
  | none => []
  | some (b, false) => [(b, .cells c.z)]
  | some (b, true) => [(b, .cells c.f)]
abbrev Phs := List (Chn × Ph)
def Apt (c d : Chn) : Prop := c.ia ≠ d.ia ∧ c.ia ≠ d.ib ∧ c.ib ≠ d.ia ∧ c.ib ≠ d.ib ∧ c.t ≠ d.t
theorem Apt.symm {c d : Chn} (h : Apt c d) : Apt d c := ⟨h.1.symm, h.2.2.1.symm, h.2.1.symm, h.2.2.2.1.symm, h.2.2.2.2.symm⟩
section
variable {P : Program} {e0 : Cfg} {U : Snaps} {ops : Array Oper} {Q : Exit → Act → World → Prop} {l0 : Slots} {L0 : Boxes}
def waits (ops : Array Oper) (listed : Array Bool) (j : Nat) (k : Option Nat) : Bool := match ops[j]? with
  | some o => o.after.all fun e => !Region.binds .any e || listed.getD e.on false || k == some e.on
  | none => false
structure Lis (ops : Array Oper) (base listed : Array Bool) (s : Phs) : Prop where
  size : listed.size = ops.size
  base : ∀ j, base.getD j false = true → listed.getD j false = true
  ch : ∀ x ∈ s, listed.getD x.1.ia false = x.2.isSome ∧ listed.getD x.1.ib false = (match x.2 with | some (_, true) => true | _ => false)
  rest : ∀ j, j < ops.size → (∀ x ∈ s, j ≠ x.1.ia ∧ j ≠ x.1.ib) → listed.getD j false = true
theorem getD_put {listed : Array Bool} {i j : Nat} : (listed.setIfInBounds i true).getD j false = if i = j ∧ i < listed.size then true else listed.getD j false := by
  simp only [Array.getD_eq_getD_getElem?, Array.getElem?_setIfInBounds]
  by_cases h : i = j
  · subst h
    by_cases g : i < listed.size
    · simp [g]
    · simp [g]
  · simp [h]
theorem Lis.put {base listed : Array Bool} {S1 S2 : Phs} {c : Chn} {p q : Ph} {i : Nat} (h : Lis ops base listed (S1 ++ (c, p) :: S2)) (hi : i < ops.size) (hap : ∀ x, x ∈ S1 ∨ x ∈ S2 → Apt c x.1) (hne : c.ia ≠ c.ib)
    (hq : (i = c.ia ∧ p = none ∧ ∃ b, q = some (b, false)) ∨ (i = c.ib ∧ ∃ b, p = some (b, false) ∧ q = some (b, true))) : Lis ops base (listed.setIfInBounds i true) (S1 ++ (c, q) :: S2) := by
  have hsz := h.size
  have mem : ∀ x, x ∈ S1 ∨ x ∈ S2 → x ∈ S1 ++ (c, p) :: S2 := fun x hx => by simp only [List.mem_append, List.mem_cons]; rcases hx with g | g <;> simp [g]
  refine ⟨by simp [hsz], fun j hj => by rw [getD_put]; split; rfl; exact h.base j hj, fun x hx => ?_, fun j hj hall => ?_⟩
  · have hx' : x = (c, q) ∨ (x ∈ S1 ∨ x ∈ S2) := by simp only [List.mem_append, List.mem_cons] at hx; rcases hx with g | g | g <;> simp [g]
    rcases hx' with rfl | hx'
    · have hc := h.ch (c, p) (by simp)
      simp only at hc ⊢
      rcases hq with ⟨rfl, rfl, b, rfl⟩ | ⟨rfl, b, rfl, rfl⟩
      · rw [getD_put, getD_put, if_pos ⟨rfl, by omega⟩, if_neg (fun g => hne g.1)]
        exact ⟨rfl, hc.2⟩
      · rw [getD_put, getD_put, if_neg (fun g => hne g.1.symm), if_pos ⟨rfl, by omega⟩]
        exact ⟨hc.1, rfl⟩
    · have ha := hap x hx'
      have hc := h.ch x (mem x hx')
      rw [getD_put, getD_put]
      rcases hq with ⟨rfl, -, -⟩ | ⟨rfl, -, -⟩
      · rw [if_neg (fun g => ha.1 g.1), if_neg (fun g => ha.2.1 g.1)]; exact hc
      · rw [if_neg (fun g => ha.2.2.1 g.1), if_neg (fun g => ha.2.2.2.1 g.1)]; exact hc
  · rw [getD_put]
    split
    · rfl
    · refine h.rest j hj fun x hx => ?_
      have hx' : x = (c, p) ∨ (x ∈ S1 ∨ x ∈ S2) := by simp only [List.mem_append, List.mem_cons] at hx; rcases hx with g | g | g <;> simp [g]
      rcases hx' with rfl | hx'
      · exact hall (c, q) (by simp)
      · exact hall x (by simp only [List.mem_append, List.mem_cons]; rcases hx' with g | g <;> simp [g])
theorem IsT.drop {α : Type} {n : Nat} {enc : α → List Value} {w : World} {b o len : Nat} {zs : List α} (h : IsT n enc w (some ⟨b, o, none⟩) len zs) (k : Nat) : IsT n enc w (some ⟨b, o + k * n, none⟩) (len - k) (zs.drop k) :=
  ⟨by rw [List.length_drop, h.1], fun h0 => by
    obtain ⟨b', o', e, h1, h2⟩ := h.2 (by omega)
    cases e
    refine ⟨b, o + k * n, rfl, h1, fun j x hx i v hv => ?_⟩
    rw [List.getElem?_drop] at hx
    have := h2 (k + j) x hx i v hv
    rwa [Nat.add_mul, ← Nat.add_assoc] at this⟩
end
end
section
open Go.RowKit
theorem mke_bl_apiPoint_0_1 (a0 a1 : Value) (ha0 : a0.oneCell' = true) (ha1 : a1.oneCell' = true) : ∀ w, (Instr.build 55 #[(0, a0), (1, a1)]).run Tryd.prog w = .ok (.agg #[a0, a1]) w := by
  have ea0 : a0.cells = #[a0] := cells_one ha0
  have ea1 : a1.cells = #[a1] := cells_one ha1
  intro w; simp [Instr.build, Instr.fill, cells_agg, Tryd.runUnderlying55, Tryd.zeroValue55, Tryd.sizeOf3, ea0, ea1]
set_option maxRecDepth 100000 in
theorem exact9_any (R : MachR) (M : MachD) (Q : CurR) (C : CurD) (i : Int) (w : World) (hM : IsM w R M) (hC : IsC w Q C) (i0 : -9223372036854775808 ≤ i) (i1 : i ≤ 9223372036854775807) : Calls Tryd.prog 13 #[(.agg (machCells R M)), Q.v, (.int .i64 i)] w (Ret (.tuple #[.int .i64 (exactL M C i).1, .int .i64 (exactL M C i).2]) w) := by
  have hld := hM.sensors.1
  have hkd := hM.ld
  refine calls_ax (vs := [(.agg (machCells R M)), Q.v, (.int .i64 i)]) Tryd.func13 rfl rfl ?_
  refine ac_seq (ac_region ?_)
  refine al_new (fun b => .pointer (some ⟨b, 0, none⟩)) (r_box rfl rfl) rfl rfl rfl ?_
  intro b1
  refine al_new (fun b => .pointer (some ⟨b, 0, none⟩)) (r_box rfl rfl) rfl rfl rfl ?_
  intro b2
  refine al_p (q_assign rfl) (al_p (q_assign rfl) (al_end (aq_then ?_)))
  refine ac_seq (ac_seq (ac_region ?_))
  refine al_p (q_loadAll (i := 1) rfl rfl Tryd.isAgg29 Tryd.sizeOf29 rfl) (al_p (q_loadAll (i := 0) rfl rfl Tryd.isAgg32 Tryd.sizeOf32 rfl) (al_call Tryd.call10 (.cons rfl (.cons rfl .nil)) rfl rfl (fun w1 hs1 => ?_)))
  refine (validCurrents_any R M Q C _ (hM.below hs1.below) (hC.below hs1.below)).mono ?_
  rintro e u1 ⟨rfl, hb_1⟩
  refine ⟨_, rfl, hb_1, ?_⟩
  clear hs1
  refine al_p (q_not rfl) (al_end (aq_then ?_))
  refine ac_cond rfl (fun h1 => ?_) (fun h1 => ?_)
  · have q1 : validC M C = false := by simpa using h1
    refine ac_seq (ac_region ?_)
    refine al_p (q_assign rfl) (al_p (q_assign rfl) (al_end (aq_then ?_)))
    refine ac_ret (aq_thenR (ret2 Tryd.results13 rfl rfl (fun w9 hs => ?_)))
    exact ⟨by unfold exactL; rw [q1]; rfl, hs.below⟩
  · have hvc : validC M C = true := by simpa using h1
    have hv := fit2_iff.1 hvc
    have hsn := (sound_of hv.check).sensors.1
    refine ac_skip (aq_then (ac_seq (ac_seq (ac_region ?_))))
    refine al_p (q_move rfl) ?_
    refine al_p (q_fieldAddr 9 rfl Tryd.runUnderlying29 rfl Tryd.sizeOf27 (by decide) rfl) (al_p (q_load (i := 1) rfl rfl rfl Tryd.isAgg27) (al_p (q_lenS rfl Tryd.runUnderlying27) ?_))
    refine al_p (q_sub rfl rfl (by omega)) (al_call Tryd.call32 (.cons rfl (.cons rfl (.cons rfl .nil))) rfl rfl (fun w2 hs2 => ?_))
    refine (mwithin_any i 0 ((R.ld : Int) - 1) _).mono ?_
    rintro e u2 ⟨rfl, rfl⟩
    refine ⟨_, rfl, (Below.refl _ _), ?_⟩
    clear hs2
    refine al_p (q_not rfl) (al_end (aq_then ?_))
    refine ac_cond rfl (fun h2 => ?_) (fun h2 => ?_)
    · have q2 : wthn i 0 ((M.sensors.length : Int) - 1) = false := by rw [hld]; simpa using h2
      refine ac_seq (ac_region ?_)
      refine al_p (q_assign rfl) (al_p (q_assign rfl) (al_end (aq_then ?_)))
      refine ac_ret (aq_thenR (ret2 Tryd.results13 rfl rfl (fun w9 hs => ?_)))
      exact ⟨by unfold exactL; rw [if_pos hvc, q2]; rfl, hs.below⟩
    · have hw : wthn i 0 ((M.sensors.length : Int) - 1) = true := by rw [hld]; simpa using h2
      have hwi := wthn_iff.1 hw
      obtain ⟨x, hx⟩ : ∃ x, M.sensors[i.toNat]? = some x := ⟨_, List.getElem?_eq_getElem (by omega)⟩
      have hso := (sound_of hv.check).sensors.2 x (List.mem_of_getElem? hx)
      obtain ⟨b11, o11, hA1, hlt1, hget1⟩ := hM.sensors.2 (by omega)
      have hx1 := hx
      refine ac_skip (aq_then (ac_seq (ac_region ?_)))
      refine al_p (q_fieldAddr 9 rfl Tryd.runUnderlying29 rfl Tryd.sizeOf27 (by decide) rfl) (al_p (q_load (i := 1) rfl rfl rfl Tryd.isAgg27) (al_p (q_move rfl) ?_))
      refine al_p (q_indexAddrA (i := i.toNat) (o11 + i.toNat * 5 + 0) hA1 rfl rfl (by omega) (by omega) Tryd.runUnderlying27 Tryd.sizeOf57 rfl) (al_p (q_loadXs (SensorD.cells x) rfl Tryd.isAgg57 Tryd.sizeOf57 (fun w9 hs j9 v9 h9 => by rw [addr_add]; exact (hs.below.cell (p := ⟨_, _, none⟩) hlt1).trans ((hget1 i.toNat _ hx1) j9 v9 h9)) rfl) (al_new (fun b => .pointer (some ⟨b, 0, none⟩)) (r_alloc Tryd.zeroValue57 rfl) rfl rfl rfl ?_))
      intro b3
      refine al_storeAll (i := 0) rfl rfl rfl rfl Tryd.sizeOf57 rfl rfl .k0 rfl (al_end (aq_then ?_))
      refine ac_seq (ac_region ?_)
      refine al_p (q_fieldAddr 2 rfl Tryd.runUnderlying57 rfl Tryd.sizeOf3 (by decide) rfl) (al_p (q_load (i := 0) rfl rfl rfl Tryd.isAgg3) ?_)
      refine al_p (q_fieldAddr 3 rfl Tryd.runUnderlying57 rfl Tryd.sizeOf3 (by decide) rfl) (al_p (q_load (i := 0) rfl rfl rfl Tryd.isAgg3) (al_p (q_build (.cons rfl (.cons rfl .nil)) (mke_bl_apiPoint_0_1 _ _ rfl rfl)) (al_new (fun b => .pointer (some ⟨b, 0, none⟩)) (r_alloc Tryd.zeroValue55 rfl) rfl rfl rfl ?_)))
      intro b4
      refine al_storeAll (i := 0) rfl rfl rfl rfl Tryd.sizeOf55 rfl rfl .k0 rfl (al_end (aq_then ?_))
      refine ac_seq (ac_seq (ac_region ?_))
      refine al_p (q_fieldAddr 1 rfl Tryd.runUnderlying57 rfl Tryd.sizeOf3 (by decide) rfl) (al_p (q_load (i := 1) rfl rfl rfl Tryd.isAgg3) (al_p (q_eql rfl rfl) (al_end (aq_then ?_))))
      refine ac_cond rfl (fun h3 => ?_) (fun h3 => ?_)
      · have k1 : x.kind = 1 := by have := of_decide_eq_true h3; omega
        refine ac_seq (ac_region ?_)
        refine al_p (q_loadAll (i := 3) rfl rfl Tryd.isAgg29 Tryd.sizeOf29 rfl) (al_p (q_loadAll (i := 2) rfl rfl Tryd.isAgg32 Tryd.sizeOf32 rfl) (al_p (q_loadAll (i := 0) rfl rfl Tryd.isAgg55 Tryd.sizeOf55 rfl) (al_call Tryd.call33 (.cons rfl (.cons rfl (.cons rfl .nil))) rfl rfl (fun w3 hs3 => ?_))))
        refine (fluxAt_any R M Q C x.r x.z _ (hM.below hs3.below) (hC.below hs3.below) hv).mono ?_
        rintro e u3 ⟨rfl, hb_3⟩
        refine ⟨_, rfl, hb_3, ?_⟩
        clear hs3
        refine al_p (q_assign rfl) (al_p (q_assign rfl) (al_end (aq_then ?_)))
        refine ac_ret (aq_thenR (ret2 Tryd.results13 rfl rfl (fun w9 hs => ?_)))
        exact ⟨by rw [show exactL M C i = (sensP (srcM M C) x, 0) from by unfold exactL; rw [if_pos hvc, if_pos hw, hx]]; unfold sensP; rw [if_pos k1], hs.below⟩
      · have k1 : x.kind ≠ 1 := by have := of_decide_eq_false h3; omega
        refine ac_skip (aq_then (ac_seq (ac_region ?_)))
        refine al_p (q_loadAll (i := 3) rfl rfl Tryd.isAgg29 Tryd.sizeOf29 rfl) (al_p (q_loadAll (i := 2) rfl rfl Tryd.isAgg32 Tryd.sizeOf32 rfl) (al_p (q_loadAll (i := 0) rfl rfl Tryd.isAgg55 Tryd.sizeOf55 rfl) (al_call Tryd.call34 (.cons rfl (.cons rfl (.cons rfl .nil))) rfl rfl (fun w4 hs4 => ?_))))
        refine (fieldAt_any R M Q C x.r x.z _ (hM.below hs4.below) (hC.below hs4.below) hv (by omega) (by omega) (by omega) (by omega)).mono ?_
        rintro e u4 ⟨rfl, hb_4⟩
        refine ⟨_, rfl, hb_4, ?_⟩
        clear hs4
        refine al_p (q_move rfl) (al_p (q_extract rfl rfl) (al_p (q_extract rfl rfl) (al_p (q_assign rfl) (al_p (q_assign rfl) ?_))))
        refine al_end (aq_then ?_)
        refine ac_seq (ac_seq (ac_region ?_))
        refine al_p (q_fieldAddr 1 rfl Tryd.runUnderlying57 rfl Tryd.sizeOf3 (by decide) rfl) (al_p (q_load (i := 1) rfl rfl rfl Tryd.isAgg3) (al_p (q_eql rfl rfl) (al_end (aq_then ?_))))
        refine ac_cond rfl (fun h4 => ?_) (fun h4 => ?_)
        · have k2 : x.kind = 2 := by have := of_decide_eq_true h4; omega
          refine ac_seq (ac_region ?_)
          refine al_p (q_move rfl) (al_p (q_assign rfl) (al_p (q_assign rfl) (al_end (aq_then ?_))))
          refine ac_ret (aq_thenR (ret2 Tryd.results13 rfl rfl (fun w9 hs => ?_)))
          exact ⟨by rw [show exactL M C i = (sensP (srcM M C) x, 0) from by unfold exactL; rw [if_pos hvc, if_pos hw, hx]]; unfold sensP; rw [if_neg k1, if_pos k2], hs.below⟩
        · have k2 : x.kind ≠ 2 := by have := of_decide_eq_false h4; omega
          refine ac_skip (aq_then (ac_seq (ac_region ?_)))
          refine al_p (q_move rfl) (al_p (q_assign rfl) (al_p (q_assign rfl) (al_end (aq_then ?_))))
          refine ac_ret (ret2 Tryd.results13 rfl rfl (fun w9 hs => ?_))
          exact ⟨by rw [show exactL M C i = (sensP (srcM M C) x, 0) from by unfold exactL; rw [if_pos hvc, if_pos hw, hx]]; unfold sensP; rw [if_neg k1, if_neg k2], hs.below⟩
end
section
open Go.RowKit Go.Shelf
def darkD (C : CurD) : CurD := ⟨C.coils, C.shells, List.replicate C.plasma.length 0⟩
def backL (M : MachD) (C : CurD) (s : Int) : Int × Int := if validC M C = true then exactL M (darkD C) s else (0, 1)
end
section
open Go.RowKit Go.Shelf
def aloneM (M : MachD) (x : SensorD) (X Y : Int) : MachD := ⟨M.name, [], [], M.limits.take 1, ⟨X, Y, 1, 1, 1⟩, [x]⟩
def oneC4 : CurD := ⟨[], [], [1]⟩
end
section
open Go.RowKit Go.Shelf
def cellL (M : MachD) (i : Int) : Int × Int × Int :=
  if checkC M = 0 then if wthn i 0 (M.grid.nr * M.grid.nz - 1) = true then (cellR M.grid i, cellZ M.grid i, 0) else (0, 0, 7) else (0, 0, 1)
set_option maxRecDepth 100000 in
set_option maxHeartbeats 4000000 in
theorem rat_any (name : ByteArray) (A B C D : Option Addr) (la ca lb cb lc cc ld cd : Nat) (r z nr nz step : Int) (i : Int) (w : World) (h : (⟨r, z, nr, nz, step⟩ : GridD).Fine) (i0 : 0 ≤ i) (i1 : i ≤ 1000) :
    Calls Tryd.prog 93 #[.agg #[.string name, .slice A la ca, .slice B lb cb, .slice C lc cc, .int .i64 r, .int .i64 z, .int .i64 nr, .int .i64 nz, .int .i64 step, .slice D ld cd], .int .i64 i] w (Ret (.agg #[.int .i64 (cellR ⟨r, z, nr, nz, step⟩ i), .int .i64 (cellZ ⟨r, z, nr, nz, step⟩ i)]) w) := by
  obtain ⟨⟨p0, p1⟩, q0, q1⟩ := cell_bd h i0 i1
  obtain ⟨r0, r1, z0, z1, n0, n1, k0, k1, s0, s1⟩ := h
  dsimp only at *
  have e1 : (nr == 0) = false := by rw [beq_eq_false_iff_ne]; omega
  have e2 : ¬nr = 0 := by omega
  have e3 := Int.tmod_eq_emod_of_nonneg (b := nr) i0
  have e4 := Int.tdiv_eq_ediv_of_nonneg (b := nr) i0
  have e5 : IntKind.i64.wrap (i % nr * step) = i % nr * step := IntWalk.i64_in _ (by omega)
  have e6 : IntKind.i64.wrap (i / nr * step) = i / nr * step := IntWalk.i64_in _ (by omega)
  have b0 := Int.ediv_nonneg i0 (show 0 ≤ nr by omega)
  have b1 := Int.ediv_le_self nr i0
  have e7 : IntKind.i64.wrap (i / nr) = i / nr := IntWalk.i64_in _ (by omega)
  have HR : Hid (IntKind.i64.wrap (r + IntKind.i64.wrap (i % nr * step)) = cellR ⟨r, z, nr, nz, step⟩ i) := Lib.hid (by rw [e5, IntWalk.i64_in _ (by omega)]; rfl)
  have HZ : Hid (IntKind.i64.wrap (z + IntKind.i64.wrap (i / nr * step)) = cellZ ⟨r, z, nr, nz, step⟩ i) := Lib.hid (by rw [e6, IntWalk.i64_in _ (by omega)]; rfl)
  generalize cellR ⟨r, z, nr, nz, step⟩ i = RR at *
  generalize cellZ ⟨r, z, nr, nz, step⟩ i = ZZ at *
  clear e5 e6 p0 p1 q0 q1
  generalize i % nr = MM at *
  generalize i / nr = DD at *
  obtain ⟨W0, hW⟩ : ∃ W0, W0 = ((w.alloc (.cells #[.string name, .slice A la ca, .slice B lb cb, .slice C lc cc, .int .i64 r, .int .i64 z, .int .i64 nr, .int .i64 nz, .int .i64 step, .slice D ld cd] 29)).alloc (.cells #[.int .i64 0, .int .i64 0] 55)).alloc (.cells #[.int .i64 r, .int .i64 z, .int .i64 nr, .int .i64 nz, .int .i64 step] 26) := ⟨_, rfl⟩
  have c0 : W0.cell? ⟨w.heap.size + 1 + 1, 0, none⟩ = some (.int .i64 r) := by rw [hW]; go_simp
  have c1 : W0.cell? ⟨w.heap.size + 1 + 1, 1, none⟩ = some (.int .i64 z) := by rw [hW]; go_simp
  have c2 : W0.cell? ⟨w.heap.size + 1 + 1, 2, none⟩ = some (.int .i64 nr) := by rw [hW]; go_simp
  have c4 : W0.cell? ⟨w.heap.size + 1 + 1, 4, none⟩ = some (.int .i64 step) := by rw [hW]; go_simp
  have t0 : W0.cell? ⟨w.heap.size + 1, 0, none⟩ = some (.int .i64 0) := by rw [hW]; go_simp
  have t1 : W0.cell? ⟨w.heap.size + 1, 1, none⟩ = some (.int .i64 0) := by rw [hW]; go_simp
  have f0 : W0.frozen? ⟨w.heap.size + 1, 0, none⟩ = false := by rw [hW]; go_simp
  have f1 : W0.frozen? ⟨w.heap.size + 1, 1, none⟩ = false := by rw [hW]; go_simp
  have hB : Below w.heap.size w W0 := by rw [hW]; (repeat first | with_reducible exact Below.refl _ _ | (with_reducible refine Below.alloc ?_ ?_ _; rotate_left; exact (by first | omega | (simp; done) | (simp; omega))))
  have hs : w.heap.size + 1 + 1 < W0.heap.size := by rw [hW]; simp
  have HW := Lib.hid hW
  clear hW
  go_enter Tryd.func93, Tryd.ntmps93
  go_upto_region 2 with fail
  rw [← HW.out]
  clear HW
  have HS : Hid (∀ w' : World, Reg (w.heap.size + 1) (W0) w' → (Reg (w.heap.size + 1) (W0) w' ∧ w'.cell? ⟨w.heap.size + 1 + 1, 0, none⟩ = some (.int .i64 r) ∧ w'.cell? ⟨w.heap.size + 1 + 1, 1, none⟩ = some (.int .i64 z) ∧ w'.cell? ⟨w.heap.size + 1 + 1, 2, none⟩ = some (.int .i64 nr) ∧ w'.cell? ⟨w.heap.size + 1 + 1, 4, none⟩ = some (.int .i64 step) ∧ w'.cell? ⟨w.heap.size + 1, 0, none⟩ = some (cur w' ⟨w.heap.size + 1, 0, none⟩) ∧ w'.frozen? ⟨w.heap.size + 1, 0, none⟩ = false ∧ w'.cell? ⟨w.heap.size + 1, 1, none⟩ = some (cur w' ⟨w.heap.size + 1, 1, none⟩) ∧ w'.frozen? ⟨w.heap.size + 1, 1, none⟩ = false)) := (fun w' h => by (have hc := h.cells; have hs := h.some; have hf := h.frozen; refine ⟨h, ?_⟩; (try simp only [World.size_alloc, World.size_setCell, size_drew, size_drewN] at hc hs hf); first | (simp (disch := omega) only [hc, hs, hf, cur_iff]; (try go_simp); done) | (simp (disch := first | omega | (simp; done)) only [hc, hs, hf, cur_iff]; (try go_simp); done) | (simp (maxDischargeDepth := 4) [hc, hs, hf, cur_iff, go_sem]; done) | (go_simp; done) | (simp (maxDischargeDepth := 4) [hc, hs, hf, cur_iff, go_sem]; go_simp))); go_region_held3 (fun w' => Reg (w.heap.size + 1) (W0) w' ∧ w'.cell? ⟨w.heap.size + 1 + 1, 0, none⟩ = some (.int .i64 r) ∧ w'.cell? ⟨w.heap.size + 1 + 1, 1, none⟩ = some (.int .i64 z) ∧ w'.cell? ⟨w.heap.size + 1 + 1, 2, none⟩ = some (.int .i64 nr) ∧ w'.cell? ⟨w.heap.size + 1 + 1, 4, none⟩ = some (.int .i64 step) ∧ w'.cell? ⟨w.heap.size + 1, 0, none⟩ = some (cur w' ⟨w.heap.size + 1, 0, none⟩) ∧ w'.frozen? ⟨w.heap.size + 1, 0, none⟩ = false ∧ w'.cell? ⟨w.heap.size + 1, 1, none⟩ = some (cur w' ⟨w.heap.size + 1, 1, none⟩) ∧ w'.frozen? ⟨w.heap.size + 1, 1, none⟩ = false) (exact HS.out _ (by (repeat first | with_reducible exact Reg.refl _ _ | (with_reducible refine Reg.setCell ?_ ?_ _; rotate_left; exact (by (simp; done))) | with_reducible refine Reg.drew ?_))) (first | fail)
  all_goals go_wp2_with fail
  all_goals exact bodyPost_ret (resQ Tryd.results93 _ _ _ _ _ rfl (by rw [t0]; rfl) (by rw [t1]; rfl)) rfl ⟨by rw [HR.out, HZ.out], by (repeat first | with_reducible assumption | (with_reducible refine Below.setCell ?_ ?_ _; rotate_left; exact (by (simp; done))) | with_reducible refine Below.drew ?_)⟩
end
section
open Go.RowKit
end
section
open Go.RowKit
theorem four_get {a b c d x : Int} {j : Nat} (h : ([a, b, c, d] : List Int)[j]? = some x) : (j = 0 ∧ x = a) ∨ (j = 1 ∧ x = b) ∨ (j = 2 ∧ x = c) ∨ (j = 3 ∧ x = d) := by
  match j, h with
  | 0, h => exact .inl ⟨rfl, by simpa using h.symm⟩
  | 1, h => exact .inr (.inl ⟨rfl, by simpa using h.symm⟩)
  | 2, h => exact .inr (.inr (.inl ⟨rfl, by simpa using h.symm⟩))
  | 3, h => exact .inr (.inr (.inr ⟨rfl, by simpa using h.symm⟩))
theorem infl_no {a b c d x : Int} {j : Nat} (h : ([a, b, c, d] : List Int)[j]? = some x) (hx : wthn x (-1000) 1000 = false) : infl a b c d = 0 := by
  unfold infl
  rw [if_neg]
  rintro ⟨h1, h2⟩
  simp only [nearB, Bool.and_eq_true] at h1 h2
  rcases four_get h with ⟨-, rfl⟩ | ⟨-, rfl⟩ | ⟨-, rfl⟩ | ⟨-, rfl⟩ <;> simp_all
theorem infl_yes {a b c d : Int} (h : ∀ (j : Nat) (x : Int), ([a, b, c, d] : List Int)[j]? = some x → wthn x (-1000) 1000 = true) : infl a b c d = 1000000 / (4 + (a - c) * (a - c) + (b - d) * (b - d)) ∧ ((-1000 ≤ a ∧ a ≤ 1000) ∧ -1000 ≤ b ∧ b ≤ 1000) ∧ (-1000 ≤ c ∧ c ≤ 1000) ∧ -1000 ≤ d ∧ d ≤ 1000 := by
  have h0 := h 0 a rfl
  have h1 := h 1 b rfl
  have h2 := h 2 c rfl
  have h3 := h 3 d rfl
  have g : ∀ x : Int, wthn x (-1000) 1000 = true → -1000 ≤ x ∧ x ≤ 1000 := fun x hx => by simpa [wthn] using hx
  refine ⟨?_, ⟨g _ h0, g _ h1⟩, g _ h2, g _ h3⟩
  unfold infl
  rw [if_pos (by simp [nearB, h0, h1, h2, h3])]
set_option maxRecDepth 100000 in
set_option maxHeartbeats 4000000 in
theorem rinfluence_any (a b c d : Int) (w : World) :
    Calls Tryd.prog 92 #[.agg #[.int .i64 a, .int .i64 b], .agg #[.int .i64 c, .int .i64 d]] w (Ret (.int .i64 (infl a b c d)) w) := by
  have HN := Lib.hid (fun (j : Nat) (x : Int) h hx => infl_no (a := a) (b := b) (c := c) (d := d) (j := j) (x := x) h hx)
  have HY := Lib.hid (fun h => infl_yes (a := a) (b := b) (c := c) (d := d) h)
  have HB := infl_bd a b c d
  generalize infl a b c d = G at *
  go_enter Tryd.func92, Tryd.ntmps92
  go_upto_region 3 with (fail)
  have HC : Hid (∀ (j : Nat) (x : Int), ([a, b, c, d] : List Int)[j]? = some x → (((w.alloc (.cells #[.int .i64 a, .int .i64 b] 55)).alloc (.cells #[.int .i64 c, .int .i64 d] 55)).alloc (.cells #[.int .i64 a, .int .i64 b, .int .i64 c, .int .i64 d] 3)).cell? ⟨w.heap.size + 1 + 1, j, none⟩ = some (.int .i64 x)) := Lib.hid (fun j x h => by
    rcases four_get h with ⟨rfl, rfl⟩ | ⟨rfl, rfl⟩ | ⟨rfl, rfl⟩ | ⟨rfl, rfl⟩ <;> go_simp)
  have p0 : (((w.alloc (.cells #[.int .i64 a, .int .i64 b] 55)).alloc (.cells #[.int .i64 c, .int .i64 d] 55)).alloc (.cells #[.int .i64 a, .int .i64 b, .int .i64 c, .int .i64 d] 3)).cell? ⟨w.heap.size, 0, none⟩ = some (.int .i64 a) := by go_simp
  have p1 : (((w.alloc (.cells #[.int .i64 a, .int .i64 b] 55)).alloc (.cells #[.int .i64 c, .int .i64 d] 55)).alloc (.cells #[.int .i64 a, .int .i64 b, .int .i64 c, .int .i64 d] 3)).cell? ⟨w.heap.size, 1, none⟩ = some (.int .i64 b) := by go_simp
  have p2 : (((w.alloc (.cells #[.int .i64 a, .int .i64 b] 55)).alloc (.cells #[.int .i64 c, .int .i64 d] 55)).alloc (.cells #[.int .i64 a, .int .i64 b, .int .i64 c, .int .i64 d] 3)).cell? ⟨w.heap.size + 1, 0, none⟩ = some (.int .i64 c) := by go_simp
  have p3 : (((w.alloc (.cells #[.int .i64 a, .int .i64 b] 55)).alloc (.cells #[.int .i64 c, .int .i64 d] 55)).alloc (.cells #[.int .i64 a, .int .i64 b, .int .i64 c, .int .i64 d] 3)).cell? ⟨w.heap.size + 1, 1, none⟩ = some (.int .i64 d) := by go_simp
  have hB : Below w.heap.size w (((w.alloc (.cells #[.int .i64 a, .int .i64 b] 55)).alloc (.cells #[.int .i64 c, .int .i64 d] 55)).alloc (.cells #[.int .i64 a, .int .i64 b, .int .i64 c, .int .i64 d] 3)) := by (repeat first | with_reducible exact Below.refl _ _ | (with_reducible refine Below.alloc ?_ ?_ _; rotate_left; exact (by first | omega | (simp; done) | (simp; omega))))
  obtain ⟨W, hW⟩ : ∃ W, ((w.alloc (.cells #[.int .i64 a, .int .i64 b] 55)).alloc (.cells #[.int .i64 c, .int .i64 d] 55)).alloc (.cells #[.int .i64 a, .int .i64 b, .int .i64 c, .int .i64 d] 3) = W := ⟨_, rfl⟩
  rw [hW] at HC p0 p1 p2 p3 hB ⊢
  clear hW
  go_loopw [6] (fun i wr => ∃ j : Nat, j ≤ 4 ∧ i = .int .i64 j ∧ wr = W ∧ Hid (∀ (k : Nat) (x : Int), k < j → ([a, b, c, d] : List Int)[k]? = some x → wthn x (-1000) 1000 = true)) (fun i _ => 4 - (intOf i).toNat)
  case atStart => exact ⟨0, by omega, rfl, rfl, Lib.hid (fun k x hk => absurd hk (Nat.not_lt_zero k))⟩
  case round =>
    obtain ⟨j, hj, rfl, rfl, HA⟩ := hrel
    by_cases hlt : j < 4
    · obtain ⟨x, hx⟩ : ∃ x, ([a, b, c, d] : List Int)[j]? = some x := ⟨_, List.getElem?_eq_getElem (by simpa using hlt)⟩
      have x0 := HC.out j x hx
      have HX := Lib.hid hx
      clear hx
      have jc : (0 : Int) ≤ j := by omega
      have j4 : (j : Int) < 4 := by omega
      have jn : ((j : Int)).toNat = j := by omega
      have HW := Lib.hid (fun V => rwithin2_any x (-1000) 1000 V)
      cases hw : wthn x (-1000) 1000
      · rw [hw] at HW
        obtain rfl : G = 0 := HN.out j x HX.out hw
        clear HN HY HA hw
        go_wp2_with (go_at_call 38; refine (HW.out _).mono ?_; rintro e w' ⟨rfl, rfl⟩)
        go_ret
        exact ⟨rfl, by (repeat with_reducible assumption)⟩
      · rw [hw] at HW
        have HA' : Hid (∀ (k : Nat) (x : Int), k < j + 1 → ([a, b, c, d] : List Int)[k]? = some x → wthn x (-1000) 1000 = true) := Lib.hid (fun k y hk hy => by
          by_cases h : k < j
          · exact HA.out k y h hy
          · obtain rfl : k = j := by omega
            obtain rfl : x = y := Option.some.inj (HX.out.symm.trans hy)
            exact hw)
        clear HA hw HX
        go_wp2_with (go_at_call 38; refine (HW.out _).mono ?_; rintro e w' ⟨rfl, rfl⟩)
        go_roundw
        case rel => exact ⟨j + 1, by omega, by go_num, by first | rfl | trivial, HA'⟩
        case measure => simp [intOf]; omega
    · have HA2 := HY.out (fun k x hx => HA.out k x (by have := (List.getElem?_eq_some_iff.1 hx).1; simp at this; omega) hx)
      have j4 : ¬ (j : Int) < 4 := by omega
      have j5 : decide ((j : Int) < 4) = false := decide_eq_false j4
      obtain ⟨hG, ⟨⟨a0, a1⟩, b0, b1⟩, ⟨c0, c1⟩, d0, d1⟩ := HA2
      have HE := Lib.hid hG
      clear HA HN HY HC hG
      have s1 := sq_bd (x := a - c) (by omega) (by omega)
      have s2 := sq_bd (x := b - d) (by omega) (by omega)
      have e1 : IntKind.i64.wrap (a - c) = a - c := IntWalk.i64_in _ (by omega)
      have e2 : IntKind.i64.wrap (b - d) = b - d := IntWalk.i64_in _ (by omega)
      obtain ⟨g0, g1⟩ := HB
      obtain ⟨x, hx⟩ : ∃ x, a - c = x := ⟨_, rfl⟩
      obtain ⟨y, hy⟩ : ∃ y, b - d = y := ⟨_, rfl⟩
      rw [hx] at s1 e1 HE
      rw [hy] at s2 e2 HE
      obtain ⟨p, hp⟩ : ∃ p, x * x = p := ⟨_, rfl⟩
      obtain ⟨q, hq⟩ : ∃ q, y * y = q := ⟨_, rfl⟩
      rw [hp] at s1 HE
      rw [hq] at s2 HE
      have k0 : ¬(4 + p + q = 0) := by omega
      have k1 : ((4 + p + q) == 0) = false := by rw [beq_eq_false_iff_ne]; omega
      have k2 : (1000000 : Int).tdiv (4 + p + q) = G := by rw [HE.out]; exact Int.tdiv_eq_ediv_of_nonneg (by omega)
      have k3 : (1000000 : Int) / (4 + p + q) = G := HE.out.symm
      clear HE hlt
      go_wp2_with fail
      go_ret
      exact ⟨rfl, by (repeat with_reducible assumption)⟩
end
end Go.Proofs.YtapldonpflgnfaaDoor
