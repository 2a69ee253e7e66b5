import Derived.Test.YtkhahbnagbjbiaaGreatNBJ
import Derived.Test.YtkhahbnagbjbiaaGreatNBP
import Derived.Test.YtkhahbnagbjbiaaGreatNBQ
import Derived.Test.YtkhahbnagbjbiaaGreatRows
import Derived.KernelRfl
import Derived.Laws.StructEq
section
/- The specification of layer 3: Run, SameStates, over this seat's translation (written by ax_co3.py). -/
namespace Go.Proofs.YtkhahbnagbjbiaaGreat
set_option linter.unusedVariables false
set_option linter.unusedSimpArgs false
open Go.RowKit

def yA (ys : List (StR × StD)) (k : Nat) : StR × StD := ys.getD k (zeroR, ⟨0, ⟨[], [], []⟩, [], []⟩)
theorem yA_get {ys : List (StR × StD)} {k : Nat} (h : k < ys.length) : ys[k]? = some (yA ys k) := getD_get h
theorem yA_mem {ys : List (StR × StD)} {k : Nat} (h : k < ys.length) : yA ys k ∈ ys := List.mem_of_getElem? (yA_get h)
theorem yC_flat : ∀ (ys : List (StR × StD)) (k j : Nat) (p : StR × StD), ys[k]? = some p → j < 6 → (ys.flatMap yC)[k * 6 + j]? = (yC p)[j]?
  | [], k, j, p, h, _ => by simp at h
  | y :: ys, 0, j, p, h, hj => by
    simp only [List.getElem?_cons_zero, Option.some.injEq] at h
    subst h
    rw [List.flatMap_cons, Nat.zero_mul, Nat.zero_add, List.getElem?_append_left (by show j < 6; exact hj)]
  | y :: ys, k + 1, j, p, h, hj => by
    rw [List.getElem?_cons_succ] at h
    have e : (yC y).length = 6 := rfl
    rw [List.flatMap_cons, List.getElem?_append_right (by rw [e]; omega), e, show (k + 1) * 6 + j - 6 = k * 6 + j by omega]
    exact yC_flat ys k j p h hj
/-- a list of states that has been made, each one's lists in one of the snapshots -/
def RowS (B : Nat) (sts : Nat → StD) (k : Nat) (ys : List (StR × StD)) (V : Snaps) : Prop := ys.length = k ∧ ∀ (j : Nat) (p : StR × StD), ys[j]? = some p → p.2 = sts j ∧ ∃ lo u, (lo, u) ∈ V ∧ B ≤ lo ∧ IsS u p.1 p.2 ∧ p.1.All (fun b => lo ≤ b)
theorem RowS.isS {B k : Nat} {sts : Nat → StD} {ys : List (StR × StD)} {V : Snaps} {E : Cfg} {L : Boxes} {w : World} (h : RowS B sts k ys V) (hs : Sta E V L w) {j : Nat} (hj : j < k) : IsS w (yA ys j).1 (sts j) := by
  obtain ⟨h1, lo, u, hu, _, h3, h4⟩ := h.2 j _ (yA_get (by rw [h.1]; exact hj))
  rw [← h1]
  exact hs.isS hu h3 h4
theorem RowS.one {B lo : Nat} {sts : Nat → StD} {x : StR} {u : World} {V : Snaps} (hB : B ≤ lo) (hu : (lo, u) ∈ V) (h : IsS u x (sts 0)) (hA : x.All (fun b => lo ≤ b)) : RowS B sts 1 [(x, sts 0)] V :=
  ⟨rfl, fun j p hp => by
    obtain ⟨hj, e⟩ := List.getElem?_eq_some_iff.1 hp
    have hj0 : j = 0 := by simp at hj; omega
    subst hj0
    simp only [List.getElem_cons_zero] at e
    subst e
    exact ⟨rfl, lo, u, hu, hB, h, hA⟩⟩
theorem RowS.snoc {B k lo : Nat} {sts : Nat → StD} {ys : List (StR × StD)} {V : Snaps} {x : StR} {u : World} (h : RowS B sts k ys V) (hB : B ≤ lo) (hx : IsS u x (sts k)) (hA : x.All (fun b => lo ≤ b)) : RowS B sts (k + 1) (ys ++ [(x, sts k)]) ((lo, u) :: V) :=
  ⟨by rw [List.length_append, h.1]; rfl, fun j p hp => by
    by_cases hj : j < ys.length
    · rw [List.getElem?_append_left hj] at hp
      obtain ⟨h1, lo', u', hu, h2⟩ := h.2 j p hp
      exact ⟨h1, lo', u', List.mem_cons_of_mem _ hu, h2⟩
    · rw [List.getElem?_append_right (by omega)] at hp
      have hj0 : j - ys.length = 0 := by
        obtain ⟨h, _⟩ := List.getElem?_eq_some_iff.1 hp
        simp at h; omega
      rw [hj0] at hp
      cases hp
      have hjk : j = k := by have := h.1; omega
      subst hjk
      exact ⟨rfl, lo, u, List.mem_cons_self, hB, hx, hA⟩⟩
theorem RowS.cell {B k : Nat} {sts : Nat → StD} {ys : List (StR × StD)} {V : Snaps} {cs : List Value} (h : RowS B sts k ys V) (hc : cs = ys.flatMap yC) {j i : Nat} {v : Value} (hj : j < k) (hv : (stC (yA ys j).1 (sts j).tick)[i]? = some v) : cs[0 + j * 6 + 0 + i]? = some v := by
  have hg := yA_get (ys := ys) (k := j) (by rw [h.1]; exact hj)
  have h1 := (h.2 j _ hg).1
  have hi : i < 6 := (List.getElem?_eq_some_iff.1 hv).1
  rw [hc, show 0 + j * 6 + 0 + i = j * 6 + i by omega, yC_flat ys j i _ hg hi]
  show (stC (yA ys j).1 (yA ys j).2.tick)[i]? = some v
  rw [h1]; exact hv
theorem RowS.map {B n : Nat} {sts : Nat → StD} {ys : List (StR × StD)} {V : Snaps} (h : RowS B sts n ys V) : ys.map Prod.snd = (List.range n).map sts := by
  refine List.ext_getElem? fun j => ?_
  rw [List.getElem?_map, List.getElem?_map]
  by_cases hj : j < n
  · obtain ⟨p, hp⟩ : ∃ p, ys[j]? = some p := ⟨_, List.getElem?_eq_getElem (by rw [h.1]; exact hj)⟩
    rw [hp, List.getElem?_range hj]
    simp [(h.2 j p hp).1]
  · rw [List.getElem?_eq_none (by rw [h.1]; omega), List.getElem?_eq_none (by simp; omega)]; rfl
theorem RowS.all {B n : Nat} {sts : Nat → StD} {ys : List (StR × StD)} {V : Snaps} {E : Cfg} {L : Boxes} {w : World} (h : RowS B sts n ys V) (hs : Sta E V L w) : ∀ p ∈ ys, IsS w p.1 p.2 ∧ p.1.All (fun b => B ≤ b) := fun p hp => by
  obtain ⟨j, hj⟩ := List.getElem?_of_mem hp
  obtain ⟨_, lo, u, hu, h2, h3, h4⟩ := h.2 j p hj
  exact ⟨hs.isS hu h3 h4, h4.mono (fun b hb => Nat.le_trans h2 hb)⟩
theorem gok_one (b : Nat) (x : StR) (n : Int) : gok (some (b, 1, [])) 1 6 (stC x n) := ⟨rfl, (fun h => by cases h), fun b c sp h => by cases h; exact ⟨Nat.le_refl _, by omega, rfl⟩⟩
theorem outSS_grown {N : Nat} {D : List Deferred} {w0 w : World} {V : Snaps} {L : Boxes} {o : Gr} {cs : List Value} {ys : List (StR × StD)} {n : Nat} {sts : Nat → StD} {L' : List StD} (hs : Sta ⟨N, D, w0, []⟩ V L w) (hT : ∀ x ∈ gt o cs, x ∈ L) (hg : gok o n 6 cs) (hc : cs = ys.flatMap yC) (h : RowS w0.heap.size sts n ys V) (hL : (List.range n).map sts = L') : OutSS w0 0 L' (.returned (.tuple #[.slice (gA o) n (gC o), .int .i64 0])) w :=
  ⟨gA o, n, gC o, ys, rfl, hs.grown (z := 6) (enc := yC) (fun _ => rfl) hT hg hc.symm h.1, by rw [h.map, hL], h.all hs, hs.below⟩
theorem rsame2 (P Q : StR) (S T : StD) (w : World) (h : S = T) (a1 : IsS w P S) (a2 : IsS w Q T) : Calls Tryz.prog 11 #[P.v S.tick, Q.v T.tick] w (Ret (.bool true) w) := by
  subst h
  exact rsameS_refl P Q S w a1 a2
theorem yA_snd {ys zs : List (StR × StD)} (h : ys.map Prod.snd = zs.map Prod.snd) (k : Nat) : (yA ys k).2 = (yA zs k).2 := by
  have h1 := congrArg (fun l : List StD => l[k]?) h
  simp only [List.getElem?_map] at h1
  simp only [yA, List.getD_eq_getElem?_getD]
  cases e1 : ys[k]? <;> cases e2 : zs[k]? <;> rw [e1, e2] at h1 <;> simp at h1 <;> simp [h1]

set_option maxRecDepth 100000 in
theorem rsameStates_any (A1 A2 : Option Addr) (n1 n2 c1 c2 : Nat) (ys zs : List (StR × StD)) (w : World) (hI1 : IsT 6 yC w A1 n1 ys) (hI2 : IsT 6 yC w A2 n2 zs) (hE : ys.map Prod.snd = zs.map Prod.snd) (hy : ∀ p ∈ ys, IsS w p.1 p.2) (hz : ∀ p ∈ zs, IsS w p.1 p.2) (hn : n1 ≤ 100000) : Calls Tryz.prog 16 #[(.slice A1 n1 c1), (.slice A2 n2 c2)] w (Ret (.bool true) w) := by
  have e1 := hI1.1
  have e2 := hI2.1
  have hnn : n1 = n2 := by have := congrArg List.length hE; simp at this; omega
  refine calls_ax (vs := [(.slice A1 n1 c1), (.slice A2 n2 c2)]) Tryz.func16 rfl rfl ?_
  refine ac_seq (ac_region ?_)
  refine al_p (q_assign rfl) ?_
  refine al_end (aq_then ?_)
  refine ac_seq ?_
  refine ac_seq (ac_region ?_)
  refine al_p (q_move rfl) ?_
  refine al_p (q_lenS rfl Tryz.runUnderlying47) ?_
  refine al_p (q_move rfl) ?_
  refine al_p (q_lenS rfl Tryz.runUnderlying47) ?_
  refine al_p (q_same (v' := .bool false) (q_neq rfl rfl) (by simp [hnn])) ?_
  refine al_end (aq_then ?_)
  refine ac_condF rfl ?_
  refine ac_skip ?_
  refine aq_then ?_
  refine ac_seq ?_
  refine ac_seq (ac_region ?_)
  refine al_p (q_assign rfl) ?_
  refine al_end (aq_then ?_)
  refine ac_block ?_
  refine ac_loop (β := Nat) (fun k => k ≤ n1) (fun k => [(0, (.slice A1 n1 c1)), (1, (.slice A2 n2 c2)), (4, (.bool false)), (5, (.int .i64 (k : Int)))]) (fun _ => _) (fun k => []) (fun k => n1 - k) 0 (by omega) ⟨rfl, rfl, rfl, rfl, trivial⟩ (fun w9 hs => hs) (fun k hF1 => ?_)
  refine ac_seq ?_
  refine ac_seq (ac_region ?_)
  refine al_p (q_move rfl) ?_
  refine al_p (q_move rfl) ?_
  refine al_p (q_lenS rfl Tryz.runUnderlying47) ?_
  refine al_p (q_lss rfl rfl) ?_
  refine al_end (aq_then ?_)
  refine ac_cond rfl (fun h1 => ?_) (fun h1 => ?_)
  · have hkn : k < n1 := by have := of_decide_eq_true h1; omega
    obtain ⟨b11, o11, hA1, hlt1, hget1⟩ := hI1.2 (by omega)
    have hx1 := yA_get (ys := ys) (k := k) (by omega)
    obtain ⟨b21, o21, hA2, hlt2, hget2⟩ := hI2.2 (by omega)
    have hx2 := yA_get (ys := zs) (k := k) (by omega)
    refine ac_skip ?_
    refine aq_then ?_
    refine ac_seq ?_
    refine ac_block ?_
    refine ac_seq ?_
    refine ac_draw 9 (by kernel_rfl) (by kernel_rfl) ?_
    refine ah_t 0 (fun w9 hs => hs) rfl rfl (by kernel_rfl) (q_move rfl) ?_
    refine ah_t 1 (fun w9 hs => hs) rfl rfl (by kernel_rfl) (q_move rfl) ?_
    refine ah_t 2 (fun w9 hs => hs) rfl rfl (by kernel_rfl) (q_indexAddrA (i := k) (o11 + k * 6 + 0) hA1 rfl rfl rfl (by omega) Tryz.runUnderlying47 Tryz.sizeOf35 rfl) ?_
    refine ah_t 3 (fun w9 hs => hs) rfl rfl (by kernel_rfl) (q_loadXs (stC (yA ys k).1 (yA ys k).2.tick) rfl Tryz.isAgg35 Tryz.sizeOf35 (fun w9 hs j9 v9 h9 => by rw [addr_add]; exact (hs.below.cell (p := ⟨_, _, none⟩) hlt1).trans ((hget1 k _ hx1) j9 v9 h9)) rfl) ?_
    refine ah_t 4 (fun w9 hs => hs) rfl rfl (by kernel_rfl) (q_move rfl) ?_
    refine ah_t 5 (fun w9 hs => hs) rfl rfl (by kernel_rfl) (q_move rfl) ?_
    refine ah_t 6 (fun w9 hs => hs) rfl rfl (by kernel_rfl) (q_indexAddrA (i := k) (o21 + k * 6 + 0) hA2 rfl rfl rfl (by omega) Tryz.runUnderlying47 Tryz.sizeOf35 rfl) ?_
    refine ah_t 7 (fun w9 hs => hs) rfl rfl (by kernel_rfl) (q_loadXs (stC (yA zs k).1 (yA zs k).2.tick) rfl Tryz.isAgg35 Tryz.sizeOf35 (fun w9 hs j9 v9 h9 => by rw [addr_add]; exact (hs.below.cell (p := ⟨_, _, none⟩) hlt2).trans ((hget2 k _ hx2) j9 v9 h9)) rfl) ?_
    refine ah_one 8 rfl (by kernel_rfl) (fun hok1 hcl1 => ?_)
    refine al_call Tryz.call11 (.cons rfl (.cons rfl .nil)) rfl rfl (fun w1 hs1 => ?_)
    refine (rsame2 (yA ys k).1 (yA zs k).1 (yA ys k).2 (yA zs k).2 _ (yA_snd hE k) ((hy _ (yA_mem (by omega))).below hs1.below) ((hz _ (yA_mem (by omega))).below hs1.below)).mono ?_
    rintro e u1 ⟨rfl, hb_1⟩
    refine ⟨_, rfl, hb_1, ?_⟩
    clear hs1
    refine al_end (ah_back hok1 hcl1 (fun w9 hs => (hs.fewer 1 rfl)) ?_)
    refine ah_t 9 (fun w9 hs => (hs.fewer 1 rfl)) rfl rfl (by kernel_rfl) (q_not rfl) ?_
    refine ah_done (by kernel_rfl) ?_
    refine aq_then ?_
    refine ac_condF rfl ?_
    refine ac_skip ?_
    refine aq_inN ?_
    refine aq_then ?_
    refine ac_region ?_
    refine al_p (q_move rfl) ?_
    refine al_p (q_add rfl rfl (by omega)) ?_
    refine al_p (q_assign rfl) ?_
    refine al_end (aq_then ?_)
    skip
    refine aq_round (k + 1) (by omega) (by omega) ⟨rfl, rfl, rfl, rfl, trivial⟩ (fun w9 hs => (hs.fewer 1 rfl))
  · skip
    refine ac_exit ?_
    refine aq_thenE ?_
    refine aq_thenE ?_
    refine aq_hit ?_
    refine aq_then ?_
    refine ac_seq (ac_region ?_)
    refine al_p (q_assign rfl) ?_
    refine al_end (aq_then ?_)
    refine ac_ret ?_
    refine ret1 Tryz.results16 rfl (fun w9 hs => ?_)
    exact ⟨rfl, hs.below⟩

theorem koe_bs_apiState_1_0_ (c0_0 c0_1 c0_2 c0_3 c0_4 c0_5 : Value) : ∀ w, (Instr.buildSlice 47 1 #[(0, .agg #[c0_0, c0_1, c0_2, c0_3, c0_4, c0_5])]).run Tryz.prog w = .ok (.slice (some ⟨w.heap.size, 0, none⟩) 1 1) (w.alloc (.cells [c0_0, c0_1, c0_2, c0_3, c0_4, c0_5].toArray 35)) := by
  intro w; (simp [Instr.buildSlice, Instr.fill, cells_agg, newRow, Tryz.runUnderlying47, Tryz.zeroValue35, Tryz.sizeOf35] <;> (rw [(by kernel_rfl : Array.range 6 = #[0, 1, 2, 3, 4, 5])]; simp [Value.cells]))

set_option maxRecDepth 100000 in
theorem rrun_any (R : MachR) (M : MachD) (RS : StR) (S : StD) (A : Option Addr) (n c : Nat) (xs : List DrvX) (w : World) (hM : IsM w R M) (hS : IsS w RS S) (hI : IsT 2 (fun x : DrvX => DrvR.cells x.1) w A n xs) (hX : ∀ x ∈ xs, OpD w x.1 x.2.1 x.2.2) (hn : n ≤ 60) : Calls Tryz.prog 15 #[(.agg (machCells R M)), (RS.v S.tick), (.slice A n c)] w (OutSS w (runE M S xs) (runL M S xs)) := by
  have n1 := hI.1
  refine calls_ax (vs := [(.agg (machCells R M)), (RS.v S.tick), (.slice A n c)]) Tryz.func15 rfl rfl ?_
  refine ac_seq (ac_region ?_)
  refine al_new (fun b => .pointer (some ⟨b, 0, none⟩)) (r_box rfl rfl) rfl rfl rfl ?_
  intro b1
  refine al_new (fun b => .pointer (some ⟨b, 0, none⟩)) (r_box rfl rfl) rfl rfl rfl ?_
  intro b2
  refine al_p (q_assign rfl) ?_
  refine al_p (q_assign rfl) ?_
  refine al_end (aq_then ?_)
  refine ac_seq ?_
  refine ac_seq (ac_region ?_)
  refine al_p (q_loadAll (i := 1) rfl rfl Tryz.isAgg29 Tryz.sizeOf29 rfl) ?_
  refine al_p (q_loadAll (i := 0) rfl rfl Tryz.isAgg35 Tryz.sizeOf35 rfl) ?_
  refine al_call Tryz.call26 (.cons rfl (.cons rfl .nil)) rfl rfl (fun w1 hs1 => ?_)
  refine (rvalidState_any R M RS S _ (hM.below hs1.below) (hS.below hs1.below)).mono ?_
  rintro e u1 ⟨rfl, hb_1⟩
  refine ⟨_, rfl, hb_1, ?_⟩
  clear hs1
  refine al_p (q_not rfl) ?_
  refine al_end (aq_then ?_)
  refine ac_cond rfl (fun h1 => ?_) (fun h1 => ?_)
  · have hE : runE M S xs = 1 := if_neg (fun h => by rw [h.1] at h1; cases h1)
    refine ac_seq (ac_region ?_)
    refine al_p (q_assign rfl) ?_
    refine al_p (q_assign rfl) ?_
    refine al_end (aq_then ?_)
    refine ac_ret ?_
    refine aq_thenR ?_
    refine ret2 Tryz.results15 rfl rfl (fun w9 hs => ?_)
    exact OutSS.bad (runL_bad hE (by decide)) ⟨by rw [hE], hs.below⟩
  · have hv : validS M S = true := bnot_f h1
    have hf := fitS_iff.1 hv
    have hc := hf.cur.check
    obtain ⟨s1, s2⟩ := smallC hM hf.cur.check
    have hft := hf.tick
    have s3 := cellN_bd hf.cur.check
    have s4 := hf.cur.plasma.1
    have s5 := hS.cur.plasma.1
    have s6 : RS.Q.lc ≤ 64 := by unfold cellN at s3; omega
    have s7 := hS.cur.coils.1
    have s8 := hS.cur.shells.1
    have s9 := hS.heat.1
    have s10 := hS.trip.1
    have s11 := hf.cur.coils.1
    have s12 := hf.cur.shells.1
    have s13 := hf.heat.1
    have s14 := hf.trip
    have s15 := hM.coils.1
    have s16 := hM.shells.1
    refine ac_skip ?_
    refine aq_then ?_
    refine ac_seq ?_
    refine ac_seq (ac_region ?_)
    refine al_p (q_assign rfl) ?_
    refine al_end (aq_then ?_)
    refine ac_block ?_
    refine ac_loop (β := Nat) (fun k => k ≤ n ∧ ∀ j, j < k → vD M (dsX xs j) = true) (fun k => [(2, (.slice A n c)), (3, (.pointer (some ⟨b1, 0, none⟩))), (4, (.pointer (some ⟨b2, 0, none⟩))), (6, (.slice none 0 0)), (7, (.int .i64 0)), (8, (.int .i64 (k : Int)))]) (fun _ => _) (fun k => [(b2, _), (b1, _)]) (fun k => n - k) 0 ⟨by omega, fun j h => by omega⟩ ⟨rfl, rfl, rfl, rfl, rfl, rfl, trivial⟩ (fun w9 hs => hs) (fun k hF1 => ?_)
    refine ac_seq ?_
    refine ac_seq (ac_region ?_)
    refine al_p (q_move rfl) ?_
    refine al_p (q_move rfl) ?_
    refine al_p (q_lenS rfl Tryz.runUnderlying46) ?_
    refine al_p (q_lss rfl rfl) ?_
    refine al_end (aq_then ?_)
    refine ac_cond rfl (fun h2 => ?_) (fun h2 => ?_)
    · have hkn : k < n := by have := of_decide_eq_true h2; omega
      obtain ⟨b11, o11, hA1, hlt1, hget1⟩ := hI.2 (by omega)
      have hx1 := dA_get (xs := xs) (k := k) (by omega)
      refine ac_skip ?_
      refine aq_then ?_
      refine ac_seq ?_
      refine ac_block ?_
      refine ac_seq ?_
      refine ac_draw 6 (by kernel_rfl) (by kernel_rfl) ?_
      refine ah_t 0 (fun w9 hs => hs) rfl rfl (by kernel_rfl) (q_loadAll (i := 1) rfl rfl Tryz.isAgg29 Tryz.sizeOf29 rfl) ?_
      refine ah_t 1 (fun w9 hs => hs) rfl rfl (by kernel_rfl) (q_move rfl) ?_
      refine ah_t 2 (fun w9 hs => hs) rfl rfl (by kernel_rfl) (q_move rfl) ?_
      refine ah_t 3 (fun w9 hs => hs) rfl rfl (by kernel_rfl) (q_indexAddrA (i := k) (o11 + k * 2 + 0) hA1 rfl rfl rfl (by omega) Tryz.runUnderlying46 Tryz.sizeOf37 rfl) ?_
      refine ah_t 4 (fun w9 hs => hs) rfl rfl (by kernel_rfl) (q_loadXs (DrvR.cells (dA xs k).1) rfl Tryz.isAgg37 Tryz.sizeOf37 (fun w9 hs j9 v9 h9 => by rw [addr_add]; exact (hs.below.cell (p := ⟨_, _, none⟩) hlt1).trans ((hget1 k _ hx1) j9 v9 h9)) rfl) ?_
      refine ah_one 5 rfl (by kernel_rfl) (fun hok1 hcl1 => ?_)
      refine al_call Tryz.call27 (.cons rfl (.cons rfl .nil)) rfl rfl (fun w2 hs2 => ?_)
      have hp := hX _ (dA_mem (xs := xs) (k := k) (by omega))
      refine (rvalidDrive_any R M (dA xs k).1.A1 (dA xs k).1.A2 (dA xs k).1.l1 (dA xs k).1.c1 (dA xs k).1.l2 (dA xs k).1.c2 (dA xs k).2.1 (dA xs k).2.2 _ (hM.below hs2.below) hc (hp.ch.below hs2.below) (hp.pl.below hs2.below)).mono ?_
      rintro e u2 ⟨rfl, hb_2⟩
      refine ⟨_, rfl, hb_2, ?_⟩
      clear hs2
      refine al_end (ah_back hok1 hcl1 (fun w9 hs => (hs.fewer 1 rfl)) ?_)
      refine ah_t 6 (fun w9 hs => (hs.fewer 1 rfl)) rfl rfl (by kernel_rfl) (q_not rfl) ?_
      refine ah_done (by kernel_rfl) ?_
      refine aq_then ?_
      refine ac_cond rfl (fun h3 => ?_) (fun h3 => ?_)
      · have hvk : vD M (dsX xs k) = false := bnot_t h3
        have hE : runE M S xs = 1 := if_neg (fun h => by have := h.2 k (by omega); rw [hvk] at this; cases this)
        refine ac_seq (ac_region ?_)
        refine al_p (q_assign rfl) ?_
        refine al_p (q_assign rfl) ?_
        refine al_end (aq_then ?_)
        refine ac_ret ?_
        refine aq_inR ?_
        refine aq_thenR ?_
        refine aq_thenR ?_
        refine aq_inR ?_
        refine aq_thenR ?_
        refine ret2 Tryz.results15 rfl rfl (fun w9 hs => ?_)
        exact OutSS.bad (runL_bad hE (by decide)) ⟨by rw [hE], hs.below⟩
      · have hvk : vD M (dsX xs k) = true := bnot_f h3
        refine ac_skip ?_
        refine aq_inN ?_
        refine aq_then ?_
        refine ac_region ?_
        refine al_p (q_move rfl) ?_
        refine al_p (q_add rfl rfl (by omega)) ?_
        refine al_p (q_assign rfl) ?_
        refine al_end (aq_then ?_)
        skip
        refine aq_round (k + 1) (by omega) ⟨by omega, fun j h1 => (Nat.lt_or_ge j k).elim (fun g => hF1.2 j g) (fun g => by (have e : j = k := by omega); rw [e]; exact hvk)⟩ ⟨rfl, rfl, rfl, rfl, rfl, rfl, trivial⟩ (fun w9 hs => (hs.fewer 1 rfl))
    · have hke : k = n := by have := of_decide_eq_false h2; omega
      have hall : allVD M xs := fun j hj => hF1.2 j (by omega)
      have hDf : ∀ k, k < n → FitD M (dsX xs k) := fun k hk => vD_fit (hall k (by omega))
      refine ac_exit ?_
      refine aq_thenE ?_
      refine aq_thenE ?_
      refine aq_hit ?_
      refine aq_then ?_
      refine ac_seq ?_
      refine ac_block ?_
      refine ac_seq (ac_region ?_)
      refine al_p (q_fieldAddr 0 rfl Tryz.runUnderlying35 rfl Tryz.sizeOf3 (by decide) rfl) ?_
      refine al_p (q_load (i := 0) rfl rfl rfl Tryz.isAgg3) ?_
      refine al_p (q_move rfl) ?_
      refine al_p (q_lenS rfl Tryz.runUnderlying46) ?_
      refine al_p (q_add rfl rfl (by omega)) ?_
      refine al_p (q_gtr rfl rfl) ?_
      refine al_p (q_assign rfl) ?_
      refine al_end (aq_then ?_)
      refine ac_cond rfl (fun h4 => ?_) (fun h4 => ?_)
      · have hE : runE M S xs = 7 := by rw [runE, if_pos ⟨hv, hall⟩, if_pos (by have := of_decide_eq_true h4; omega)]
        refine ac_seq (ac_region ?_)
        refine al_p (q_assign rfl) ?_
        refine al_p (q_assign rfl) ?_
        refine al_end (aq_then ?_)
        refine ac_ret ?_
        refine aq_inR ?_
        refine aq_thenR ?_
        refine ret2 Tryz.results15 rfl rfl (fun w9 hs => ?_)
        exact OutSS.bad (runL_bad hE (by decide)) ⟨by rw [hE], hs.below⟩
      · have ht9 : S.tick + (n : Int) ≤ 1000000000 := by have := of_decide_eq_false h4; omega
        have hE : runE M S xs = 0 := by rw [runE, if_pos ⟨hv, hall⟩, if_neg (by omega)]
        have hFit : ∀ k, k ≤ n → FitS M (stepsD M S (dsX xs) k) := fun k hk => steps_fit hf k (by omega) (fun j hj => hDf j (by omega))
        refine ac_seq (ac_region ?_)
        refine al_p (q_move rfl) ?_
        refine al_p (q_lenS rfl Tryz.runUnderlying46) ?_
        refine al_p (q_gtr rfl rfl) ?_
        refine al_p (q_assign rfl) ?_
        refine al_end (aq_then ?_)
        refine ac_cond rfl (fun h5 => ?_) (fun h5 => ?_)
        · exfalso; have := of_decide_eq_true h5; omega
        · skip
          refine ac_skip ?_
          refine aq_inN ?_
          refine aq_then ?_
          refine ac_seq (ac_region ?_)
          refine al_p (q_loadAll (i := 0) rfl rfl Tryz.isAgg35 Tryz.sizeOf35 rfl) ?_
          refine al_call Tryz.call37 (.cons rfl .nil) rfl rfl (fun w3 hs3 => ?_)
          have hz := hs3.below.size
          refine (rcopy_any RS S _ (hS.below hs3.below) (by omega) (by omega) (by omega) (by omega) (by omega)).mono ?_
          rintro e u3 ⟨x0, rfl, X_0, N_0, hb_3⟩
          refine ⟨_, rfl, hb_3, ?_⟩
          clear hs3
          refine al_new (fun b => .slice (some ⟨b, 0, none⟩) 1 1) (r_buildSlice (.cons rfl .nil) (koe_bs_apiState_1_0_ _ _ _ _ _ _)) rfl rfl rfl ?_
          intro b3
          refine al_p (q_assign rfl) ?_
          refine al_end (aq_then ?_)
          refine ac_seq ?_
          refine ac_seq ?_
          refine ac_toTail (n := 1) (cs := stC x0 S.tick) (G := []) (.s (.s (.z))) (.s (.s (.z))) ?_
          refine ac_region ?_
          refine al_p (q_assign rfl) ?_
          refine al_end (aq_then ?_)
          refine ac_block ?_
          refine ac_loop (β := Nat × Gr × List Value × List (StR × StD) × Snaps) (fun x2 => x2.1 ≤ n ∧ gok x2.2.1 (x2.1 + 1) 6 x2.2.2.1 ∧ x2.2.2.1 = x2.2.2.2.1.flatMap yC ∧ RowS w.heap.size (stepsD M S (dsX xs)) (x2.1 + 1) x2.2.2.2.1 x2.2.2.2.2) (fun x2 => [(2, (.slice A n c)), (3, (.pointer (some ⟨b1, 0, none⟩))), (6, (.slice none 0 0)), (7, (.int .i64 0)), (9, (.slice (gA x2.2.1) (x2.1 + 1) (gC x2.2.1))), (10, (.int .i64 (x2.1 : Int)))]) (fun x2 => x2.2.2.2.2) (fun x2 => (b2, _) :: (b1, _) :: (gt x2.2.1 x2.2.2.1 ++ ([]))) (fun x2 => n - x2.1) (0, some (b3, 1, []), stC x0 S.tick, [(x0, S)], [_]) ⟨by simp, gok_one _ x0 S.tick, rfl, RowS.one (sts := stepsD M S (dsX xs)) hz (.head _) X_0 N_0⟩ ⟨rfl, rfl, rfl, rfl, rfl, rfl, trivial⟩ (fun w9 hs => hs.firstSnaps 1 rfl) (fun x2 hF2 => ?_)
          obtain ⟨hxl, hg2, hcs2, hrow⟩ := hF2
          obtain ⟨b_o, c_o, sp_o, ho2⟩ := hg2.some (by omega)
          have hA_o : gA x2.2.1 = some ⟨b_o, 0, none⟩ := by rw [ho2]; rfl
          refine ac_seq ?_
          refine ac_seq (ac_region ?_)
          refine al_p (q_move rfl) ?_
          refine al_p (q_move rfl) ?_
          refine al_p (q_lenS rfl Tryz.runUnderlying46) ?_
          refine al_p (q_lss rfl rfl) ?_
          refine al_end (aq_then ?_)
          refine ac_cond rfl (fun h6 => ?_) (fun h6 => ?_)
          · have hkl : x2.1 < n := by have := of_decide_eq_true h6; omega
            obtain ⟨b11, o11, hA1, hlt1, hget1⟩ := hI.2 (by omega)
            have hx1 := dA_get (xs := xs) (k := x2.1) (by omega)
            refine ac_skip ?_
            refine aq_then ?_
            refine ac_seq ?_
            refine ac_block ?_
            refine ac_drawL 12 (by kernel_rfl) (by kernel_rfl) ?_
            refine ahl_take 0 rfl (fun w9 hs => hs) rfl rfl rfl (by kernel_rfl) (by kernel_rfl) (by kernel_rfl) (fun _ _ _ h => h) rfl (q_move rfl) ?_
            refine ahl_take 1 rfl (fun w9 hs => hs) rfl rfl rfl (by kernel_rfl) (by kernel_rfl) (by kernel_rfl) (fun _ _ _ h => h) rfl (q_loadAll (i := 1) rfl rfl Tryz.isAgg29 Tryz.sizeOf29 rfl) ?_
            refine ahl_take 2 rfl (fun w9 hs => hs) rfl rfl rfl (by kernel_rfl) (by kernel_rfl) (by kernel_rfl) (fun _ _ _ h => h) rfl (q_move rfl) ?_
            refine ahl_take 3 rfl (fun w9 hs => hs) rfl rfl rfl (by kernel_rfl) (by kernel_rfl) (by kernel_rfl) (fun _ _ _ h => h) rfl (q_move rfl) ?_
            refine ahl_take 4 rfl (fun w9 hs => hs) rfl rfl rfl (by kernel_rfl) (by kernel_rfl) (by kernel_rfl) (fun _ _ _ h => h) rfl (q_indexAddrA (i := x2.1) (0 + x2.1 * 6 + 0) hA_o rfl rfl rfl (by omega) Tryz.runUnderlying47 Tryz.sizeOf35 rfl) ?_
            refine ahl_take 5 rfl (fun w9 hs => hs) rfl rfl rfl (by kernel_rfl) (by kernel_rfl) (by kernel_rfl) (fun _ _ _ h => h) rfl (q_loadXs (stC (yA x2.2.2.2.1 x2.1).1 (stepsD M S (dsX xs) x2.1).tick) rfl Tryz.isAgg35 Tryz.sizeOf35 (fun w9 hs j9 v9 h9 => by rw [addr_add]; exact hs.cellG (G := []) ho2 (.s (.s (.z))) (hrow.cell hcs2 (by omega) h9)) rfl) ?_
            refine ahl_take 6 rfl (fun w9 hs => hs) rfl rfl rfl (by kernel_rfl) (by kernel_rfl) (by kernel_rfl) (fun _ _ _ h => h) rfl (q_move rfl) ?_
            refine ahl_take 7 rfl (fun w9 hs => hs) rfl rfl rfl (by kernel_rfl) (by kernel_rfl) (by kernel_rfl) (fun _ _ _ h => h) rfl (q_move rfl) ?_
            refine ahl_take 8 rfl (fun w9 hs => hs) rfl rfl rfl (by kernel_rfl) (by kernel_rfl) (by kernel_rfl) (fun _ _ _ h => h) rfl (q_indexAddrA (i := x2.1) (o11 + x2.1 * 2 + 0) hA1 rfl rfl rfl (by omega) Tryz.runUnderlying46 Tryz.sizeOf37 rfl) ?_
            refine ahl_take 9 rfl (fun w9 hs => hs) rfl rfl rfl (by kernel_rfl) (by kernel_rfl) (by kernel_rfl) (fun _ _ _ h => h) rfl (q_loadXs (DrvR.cells (dA xs x2.1).1) rfl Tryz.isAgg37 Tryz.sizeOf37 (fun w9 hs j9 v9 h9 => by rw [addr_add]; exact (hs.below.cell (p := ⟨_, _, none⟩) hlt1).trans ((hget1 x2.1 _ hx1) j9 v9 h9)) rfl) ?_
            refine ahl_one 10 rfl (by kernel_rfl) (fun hok2 hcl2 => ?_)
            refine al_call Tryz.call28 (.cons rfl (.cons rfl (.cons rfl .nil))) rfl rfl (fun w4 hs4 => ?_)
            have hp := hX _ (dA_mem (xs := xs) (k := x2.1) (by omega))
            have hz9 := hs4.below.size
            refine (rstep_any R M (yA x2.2.2.2.1 x2.1).1 (stepsD M S (dsX xs) x2.1) (dA xs x2.1).1.A1 (dA xs x2.1).1.A2 (dA xs x2.1).1.l1 (dA xs x2.1).1.c1 (dA xs x2.1).1.l2 (dA xs x2.1).1.c2 (dA xs x2.1).2.1 (dA xs x2.1).2.2 _ (hM.below hs4.below) (hrow.isS hs4 (by omega)) (hFit x2.1 (by omega)) (hp.ch.below hs4.below) (hp.pl.below hs4.below) (hDf x2.1 (by omega)).ch (hDf x2.1 (by omega)).pl).mono ?_
            rintro e u4 ⟨x9, rfl, k1_, k2_, hb_4⟩
            refine ⟨_, rfl, hb_4, ?_⟩
            clear hs4
            refine al_end (ahl_back hok2 hcl2 (fun w9 hs => (hs.fewer 1 rfl)) ?_)
            refine ahl_one 11 rfl (by kernel_rfl) (fun hok3 hcl3 => ?_)
            refine al_new (fun b => .slice (some ⟨b, 0, none⟩) 1 1) (r_buildSlice (.cons rfl .nil) (koe_bs_apiState_1_0_ _ _ _ _ _ _)) rfl rfl rfl ?_
            intro b4
            refine al_end (ahl_back hok3 hcl3 (fun w9 hs => ((hs.fewer 1 rfl).tail 1 rfl)) ?_)
            refine ahl_one 12 rfl (by kernel_rfl) (fun hok4 hcl4 => ?_)
            refine al_grow (z := 6) (bytes := 128) (zv := (.agg #[.int .i64 0, .slice none 0 0, .slice none 0 0, .slice none 0 0, .slice none 0 0, .slice none 0 0])) (o := x2.2.1) (cs := x2.2.2.1) (vs := (stC x9 (stepsD M S (dsX xs) (x2.1 + 1)).tick)) rfl rfl (.s (.s (.s (.z)))) hg2 (Sor.box (j := 0) rfl rfl rfl) Tryz.underlying47 (by kernel_rfl) rfl (by omega) (by decide) rfl rfl (fun o_1 g_1 => ?_)
            refine ⟨_, (.s (.s (.s (.z)))), ?_⟩
            refine al_end (ahl_late hok4 hcl4 rfl ?_)
            refine ahl_one 13 rfl (by kernel_rfl) (fun hok5 hcl5 => ?_)
            refine al_p (q_assign rfl) ?_
            refine al_end (ahl_late hok5 hcl5 rfl ?_)
            refine ahl_done (by kernel_rfl) ?_
            refine aq_inN ?_
            refine aq_then ?_
            refine ac_region ?_
            refine al_p (q_move rfl) ?_
            refine al_p (q_add rfl rfl (by omega)) ?_
            refine al_p (q_assign rfl) ?_
            refine al_end (aq_then ?_)
            skip
            refine aq_round ((x2.1 + 1, o_1, (x2.2.2.1 ++ (stC x9 (stepsD M S (dsX xs) (x2.1 + 1)).tick)), x2.2.2.2.1 ++ [(x9, (stepsD M S (dsX xs) (x2.1 + 1)))], _ :: x2.2.2.2.2)) (by simp only; omega) ⟨by simp only; omega, g_1, by simp only; rw [hcs2, List.flatMap_append]; simp [yC], hrow.snoc (by omega) k1_ k2_⟩ ⟨rfl, rfl, rfl, rfl, rfl, rfl, trivial⟩ (fun w9 hs => (hs.tail 1 rfl))
          · have hke2 : x2.1 = n := by have := of_decide_eq_false h6; omega
            refine ac_exit ?_
            refine aq_thenE ?_
            refine aq_thenE ?_
            refine aq_hit ?_
            refine aq_then ?_
            refine ac_seq (ac_region ?_)
            refine al_p (q_move rfl) ?_
            refine al_p (q_assign rfl) ?_
            refine al_p (q_assign rfl) ?_
            refine al_end (aq_then ?_)
            refine ac_ret ?_
            refine ret2 Tryz.results15 rfl rfl (fun w9 hs => ?_)
            rw [hE]
            exact outSS_grown hs (fun y hy => by simp [hy]) hg2 hcs2 hrow (by rw [runL, if_pos hE, n1, ← hke2])

end Go.Proofs.YtkhahbnagbjbiaaGreat
end
section
/- The law CircuitRuns, over this seat's translation (written by ax_co4.py). -/
namespace Go.Proofs.YtkhahbnagbjbiaaGreat
set_option linter.unusedVariables false
set_option linter.unusedSimpArgs false
open Go.RowKit

theorem OpD.below {w w1 : World} {R : DrvR} {ch pl : List Int} (h : OpD w R ch pl) (hb : Below w.heap.size w w1) : OpD w1 R ch pl := ⟨h.ch.below hb, h.pl.below hb, h.k1, h.k2⟩
theorem runL_len (M : MachD) (S : StD) (xs : List DrvX) : (runL M S xs).length ≤ xs.length + 1 := by
  unfold runL; split <;> simp
theorem runL_ok {M : MachD} {S : StD} {xs : List DrvX} (h : runE M S xs = 0) : runL M S xs = (List.range (xs.length + 1)).map (stepsD M S (dsX xs)) := if_pos h
theorem runE_ok {M : MachD} {S : StD} {xs : List DrvX} (h : runE M S xs = 0) : validS M S = true ∧ allVD M xs ∧ S.tick + (xs.length : Int) ≤ 1000000000 := by
  unfold runE at h
  split at h
  · rename_i hv
    split at h
    · cases h
    · exact ⟨hv.1, hv.2, by omega⟩
  · cases h
theorem runE_of {M : MachD} {S : StD} {xs : List DrvX} (h1 : validS M S = true) (h2 : allVD M xs) (h3 : S.tick + (xs.length : Int) ≤ 1000000000) : runE M S xs = 0 := by
  rw [runE, if_pos ⟨h1, h2⟩, if_neg (by omega)]
theorem dA_take {xs : List DrvX} {m k : Nat} (h : k < m) : dA (xs.take m) k = dA xs k := by
  simp [dA, List.getD_eq_getElem?_getD, List.getElem?_take, h]
theorem dA_drop (xs : List DrvX) (h k : Nat) : dA (xs.drop h) k = dA xs (h + k) := by
  simp [dA, List.getD_eq_getElem?_getD, List.getElem?_drop]
theorem steps_take (M : MachD) (S : StD) (xs : List DrvX) (m : Nat) : ∀ k : Nat, k ≤ m → stepsD M S (dsX (xs.take m)) k = stepsD M S (dsX xs) k
  | 0, _ => rfl
  | k + 1, h => by
    have e := steps_take M S xs m k (by omega)
    simp only [stepsD, dsX]
    rw [e, dA_take (by omega)]
theorem steps_drop (M : MachD) (S : StD) (xs : List DrvX) (m : Nat) : ∀ k : Nat, stepsD M (stepsD M S (dsX xs) m) (dsX (xs.drop m)) k = stepsD M S (dsX xs) (m + k)
  | 0 => rfl
  | k + 1 => by
    have e := steps_drop M S xs m k
    show stepD M (stepsD M (stepsD M S (dsX xs) m) (dsX (xs.drop m)) k) (dsX (xs.drop m) k).1 (dsX (xs.drop m) k).2 = stepD M (stepsD M S (dsX xs) (m + k)) (dsX xs (m + k)).1 (dsX xs (m + k)).2
    rw [e]; simp only [dsX]; rw [dA_drop]
theorem allVD_take {M : MachD} {xs : List DrvX} (h : allVD M xs) (m : Nat) : allVD M (xs.take m) := fun k hk => by
  rw [List.length_take] at hk
  simp only [dsX]; rw [dA_take (by omega)]; exact h k (by omega)
theorem allVD_drop {M : MachD} {xs : List DrvX} (h : allVD M xs) (m : Nat) : allVD M (xs.drop m) := fun k hk => by
  rw [List.length_drop] at hk
  simp only [dsX]; rw [dA_drop]; exact h _ (by omega)
theorem run_take {M : MachD} {S : StD} {xs : List DrvX} {m : Nat} (h : runE M S xs = 0) (hm : m ≤ xs.length) : runE M S (xs.take m) = 0 ∧ runL M S (xs.take m) = (List.range (m + 1)).map (stepsD M S (dsX xs)) := by
  obtain ⟨h1, h2, h3⟩ := runE_ok h
  have e : (xs.take m).length = m := by rw [List.length_take]; omega
  have h0 := runE_of h1 (allVD_take h2 m) (by rw [e]; omega)
  refine ⟨h0, ?_⟩
  rw [runL_ok h0, e]
  exact List.map_congr_left fun k hk => steps_take M S xs m k (by have := List.mem_range.1 hk; omega)
theorem run_drop {M : MachD} {S T : StD} {xs : List DrvX} {m : Nat} (h : runE M S xs = 0) (hm : m ≤ xs.length) (hT : T = stepsD M S (dsX xs) m) : runE M T (xs.drop m) = 0 ∧ runL M T (xs.drop m) = (List.range (xs.length - m + 1)).map (fun k => stepsD M S (dsX xs) (m + k)) := by
  obtain ⟨h1, h2, h3⟩ := runE_ok h
  have e : (xs.drop m).length = xs.length - m := List.length_drop
  have hf := steps_fit (ds := dsX xs) (fitS_iff.1 h1) m (by omega) (fun j hj => vD_fit (h2 j (by omega)))
  have ht := steps_tick M S (dsX xs) m
  subst hT
  have h0 := runE_of (fitS_iff.2 hf) (allVD_drop h2 m) (by rw [e, ht]; omega)
  refine ⟨h0, ?_⟩
  rw [runL_ok h0, e]
  exact List.map_congr_left fun k hk => steps_drop M S xs m k
theorem run_cut {M : MachD} {S T : StD} {xs : List DrvX} {m : Nat} (h : runE M S xs = 0) (hm : m ≤ xs.length) (hT : T = stepsD M S (dsX xs) m) : (runL M S (xs.take m)).take m ++ runL M T (xs.drop m) = runL M S xs := by
  rw [(run_take h hm).2, (run_drop h hm hT).2, runL_ok h]
  refine List.ext_getElem? fun j => ?_
  by_cases hj : j < m
  · rw [List.getElem?_append_left (by simp; omega), List.getElem?_take, if_pos hj]
    rw [List.getElem?_map, List.getElem?_map, List.getElem?_range (by omega), List.getElem?_range (by omega)]
  · have e : (List.take m ((List.range (m + 1)).map (stepsD M S (dsX xs)))).length = m := by simp
    rw [List.getElem?_append_right (by omega), e, List.getElem?_map, List.getElem?_map]
    by_cases h2 : j - m < xs.length - m + 1
    · rw [List.getElem?_range h2, List.getElem?_range (by omega)]
      simp only [Option.map_some]
      rw [show m + (j - m) = j by omega]
    · rw [List.getElem?_eq_none (by simp; omega), List.getElem?_eq_none (by simp; omega)]
      rfl
theorem yC_len (ys : List (StR × StD)) : (ys.flatMap yC).length = ys.length * 6 := by
  induction ys with
  | nil => rfl
  | cons y r ih =>
    have e : (yC y).length = 6 := rfl
    rw [List.flatMap_cons, List.length_append, ih, e, List.length_cons]; omega
theorem run_nth {M : MachD} {S : StD} {xs : List DrvX} {m : Nat} {ys : List (StR × StD)} (h : runE M S xs = 0) (hm : m ≤ xs.length) (hy : ys.map Prod.snd = runL M S (xs.take m)) : ys.length = m + 1 ∧ (yA ys m).2 = stepsD M S (dsX xs) m := by
  rw [(run_take h hm).2] at hy
  have hl : ys.length = m + 1 := by have := congrArg List.length hy; simpa using this
  refine ⟨hl, ?_⟩
  have h1 := congrArg (fun l : List StD => l[m]?) hy
  simp only [List.getElem?_map] at h1
  rw [List.getElem?_range (by omega), yA_get (ys := ys) (k := m) (by omega)] at h1
  simpa using h1

set_option maxRecDepth 100000 in
theorem runs_walk (R : MachR) (M : MachD) (RS : StR) (S : StD) (A : Option Addr) (n c : Nat) (xs : List DrvX) (w : World) (hM0 : R.la ≤ 1000000000000000 → R.lb ≤ 1000000000000000 → R.lc ≤ 1000000000000000 → R.ld ≤ 1000000000000000 → IsM w R M) (hS0 : RS.Q.la ≤ 1000000000000000 → RS.Q.lb ≤ 1000000000000000 → RS.Q.lc ≤ 1000000000000000 → RS.lh ≤ 1000000000000000 → IsS w RS S) (hI : IsT 2 (fun x : DrvX => DrvR.cells x.1) w A n xs) (hX : ∀ x ∈ xs, OpD w x.1 x.2.1 x.2.2) (kc : n ≤ c ∧ c ≤ 9223372036854775807) : Calls Tryz.prog 4 #[(.agg (machCells R M)), (RS.v S.tick), (.slice A n c)] w (Ret (.bool true) w) := by
  have n1 := hI.1
  refine calls_ax (vs := [(.agg (machCells R M)), (RS.v S.tick), (.slice A n c)]) Tryz.func4 rfl rfl ?_
  refine ac_seq (ac_region ?_)
  refine al_new (fun b => .pointer (some ⟨b, 0, none⟩)) (r_box rfl rfl) rfl rfl rfl ?_
  intro b1
  refine al_new (fun b => .pointer (some ⟨b, 0, none⟩)) (r_box rfl rfl) rfl rfl rfl ?_
  intro b2
  refine al_p (q_assign rfl) ?_
  refine al_end (aq_then ?_)
  refine ac_seq ?_
  refine ac_seq (ac_region ?_)
  refine al_p (q_loadAll (i := 1) rfl rfl Tryz.isAgg29 Tryz.sizeOf29 rfl) ?_
  refine al_p (q_loadAll (i := 0) rfl rfl Tryz.isAgg35 Tryz.sizeOf35 rfl) ?_
  refine al_call Tryz.call7 (.cons rfl (.cons rfl .nil)) rfl rfl (fun w1 hs1 => ?_)
  refine (brief3_any R M RS S _).mono ?_
  rintro e u1 ⟨bb, rfl, hbb, hb_1⟩
  refine ⟨_, rfl, hb_1, ?_⟩
  clear hs1
  refine al_p (q_not rfl) ?_
  refine al_p (q_move rfl) ?_
  refine aq_split 20 rfl (fun hb1 => ?_) (fun hb1 => ?_)
  · skip
    refine al_skip rfl rfl rfl ?_
    refine al_skip rfl rfl rfl ?_
    refine al_skip rfl rfl rfl ?_
    refine al_p (q_pickT rfl rfl) ?_
    refine al_end (aq_then ?_)
    refine ac_condT rfl ?_
    refine ac_seq (ac_region ?_)
    refine al_call Tryz.call8 .nil rfl rfl (fun w2 hs2 => ?_)
    refine (awake3_any _).mono ?_
    rintro e u2 ⟨rfl, hb_2⟩
    refine ⟨_, rfl, hb_2, ?_⟩
    clear hs2
    refine al_p (q_assign rfl) ?_
    refine al_end (aq_then ?_)
    refine ac_ret ?_
    refine aq_thenR ?_
    refine ret1 Tryz.results4 rfl (fun w9 hs => ?_)
    exact ⟨rfl, hs.below⟩
  · have hB := hbb (by simpa using hb1)
    obtain ⟨⟨m1, m2, m3, m4⟩, m5, m6, m7, m8⟩ := hB
    have hM := hM0 (by omega) (by omega) (by omega) (by omega)
    have hS := hS0 (by omega) (by omega) (by omega) (by omega)
    refine al_p (q_move rfl) ?_
    refine al_p (q_lenS rfl Tryz.runUnderlying46) ?_
    refine al_p (q_gtr rfl rfl) ?_
    refine al_p (q_pickF rfl rfl) ?_
    refine al_end (aq_then ?_)
    refine ac_cond rfl (fun h1 => ?_) (fun h1 => ?_)
    · skip
      refine ac_seq (ac_region ?_)
      refine al_call Tryz.call8 .nil rfl rfl (fun w3 hs3 => ?_)
      refine (awake3_any _).mono ?_
      rintro e u3 ⟨rfl, hb_3⟩
      refine ⟨_, rfl, hb_3, ?_⟩
      clear hs3
      refine al_p (q_assign rfl) ?_
      refine al_end (aq_then ?_)
      refine ac_ret ?_
      refine aq_thenR ?_
      refine ret1 Tryz.results4 rfl (fun w9 hs => ?_)
      exact ⟨rfl, hs.below⟩
    · have hn : n ≤ 60 := by have := of_decide_eq_false h1; omega
      have hh : ((n : Nat) : Int).tdiv 2 = ((n / 2 : Nat) : Int) := by rw [Int.tdiv_eq_ediv_of_nonneg (by omega)]; omega
      refine ac_skip ?_
      refine aq_then ?_
      refine ac_seq (ac_region ?_)
      refine al_p (q_loadAll (i := 1) rfl rfl Tryz.isAgg29 Tryz.sizeOf29 rfl) ?_
      refine al_p (q_loadAll (i := 0) rfl rfl Tryz.isAgg35 Tryz.sizeOf35 rfl) ?_
      refine al_p (q_move rfl) ?_
      refine al_call Tryz.call14 (.cons rfl (.cons rfl (.cons rfl .nil))) rfl rfl (fun w4 hs4 => ?_)
      refine (crun_any R M RS S A n c xs _ (hM.below hs4.below) (hS.below hs4.below) (hI.below hs4.below) (fun x hx => (hX x hx).below hs4.below) hn).mono ?_
      rintro e u4 ⟨A_a, n_a, c_a, y_a, rfl, N_a, L_a, S_a, hb_4⟩
      have l_a : n_a ≤ n + 1 := by
        have h1 := congrArg List.length L_a
        rw [List.length_map, N_a.isT.1] at h1
        have h2 := runL_len M S xs
        omega
      refine ⟨_, rfl, hb_4, ?_⟩
      clear hs4
      refine al_p (q_move rfl) ?_
      refine al_p (q_extract rfl rfl) ?_
      refine al_p (q_extract rfl rfl) ?_
      refine al_p (q_assign rfl) ?_
      refine al_p (q_assign rfl) ?_
      refine al_end (aq_then ?_)
      refine ac_seq (ac_region ?_)
      refine al_p (q_loadAll (i := 1) rfl rfl Tryz.isAgg29 Tryz.sizeOf29 rfl) ?_
      refine al_p (q_loadAll (i := 0) rfl rfl Tryz.isAgg35 Tryz.sizeOf35 rfl) ?_
      refine al_p (q_move rfl) ?_
      refine al_call Tryz.call15 (.cons rfl (.cons rfl (.cons rfl .nil))) rfl rfl (fun w5 hs5 => ?_)
      refine (rrun_any R M RS S A n c xs _ (hM.below hs5.below) (hS.below hs5.below) (hI.below hs5.below) (fun x hx => (hX x hx).below hs5.below) hn).mono ?_
      rintro e u5 ⟨A_b, n_b, c_b, y_b, rfl, N_b, L_b, S_b, hb_5⟩
      refine ⟨_, rfl, hb_5, ?_⟩
      clear hs5
      refine al_p (q_move rfl) ?_
      refine al_p (q_extract rfl rfl) ?_
      refine al_p (q_extract rfl rfl) ?_
      refine al_p (q_assign rfl) ?_
      refine al_p (q_assign rfl) ?_
      refine al_end (aq_then ?_)
      refine ac_seq ?_
      refine ac_seq (ac_region ?_)
      refine al_p (q_move rfl) ?_
      refine al_p (q_move rfl) ?_
      refine al_p (q_same (v' := .bool false) (q_neq rfl rfl) (by simp)) ?_
      refine al_p (q_move rfl) ?_
      refine al_p (q_move rfl) ?_
      refine al_p (q_move rfl) ?_
      refine al_call Tryz.call16 (.cons rfl (.cons rfl .nil)) rfl rfl (fun w6 hs6 => ?_)
      refine (rsameStates_any A_a A_b n_a n_b c_a c_b y_a y_b _ (hs6.newT (.tail _ (.head _)) N_a) (hs6.newT (.head _) N_b) (L_a.trans L_b.symm) (fun p hp => hs6.isS (.tail _ (.head _)) (S_a p hp).1 (S_a p hp).2) (fun p hp => hs6.isS (.head _) (S_b p hp).1 (S_b p hp).2) (by omega)).mono ?_
      rintro e u6 ⟨rfl, hb_6⟩
      refine ⟨_, rfl, hb_6, ?_⟩
      clear hs6
      refine al_p (q_not rfl) ?_
      refine al_p (q_pickF rfl rfl) ?_
      refine al_end (aq_then ?_)
      refine ac_condF rfl ?_
      refine ac_skip ?_
      refine aq_then ?_
      refine ac_seq ?_
      refine ac_seq (ac_region ?_)
      refine al_p (q_move rfl) ?_
      refine al_p (q_neq rfl rfl) ?_
      refine al_end (aq_then ?_)
      refine ac_cond rfl (fun h2 => ?_) (fun h2 => ?_)
      · skip
        refine ac_seq (ac_region ?_)
        refine al_call Tryz.call8 .nil rfl rfl (fun w7 hs7 => ?_)
        refine (awake3_any _).mono ?_
        rintro e u7 ⟨rfl, hb_7⟩
        refine ⟨_, rfl, hb_7, ?_⟩
        clear hs7
        refine al_p (q_assign rfl) ?_
        refine al_end (aq_then ?_)
        refine ac_ret ?_
        refine aq_thenR ?_
        refine ret1 Tryz.results4 rfl (fun w9 hs => ?_)
        exact ⟨rfl, hs.below⟩
      · have hE : runE M S xs = 0 := by simpa using h2
        refine ac_skip ?_
        refine aq_then ?_
        refine ac_seq (ac_region ?_)
        refine al_p (q_move rfl) ?_
        refine al_p (q_lenS rfl Tryz.runUnderlying46) ?_
        refine al_p (q_quo rfl rfl (by omega)) ?_
        refine al_p (q_assign rfl) ?_
        refine al_end (aq_then ?_)
        refine ac_seq ?_
        refine ac_draw 11 (by kernel_rfl) (by kernel_rfl) ?_
        refine ah_t 0 (fun w9 hs => hs) rfl rfl (by kernel_rfl) (q_loadAll (i := 1) rfl rfl Tryz.isAgg29 Tryz.sizeOf29 rfl) ?_
        refine ah_t 1 (fun w9 hs => hs) rfl rfl (by kernel_rfl) (q_loadAll (i := 0) rfl rfl Tryz.isAgg35 Tryz.sizeOf35 rfl) ?_
        refine ah_t 2 (fun w9 hs => hs) rfl rfl (by kernel_rfl) (q_move rfl) ?_
        refine ah_t 3 (fun w9 hs => hs) rfl rfl (by kernel_rfl) (q_move rfl) ?_
        refine ah_t 4 (fun w9 hs => hs) rfl rfl (by kernel_rfl) (q_move rfl) ?_
        refine ah_t 5 (fun w9 hs => hs) rfl rfl (by kernel_rfl) (q_uptoM (hi := n / 2) (mx := n / 2) rfl rfl rfl hh hh (Nat.le_refl _) (by omega) Tryz.underlying46 Tryz.sizeOf37) ?_
        refine ah_one 6 rfl (by kernel_rfl) (fun hok1 hcl1 => ?_)
        refine al_call Tryz.call14 (.cons rfl (.cons rfl (.cons rfl .nil))) rfl rfl (fun w8 hs8 => ?_)
        refine (crun_any R M RS S A (n / 2) (n / 2) (xs.take (n / 2)) _ (hM.below hs8.below) (hS.below hs8.below) ((hI.take (by omega)).below hs8.below) (fun x hx => (hX x (List.mem_of_mem_take hx)).below hs8.below) (by omega)).mono ?_
        rintro e u8 ⟨A_x, n_x, c_x, y_x, rfl, N_x, L_x, S_x, hb_8⟩
        obtain ⟨l_x, t_x⟩ := run_nth hE (by omega) L_x
        have n_xe : n_x = n / 2 + 1 := by have := N_x.isT.1; omega
        obtain ⟨b_x, o_x, hA_x, hlt_x, hget_x⟩ := N_x.isT.2 (by omega)
        have hx_x := yA_get (ys := y_x) (k := n / 2) (by omega)
        subst hA_x
        refine ⟨_, rfl, hb_8, ?_⟩
        clear hs8
        refine al_end (ah_back hok1 hcl1 (fun w9 hs => (hs.fewer 1 rfl)) ?_)
        refine ah_t 7 (fun w9 hs => (hs.fewer 1 rfl)) rfl rfl (by kernel_rfl) (q_move rfl) ?_
        refine ah_t 8 (fun w9 hs => (hs.fewer 1 rfl)) rfl rfl (by kernel_rfl) (q_extract rfl rfl) ?_
        refine ah_t 9 (fun w9 hs => (hs.fewer 1 rfl)) rfl rfl (by kernel_rfl) (q_extract rfl rfl) ?_
        refine ah_one 10 rfl (by kernel_rfl) (fun hok2 hcl2 => ?_)
        refine al_p (q_assign rfl) ?_
        refine al_end (ah_back hok2 hcl2 (fun w9 hs => (hs.fewer 1 rfl)) ?_)
        refine ah_one 11 rfl (by kernel_rfl) (fun hok3 hcl3 => ?_)
        refine al_p (q_assign rfl) ?_
        refine al_end (ah_last (by kernel_rfl) ?_)
        refine aq_then ?_
        refine ac_seq ?_
        refine ac_seq (ac_region ?_)
        refine al_p (q_move rfl) ?_
        refine al_p (q_same (v' := .bool false) (q_neq rfl rfl) (by rw [(run_take hE (m := n / 2) (by omega)).1]; rfl)) ?_
        refine al_p (q_move rfl) ?_
        refine al_p (q_move rfl) ?_
        refine al_p (q_lenS rfl Tryz.runUnderlying47) ?_
        refine al_p (q_move rfl) ?_
        refine al_p (q_add rfl rfl (by omega)) ?_
        refine al_p (q_same (v' := .bool false) (q_neq rfl rfl) (by (have e9 : (n_x : Int) = (n : Int).tdiv 2 + 1 := by rw [hh]; omega); simp [e9])) ?_
        refine al_p (q_pickF rfl rfl) ?_
        refine al_end (aq_then ?_)
        refine aq_keepL [2, 3, 6, 9, 11, 12, 73] (.cons rfl (.cons rfl (.cons rfl (.cons rfl (.cons rfl (.cons rfl (.cons rfl .nil))))))) ?_
        refine ac_condF rfl ?_
        refine ac_skip ?_
        refine aq_then ?_
        refine ac_seq ?_
        refine ac_draw 13 (by kernel_rfl) (by kernel_rfl) ?_
        refine ah_t 0 (fun w9 hs => hs) rfl rfl (by kernel_rfl) (q_loadAll (i := 1) rfl rfl Tryz.isAgg29 Tryz.sizeOf29 rfl) ?_
        refine ah_t 1 (fun w9 hs => hs) rfl rfl (by kernel_rfl) (q_move rfl) ?_
        refine ah_t 2 (fun w9 hs => hs) rfl rfl (by kernel_rfl) (q_move rfl) ?_
        refine ah_t 3 (fun w9 hs => hs) rfl rfl (by kernel_rfl) (q_indexAddrA (i := n / 2) (o_x + n / 2 * 6 + 0) rfl rfl rfl hh (by omega) Tryz.runUnderlying47 Tryz.sizeOf35 rfl) ?_
        refine ah_t 4 (fun w9 hs => hs) rfl rfl (by kernel_rfl) (q_loadXs (yC (yA y_x (n / 2))) rfl Tryz.isAgg35 Tryz.sizeOf35 (fun w9 hs j9 v9 h9 => by rw [addr_add]; exact (hs.cellOf (.head _) (N_x.new _ _ rfl) hlt_x (hget_x _ _ hx_x j9 v9 h9))) rfl) ?_
        refine ah_t 5 (fun w9 hs => hs) rfl rfl (by kernel_rfl) (q_move rfl) ?_
        refine ah_t 6 (fun w9 hs => hs) rfl rfl (by kernel_rfl) (q_move rfl) ?_
        refine ah_t 7 (fun w9 hs => hs) rfl rfl (by kernel_rfl) (q_fromE (lo := n / 2) rfl rfl hh (by omega) Tryz.underlying46 Tryz.sizeOf37) ?_
        refine ah_one 8 rfl (by kernel_rfl) (fun hok4 hcl4 => ?_)
        refine al_call Tryz.call14 (.cons rfl (.cons rfl (.cons rfl .nil))) rfl rfl (fun w9 hs9 => ?_)
        refine (crun_any R M (yA y_x (n / 2)).1 (yA y_x (n / 2)).2 (if c = n / 2 then A else A.map (·.add (n / 2 * 2))) (n - n / 2) (c - n / 2) (xs.drop (n / 2)) _ (hM.below hs9.below) (hs9.isS (.head _) (S_x _ (yA_mem (by omega))).1 (S_x _ (yA_mem (by omega))).2) ((hI.from (by omega) kc.1).below hs9.below) (fun x hx => (hX x (List.mem_of_mem_drop hx)).below hs9.below) (by omega)).mono ?_
        rintro e u9 ⟨A_y, n_y, c_y, y_y, rfl, N_y, L_y, S_y, hb_9⟩
        have n_ye : n_y = n - n / 2 + 1 := by
          have h1 := congrArg List.length L_y
          rw [List.length_map, N_y.isT.1, (run_drop hE (by omega) t_x).2] at h1
          simp at h1; omega
        refine ⟨_, rfl, hb_9, ?_⟩
        clear hs9
        refine al_end (ah_back hok4 hcl4 (fun w9 hs => (hs.fewer 1 rfl)) ?_)
        refine ah_t 9 (fun w9 hs => (hs.fewer 1 rfl)) rfl rfl (by kernel_rfl) (q_move rfl) ?_
        refine ah_t 10 (fun w9 hs => (hs.fewer 1 rfl)) rfl rfl (by kernel_rfl) (q_extract rfl rfl) ?_
        refine ah_t 11 (fun w9 hs => (hs.fewer 1 rfl)) rfl rfl (by kernel_rfl) (q_extract rfl rfl) ?_
        refine ah_one 12 rfl (by kernel_rfl) (fun hok5 hcl5 => ?_)
        refine al_p (q_assign rfl) ?_
        refine al_end (ah_back hok5 hcl5 (fun w9 hs => (hs.fewer 1 rfl)) ?_)
        refine ah_one 13 rfl (by kernel_rfl) (fun hok6 hcl6 => ?_)
        refine al_p (q_assign rfl) ?_
        refine al_end (ah_last (by kernel_rfl) ?_)
        refine aq_then ?_
        refine ac_seq (ac_region ?_)
        refine al_p (q_move rfl) ?_
        refine al_p (q_same (v' := .bool true) (q_eql rfl rfl) (by rw [(run_drop hE (m := n / 2) (by omega) t_x).1]; rfl)) ?_
        refine al_p (q_move rfl) ?_
        refine al_p (q_move rfl) ?_
        refine al_p (q_move rfl) ?_
        refine al_p (q_move rfl) ?_
        refine al_p (q_uptoM (hi := n / 2) (mx := n / 2) rfl rfl rfl hh hh (Nat.le_refl _) (by have := N_x.le.1; omega) Tryz.underlying47 Tryz.sizeOf35) ?_
        refine al_p (q_move rfl) ?_
        refine al_appendF (z := 6) (bytes := 128) (zv := (.agg #[.int .i64 0, .slice none 0 0, .slice none 0 0, .slice none 0 0, .slice none 0 0, .slice none 0 0])) (A := ⟨b_x, o_x, none⟩) (nn := n / 2) (xs := (y_x.take (n / 2)).flatMap yC) (vs := y_y.flatMap yC) rfl (fun w9 hs => IsT.flat (z := 6) (enc := yC) (fun _ => rfl) (IsT.take (k := n / 2) (hs.newT (.tail _ (.head _)) N_x) (by omega))) (by rw [yC_len, List.length_take]; omega) rfl (Sor.list (enc := yC) (fun _ => rfl) (fun _ => rfl) N_y.isT.1 (fun w9 hs => hs.newT (.head _) N_y)) (by omega) Tryz.underlying47 (by kernel_rfl) rfl (by omega) (by decide) rfl rfl (fun b3 c_b3 sp_b3 hc_b3 hk_b3 => ?_)
        refine al_p (q_move rfl) ?_
        refine al_call Tryz.call16 (.cons rfl (.cons rfl .nil)) rfl rfl (fun w10 hs10 => ?_)
        refine (rsameStates_any (some ⟨b3, 0, none⟩) A_b (n / 2 + n_y) n_b c_b3 c_b (y_x.take (n / 2) ++ y_y) y_b _ (isT_box (enc := yC) (fun _ => rfl) (hs10.at 0 rfl) List.flatMap_append (by rw [List.length_append, List.length_take, N_y.isT.1]; omega)) (hs10.newT (.tail _ (.tail _ (.tail _ (.head _)))) N_b) (by rw [List.map_append, List.map_take, L_x, L_y, L_b]; exact run_cut hE (by omega) t_x) (fun p hp => (List.mem_append.1 hp).elim (fun h => hs10.isS (.tail _ (.head _)) (S_x p (List.mem_of_mem_take h)).1 (S_x p (List.mem_of_mem_take h)).2) (fun h => hs10.isS (.head _) (S_y p h).1 (S_y p h).2)) (fun p hp => hs10.isS (.tail _ (.tail _ (.tail _ (.head _)))) (S_b p hp).1 (S_b p hp).2) (by omega)).mono ?_
        rintro e u10 ⟨rfl, hb_10⟩
        refine ⟨_, rfl, hb_10, ?_⟩
        clear hs10
        refine al_p (q_pickT rfl rfl) ?_
        refine al_p (q_move rfl) ?_
        refine al_call Tryz.call8 .nil rfl rfl (fun w11 hs11 => ?_)
        refine (awake3_any _).mono ?_
        rintro e u11 ⟨rfl, hb_11⟩
        refine ⟨_, rfl, hb_11, ?_⟩
        clear hs11
        refine al_p (q_pickT rfl rfl) ?_
        refine al_p (q_assign rfl) ?_
        refine al_end (aq_then ?_)
        refine ac_ret ?_
        refine ret1 Tryz.results4 rfl (fun w9 hs => ?_)
        exact ⟨rfl, hs.below⟩

end Go.Proofs.YtkhahbnagbjbiaaGreat
end
