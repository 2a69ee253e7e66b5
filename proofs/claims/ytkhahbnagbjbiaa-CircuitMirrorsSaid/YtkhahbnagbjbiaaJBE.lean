import Derived.Test.YtkhahbnagbjbiaaJAM
import Derived.Test.YtkhahbnagbjbiaaJAN
import Derived.Test.YtkhahbnagbjbiaaJBD
import Derived.Test.YtkhahbnagbjbiaaRows
import Derived.KernelRfl
import Derived.Laws.StructEq
section
/- The mirrored tick, as plain functions, over this seat's translation (written by ax_ci18.py). -/
namespace Go.Proofs.Ytkhahbnagbjbiaa
set_option linter.unusedVariables false
set_option linter.unusedSimpArgs false
open Go.RowKit

theorem dot_sum (f : Nat → Int) : ∀ n : Nat, dotTo f n = sumN f n
  | 0 => rfl
  | n + 1 => by simp only [dotTo, sumN]; rw [dot_sum f n]
theorem iA_eq (l : List Int) (k : Nat) : iA l k = l[k]?.getD 0 := by simp [iA, List.getD_eq_getElem?_getD]
theorem cA_mir (M : MachD) (k : Nat) : cA (mirM M) k = mirCoil (cA M k) := by
  simp only [cA, mirM, List.getD_eq_getElem?_getD, List.getElem?_map]
  cases M.coils[k]? <;> rfl
theorem sA_mir (M : MachD) (k : Nat) : sA (mirM M) k = mirShell (sA M k) := by
  simp only [sA, mirM, List.getD_eq_getElem?_getD, List.getElem?_map]
  cases M.shells[k]? <;> rfl
theorem mir_la (M : MachD) : (mirM M).coils.length = M.coils.length := List.length_map ..
theorem mir_lb (M : MachD) : (mirM M).shells.length = M.shells.length := List.length_map ..
theorem lk_mir_coil {M : MachD} {s : ShellD} {j : Nat} (hj : j < M.coils.length) : lkA (mirM M) (mirShell s) j = lkA M s j := by
  unfold lkA
  rw [mir_la, if_pos hj, if_pos hj, cA_mir]
  show (cA M j).turns * infl s.r (-s.z) (cA M j).r (-(cA M j).z) = _
  rw [infl_neg]
theorem lk_mir_cell {M : MachD} {s : ShellD} {c d k : Nat} (hc : M.grid.nr = c) (hd : M.grid.nz = d) (hk : k < d * c) : lkA (mirM M) (mirShell s) (M.coils.length + k) = lkA M s (M.coils.length + sigma M.grid k) := by
  unfold lkA
  rw [mir_la, if_neg (by omega), if_neg (by omega), Nat.add_sub_cancel_left, Nat.add_sub_cancel_left]
  show infl s.r (-s.z) (cellR (mirG M.grid) (k : Int)) (cellZ (mirG M.grid) (k : Int)) = _
  obtain ⟨h1, h2⟩ := cell_mir M.grid c d k hc hd hk
  rw [h1, h2, infl_neg]
theorem iA_app {co ce : List Int} (k : Nat) : iA (co ++ ce) (co.length + k) = iA ce k := by
  rw [iA_eq, iA_eq, List.getElem?_append_right (by omega), Nat.add_sub_cancel_left]
theorem iA_left {co ce : List Int} {k : Nat} (h : k < co.length) : iA (co ++ ce) k = iA co k := by
  rw [iA_eq, iA_eq, List.getElem?_append_left h]
theorem iA_turn {g : GridD} {l : List Int} {k : Nat} (h : k < l.length) : iA (turnL g l) k = iA l (sigma g k) := by
  rw [iA_eq, iA_eq]; exact turn_get g l k h
theorem ind_mir {M : MachD} {co ce : List Int} {c d : Nat} (hc : M.grid.nr = c) (hd : M.grid.nz = d) (hn : cellN M = d * c) (h1 : co.length = M.coils.length) (h2 : ce.length = d * c) (i : Nat) : indA (mirM M) co (turnL M.grid ce) i = indA M co ce i := by
  unfold indA
  rw [sA_mir, mir_la, show cellN (mirM M) = cellN M from rfl, hn, dot_sum, dot_sum, sumN_add, sumN_add]
  have e1 : sumN (termA (mirM M) co (turnL M.grid ce) (mirShell (sA M i))) M.coils.length = sumN (termA M co ce (sA M i)) M.coils.length := sumN_congr _ fun k hk => by
    unfold termA
    rw [lk_mir_coil hk, iA_left (by omega), iA_left (by omega)]
  have e2 : sumN (fun k => termA (mirM M) co (turnL M.grid ce) (mirShell (sA M i)) (M.coils.length + k)) (d * c) = sumN (fun k => termA M co ce (sA M i) (M.coils.length + k)) (d * c) := by
    rw [← sum_sigma M.grid c d hc hd (fun k => termA M co ce (sA M i) (M.coils.length + k))]
    refine sumN_congr _ fun k hk => ?_
    show lkA (mirM M) (mirShell (sA M i)) (M.coils.length + k) * iA (co ++ turnL M.grid ce) (M.coils.length + k) = lkA M (sA M i) (M.coils.length + sigma M.grid k) * iA (co ++ ce) (M.coils.length + sigma M.grid k)
    rw [lk_mir_cell hc hd hk, ← h1, iA_app, iA_app, iA_turn (by omega)]
  rw [e1, e2]
  rfl
theorem sub_turn {g : GridD} {a b : List Int} {c d : Nat} (hc : g.nr = c) (hd : g.nz = d) (h1 : a.length = d * c) (h2 : b.length = d * c) : subL (turnL g a) (turnL g b) = turnL g (subL a b) := by
  have e : turnL g (subL a b) = lst a.length (fun k => iA (subL a b) (sigma g k)) := by
    unfold turnL
    rw [show (subL a b).length = a.length from lst_length _ _]
    exact lst_ext fun k _ => (iA_eq _ _).symm
  rw [e]
  unfold subL
  rw [turn_length]
  refine lst_ext fun k hk => ?_
  have := sigma_lt g c d k hc hd (by omega)
  rw [iA_turn hk, iA_turn (by omega), iA_lst _ (by omega)]
def mirS (M : MachD) (S : StD) : StD := ⟨S.tick, mirC M.grid S.C, S.heat, S.trip⟩
theorem app_mir (M : MachD) (S : StD) (ch : List Int) (k : Nat) : appA (mirM M) (mirS M S) ch k = appA M S ch k := by
  unfold appA
  rw [cA_mir]; rfl
theorem coilN_mir (M : MachD) (S : StD) (ch : List Int) (k : Nat) : coilN (mirM M) (mirS M S) ch k = coilN M S ch k := by
  unfold coilN; rw [app_mir]; rfl
theorem heatN_mir (M : MachD) (S : StD) (ch : List Int) (k : Nat) : heatN (mirM M) (mirS M S) ch k = heatN M S ch k := by
  unfold heatN; rw [coilN_mir, cA_mir]; rfl
theorem tripN_mir (M : MachD) (S : StD) (ch : List Int) (k : Nat) : tripN (mirM M) (mirS M S) ch k = tripN M S ch k := by
  unfold tripN; rw [coilN_mir, heatN_mir, cA_mir]; rfl
theorem step_mir {M : MachD} {S : StD} {ch pl : List Int} (hf : FitS M S) (hp : FitP M pl) : stepD (mirM M) (mirS M S) ch (turnL M.grid pl) = mirS M (stepD M S ch pl) := by
  obtain ⟨c, d, hc, hd, hn⟩ := fine_nat (sound_of hf.cur.check).grid
  have hcn : cellN M = d * c := by unfold cellN; omega
  have e1 : lst (mirM M).coils.length (coilN (mirM M) (mirS M S) ch) = lst M.coils.length (coilN M S ch) := by rw [mir_la]; exact lst_ext fun k _ => coilN_mir M S ch k
  have e2 : lst (mirM M).coils.length (heatN (mirM M) (mirS M S) ch) = lst M.coils.length (heatN M S ch) := by rw [mir_la]; exact lst_ext fun k _ => heatN_mir M S ch k
  have e3 : lst (mirM M).coils.length (tripN (mirM M) (mirS M S) ch) = lst M.coils.length (tripN M S ch) := by rw [mir_la]; exact lst_ext fun k _ => tripN_mir M S ch k
  have e4 : lst (mirM M).shells.length (shellN (mirM M) (mirS M S) ch (turnL M.grid pl)) = lst M.shells.length (shellN M S ch pl) := by
    rw [mir_lb]
    refine lst_ext fun k _ => ?_
    have ea : appL (mirM M) (mirS M S) ch = appL M S ch := by unfold appL; rw [mir_la]; exact lst_ext fun k _ => app_mir M S ch k
    have eb : subL (turnL M.grid pl) (mirS M S).C.plasma = turnL M.grid (subL pl S.C.plasma) := sub_turn hc hd (by have := hp.plasma.1; omega) (by have := hf.cur.plasma.1; omega)
    unfold shellN
    rw [ea, eb, ind_mir hc hd hcn (by unfold appL; rw [lst_length]) (by unfold subL; rw [lst_length]; have := hp.plasma.1; omega), sA_mir]
    rfl
  show (⟨S.tick + 1, ⟨_, _, turnL M.grid pl⟩, _, _⟩ : StD) = ⟨S.tick + 1, ⟨_, _, turnL M.grid pl⟩, _, _⟩
  rw [e1, e2, e3, e4]
  rfl
theorem fitS_mir {M : MachD} {S : StD} (hf : FitS M S) : FitS (mirM M) (mirS M S) :=
  ⟨fit_mir hf.cur, hf.tick, ⟨by rw [mir_la]; exact hf.heat.1, hf.heat.2⟩, by rw [mir_la]; exact hf.trip⟩
theorem fitP_mir {M : MachD} {pl : List Int} (hp : FitP M pl) : FitP (mirM M) (turnL M.grid pl) := by
  have h := fit_mir (fit2_iff.1 (fitP_iff.2 hp))
  exact ⟨h.check, h.plasma, h.total⟩
theorem stepE_mir {M : MachD} {S : StD} {ch pl : List Int} (h : stepE M S ch pl = 0) : stepE (mirM M) (mirS M S) ch (turnL M.grid pl) = 0 := by
  obtain ⟨h1, h2, h3, h4⟩ := stepE_ok h
  have hc : validCh (mirM M) ch 1000000000000000 = true := by
    rw [validCh_iff] at h2 ⊢
    exact ⟨by rw [mir_la]; exact h2.1, h2.2⟩
  unfold stepE repE
  rw [if_pos ⟨fitS_iff.2 (fitS_mir h1), hc, fitP_iff.2 (fitP_mir h3)⟩, if_pos ⟨by omega, by show S.tick + 1 ≤ _; omega⟩]

end Go.Proofs.Ytkhahbnagbjbiaa
end
section
/- Abstract walking: drawn regions in which several operations make memory: what is done, in whatever order, is walked once. -/
namespace Go.Proofs.Ytkhahbnagbjbiaa
set_option linter.unusedVariables false
set_option linter.unusedSimpArgs false
set_option autoImplicit false
open Go.RowKit

inductive Ins (x : Nat × Cont) : Boxes → Boxes → Prop
  | here {L : Boxes} : Ins x L (x :: L)
  | there {y : Nat × Cont} {L L' : Boxes} (h : Ins x L L') : Ins x (y :: L) (y :: L')
theorem Ins.perm {x : Nat × Cont} {L L' : Boxes} (h : Ins x L L') : L'.Perm (x :: L) := by
  induction h with
  | here => exact List.Perm.refl _
  | there h ih => exact (List.Perm.cons _ ih).trans (List.Perm.swap _ _ _)
/-- the second list holds the first one's boxes in another order -/
inductive Pm : Boxes → Boxes → Prop
  | refl {L : Boxes} : Pm L L
  | cons {x : Nat × Cont} {M L L' : Boxes} (h : Ins x L L') (t : Pm M L) : Pm (x :: M) L'
theorem Pm.perm {M L : Boxes} (h : Pm M L) : L.Perm M := by
  induction h with
  | refl => exact List.Perm.refl _
  | cons h t ih => exact h.perm.trans (List.Perm.cons _ ih)
theorem Sta.pm {E : Cfg} {U : Snaps} {L M : Boxes} {w : World} (h : Sta E U L w) (hp : Pm M L) : Sta E U M w := h.perm hp.perm

section
variable {P : Program} {e0 : Cfg} {U : Snaps} {l : Slots} {L : Boxes} {ops : Array Oper} {Q : Exit → Act → World → Prop} {U0 : Snaps} {L0 : Boxes} {last fuel : Nat} {listed : Array Bool}
/-- a place in the region that is reached in several orders is walked once -/
theorem ah_share {fuel' : Nat} {listed' : Array Bool} (K : (Slots → Boxes → Prop) → Prop) (h1 : K (fun l' L' => AH P ops Q U0 L0 last fuel' listed' e0 U l' L'))
    (h2 : K (fun l' L' => AH P ops Q U0 L0 last fuel' listed' e0 U l' L') → AH P ops Q U0 L0 last fuel listed e0 U l L) : AH P ops Q U0 L0 last fuel listed e0 U l L := h2 h1
theorem ah_to {fuel' : Nat} {listed' : Array Bool} {l' : Slots} {L' : Boxes} (h : AH P ops Q U0 L0 last fuel' listed' e0 U l' L') (hf : fuel' = fuel) (he : listed' = listed) (hl : AllLook l l') (hL : ∀ w, Sta e0 U L w → Sta e0 U L' w) : AH P ops Q U0 L0 last fuel listed e0 U l L := by
  subst hf; subst he
  exact fun hok hc => aq_sub (h hok hc) hl hL
end

end Go.Proofs.Ytkhahbnagbjbiaa
end
section
/- The specification of layer 3: Copy, over this seat's translation (written by ax_ci26.py). -/
namespace Go.Proofs.Ytkhahbnagbjbiaa
set_option linter.unusedVariables false
set_option linter.unusedSimpArgs false
open Go.RowKit

theorem kcp_bl_apiState_0_ (a0 : Value) (ha0 : a0.oneCell' = true) : ∀ w, (Instr.build 35 #[(0, a0)]).run Try.prog w = .ok (.agg #[a0, (.slice none 0 0), (.slice none 0 0), (.slice none 0 0), (.slice none 0 0), (.slice none 0 0)]) w := by
  have ea0 : a0.cells = #[a0] := cells_one ha0
  intro w; simp [Instr.build, Instr.fill, cells_agg, Try.runUnderlying35, Try.zeroValue35, Try.sizeOf3, Try.sizeOf30, Try.sizeOf32, Try.sizeOf33, ea0]

theorem kcp_bs_int_0_ : ∀ w, (Instr.buildSlice 30 0 #[]).run Try.prog w = .ok (.slice (some ⟨w.heap.size, 0, none⟩) 0 0) (w.alloc (.cells [].toArray 3)) := by
  intro w; (simp [Instr.buildSlice, Instr.fill, cells_agg, newRow, Try.runUnderlying30, Try.zeroValue3, Try.sizeOf3] <;> (rw [(by kernel_rfl : Array.range 0 = #[])]; simp [Value.cells]))

theorem kcp_bl_apiCurrents_0_1_2 (a0 a1 a2 : Value) (ha0 : a0.oneCell' = true) (ha1 : a1.oneCell' = true) (ha2 : a2.oneCell' = true) : ∀ w, (Instr.build 32 #[(0, a0), (1, a1), (2, a2)]).run Try.prog w = .ok (.agg #[a0, a1, a2]) w := by
  have ea0 : a0.cells = #[a0] := cells_one ha0
  have ea1 : a1.cells = #[a1] := cells_one ha1
  have ea2 : a2.cells = #[a2] := cells_one ha2
  intro w; simp [Instr.build, Instr.fill, cells_agg, Try.runUnderlying32, Try.zeroValue32, Try.sizeOf30, ea0, ea1, ea2]

theorem kcp_bs_bool_0_ : ∀ w, (Instr.buildSlice 33 0 #[]).run Try.prog w = .ok (.slice (some ⟨w.heap.size, 0, none⟩) 0 0) (w.alloc (.cells [].toArray 4)) := by
  intro w; (simp [Instr.buildSlice, Instr.fill, cells_agg, newRow, Try.runUnderlying33, Try.zeroValue4, Try.sizeOf4] <;> (rw [(by kernel_rfl : Array.range 0 = #[])]; simp [Value.cells]))

set_option maxRecDepth 100000 in
theorem rcopy_any (RS : StR) (S : StD) (w : World) (hS : IsS w RS S) (k1 : RS.Q.la ≤ 100000) (k2 : RS.Q.lb ≤ 100000) (k3 : RS.Q.lc ≤ 100000) (k4 : RS.lh ≤ 100000) (k5 : RS.lt ≤ 100000) : Calls Try.prog 12 #[(RS.v S.tick)] w (fun e w' => ∃ x : StR, e = .returned (x.v S.tick) ∧ IsS w' x S ∧ x.All (fun b => w.heap.size ≤ b) ∧ Below w.heap.size w w') := by
  have n1 := hS.cur.coils.1
  have n2 := hS.cur.shells.1
  have n3 := hS.cur.plasma.1
  have n4 := hS.heat.1
  have n5 := hS.trip.1
  refine calls_ax (vs := [(RS.v S.tick)]) Try.func12 rfl rfl ?_
  refine ac_seq ?_
  refine ac_region ?_
  refine al_new (fun b => .pointer (some ⟨b, 0, none⟩)) (r_box rfl rfl) rfl rfl rfl ?_
  intro b1
  refine al_new (fun b => .pointer (some ⟨b, 0, none⟩)) (r_alloc Try.zeroValue35 rfl) rfl rfl rfl ?_
  intro b2
  refine al_end ?_
  refine aq_then ?_
  refine ac_seq ?_
  refine ac_region ?_
  refine al_q (q_fieldAddr 0 rfl Try.runUnderlying35 rfl Try.sizeOf3 (by decide) rfl) rfl rfl rfl ?_
  refine al_q (q_load (i := 1) rfl rfl rfl Try.isAgg3) rfl rfl rfl ?_
  refine al_q (q_build (.cons rfl .nil) (kcp_bl_apiState_0_ _ rfl)) rfl rfl rfl ?_
  refine al_new (fun b => .pointer (some ⟨b, 0, none⟩)) (r_alloc Try.zeroValue35 rfl) rfl rfl rfl ?_
  intro b3
  refine al_storeAll (i := 0) rfl rfl rfl rfl Try.sizeOf35 rfl rfl .k0 rfl ?_
  refine al_end ?_
  refine aq_then ?_
  refine ac_seq ?_
  refine ac_draw 17 (by kernel_rfl) (by kernel_rfl) ?_
  refine ah_share (fuel' := 4) (listed' := #[true, true, true, true, true, true, true, true, true, true, true, true, true, true, false, false, false, false]) (fun K => ∀ (b1001 : Nat), ∀ (b4001 : Nat), ∀ (c_b4001 : Nat), ∀ (sp_b4001 : List Value), ∀ (hc_b4001 : 0 + RS.Q.la ≤ c_b4001), ∀ (hk_b4001 : c_b4001 ≤ 9223372036854775807), ∀ (b11001 : Nat), ∀ (b18001 : Nat), ∀ (c_b18001 : Nat), ∀ (sp_b18001 : List Value), ∀ (hc_b18001 : 0 + RS.Q.lb ≤ c_b18001), ∀ (hk_b18001 : c_b18001 ≤ 9223372036854775807), ∀ (b22001 : Nat), K [(1, (.pointer (some ⟨b1, 0, none⟩))), (2, (.pointer (some ⟨b2, 0, none⟩))), (3, (.pointer (some ⟨b3, 0, none⟩))), (7, (.slice (some ⟨b1001, 0, none⟩) 0 0)), (8, (.pointer (some ⟨b1, 1, none⟩))), (9, (.pointer (some ⟨b1, 1, none⟩))), (10, (.slice RS.Q.A RS.Q.la RS.Q.ca)), (11, (.slice (some ⟨b4001, 0, none⟩) (0 + RS.Q.la) c_b4001)), (12, (.slice (some ⟨b11001, 0, none⟩) 0 0)), (13, (.pointer (some ⟨b1, 1, none⟩))), (14, (.pointer (some ⟨b1, 2, none⟩))), (15, (.slice RS.Q.B RS.Q.lb RS.Q.cb)), (16, (.slice (some ⟨b18001, 0, none⟩) (0 + RS.Q.lb) c_b18001)), (17, (.slice (some ⟨b22001, 0, none⟩) 0 0)), (18, (.pointer (some ⟨b1, 1, none⟩))), (19, (.pointer (some ⟨b1, 3, none⟩))), (20, (.slice RS.Q.C RS.Q.lc RS.Q.cc))] [(b22001, .cells []), (b18001, .cells (([] ++ (S.C.shells.flatMap intCells)) ++ sp_b18001)), (b4001, .cells (([] ++ (S.C.coils.flatMap intCells)) ++ sp_b4001)), (b3, .cells [(.int .i64 S.tick), (.slice none 0 0), (.slice none 0 0), (.slice none 0 0), (.slice none 0 0), (.slice none 0 0)]), (b2, .cells [(.int .i64 0), (.slice none 0 0), (.slice none 0 0), (.slice none 0 0), (.slice none 0 0), (.slice none 0 0)]), (b1, .cells [(.int .i64 S.tick), (.slice RS.Q.A RS.Q.la RS.Q.ca), (.slice RS.Q.B RS.Q.lb RS.Q.cb), (.slice RS.Q.C RS.Q.lc RS.Q.cc), (.slice RS.H RS.lh RS.ch), (.slice RS.T RS.lt RS.ct)])]) ?_ (fun hS1_0 => ?_)
  · intro b1001 b4001 c_b4001 sp_b4001 hc_b4001 hk_b4001 b11001 b18001 c_b18001 sp_b18001 hc_b18001 hk_b18001 b22001
    refine ah_one 14 rfl (by kernel_rfl) (fun hok1 hcl1 => ?_)
    refine al_appendS (i := 0) (z := 1) (bytes := 8) (zv := (.int .i64 0)) (xs := []) (sp := []) (vs := (S.C.plasma.flatMap intCells)) rfl rfl (by simp) (by simp) (by omega) (by omega) rfl (Sor.list (enc := intCells) (zs := S.C.plasma) (fun _ => rfl) (fun _ => rfl) hS.cur.plasma.1 (fun w9 hs => hS.cur.plasma.below hs.below)) Try.underlying30 (by kernel_rfl) rfl (by omega) (by decide) rfl rfl (fun b4 c_b4 sp_b4 hc_b4 hk_b4 hl_b4 => ?_)
    refine ⟨_, .k0, ?_⟩
    refine al_end (ah_back hok1 hcl1 (fun w9 hs => (hs.tail 3 rfl)) ?_)
    refine ah_take 15 (fun w9 hs => (hs.tail 3 rfl)) rfl rfl rfl (by kernel_rfl) (by kernel_rfl) (by kernel_rfl) (fun _ _ _ h => h) rfl (q_build (.cons rfl (.cons rfl (.cons rfl .nil))) (kcp_bl_apiCurrents_0_1_2 _ _ _ rfl rfl rfl)) ?_
    refine ah_take 16 (fun w9 hs => (hs.tail 3 rfl)) rfl rfl rfl (by kernel_rfl) (by kernel_rfl) (by kernel_rfl) (fun _ _ _ h => h) rfl (q_fieldAddr 1 rfl Try.runUnderlying35 rfl Try.sizeOf32 (by decide) rfl) ?_
    refine ah_one 17 rfl (by kernel_rfl) (fun hok2 hcl2 => ?_)
    refine al_storeSub (i := 3) rfl rfl rfl Try.sizeOf32 rfl (.s (.z (.s (.s (.s (.z)))))) rfl .k3 rfl ?_
    refine al_end (ah_last (by kernel_rfl) ?_)
    refine aq_then ?_
    refine ac_seq ?_
    refine ac_region ?_
    refine al_new (fun b => .slice (some ⟨b, 0, none⟩) 0 0) (r_buildSlice .nil (kcp_bs_int_0_)) rfl rfl rfl ?_
    intro b5
    refine al_q (q_fieldAddr 4 rfl Try.runUnderlying35 rfl Try.sizeOf30 (by decide) rfl) rfl rfl rfl ?_
    refine al_q (q_load (i := 6) rfl rfl rfl Try.isAgg30) rfl rfl rfl ?_
    refine al_appendS (i := 0) (z := 1) (bytes := 8) (zv := (.int .i64 0)) (xs := []) (sp := []) (vs := (S.heat.flatMap intCells)) rfl rfl (by simp) (by simp) (by omega) (by omega) rfl (Sor.list (enc := intCells) (zs := S.heat) (fun _ => rfl) (fun _ => rfl) hS.heat.1 (fun w9 hs => hS.heat.below hs.below)) Try.underlying30 (by kernel_rfl) rfl (by omega) (by decide) rfl rfl (fun b6 c_b6 sp_b6 hc_b6 hk_b6 hl_b6 => ?_)
    refine ⟨_, .k0, ?_⟩
    refine al_q (q_fieldAddr 4 rfl Try.runUnderlying35 rfl Try.sizeOf30 (by decide) rfl) rfl rfl rfl ?_
    refine al_store1 (i := 4) rfl rfl rfl rfl Try.sizeOf30 .k4 .k4 rfl ?_
    refine al_end ?_
    refine aq_then ?_
    refine ac_seq ?_
    refine ac_region ?_
    refine al_new (fun b => .slice (some ⟨b, 0, none⟩) 0 0) (r_buildSlice .nil (kcp_bs_bool_0_)) rfl rfl rfl ?_
    intro b7
    refine al_q (q_fieldAddr 5 rfl Try.runUnderlying35 rfl Try.sizeOf33 (by decide) rfl) rfl rfl rfl ?_
    refine al_q (q_load (i := 7) rfl rfl rfl Try.isAgg33) rfl rfl rfl ?_
    refine al_appendS (i := 0) (z := 1) (bytes := 1) (zv := (.bool false)) (xs := []) (sp := []) (vs := (S.trip.flatMap boolCells)) rfl rfl (by simp) (by simp) (by omega) (by omega) rfl (Sor.list (enc := boolCells) (zs := S.trip) (fun _ => rfl) (fun _ => rfl) hS.trip.1 (fun w9 hs => hS.trip.below hs.below)) Try.underlying33 (by kernel_rfl) rfl (by omega) (by decide) rfl rfl (fun b8 c_b8 sp_b8 hc_b8 hk_b8 hl_b8 => ?_)
    refine ⟨_, .k0, ?_⟩
    refine al_q (q_fieldAddr 5 rfl Try.runUnderlying35 rfl Try.sizeOf33 (by decide) rfl) rfl rfl rfl ?_
    refine al_store1 (i := 5) rfl rfl rfl rfl Try.sizeOf33 .k5 .k5 rfl ?_
    refine al_end ?_
    refine aq_then ?_
    refine ac_seq ?_
    refine ac_region ?_
    refine al_q (q_loadAll (i := 5) rfl rfl Try.isAgg35 Try.sizeOf35 rfl) rfl rfl rfl ?_
    refine al_storeAll (i := 6) rfl rfl rfl rfl Try.sizeOf35 rfl rfl .k6 rfl ?_
    refine al_end ?_
    refine aq_then ?_
    refine ac_ret ?_
    refine retR Try.results12 (.agg (i := 6) rfl rfl Try.isAgg35 Try.sizeOf35 rfl .nil) .one (fun w9 hs => ?_)
    have NA : NewT 1 intCells w.heap.size w9 (some ⟨b4001, 0, none⟩) (0 + RS.Q.la) c_b4001 S.C.coils := ⟨isT_box (n := 1) (enc := intCells) (zs := S.C.coils) (fun _ => rfl) (hs.at 4 rfl) (by simp) (by omega), fun b off e => hs.new 4 rfl b off e, by omega, hk_b4001⟩
    have NB : NewT 1 intCells w.heap.size w9 (some ⟨b18001, 0, none⟩) (0 + RS.Q.lb) c_b18001 S.C.shells := ⟨isT_box (n := 1) (enc := intCells) (zs := S.C.shells) (fun _ => rfl) (hs.at 3 rfl) (by simp) (by omega), fun b off e => hs.new 3 rfl b off e, by omega, hk_b18001⟩
    have NC : NewT 1 intCells w.heap.size w9 (some ⟨b4, 0, none⟩) (0 + RS.Q.lc) c_b4 S.C.plasma := ⟨isT_box (n := 1) (enc := intCells) (zs := S.C.plasma) (fun _ => rfl) (hs.at 2 rfl) (by simp) (by omega), fun b off e => hs.new 2 rfl b off e, by omega, hk_b4⟩
    have ND : NewT 1 intCells w.heap.size w9 (some ⟨b6, 0, none⟩) (0 + RS.lh) c_b6 S.heat := ⟨isT_box (n := 1) (enc := intCells) (zs := S.heat) (fun _ => rfl) (hs.at 1 rfl) (by simp) (by omega), fun b off e => hs.new 1 rfl b off e, by omega, hk_b6⟩
    have NE : NewT 1 boolCells w.heap.size w9 (some ⟨b8, 0, none⟩) (0 + RS.lt) c_b8 S.trip := ⟨isT_box (n := 1) (enc := boolCells) (zs := S.trip) (fun _ => rfl) (hs.at 0 rfl) (by simp) (by omega), fun b off e => hs.new 0 rfl b off e, by omega, hk_b8⟩
    exact ⟨⟨⟨some ⟨b4001, 0, none⟩, some ⟨b18001, 0, none⟩, some ⟨b4, 0, none⟩, 0 + RS.Q.la, c_b4001, 0 + RS.Q.lb, c_b18001, 0 + RS.Q.lc, c_b4⟩, some ⟨b6, 0, none⟩, some ⟨b8, 0, none⟩, 0 + RS.lh, c_b6, 0 + RS.lt, c_b8⟩, rfl, ⟨⟨NA.isT, NB.isT, NC.isT, NA.le.1, NB.le.1, NC.le.1, NA.le.2, NB.le.2, NC.le.2, by simp only; omega, by simp only; omega, by simp only; omega⟩, ND.isT, NE.isT, ND.le.1, NE.le.1, ND.le.2, NE.le.2, by simp only; omega, by simp only; omega⟩, ⟨NA.new, NB.new, NC.new, ND.new, NE.new⟩, hs.below⟩
  refine ah_share (fuel' := 5) (listed' := #[true, true, true, true, true, true, true, true, true, false, true, true, true, true, false, false, false, false]) (fun K => ∀ (b1001 : Nat), ∀ (b4001 : Nat), ∀ (c_b4001 : Nat), ∀ (sp_b4001 : List Value), ∀ (hc_b4001 : 0 + RS.Q.la ≤ c_b4001), ∀ (hk_b4001 : c_b4001 ≤ 9223372036854775807), ∀ (b11001 : Nat), ∀ (b19001 : Nat), K [(1, (.pointer (some ⟨b1, 0, none⟩))), (2, (.pointer (some ⟨b2, 0, none⟩))), (3, (.pointer (some ⟨b3, 0, none⟩))), (7, (.slice (some ⟨b1001, 0, none⟩) 0 0)), (8, (.pointer (some ⟨b1, 1, none⟩))), (9, (.pointer (some ⟨b1, 1, none⟩))), (10, (.slice RS.Q.A RS.Q.la RS.Q.ca)), (11, (.slice (some ⟨b4001, 0, none⟩) (0 + RS.Q.la) c_b4001)), (12, (.slice (some ⟨b11001, 0, none⟩) 0 0)), (13, (.pointer (some ⟨b1, 1, none⟩))), (14, (.pointer (some ⟨b1, 2, none⟩))), (15, (.slice RS.Q.B RS.Q.lb RS.Q.cb)), (17, (.slice (some ⟨b19001, 0, none⟩) 0 0)), (18, (.pointer (some ⟨b1, 1, none⟩))), (19, (.pointer (some ⟨b1, 3, none⟩))), (20, (.slice RS.Q.C RS.Q.lc RS.Q.cc))] [(b19001, .cells []), (b11001, .cells []), (b4001, .cells (([] ++ (S.C.coils.flatMap intCells)) ++ sp_b4001)), (b3, .cells [(.int .i64 S.tick), (.slice none 0 0), (.slice none 0 0), (.slice none 0 0), (.slice none 0 0), (.slice none 0 0)]), (b2, .cells [(.int .i64 0), (.slice none 0 0), (.slice none 0 0), (.slice none 0 0), (.slice none 0 0), (.slice none 0 0)]), (b1, .cells [(.int .i64 S.tick), (.slice RS.Q.A RS.Q.la RS.Q.ca), (.slice RS.Q.B RS.Q.lb RS.Q.cb), (.slice RS.Q.C RS.Q.lc RS.Q.cc), (.slice RS.H RS.lh RS.ch), (.slice RS.T RS.lt RS.ct)])]) ?_ (fun hS1_1 => ?_)
  · intro b1001 b4001 c_b4001 sp_b4001 hc_b4001 hk_b4001 b11001 b19001
    refine ah_one 9 rfl (by kernel_rfl) (fun hok3 hcl3 => ?_)
    refine al_appendS (i := 1) (z := 1) (bytes := 8) (zv := (.int .i64 0)) (xs := []) (sp := []) (vs := (S.C.shells.flatMap intCells)) rfl rfl (by simp) (by simp) (by omega) (by omega) rfl (Sor.list (enc := intCells) (zs := S.C.shells) (fun _ => rfl) (fun _ => rfl) hS.cur.shells.1 (fun w9 hs => hS.cur.shells.below hs.below)) Try.underlying30 (by kernel_rfl) rfl (by omega) (by decide) rfl rfl (fun b9 c_b9 sp_b9 hc_b9 hk_b9 hl_b9 => ?_)
    refine ⟨_, .k1, ?_⟩
    refine al_end (ah_back hok3 hcl3 (fun w9 hs => (hs.tail 3 rfl)) ?_)
    exact ah_to (hS1_0 b1001 b4001 c_b4001 sp_b4001 hc_b4001 hk_b4001 b11001 b9 c_b9 sp_b9 hc_b9 hk_b9 b19001) rfl (by kernel_rfl) ⟨rfl, rfl, rfl, rfl, rfl, rfl, rfl, rfl, rfl, rfl, rfl, rfl, rfl, rfl, rfl, rfl, rfl, trivial⟩ (fun w9 hs => hs)
  refine ah_share (fuel' := 6) (listed' := #[true, true, true, true, true, true, true, true, true, false, false, true, true, true, false, false, false, false]) (fun K => ∀ (b1001 : Nat), ∀ (b4001 : Nat), ∀ (c_b4001 : Nat), ∀ (sp_b4001 : List Value), ∀ (hc_b4001 : 0 + RS.Q.la ≤ c_b4001), ∀ (hk_b4001 : c_b4001 ≤ 9223372036854775807), ∀ (b11001 : Nat), K [(1, (.pointer (some ⟨b1, 0, none⟩))), (2, (.pointer (some ⟨b2, 0, none⟩))), (3, (.pointer (some ⟨b3, 0, none⟩))), (7, (.slice (some ⟨b1001, 0, none⟩) 0 0)), (8, (.pointer (some ⟨b1, 1, none⟩))), (9, (.pointer (some ⟨b1, 1, none⟩))), (10, (.slice RS.Q.A RS.Q.la RS.Q.ca)), (11, (.slice (some ⟨b4001, 0, none⟩) (0 + RS.Q.la) c_b4001)), (12, (.slice (some ⟨b11001, 0, none⟩) 0 0)), (13, (.pointer (some ⟨b1, 1, none⟩))), (14, (.pointer (some ⟨b1, 2, none⟩))), (15, (.slice RS.Q.B RS.Q.lb RS.Q.cb)), (18, (.pointer (some ⟨b1, 1, none⟩))), (19, (.pointer (some ⟨b1, 3, none⟩))), (20, (.slice RS.Q.C RS.Q.lc RS.Q.cc))] [(b11001, .cells []), (b4001, .cells (([] ++ (S.C.coils.flatMap intCells)) ++ sp_b4001)), (b3, .cells [(.int .i64 S.tick), (.slice none 0 0), (.slice none 0 0), (.slice none 0 0), (.slice none 0 0), (.slice none 0 0)]), (b2, .cells [(.int .i64 0), (.slice none 0 0), (.slice none 0 0), (.slice none 0 0), (.slice none 0 0), (.slice none 0 0)]), (b1, .cells [(.int .i64 S.tick), (.slice RS.Q.A RS.Q.la RS.Q.ca), (.slice RS.Q.B RS.Q.lb RS.Q.cb), (.slice RS.Q.C RS.Q.lc RS.Q.cc), (.slice RS.H RS.lh RS.ch), (.slice RS.T RS.lt RS.ct)])]) ?_ (fun hS1_2 => ?_)
  · intro b1001 b4001 c_b4001 sp_b4001 hc_b4001 hk_b4001 b11001
    refine ah_two 9 10 rfl rfl  (by kernel_rfl) (fun hok4 hcl4 => ?_) (fun hok4 hcl4 => ?_)
    · refine al_appendS (i := 0) (z := 1) (bytes := 8) (zv := (.int .i64 0)) (xs := []) (sp := []) (vs := (S.C.shells.flatMap intCells)) rfl rfl (by simp) (by simp) (by omega) (by omega) rfl (Sor.list (enc := intCells) (zs := S.C.shells) (fun _ => rfl) (fun _ => rfl) hS.cur.shells.1 (fun w9 hs => hS.cur.shells.below hs.below)) Try.underlying30 (by kernel_rfl) rfl (by omega) (by decide) rfl rfl (fun b10 c_b10 sp_b10 hc_b10 hk_b10 hl_b10 => ?_)
      refine ⟨_, .k0, ?_⟩
      refine al_end (ah_back hok4 hcl4 (fun w9 hs => (hs.tail 2 rfl)) ?_)
      refine ah_one 10 rfl (by kernel_rfl) (fun hok5 hcl5 => ?_)
      refine al_new (fun b => .slice (some ⟨b, 0, none⟩) 0 0) (r_buildSlice .nil (kcp_bs_int_0_)) rfl rfl rfl ?_
      intro b11
      refine al_end (ah_back hok5 hcl5 (fun w9 hs => (hs.tail 3 rfl)) ?_)
      exact ah_to (hS1_0 b1001 b4001 c_b4001 sp_b4001 hc_b4001 hk_b4001 b11001 b10 c_b10 sp_b10 hc_b10 hk_b10 b11) rfl (by kernel_rfl) ⟨rfl, rfl, rfl, rfl, rfl, rfl, rfl, rfl, rfl, rfl, rfl, rfl, rfl, rfl, rfl, rfl, rfl, trivial⟩ (fun w9 hs => hs)
    · refine al_new (fun b => .slice (some ⟨b, 0, none⟩) 0 0) (r_buildSlice .nil (kcp_bs_int_0_)) rfl rfl rfl ?_
      intro b12
      refine al_end (ah_back hok4 hcl4 (fun w9 hs => (hs.tail 3 rfl)) ?_)
      exact ah_to (hS1_1 b1001 b4001 c_b4001 sp_b4001 hc_b4001 hk_b4001 b11001 b12) rfl (by kernel_rfl) ⟨rfl, rfl, rfl, rfl, rfl, rfl, rfl, rfl, rfl, rfl, rfl, rfl, rfl, rfl, rfl, rfl, trivial⟩ (fun w9 hs => hs)
  refine ah_share (fuel' := 6) (listed' := #[true, true, true, true, true, false, true, true, true, false, true, true, true, true, false, false, false, false]) (fun K => ∀ (b1001 : Nat), ∀ (b4001 : Nat), ∀ (c_b4001 : Nat), ∀ (sp_b4001 : List Value), ∀ (hc_b4001 : 0 + RS.Q.la ≤ c_b4001), ∀ (hk_b4001 : c_b4001 ≤ 9223372036854775807), ∀ (b12001 : Nat), K [(1, (.pointer (some ⟨b1, 0, none⟩))), (2, (.pointer (some ⟨b2, 0, none⟩))), (3, (.pointer (some ⟨b3, 0, none⟩))), (7, (.slice (some ⟨b1001, 0, none⟩) 0 0)), (8, (.pointer (some ⟨b1, 1, none⟩))), (9, (.pointer (some ⟨b1, 1, none⟩))), (10, (.slice RS.Q.A RS.Q.la RS.Q.ca)), (11, (.slice (some ⟨b4001, 0, none⟩) (0 + RS.Q.la) c_b4001)), (13, (.pointer (some ⟨b1, 1, none⟩))), (14, (.pointer (some ⟨b1, 2, none⟩))), (15, (.slice RS.Q.B RS.Q.lb RS.Q.cb)), (17, (.slice (some ⟨b12001, 0, none⟩) 0 0)), (18, (.pointer (some ⟨b1, 1, none⟩))), (19, (.pointer (some ⟨b1, 3, none⟩))), (20, (.slice RS.Q.C RS.Q.lc RS.Q.cc))] [(b12001, .cells []), (b4001, .cells (([] ++ (S.C.coils.flatMap intCells)) ++ sp_b4001)), (b3, .cells [(.int .i64 S.tick), (.slice none 0 0), (.slice none 0 0), (.slice none 0 0), (.slice none 0 0), (.slice none 0 0)]), (b2, .cells [(.int .i64 0), (.slice none 0 0), (.slice none 0 0), (.slice none 0 0), (.slice none 0 0), (.slice none 0 0)]), (b1, .cells [(.int .i64 S.tick), (.slice RS.Q.A RS.Q.la RS.Q.ca), (.slice RS.Q.B RS.Q.lb RS.Q.cb), (.slice RS.Q.C RS.Q.lc RS.Q.cc), (.slice RS.H RS.lh RS.ch), (.slice RS.T RS.lt RS.ct)])]) ?_ (fun hS1_3 => ?_)
  · intro b1001 b4001 c_b4001 sp_b4001 hc_b4001 hk_b4001 b12001
    refine ah_one 5 rfl (by kernel_rfl) (fun hok6 hcl6 => ?_)
    refine al_new (fun b => .slice (some ⟨b, 0, none⟩) 0 0) (r_buildSlice .nil (kcp_bs_int_0_)) rfl rfl rfl ?_
    intro b13
    refine al_end (ah_back hok6 hcl6 (fun w9 hs => (hs.tail 3 rfl)) ?_)
    exact ah_to (hS1_1 b1001 b4001 c_b4001 sp_b4001 hc_b4001 hk_b4001 b13 b12001) rfl (by kernel_rfl) ⟨rfl, rfl, rfl, rfl, rfl, rfl, rfl, rfl, rfl, rfl, rfl, rfl, rfl, rfl, rfl, rfl, trivial⟩ (fun w9 hs => hs.pm (.cons (.there (.here)) (.refl)))
  refine ah_share (fuel' := 6) (listed' := #[true, true, true, true, false, true, true, true, true, false, true, true, true, true, false, false, false, false]) (fun K => ∀ (b1001 : Nat), ∀ (b5001 : Nat), ∀ (b14001 : Nat), K [(1, (.pointer (some ⟨b1, 0, none⟩))), (2, (.pointer (some ⟨b2, 0, none⟩))), (3, (.pointer (some ⟨b3, 0, none⟩))), (7, (.slice (some ⟨b1001, 0, none⟩) 0 0)), (8, (.pointer (some ⟨b1, 1, none⟩))), (9, (.pointer (some ⟨b1, 1, none⟩))), (10, (.slice RS.Q.A RS.Q.la RS.Q.ca)), (12, (.slice (some ⟨b5001, 0, none⟩) 0 0)), (13, (.pointer (some ⟨b1, 1, none⟩))), (14, (.pointer (some ⟨b1, 2, none⟩))), (15, (.slice RS.Q.B RS.Q.lb RS.Q.cb)), (17, (.slice (some ⟨b14001, 0, none⟩) 0 0)), (18, (.pointer (some ⟨b1, 1, none⟩))), (19, (.pointer (some ⟨b1, 3, none⟩))), (20, (.slice RS.Q.C RS.Q.lc RS.Q.cc))] [(b14001, .cells []), (b5001, .cells []), (b1001, .cells []), (b3, .cells [(.int .i64 S.tick), (.slice none 0 0), (.slice none 0 0), (.slice none 0 0), (.slice none 0 0), (.slice none 0 0)]), (b2, .cells [(.int .i64 0), (.slice none 0 0), (.slice none 0 0), (.slice none 0 0), (.slice none 0 0), (.slice none 0 0)]), (b1, .cells [(.int .i64 S.tick), (.slice RS.Q.A RS.Q.la RS.Q.ca), (.slice RS.Q.B RS.Q.lb RS.Q.cb), (.slice RS.Q.C RS.Q.lc RS.Q.cc), (.slice RS.H RS.lh RS.ch), (.slice RS.T RS.lt RS.ct)])]) ?_ (fun hS1_4 => ?_)
  · intro b1001 b5001 b14001
    refine ah_one 4 rfl (by kernel_rfl) (fun hok7 hcl7 => ?_)
    refine al_appendS (i := 2) (z := 1) (bytes := 8) (zv := (.int .i64 0)) (xs := []) (sp := []) (vs := (S.C.coils.flatMap intCells)) rfl rfl (by simp) (by simp) (by omega) (by omega) rfl (Sor.list (enc := intCells) (zs := S.C.coils) (fun _ => rfl) (fun _ => rfl) hS.cur.coils.1 (fun w9 hs => hS.cur.coils.below hs.below)) Try.underlying30 (by kernel_rfl) rfl (by omega) (by decide) rfl rfl (fun b14 c_b14 sp_b14 hc_b14 hk_b14 hl_b14 => ?_)
    refine ⟨_, .k2, ?_⟩
    refine al_end (ah_back hok7 hcl7 (fun w9 hs => (hs.tail 3 rfl)) ?_)
    exact ah_to (hS1_1 b1001 b14 c_b14 sp_b14 hc_b14 hk_b14 b5001 b14001) rfl (by kernel_rfl) ⟨rfl, rfl, rfl, rfl, rfl, rfl, rfl, rfl, rfl, rfl, rfl, rfl, rfl, rfl, rfl, rfl, trivial⟩ (fun w9 hs => hs)
  refine ah_share (fuel' := 7) (listed' := #[true, true, true, true, false, true, true, true, true, false, false, true, true, true, false, false, false, false]) (fun K => ∀ (b1001 : Nat), ∀ (b5001 : Nat), K [(1, (.pointer (some ⟨b1, 0, none⟩))), (2, (.pointer (some ⟨b2, 0, none⟩))), (3, (.pointer (some ⟨b3, 0, none⟩))), (7, (.slice (some ⟨b1001, 0, none⟩) 0 0)), (8, (.pointer (some ⟨b1, 1, none⟩))), (9, (.pointer (some ⟨b1, 1, none⟩))), (10, (.slice RS.Q.A RS.Q.la RS.Q.ca)), (12, (.slice (some ⟨b5001, 0, none⟩) 0 0)), (13, (.pointer (some ⟨b1, 1, none⟩))), (14, (.pointer (some ⟨b1, 2, none⟩))), (15, (.slice RS.Q.B RS.Q.lb RS.Q.cb)), (18, (.pointer (some ⟨b1, 1, none⟩))), (19, (.pointer (some ⟨b1, 3, none⟩))), (20, (.slice RS.Q.C RS.Q.lc RS.Q.cc))] [(b5001, .cells []), (b1001, .cells []), (b3, .cells [(.int .i64 S.tick), (.slice none 0 0), (.slice none 0 0), (.slice none 0 0), (.slice none 0 0), (.slice none 0 0)]), (b2, .cells [(.int .i64 0), (.slice none 0 0), (.slice none 0 0), (.slice none 0 0), (.slice none 0 0), (.slice none 0 0)]), (b1, .cells [(.int .i64 S.tick), (.slice RS.Q.A RS.Q.la RS.Q.ca), (.slice RS.Q.B RS.Q.lb RS.Q.cb), (.slice RS.Q.C RS.Q.lc RS.Q.cc), (.slice RS.H RS.lh RS.ch), (.slice RS.T RS.lt RS.ct)])]) ?_ (fun hS1_5 => ?_)
  · intro b1001 b5001
    refine ah_two 4 10 rfl rfl  (by kernel_rfl) (fun hok8 hcl8 => ?_) (fun hok8 hcl8 => ?_)
    · refine al_appendS (i := 1) (z := 1) (bytes := 8) (zv := (.int .i64 0)) (xs := []) (sp := []) (vs := (S.C.coils.flatMap intCells)) rfl rfl (by simp) (by simp) (by omega) (by omega) rfl (Sor.list (enc := intCells) (zs := S.C.coils) (fun _ => rfl) (fun _ => rfl) hS.cur.coils.1 (fun w9 hs => hS.cur.coils.below hs.below)) Try.underlying30 (by kernel_rfl) rfl (by omega) (by decide) rfl rfl (fun b15 c_b15 sp_b15 hc_b15 hk_b15 hl_b15 => ?_)
      refine ⟨_, .k1, ?_⟩
      refine al_end (ah_back hok8 hcl8 (fun w9 hs => (hs.tail 2 rfl)) ?_)
      exact ah_to (hS1_2 b1001 b15 c_b15 sp_b15 hc_b15 hk_b15 b5001) rfl (by kernel_rfl) ⟨rfl, rfl, rfl, rfl, rfl, rfl, rfl, rfl, rfl, rfl, rfl, rfl, rfl, rfl, rfl, trivial⟩ (fun w9 hs => hs)
    · refine al_new (fun b => .slice (some ⟨b, 0, none⟩) 0 0) (r_buildSlice .nil (kcp_bs_int_0_)) rfl rfl rfl ?_
      intro b16
      refine al_end (ah_back hok8 hcl8 (fun w9 hs => (hs.tail 3 rfl)) ?_)
      exact ah_to (hS1_4 b1001 b5001 b16) rfl (by kernel_rfl) ⟨rfl, rfl, rfl, rfl, rfl, rfl, rfl, rfl, rfl, rfl, rfl, rfl, rfl, rfl, rfl, trivial⟩ (fun w9 hs => hs)
  refine ah_share (fuel' := 7) (listed' := #[true, true, true, true, false, false, true, true, true, false, true, true, true, true, false, false, false, false]) (fun K => ∀ (b1001 : Nat), ∀ (b6001 : Nat), K [(1, (.pointer (some ⟨b1, 0, none⟩))), (2, (.pointer (some ⟨b2, 0, none⟩))), (3, (.pointer (some ⟨b3, 0, none⟩))), (7, (.slice (some ⟨b1001, 0, none⟩) 0 0)), (8, (.pointer (some ⟨b1, 1, none⟩))), (9, (.pointer (some ⟨b1, 1, none⟩))), (10, (.slice RS.Q.A RS.Q.la RS.Q.ca)), (13, (.pointer (some ⟨b1, 1, none⟩))), (14, (.pointer (some ⟨b1, 2, none⟩))), (15, (.slice RS.Q.B RS.Q.lb RS.Q.cb)), (17, (.slice (some ⟨b6001, 0, none⟩) 0 0)), (18, (.pointer (some ⟨b1, 1, none⟩))), (19, (.pointer (some ⟨b1, 3, none⟩))), (20, (.slice RS.Q.C RS.Q.lc RS.Q.cc))] [(b6001, .cells []), (b1001, .cells []), (b3, .cells [(.int .i64 S.tick), (.slice none 0 0), (.slice none 0 0), (.slice none 0 0), (.slice none 0 0), (.slice none 0 0)]), (b2, .cells [(.int .i64 0), (.slice none 0 0), (.slice none 0 0), (.slice none 0 0), (.slice none 0 0), (.slice none 0 0)]), (b1, .cells [(.int .i64 S.tick), (.slice RS.Q.A RS.Q.la RS.Q.ca), (.slice RS.Q.B RS.Q.lb RS.Q.cb), (.slice RS.Q.C RS.Q.lc RS.Q.cc), (.slice RS.H RS.lh RS.ch), (.slice RS.T RS.lt RS.ct)])]) ?_ (fun hS1_6 => ?_)
  · intro b1001 b6001
    refine ah_two 4 5 rfl rfl  (by kernel_rfl) (fun hok9 hcl9 => ?_) (fun hok9 hcl9 => ?_)
    · refine al_appendS (i := 1) (z := 1) (bytes := 8) (zv := (.int .i64 0)) (xs := []) (sp := []) (vs := (S.C.coils.flatMap intCells)) rfl rfl (by simp) (by simp) (by omega) (by omega) rfl (Sor.list (enc := intCells) (zs := S.C.coils) (fun _ => rfl) (fun _ => rfl) hS.cur.coils.1 (fun w9 hs => hS.cur.coils.below hs.below)) Try.underlying30 (by kernel_rfl) rfl (by omega) (by decide) rfl rfl (fun b17 c_b17 sp_b17 hc_b17 hk_b17 hl_b17 => ?_)
      refine ⟨_, .k1, ?_⟩
      refine al_end (ah_back hok9 hcl9 (fun w9 hs => (hs.tail 2 rfl)) ?_)
      exact ah_to (hS1_3 b1001 b17 c_b17 sp_b17 hc_b17 hk_b17 b6001) rfl (by kernel_rfl) ⟨rfl, rfl, rfl, rfl, rfl, rfl, rfl, rfl, rfl, rfl, rfl, rfl, rfl, rfl, rfl, trivial⟩ (fun w9 hs => hs)
    · refine al_new (fun b => .slice (some ⟨b, 0, none⟩) 0 0) (r_buildSlice .nil (kcp_bs_int_0_)) rfl rfl rfl ?_
      intro b18
      refine al_end (ah_back hok9 hcl9 (fun w9 hs => (hs.tail 3 rfl)) ?_)
      exact ah_to (hS1_4 b1001 b18 b6001) rfl (by kernel_rfl) ⟨rfl, rfl, rfl, rfl, rfl, rfl, rfl, rfl, rfl, rfl, rfl, rfl, rfl, rfl, rfl, trivial⟩ (fun w9 hs => hs.pm (.cons (.there (.here)) (.refl)))
  refine ah_share (fuel' := 7) (listed' := #[false, true, true, true, false, true, true, true, true, false, true, true, true, true, false, false, false, false]) (fun K => ∀ (b2001 : Nat), ∀ (b8001 : Nat), K [(1, (.pointer (some ⟨b1, 0, none⟩))), (2, (.pointer (some ⟨b2, 0, none⟩))), (3, (.pointer (some ⟨b3, 0, none⟩))), (8, (.pointer (some ⟨b1, 1, none⟩))), (9, (.pointer (some ⟨b1, 1, none⟩))), (10, (.slice RS.Q.A RS.Q.la RS.Q.ca)), (12, (.slice (some ⟨b2001, 0, none⟩) 0 0)), (13, (.pointer (some ⟨b1, 1, none⟩))), (14, (.pointer (some ⟨b1, 2, none⟩))), (15, (.slice RS.Q.B RS.Q.lb RS.Q.cb)), (17, (.slice (some ⟨b8001, 0, none⟩) 0 0)), (18, (.pointer (some ⟨b1, 1, none⟩))), (19, (.pointer (some ⟨b1, 3, none⟩))), (20, (.slice RS.Q.C RS.Q.lc RS.Q.cc))] [(b8001, .cells []), (b2001, .cells []), (b3, .cells [(.int .i64 S.tick), (.slice none 0 0), (.slice none 0 0), (.slice none 0 0), (.slice none 0 0), (.slice none 0 0)]), (b2, .cells [(.int .i64 0), (.slice none 0 0), (.slice none 0 0), (.slice none 0 0), (.slice none 0 0), (.slice none 0 0)]), (b1, .cells [(.int .i64 S.tick), (.slice RS.Q.A RS.Q.la RS.Q.ca), (.slice RS.Q.B RS.Q.lb RS.Q.cb), (.slice RS.Q.C RS.Q.lc RS.Q.cc), (.slice RS.H RS.lh RS.ch), (.slice RS.T RS.lt RS.ct)])]) ?_ (fun hS1_7 => ?_)
  · intro b2001 b8001
    refine ah_one 0 rfl (by kernel_rfl) (fun hok10 hcl10 => ?_)
    refine al_new (fun b => .slice (some ⟨b, 0, none⟩) 0 0) (r_buildSlice .nil (kcp_bs_int_0_)) rfl rfl rfl ?_
    intro b19
    refine al_end (ah_back hok10 hcl10 (fun w9 hs => (hs.tail 3 rfl)) ?_)
    exact ah_to (hS1_4 b19 b2001 b8001) rfl (by kernel_rfl) ⟨rfl, rfl, rfl, rfl, rfl, rfl, rfl, rfl, rfl, rfl, rfl, rfl, rfl, rfl, rfl, trivial⟩ (fun w9 hs => hs.pm (.cons (.there (.here)) ( .cons (.there (.here)) (.refl))))
  · refine ah_take 1 (fun w9 hs => hs) rfl rfl rfl (by kernel_rfl) (by kernel_rfl) (by kernel_rfl) (fun _ _ _ h => h) rfl (q_fieldAddr 1 rfl Try.runUnderlying35 rfl Try.sizeOf32 (by decide) rfl) ?_
    refine ah_take 2 (fun w9 hs => hs) rfl rfl rfl (by kernel_rfl) (by kernel_rfl) (by kernel_rfl) (fun _ _ _ h => h) rfl (q_fieldAddr 1 rfl Try.runUnderlying32 rfl Try.sizeOf30 (by decide) rfl) ?_
    refine ah_take 3 (fun w9 hs => hs) rfl rfl rfl (by kernel_rfl) (by kernel_rfl) (by kernel_rfl) (fun _ _ _ h => h) rfl (q_load (i := 2) rfl rfl rfl Try.isAgg30) ?_
    refine ah_take 6 (fun w9 hs => hs) rfl rfl rfl (by kernel_rfl) (by kernel_rfl) (by kernel_rfl) (fun _ _ _ h => h) rfl (q_fieldAddr 1 rfl Try.runUnderlying35 rfl Try.sizeOf32 (by decide) rfl) ?_
    refine ah_take 7 (fun w9 hs => hs) rfl rfl rfl (by kernel_rfl) (by kernel_rfl) (by kernel_rfl) (fun _ _ _ h => h) rfl (q_fieldAddr 2 rfl Try.runUnderlying32 rfl Try.sizeOf30 (by decide) rfl) ?_
    refine ah_take 8 (fun w9 hs => hs) rfl rfl rfl (by kernel_rfl) (by kernel_rfl) (by kernel_rfl) (fun _ _ _ h => h) rfl (q_load (i := 2) rfl rfl rfl Try.isAgg30) ?_
    refine ah_take 11 (fun w9 hs => hs) rfl rfl rfl (by kernel_rfl) (by kernel_rfl) (by kernel_rfl) (fun _ _ _ h => h) rfl (q_fieldAddr 1 rfl Try.runUnderlying35 rfl Try.sizeOf32 (by decide) rfl) ?_
    refine ah_take 12 (fun w9 hs => hs) rfl rfl rfl (by kernel_rfl) (by kernel_rfl) (by kernel_rfl) (fun _ _ _ h => h) rfl (q_fieldAddr 3 rfl Try.runUnderlying32 rfl Try.sizeOf30 (by decide) rfl) ?_
    refine ah_take 13 (fun w9 hs => hs) rfl rfl rfl (by kernel_rfl) (by kernel_rfl) (by kernel_rfl) (fun _ _ _ h => h) rfl (q_load (i := 2) rfl rfl rfl Try.isAgg30) ?_
    refine ah_three 0 5 10 rfl rfl rfl  (by kernel_rfl) (fun hok11 hcl11 => ?_) (fun hok11 hcl11 => ?_) (fun hok11 hcl11 => ?_)
    · refine al_new (fun b => .slice (some ⟨b, 0, none⟩) 0 0) (r_buildSlice .nil (kcp_bs_int_0_)) rfl rfl rfl ?_
      intro b20
      refine al_end (ah_back hok11 hcl11 (fun w9 hs => (hs.tail 1 rfl)) ?_)
      refine ah_three 4 5 10 rfl rfl rfl  (by kernel_rfl) (fun hok12 hcl12 => ?_) (fun hok12 hcl12 => ?_) (fun hok12 hcl12 => ?_)
      · refine al_appendS (i := 0) (z := 1) (bytes := 8) (zv := (.int .i64 0)) (xs := []) (sp := []) (vs := (S.C.coils.flatMap intCells)) rfl rfl (by simp) (by simp) (by omega) (by omega) rfl (Sor.list (enc := intCells) (zs := S.C.coils) (fun _ => rfl) (fun _ => rfl) hS.cur.coils.1 (fun w9 hs => hS.cur.coils.below hs.below)) Try.underlying30 (by kernel_rfl) rfl (by omega) (by decide) rfl rfl (fun b21 c_b21 sp_b21 hc_b21 hk_b21 hl_b21 => ?_)
        refine ⟨_, .k0, ?_⟩
        refine al_end (ah_back hok12 hcl12 (fun w9 hs => (hs.tail 1 rfl)) ?_)
        refine ah_two 5 10 rfl rfl  (by kernel_rfl) (fun hok13 hcl13 => ?_) (fun hok13 hcl13 => ?_)
        · refine al_new (fun b => .slice (some ⟨b, 0, none⟩) 0 0) (r_buildSlice .nil (kcp_bs_int_0_)) rfl rfl rfl ?_
          intro b22
          refine al_end (ah_back hok13 hcl13 (fun w9 hs => (hs.tail 2 rfl)) ?_)
          exact ah_to (hS1_2 b20 b21 c_b21 sp_b21 hc_b21 hk_b21 b22) rfl (by kernel_rfl) ⟨rfl, rfl, rfl, rfl, rfl, rfl, rfl, rfl, rfl, rfl, rfl, rfl, rfl, rfl, rfl, trivial⟩ (fun w9 hs => hs)
        · refine al_new (fun b => .slice (some ⟨b, 0, none⟩) 0 0) (r_buildSlice .nil (kcp_bs_int_0_)) rfl rfl rfl ?_
          intro b23
          refine al_end (ah_back hok13 hcl13 (fun w9 hs => (hs.tail 2 rfl)) ?_)
          exact ah_to (hS1_3 b20 b21 c_b21 sp_b21 hc_b21 hk_b21 b23) rfl (by kernel_rfl) ⟨rfl, rfl, rfl, rfl, rfl, rfl, rfl, rfl, rfl, rfl, rfl, rfl, rfl, rfl, rfl, trivial⟩ (fun w9 hs => hs)
      · refine al_new (fun b => .slice (some ⟨b, 0, none⟩) 0 0) (r_buildSlice .nil (kcp_bs_int_0_)) rfl rfl rfl ?_
        intro b24
        refine al_end (ah_back hok12 hcl12 (fun w9 hs => (hs.tail 2 rfl)) ?_)
        exact ah_to (hS1_5 b20 b24) rfl (by kernel_rfl) ⟨rfl, rfl, rfl, rfl, rfl, rfl, rfl, rfl, rfl, rfl, rfl, rfl, rfl, rfl, trivial⟩ (fun w9 hs => hs)
      · refine al_new (fun b => .slice (some ⟨b, 0, none⟩) 0 0) (r_buildSlice .nil (kcp_bs_int_0_)) rfl rfl rfl ?_
        intro b25
        refine al_end (ah_back hok12 hcl12 (fun w9 hs => (hs.tail 2 rfl)) ?_)
        exact ah_to (hS1_6 b20 b25) rfl (by kernel_rfl) ⟨rfl, rfl, rfl, rfl, rfl, rfl, rfl, rfl, rfl, rfl, rfl, rfl, rfl, rfl, trivial⟩ (fun w9 hs => hs)
    · refine al_new (fun b => .slice (some ⟨b, 0, none⟩) 0 0) (r_buildSlice .nil (kcp_bs_int_0_)) rfl rfl rfl ?_
      intro b26
      refine al_end (ah_back hok11 hcl11 (fun w9 hs => (hs.tail 1 rfl)) ?_)
      refine ah_two 0 10 rfl rfl  (by kernel_rfl) (fun hok14 hcl14 => ?_) (fun hok14 hcl14 => ?_)
      · refine al_new (fun b => .slice (some ⟨b, 0, none⟩) 0 0) (r_buildSlice .nil (kcp_bs_int_0_)) rfl rfl rfl ?_
        intro b27
        refine al_end (ah_back hok14 hcl14 (fun w9 hs => (hs.tail 2 rfl)) ?_)
        exact ah_to (hS1_5 b27 b26) rfl (by kernel_rfl) ⟨rfl, rfl, rfl, rfl, rfl, rfl, rfl, rfl, rfl, rfl, rfl, rfl, rfl, rfl, trivial⟩ (fun w9 hs => hs.pm (.cons (.there (.here)) (.refl)))
      · refine al_new (fun b => .slice (some ⟨b, 0, none⟩) 0 0) (r_buildSlice .nil (kcp_bs_int_0_)) rfl rfl rfl ?_
        intro b28
        refine al_end (ah_back hok14 hcl14 (fun w9 hs => (hs.tail 2 rfl)) ?_)
        exact ah_to (hS1_7 b26 b28) rfl (by kernel_rfl) ⟨rfl, rfl, rfl, rfl, rfl, rfl, rfl, rfl, rfl, rfl, rfl, rfl, rfl, rfl, trivial⟩ (fun w9 hs => hs)
    · refine al_new (fun b => .slice (some ⟨b, 0, none⟩) 0 0) (r_buildSlice .nil (kcp_bs_int_0_)) rfl rfl rfl ?_
      intro b29
      refine al_end (ah_back hok11 hcl11 (fun w9 hs => (hs.tail 1 rfl)) ?_)
      refine ah_two 0 5 rfl rfl  (by kernel_rfl) (fun hok15 hcl15 => ?_) (fun hok15 hcl15 => ?_)
      · refine al_new (fun b => .slice (some ⟨b, 0, none⟩) 0 0) (r_buildSlice .nil (kcp_bs_int_0_)) rfl rfl rfl ?_
        intro b30
        refine al_end (ah_back hok15 hcl15 (fun w9 hs => (hs.tail 2 rfl)) ?_)
        exact ah_to (hS1_6 b30 b29) rfl (by kernel_rfl) ⟨rfl, rfl, rfl, rfl, rfl, rfl, rfl, rfl, rfl, rfl, rfl, rfl, rfl, rfl, trivial⟩ (fun w9 hs => hs.pm (.cons (.there (.here)) (.refl)))
      · refine al_new (fun b => .slice (some ⟨b, 0, none⟩) 0 0) (r_buildSlice .nil (kcp_bs_int_0_)) rfl rfl rfl ?_
        intro b31
        refine al_end (ah_back hok15 hcl15 (fun w9 hs => (hs.tail 2 rfl)) ?_)
        exact ah_to (hS1_7 b31 b29) rfl (by kernel_rfl) ⟨rfl, rfl, rfl, rfl, rfl, rfl, rfl, rfl, rfl, rfl, rfl, rfl, rfl, rfl, trivial⟩ (fun w9 hs => hs.pm (.cons (.there (.here)) (.refl)))

end Go.Proofs.Ytkhahbnagbjbiaa
end
section
/- The laws CircuitBegins, CircuitRests, over this seat's translation (written by ax_ci14.py). -/
namespace Go.Proofs.Ytkhahbnagbjbiaa
set_option linter.unusedVariables false
set_option linter.unusedSimpArgs false
open Go.RowKit

end Go.Proofs.Ytkhahbnagbjbiaa
end
