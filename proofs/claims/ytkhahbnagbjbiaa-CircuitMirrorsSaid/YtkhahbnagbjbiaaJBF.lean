import Derived.Test.YtkhahbnagbjbiaaJAM
import Derived.Test.YtkhahbnagbjbiaaJAN
import Derived.Test.YtkhahbnagbjbiaaJAP
import Derived.Test.YtkhahbnagbjbiaaJBB
import Derived.Test.YtkhahbnagbjbiaaRows
import Derived.KernelRfl
import Derived.Laws.StructEq
section
/- The specification of layer 2: Turned, over this seat's translation (written by ax_rm.py). -/
namespace Go.Proofs.Ytkhahbnagbjbiaa
set_option linter.unusedVariables false
set_option linter.unusedSimpArgs false
open Go.RowKit

theorem turn_take (g : GridD) (l : List Int) (k : Nat) (hk : k < l.length) (y : Int) (hy : l[sigma g k]? = some y) : (turnL g l).take (k + 1) = (turnL g l).take k ++ [y] := by
  have h : (turnL g l)[k]? = some y := by
    unfold turnL; rw [List.getElem?_map, List.getElem?_range hk]; simp [hy]
  obtain ⟨h1, e⟩ := List.getElem?_eq_some_iff.1 h
  rw [List.take_succ_eq_append_getElem h1, e]
theorem sigma_int (g : GridD) (c d k : Nat) (hc : g.nr = c) (hd : g.nz = d) (hk : k < d * c) : (g.nz - 1 - (k : Int).tdiv g.nr) * g.nr + (k : Int).tmod g.nr = ((sigma g k : Nat) : Int) ∧ (0 ≤ (k : Int).tdiv g.nr ∧ (k : Int).tdiv g.nr ≤ d) ∧ (0 ≤ (k : Int).tmod g.nr ∧ (k : Int).tmod g.nr ≤ c) ∧ 0 ≤ (g.nz - 1 - (k : Int).tdiv g.nr) * g.nr ∧ (g.nz - 1 - (k : Int).tdiv g.nr) * g.nr ≤ (d * c : Nat) := by
  obtain ⟨a, b, ha, hb, rfl⟩ := rowcol k c d hk
  have d1 : (((a * c + b : Nat) : Int)).tdiv (c : Int) = a := by
    rw [Int.tdiv_eq_ediv_of_nonneg (by omega)]
    have : (a * c + b) / c = a := by
      rw [Nat.mul_comm, Nat.mul_add_div (by omega), Nat.div_eq_of_lt hb]; omega
    exact_mod_cast this
  have d2 : (((a * c + b : Nat) : Int)).tmod (c : Int) = b := by
    rw [Int.tmod_eq_emod_of_nonneg (by omega)]
    have : (a * c + b) % c = b := by
      rw [Nat.mul_comm, Nat.mul_add_mod, Nat.mod_eq_of_lt hb]
    exact_mod_cast this
  rw [hc, hd, d1, d2, sigma_at g a b c d hc hd ha hb]
  have e : (d : Int) - 1 - a = ((d - 1 - a : Nat) : Int) := by omega
  have h1 : (d - 1 - a) * c ≤ d * c := Nat.mul_le_mul_right c (by omega)
  rw [e, ← Int.natCast_mul]
  exact ⟨by push_cast; omega, ⟨by omega, by omega⟩, ⟨by omega, by omega⟩, by omega, by exact_mod_cast h1⟩

theorem rct_bs_int_1_0_ (a0 : Value) (ha0 : a0.oneCell' = true) : ∀ w, (Instr.buildSlice 30 1 #[(0, a0)]).run Try.prog w = .ok (.slice (some ⟨w.heap.size, 0, none⟩) 1 1) (w.alloc (.cells [a0].toArray 3)) := by
  have ea0 : a0.cells = #[a0] := cells_one ha0
  intro w; (simp [Instr.buildSlice, Instr.fill, cells_agg, newRow, Try.runUnderlying30, Try.zeroValue3, Try.sizeOf3, ea0] <;> (rw [(by kernel_rfl : Array.range 1 = #[0])]; simp [Value.cells]))

set_option maxRecDepth 100000 in
theorem rturned_any (g : GridD) (A : Option Addr) (len cap : Nat) (l : List Int) (w : World) (hI : IsT 1 intCells w A len l) (hg : g.Fine) (hl : (l.length : Int) = g.nr * g.nz) : Calls Try.prog 13 #[g.v, (.slice A len cap)] w (fun e w' => ∃ A' c', e = .returned (.slice A' len c') ∧ NewT 1 intCells w.heap.size w' A' len c' (turnL g l) ∧ Below w.heap.size w w') := by
  obtain ⟨c, d, hc, hd, hn0⟩ := fine_nat hg
  have hcf := cells_fine hg
  have hn0r := hg.n0
  have hn1r := hg.n1
  have hk0r := hg.k0
  have hk1r := hg.k1
  have hln : l.length = d * c := by omega
  have hlen := hI.1
  refine calls_ax (vs := [g.v, (.slice A len cap)]) Try.func13 rfl rfl ?_
  refine ac_seq ?_
  refine ac_region ?_
  refine al_new (fun b => .pointer (some ⟨b, 0, none⟩)) (r_box rfl rfl) rfl rfl rfl ?_
  intro b1
  refine al_q (q_assign rfl) rfl rfl rfl ?_
  refine al_end ?_
  refine aq_then ?_
  refine ac_seq ?_
  refine ac_region ?_
  refine al_q (q_assign rfl) rfl rfl rfl ?_
  refine al_end ?_
  refine aq_then ?_
  refine ac_seq ?_
  refine ac_seq ?_
  refine ac_region ?_
  refine al_q (q_assign rfl) rfl rfl rfl ?_
  refine al_end ?_
  refine aq_then ?_
  refine ac_block ?_
  refine ac_loop (β := Nat × Gr × List Value) (fun x => x.1 ≤ len ∧ gok x.2.1 x.1 1 x.2.2 ∧ x.2.2 = ((turnL g l).take x.1).map (Value.int .i64)) (fun x => [(1, (.slice A len cap)), (2, (.pointer (some ⟨b1, 0, none⟩))), (4, (.slice none 0 0)), (5, (.slice (gA x.2.1) x.1 (gC x.2.1))), (6, (.int .i64 (x.1 : Int)))]) (fun _ => _) (fun x => (b1, _) :: (gt x.2.1 x.2.2 ++ ([]))) (fun x => len - x.1) (0, none, []) ⟨by simp, gok.none 1, by simp⟩ ⟨rfl, rfl, rfl, rfl, rfl, trivial⟩ (fun w9 hs => hs) (fun x hF1 => ?_)
  obtain ⟨hla, hgk, hcs⟩ := hF1
  refine ac_seq ?_
  refine ac_seq ?_
  refine ac_region ?_
  refine al_q (q_move rfl) rfl rfl rfl ?_
  refine al_q (q_move rfl) rfl rfl rfl ?_
  refine al_q (q_lenS rfl Try.runUnderlying30) rfl rfl rfl ?_
  refine al_q (q_lss rfl rfl) rfl rfl rfl ?_
  refine al_end ?_
  refine aq_then ?_
  refine ac_cond rfl (fun h1 => ?_) (fun h1 => ?_)
  · have hk1 : x.1 < len := by have := of_decide_eq_true h1; omega
    have hsl := sigma_lt g c d x.1 hc hd (by omega)
    have hsi := sigma_int g c d x.1 hc hd (by omega)
    obtain ⟨b1, o1, hA1, hlt1, hget1⟩ := hI.2 (by omega)
    obtain ⟨y, hy⟩ : ∃ y, l[sigma g x.1]? = some y := ⟨_, List.getElem?_eq_getElem (by omega)⟩
    refine ac_skip ?_
    refine aq_then ?_
    refine ac_seq ?_
    refine ac_block ?_
    refine ac_drawF 22 (.s .z) (by kernel_rfl) (by kernel_rfl) ?_
    refine ah_take 0 (fun w9 hs => (hs.front (.s (.z)))) rfl rfl rfl (by kernel_rfl) (by kernel_rfl) (by kernel_rfl) (fun _ _ _ h => h) rfl (q_move rfl) ?_
    refine ah_take 1 (fun w9 hs => (hs.front (.s (.z)))) rfl rfl rfl (by kernel_rfl) (by kernel_rfl) (by kernel_rfl) (fun _ _ _ h => h) rfl (q_move rfl) ?_
    refine ah_take 2 (fun w9 hs => (hs.front (.s (.z)))) rfl rfl rfl (by kernel_rfl) (by kernel_rfl) (by kernel_rfl) (fun _ _ _ h => h) rfl (q_fieldAddr 3 rfl Try.runUnderlying26 rfl Try.sizeOf3 (by decide) rfl) ?_
    refine ah_take 3 (fun w9 hs => (hs.front (.s (.z)))) rfl rfl rfl (by kernel_rfl) (by kernel_rfl) (by kernel_rfl) (fun _ _ _ h => h) rfl (q_load (i := 0) rfl rfl rfl Try.isAgg3) ?_
    refine ah_take 4 (fun w9 hs => (hs.front (.s (.z)))) rfl rfl rfl (by kernel_rfl) (by kernel_rfl) (by kernel_rfl) (fun _ _ _ h => h) rfl (q_sub rfl rfl (by omega)) ?_
    refine ah_take 5 (fun w9 hs => (hs.front (.s (.z)))) rfl rfl rfl (by kernel_rfl) (by kernel_rfl) (by kernel_rfl) (fun _ _ _ h => h) rfl (q_move rfl) ?_
    refine ah_take 6 (fun w9 hs => (hs.front (.s (.z)))) rfl rfl rfl (by kernel_rfl) (by kernel_rfl) (by kernel_rfl) (fun _ _ _ h => h) rfl (q_fieldAddr 2 rfl Try.runUnderlying26 rfl Try.sizeOf3 (by decide) rfl) ?_
    refine ah_take 7 (fun w9 hs => (hs.front (.s (.z)))) rfl rfl rfl (by kernel_rfl) (by kernel_rfl) (by kernel_rfl) (fun _ _ _ h => h) rfl (q_load (i := 0) rfl rfl rfl Try.isAgg3) ?_
    refine ah_take 8 (fun w9 hs => (hs.front (.s (.z)))) rfl rfl rfl (by kernel_rfl) (by kernel_rfl) (by kernel_rfl) (fun _ _ _ h => h) rfl (q_quo rfl rfl (by omega)) ?_
    refine ah_take 9 (fun w9 hs => (hs.front (.s (.z)))) rfl rfl rfl (by kernel_rfl) (by kernel_rfl) (by kernel_rfl) (fun _ _ _ h => h) rfl (q_sub rfl rfl (by omega)) ?_
    refine ah_take 10 (fun w9 hs => (hs.front (.s (.z)))) rfl rfl rfl (by kernel_rfl) (by kernel_rfl) (by kernel_rfl) (fun _ _ _ h => h) rfl (q_fieldAddr 2 rfl Try.runUnderlying26 rfl Try.sizeOf3 (by decide) rfl) ?_
    refine ah_take 11 (fun w9 hs => (hs.front (.s (.z)))) rfl rfl rfl (by kernel_rfl) (by kernel_rfl) (by kernel_rfl) (fun _ _ _ h => h) rfl (q_load (i := 0) rfl rfl rfl Try.isAgg3) ?_
    refine ah_take 12 (fun w9 hs => (hs.front (.s (.z)))) rfl rfl rfl (by kernel_rfl) (by kernel_rfl) (by kernel_rfl) (fun _ _ _ h => h) rfl (q_mul rfl rfl (by omega)) ?_
    refine ah_take 13 (fun w9 hs => (hs.front (.s (.z)))) rfl rfl rfl (by kernel_rfl) (by kernel_rfl) (by kernel_rfl) (fun _ _ _ h => h) rfl (q_move rfl) ?_
    refine ah_take 14 (fun w9 hs => (hs.front (.s (.z)))) rfl rfl rfl (by kernel_rfl) (by kernel_rfl) (by kernel_rfl) (fun _ _ _ h => h) rfl (q_fieldAddr 2 rfl Try.runUnderlying26 rfl Try.sizeOf3 (by decide) rfl) ?_
    refine ah_take 15 (fun w9 hs => (hs.front (.s (.z)))) rfl rfl rfl (by kernel_rfl) (by kernel_rfl) (by kernel_rfl) (fun _ _ _ h => h) rfl (q_load (i := 0) rfl rfl rfl Try.isAgg3) ?_
    refine ah_take 16 (fun w9 hs => (hs.front (.s (.z)))) rfl rfl rfl (by kernel_rfl) (by kernel_rfl) (by kernel_rfl) (fun _ _ _ h => h) rfl (q_rem rfl rfl (by omega)) ?_
    refine ah_take 17 (fun w9 hs => (hs.front (.s (.z)))) rfl rfl rfl (by kernel_rfl) (by kernel_rfl) (by kernel_rfl) (fun _ _ _ h => h) rfl (q_add rfl rfl (by omega)) ?_
    refine ah_take 18 (fun w9 hs => (hs.front (.s (.z)))) rfl rfl rfl (by kernel_rfl) (by kernel_rfl) (by kernel_rfl) (fun _ _ _ h => h) rfl (q_indexAddrA (i := (sigma g x.1)) (o1 + (sigma g x.1) * 1 + 0) hA1 rfl rfl hsi.1 (by omega) Try.runUnderlying30 Try.sizeOf3 rfl) ?_
    refine ah_take 19 (fun w9 hs => (hs.front (.s (.z)))) rfl rfl rfl (by kernel_rfl) (by kernel_rfl) (by kernel_rfl) (fun _ _ _ h => h) rfl (q_loadX rfl Try.isAgg3 (fun w9 hs => (hs.below.cell (p := ⟨_, _, none⟩) hlt1).trans ((hget1 (sigma g x.1) y hy) 0 _ rfl))) ?_
    refine ah_one 20 rfl (by kernel_rfl) (fun hok1 hcl1 => ?_)
    refine al_new (fun b => .slice (some ⟨b, 0, none⟩) 1 1) (r_buildSlice (.cons rfl .nil) (rct_bs_int_1_0_ _ rfl)) rfl rfl rfl ?_
    intro b2
    refine al_end (ah_back hok1 hcl1 (fun w9 hs => ((hs.tail 1 rfl).front (.s (.z)))) ?_)
    refine ah_one 21 rfl (by kernel_rfl) (fun hok2 hcl2 => ?_)
    refine al_grow (z := 1) (bytes := 8) (zv := (.int .i64 0)) (o := x.2.1) (cs := x.2.2) (vs := [.int .i64 y]) rfl rfl (.s (.s (.z))) hgk (Sor.box (j := 0) rfl rfl rfl) Try.underlying30 (by kernel_rfl) rfl (by omega) (by decide) rfl rfl (fun o_1 g_1 => ?_)
    refine ⟨_, (.s (.s (.z))), ?_⟩
    refine al_end (ah_back hok2 hcl2 (fun w9 hs => ((hs.tail 1 rfl).front (.s (.z)))) ?_)
    refine ah_one 22 rfl (by kernel_rfl) (fun hok3 hcl3 => ?_)
    refine al_q (q_assign rfl) rfl rfl rfl ?_
    refine al_end (ah_last (by kernel_rfl) ?_)
    refine aq_inN ?_
    refine aq_then ?_
    refine ac_region ?_
    refine al_q (q_move rfl) rfl rfl rfl ?_
    refine al_q (q_add rfl rfl (by omega)) rfl rfl rfl ?_
    refine al_q (q_assign rfl) rfl rfl rfl ?_
    refine al_end ?_
    refine aq_then ?_
    skip
    refine aq_round ((x.1 + 1, o_1, x.2.2 ++ [.int .i64 y])) (by simp only; omega) ⟨by simp only; omega, g_1, by simp only; rw [hcs, turn_take g l x.1 (by omega) y hy]; simp⟩ ⟨rfl, rfl, rfl, rfl, rfl, trivial⟩ (fun w9 hs => (hs.tail 1 rfl))
  · have hk1 : ¬ x.1 < len := by have := of_decide_eq_false h1; omega
    refine ac_exit ?_
    refine aq_thenE ?_
    refine aq_thenE ?_
    refine aq_hit ?_
    refine aq_then ?_
    refine ac_seq ?_
    refine ac_region ?_
    refine al_q (q_move rfl) rfl rfl rfl ?_
    refine al_q (q_assign rfl) rfl rfl rfl ?_
    refine al_end ?_
    refine aq_then ?_
    refine ac_ret ?_
    refine ret1 Try.results13 rfl (fun w9 hs => ?_)
    have hn : x.1 = len := by omega
    subst hn
    exact ⟨gA x.2.1, gC x.2.1, rfl, hs.grown (enc := intCells) (o := x.2.1) (cs := x.2.2) (fun _ => rfl) (fun y hy => by simp [hy]) hgk (by rw [hcs, List.take_of_length_le (by rw [turn_length]; omega), flat_int]) (by rw [turn_length]; omega), hs.below⟩

end Go.Proofs.Ytkhahbnagbjbiaa
end
section
/- Package machine: Mirror, over this seat's translation (written by ax_mm.py). -/
namespace Go.Proofs.Ytkhahbnagbjbiaa
set_option linter.unusedVariables false
set_option linter.unusedSimpArgs false
open Go.RowKit

end Go.Proofs.Ytkhahbnagbjbiaa
end
section
/- Package machine: mirrorMachine, mirrorCurrents, Mirror, over this seat's translation (written by ax_mm.py). -/
namespace Go.Proofs.Ytkhahbnagbjbiaa
set_option linter.unusedVariables false
set_option linter.unusedSimpArgs false
open Go.RowKit

/-- a machine, currents that a callee has made -/
structure NewMT (B : Nat) (w : World) (R : MachR) (M : MachD) : Prop where
  a : NewT 8 CoilD.cells B w R.A R.la R.ca M.coils
  b : NewT 4 ShellD.cells B w R.B R.lb R.cb M.shells
  c : NewT 2 PointD.cells B w R.C R.lc R.cc M.limits
  d : NewT 5 SensorD.cells B w R.D R.ld R.cd M.sensors
structure NewCT (B : Nat) (w : World) (Q : CurR) (C : CurD) : Prop where
  a : NewT 1 intCells B w Q.A Q.la Q.ca C.coils
  b : NewT 1 intCells B w Q.B Q.lb Q.cb C.shells
  c : NewT 1 intCells B w Q.C Q.lc Q.cc C.plasma
theorem Sta.newMT {E : Cfg} {U : Snaps} {L : Boxes} {w u : World} {lo : Nat} {R : MachR} {M : MachD} (h : Sta E U L w) (hu : (lo, u) ∈ U) (hN : NewMT lo u R M) (ka : R.la ≤ 1000000000000000) (kb : R.lb ≤ 1000000000000000) (kc : R.lc ≤ 1000000000000000) (kd : R.ld ≤ 1000000000000000) : IsM w R M :=
  ⟨h.newT hu hN.a, h.newT hu hN.b, h.newT hu hN.c, h.newT hu hN.d, hN.a.le.1, hN.b.le.1, hN.c.le.1, hN.d.le.1, hN.a.le.2, hN.b.le.2, hN.c.le.2, hN.d.le.2, ka, kb, kc, kd⟩
theorem Sta.newCT {E : Cfg} {U : Snaps} {L : Boxes} {w u : World} {lo : Nat} {Q : CurR} {C : CurD} (h : Sta E U L w) (hu : (lo, u) ∈ U) (hN : NewCT lo u Q C) (ka : Q.la ≤ 1000000000000000) (kb : Q.lb ≤ 1000000000000000) (kc : Q.lc ≤ 1000000000000000) : IsC w Q C :=
  ⟨h.newT hu hN.a, h.newT hu hN.b, h.newT hu hN.c, hN.a.le.1, hN.b.le.1, hN.c.le.1, hN.a.le.2, hN.b.le.2, hN.c.le.2, ka, kb, kc⟩
end Go.Proofs.Ytkhahbnagbjbiaa
end
