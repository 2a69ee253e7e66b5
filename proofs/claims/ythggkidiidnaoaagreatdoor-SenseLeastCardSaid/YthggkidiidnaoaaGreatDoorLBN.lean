import Derived.Test.YthggkidiidnaoaaGreatDoorLBJ
import Derived.Test.YthggkidiidnaoaaGreatDoorLBM
import Derived.Test.YthggkidiidnaoaaGreatDoorRows
import Derived.KernelRfl
import Derived.Laws.StructEq
import Derived.ChangeKeysEq
namespace Go.Proofs.YthggkidiidnaoaaGreatDoor
set_option linter.unusedVariables false
set_option linter.unusedSimpArgs false
section
open Go.RowKit
theorem candE_ok {M : MachD} {C : CurD} {zs : List SpanD} (h : candE M C zs = 0) : explB M C zs = true := by
  unfold candE at h
  cases he : explB M C zs
  · rw [he] at h; simp at h
  · rfl
theorem agE_ok {M : MachD} {C : CurD} {zs : List SpanD} {cell cur : Int} (h : agE M C zs cell cur = 0) : inB C cell cur = true ∧ agZ M C zs cell cur = agL (clL M (bgL M C) zs cell) cur := by
  unfold agE at h
  unfold agZ
  cases he : explB M C zs
  · rw [he] at h; simp at h
  · cases hi : inB C cell cur
    · rw [he, hi] at h; simp at h
    · exact ⟨rfl, by rw [if_pos rfl, if_pos rfl]⟩
def hitN (l : List Int) (p : Nat × Nat) (n : Nat) : Nat := (l.take n).countP fun x => x == (p.1 : Int) || x == (p.2 : Int)
theorem hitN_yes {l : List Int} {p : Nat × Nat} {n : Nat} {x : Int} (hx : l[n]? = some x) (h : x = (p.1 : Int) ∨ x = (p.2 : Int)) : hitN l p (n + 1) = hitN l p n + 1 := by
  unfold hitN; rw [List.take_add_one, hx, List.countP_append]
  rcases h with h | h <;> simp [h]
theorem hitN_no {l : List Int} {p : Nat × Nat} {n : Nat} {x : Int} (hx : l[n]? = some x) (h1 : x ≠ (p.1 : Int)) (h2 : x ≠ (p.2 : Int)) : hitN l p (n + 1) = hitN l p n := by
  unfold hitN; rw [List.take_add_one, hx, List.countP_append]
  simp [h1, h2]
theorem hitN_le (l : List Int) (p : Nat × Nat) (n : Nat) : hitN l p n ≤ n := by
  unfold hitN
  have h1 := List.countP_le_length (p := fun x => x == (p.1 : Int) || x == (p.2 : Int)) (l := l.take n)
  rw [List.length_take] at h1; omega
theorem count_or (a b : Int) : ∀ l : List Int, (l.countP fun x => x == a || x == b) ≤ l.count a + l.count b
  | [] => by simp
  | x :: l => by
    have ih := count_or a b l
    rw [List.countP_cons, List.count_cons, List.count_cons]
    by_cases h1 : x == a <;> by_cases h2 : x == b <;> simp [h1, h2] <;> omega
theorem hit_one {l : List Int} (hn : l.Nodup) {p : Nat × Nat} (h : ¬ ((p.1 : Int) ∈ l ∧ (p.2 : Int) ∈ l)) {n : Nat} (hl : l.length ≤ n) : hitN l p n ≤ 1 := by
  unfold hitN
  rw [List.take_of_length_le hl]
  have h1 := count_or (p.1 : Int) (p.2 : Int) l
  have h2 := List.nodup_iff_count.1 hn (p.1 : Int)
  have h3 := List.nodup_iff_count.1 hn (p.2 : Int)
  by_cases h4 : (p.1 : Int) ∈ l
  · have := List.count_eq_zero.2 (fun h5 => h ⟨h4, h5⟩)
    omega
  · have := List.count_eq_zero.2 h4
    omega
theorem agL_nodup (zs : List SpanD) (cur : Int) : (agL zs cur).Nodup := by
  rw [agL_map]
  exact List.Pairwise.map _ (fun a b h => by omega) (agN_nodup zs cur)
theorem q_indexAddrP {P : Program} {e0 : Cfg} {U : Snaps} {l : Slots} {L : Boxes} {s e b o i len z : Nat} {ii : Int} {k : IntKind} (o' : Nat) {ox oi : Operand} {ty : TypeId} {pos : String} {af : Array Edge} {g : Option (Nat × Bool)} {dd : Option Nat} (hx : E l ox = some (.pointer (some ⟨b, o, none⟩))) (hi : E l oi = some (.int k ii)) (hii : ii = (i : Int)) (hil : i < len) (hu : ∀ w, (underlying s).run P w = .ok (.array len e) w) (hz : ∀ w, (sizeOf e).run P w = .ok z w) (ho : o + i * z = o') : Q1 P e0 U l L ⟨dd, .indexAddr s ox oi, ty, pos, af, g⟩ (.pointer (some ⟨b, o', none⟩)) := by
  intro a w hf hs
  have ha : (⟨b, o, none⟩ : Addr).add (i * z) = ⟨b, o', none⟩ := by
    unfold Addr.add; split
    · rename_i h; rw [h] at ho; subst ho; rfl
    · subst ho; rfl
  subst hii
  have h0 : (0 : Int) ≤ (i : Int) ∧ (i : Int) < (len : Int) := ⟨by omega, by omega⟩
  simp [execOp, hf.ev hx, hf.ev hi, Instr.indexAt, Instr.sureAddr, asIntOf, hu, hz, h0, ha, hil]
set_option maxRecDepth 100000 in
theorem light9_any (R : MachR) (M : MachD) (Q : CurR) (F : Option Addr) (nf cf : Nat) (w : World) : Calls Tryz.prog 6 #[(.agg #[.string M.name, .slice R.A R.la R.ca, .slice R.B R.lb R.cb, .slice R.C R.lc R.cc, .int .i64 M.grid.r, .int .i64 M.grid.z, .int .i64 M.grid.nr, .int .i64 M.grid.nz, .int .i64 M.grid.step, .slice R.D R.ld R.cd, .slice Q.A Q.la Q.ca, .slice Q.B Q.lb Q.cb, .slice Q.C Q.lc Q.cc, .slice F nf cf])] w (Ret (.bool (briefB R.la R.lb R.lc R.ld Q.la Q.lb Q.lc nf)) w) := by
  refine calls_ax (vs := [(.agg #[.string M.name, .slice R.A R.la R.ca, .slice R.B R.lb R.cb, .slice R.C R.lc R.cc, .int .i64 M.grid.r, .int .i64 M.grid.z, .int .i64 M.grid.nr, .int .i64 M.grid.nz, .int .i64 M.grid.step, .slice R.D R.ld R.cd, .slice Q.A Q.la Q.ca, .slice Q.B Q.lb Q.cb, .slice Q.C Q.lc Q.cc, .slice F nf cf])]) Tryz.func6 rfl rfl ?_
  refine ac_seq (ac_region ?_)
  refine al_new (fun b => .pointer (some ⟨b, 0, none⟩)) (r_box rfl rfl) rfl rfl rfl ?_
  intro b1
  refine al_p (q_assign rfl) (al_end (aq_then ?_))
  refine ac_seq (ac_region ?_)
  refine al_p (q_fieldAddr 0 rfl Tryz.runUnderlying35 rfl Tryz.sizeOf29 (by decide) rfl) (al_p (q_loadSub (i := 0) rfl rfl Tryz.isAgg29 Tryz.sizeOf29 .k0 .k10) ?_)
  refine al_p (q_fieldAddr 10 rfl Tryz.runUnderlying35 rfl Tryz.sizeOf32 (by decide) rfl) (al_p (q_loadSub (i := 0) rfl rfl Tryz.isAgg32 Tryz.sizeOf32 .k10 .k3) ?_)
  refine al_p (q_fieldAddr 13 rfl Tryz.runUnderlying35 rfl Tryz.sizeOf33 (by decide) rfl) (al_p (q_load (i := 0) rfl rfl rfl Tryz.isAgg33) (al_call Tryz.call14 (.cons rfl (.cons rfl (.cons rfl .nil))) rfl rfl (fun w1 hs1 => ?_)))
  refine (brief_any M.name R.A R.B R.C R.D R.la R.ca R.lb R.cb R.lc R.cc R.ld R.cd M.grid.r M.grid.z M.grid.nr M.grid.nz M.grid.step Q.A Q.B Q.C F Q.la Q.ca Q.lb Q.cb Q.lc Q.cc nf cf _).mono ?_
  rintro e u1 ⟨rfl, hb_1⟩
  refine ⟨_, rfl, hb_1, ?_⟩
  clear hs1
  refine al_p (q_assign rfl) (al_end (aq_then ?_))
  refine ac_ret (ret1 Tryz.results6 rfl (fun w9 hs => ?_))
  exact ⟨rfl, hs.below⟩
end
section
open Go.RowKit
set_option maxRecDepth 100000 in
theorem least_lit (R : MachR) (M : MachD) (Q : CurR) (C : CurD) (F : Option Addr) (nf cf : Nat) (zs : List SpanD) (s cell cur : Int) (w : World) (hM0 : R.la ≤ 1000000000000000 → R.lb ≤ 1000000000000000 → R.lc ≤ 1000000000000000 → R.ld ≤ 1000000000000000 → IsM w R M) (hC0 : Q.la ≤ 1000000000000000 → Q.lb ≤ 1000000000000000 → Q.lc ≤ 1000000000000000 → IsC w Q C) (hF : IsT 2 SpanD.cells w F nf zs) : Calls Tryz.prog 4 #[(.agg #[.string M.name, .slice R.A R.la R.ca, .slice R.B R.lb R.cb, .slice R.C R.lc R.cc, .int .i64 M.grid.r, .int .i64 M.grid.z, .int .i64 M.grid.nr, .int .i64 M.grid.nz, .int .i64 M.grid.step, .slice R.D R.ld R.cd, .slice Q.A Q.la Q.ca, .slice Q.B Q.lb Q.cb, .slice Q.C Q.lc Q.cc, .slice F nf cf]), (.agg #[.int .i64 s, .int .i64 cell, .int .i64 cur])] w (Ret (.bool true) w) := by
  refine calls_ax (vs := [(.agg #[.string M.name, .slice R.A R.la R.ca, .slice R.B R.lb R.cb, .slice R.C R.lc R.cc, .int .i64 M.grid.r, .int .i64 M.grid.z, .int .i64 M.grid.nr, .int .i64 M.grid.nz, .int .i64 M.grid.step, .slice R.D R.ld R.cd, .slice Q.A Q.la Q.ca, .slice Q.B Q.lb Q.cb, .slice Q.C Q.lc Q.cc, .slice F nf cf]), (.agg #[.int .i64 s, .int .i64 cell, .int .i64 cur])]) Tryz.func4 rfl rfl ?_
  refine ac_seq (ac_region ?_)
  refine al_new (fun b => .pointer (some ⟨b, 0, none⟩)) (r_box rfl rfl) rfl rfl rfl ?_
  intro b1
  refine al_new (fun b => .pointer (some ⟨b, 0, none⟩)) (r_box rfl rfl) rfl rfl rfl ?_
  intro b2
  refine al_p (q_assign rfl) (al_end (aq_then ?_))
  refine ac_seq (ac_seq (ac_region ?_))
  refine al_p (q_loadAll (i := 1) rfl rfl Tryz.isAgg35 Tryz.sizeOf35 rfl) (al_call Tryz.call6 (.cons rfl .nil) rfl rfl (fun w1 hs1 => ?_))
  refine (light9_any R M Q F nf cf _).mono ?_
  rintro e u1 ⟨rfl, hb_1⟩
  refine ⟨_, rfl, hb_1, ?_⟩
  clear hs1
  refine al_p (q_not rfl) (al_end (aq_then ?_))
  refine ac_cond rfl (fun h1 => ?_) (fun h1 => ?_)
  · skip
    refine ac_seq (ac_region ?_)
    refine al_call Tryz.call7 .nil rfl rfl (fun w2 hs2 => ?_)
    refine (awake_any _).mono ?_
    rintro e u2 ⟨rfl, hb_2⟩
    refine ⟨_, rfl, hb_2, ?_⟩
    clear hs2
    refine al_p (q_assign rfl) (al_end (aq_then ?_))
    refine ac_ret (aq_thenR (ret1 Tryz.results4 rfl (fun w9 hs => ?_)))
    exact ⟨rfl, hs.below⟩
  · obtain ⟨u1, u2, u3, u4, u5, u6, u7, u8⟩ := brief_bd (show briefB R.la R.lb R.lc R.ld Q.la Q.lb Q.lc nf = true by simpa using h1)
    have hM := hM0 (by omega) (by omega) (by omega) (by omega)
    have hC := hC0 (by omega) (by omega) (by omega)
    have hn : nf ≤ 1000000000000000 := by omega
    refine ac_skip (aq_then (ac_seq (ac_region ?_)))
    refine al_p (q_fieldAddr 0 rfl Tryz.runUnderlying35 rfl Tryz.sizeOf29 (by decide) rfl) (al_p (q_loadSub (i := 1) rfl rfl Tryz.isAgg29 Tryz.sizeOf29 .k0 .k10) ?_)
    refine al_p (q_fieldAddr 10 rfl Tryz.runUnderlying35 rfl Tryz.sizeOf32 (by decide) rfl) (al_p (q_loadSub (i := 1) rfl rfl Tryz.isAgg32 Tryz.sizeOf32 .k10 .k3) ?_)
    refine al_p (q_fieldAddr 13 rfl Tryz.runUnderlying35 rfl Tryz.sizeOf33 (by decide) rfl) (al_p (q_load (i := 1) rfl rfl rfl Tryz.isAgg33) (al_call Tryz.call8 (.cons rfl (.cons rfl (.cons rfl .nil))) rfl rfl (fun w3 hs3 => ?_)))
    refine (caccuse9_any R M Q C F nf cf zs _ (hM.below hs3.below) (hC.below hs3.below) (hF.below hs3.below) hn).mono ?_
    rintro e u3 ⟨A_a, n_a, c_a, rfl, N_a, hb_3⟩
    refine ⟨_, rfl, hb_3, ?_⟩
    clear hs3
    refine al_p (q_move rfl) (al_p (q_extract rfl rfl) (al_p (q_extract rfl rfl) (al_new (fun b => .pointer (some ⟨b, 0, none⟩)) (r_alloc Tryz.zeroValue39 rfl) rfl rfl rfl ?_)))
    intro b3
    refine al_storeAll (i := 0) rfl rfl rfl rfl Tryz.sizeOf39 rfl rfl .k0 rfl (al_p (q_assign rfl) (al_end (aq_then ?_)))
    refine ac_seq (ac_region ?_)
    refine al_p (q_fieldAddr 0 rfl Tryz.runUnderlying35 rfl Tryz.sizeOf29 (by decide) rfl) (al_p (q_loadSub (i := 2) rfl rfl Tryz.isAgg29 Tryz.sizeOf29 .k0 .k10) ?_)
    refine al_p (q_fieldAddr 10 rfl Tryz.runUnderlying35 rfl Tryz.sizeOf32 (by decide) rfl) (al_p (q_loadSub (i := 2) rfl rfl Tryz.isAgg32 Tryz.sizeOf32 .k10 .k3) ?_)
    refine al_p (q_fieldAddr 13 rfl Tryz.runUnderlying35 rfl Tryz.sizeOf33 (by decide) rfl) (al_p (q_load (i := 2) rfl rfl rfl Tryz.isAgg33) (al_call Tryz.call11 (.cons rfl (.cons rfl (.cons rfl .nil))) rfl rfl (fun w4 hs4 => ?_)))
    refine (cexcl9_any R M Q C F nf cf zs _ (hM.below hs4.below) (hC.below hs4.below) (hF.below hs4.below) hn).mono ?_
    rintro e u4 ⟨A_l, n_l, c_l, rfl, N_l, hb_4⟩
    refine ⟨_, rfl, hb_4, ?_⟩
    clear hs4
    refine al_p (q_move rfl) (al_p (q_extract rfl rfl) (al_p (q_extract rfl rfl) (al_p (q_assign rfl) (al_p (q_assign rfl) ?_))))
    refine al_end (aq_then ?_)
    refine ac_seq (ac_region ?_)
    refine al_p (q_fieldAddr 0 rfl Tryz.runUnderlying35 rfl Tryz.sizeOf29 (by decide) rfl) (al_p (q_loadSub (i := 2) rfl rfl Tryz.isAgg29 Tryz.sizeOf29 .k0 .k10) ?_)
    refine al_p (q_fieldAddr 10 rfl Tryz.runUnderlying35 rfl Tryz.sizeOf32 (by decide) rfl) (al_p (q_loadSub (i := 2) rfl rfl Tryz.isAgg32 Tryz.sizeOf32 .k10 .k3) ?_)
    refine al_p (q_fieldAddr 13 rfl Tryz.runUnderlying35 rfl Tryz.sizeOf33 (by decide) rfl) (al_p (q_load (i := 2) rfl rfl rfl Tryz.isAgg33) ?_)
    refine al_p (q_fieldAddr 1 rfl Tryz.runUnderlying49 rfl Tryz.sizeOf3 (by decide) rfl) (al_p (q_load (i := 1) rfl rfl rfl Tryz.isAgg3) ?_)
    refine al_p (q_fieldAddr 2 rfl Tryz.runUnderlying49 rfl Tryz.sizeOf3 (by decide) rfl) (al_p (q_load (i := 1) rfl rfl rfl Tryz.isAgg3) (al_call Tryz.call13 (.cons rfl (.cons rfl (.cons rfl (.cons rfl (.cons rfl .nil))))) rfl rfl (fun w5 hs5 => ?_)))
    refine (cagr9_any R M Q C F nf cf zs cell cur _ (hM.below hs5.below) (hC.below hs5.below) (hF.below hs5.below) hn).mono ?_
    rintro e u5 ⟨A_k, n_k, c_k, rfl, N_k, hb_5⟩
    refine ⟨_, rfl, hb_5, ?_⟩
    clear hs5
    refine al_p (q_move rfl) (al_p (q_extract rfl rfl) (al_p (q_extract rfl rfl) (al_p (q_assign rfl) (al_p (q_assign rfl) ?_))))
    refine al_end (aq_then ?_)
    refine ac_seq (ac_seq (ac_region ?_))
    refine al_p (q_move rfl) (al_p (q_neq rfl rfl) (al_p (q_move rfl) ?_))
    refine aq_split 54 rfl (fun hb1 => ?_) (fun hb1 => ?_)
    · skip
      refine al_skip rfl rfl rfl (al_skip rfl rfl rfl (al_p (q_pickT rfl rfl) (al_p (q_move rfl) (al_skip rfl rfl rfl ?_))))
      refine al_skip rfl rfl rfl (al_p (q_pickT rfl rfl) (al_end (aq_then ?_)))
      refine ac_condT rfl (ac_seq (ac_region ?_))
      refine al_call Tryz.call7 .nil rfl rfl (fun w6 hs6 => ?_)
      refine (awake_any _).mono ?_
      rintro e u6 ⟨rfl, hb_6⟩
      refine ⟨_, rfl, hb_6, ?_⟩
      clear hs6
      refine al_p (q_assign rfl) (al_end (aq_then ?_))
      refine ac_ret (aq_thenR (ret1 Tryz.results4 rfl (fun w9 hs => ?_)))
      exact ⟨rfl, hs.below⟩
    · have hz : candE M C zs = 0 := by simpa using hb1
      refine al_p (q_move rfl) ?_
      refine al_p (q_same (v' := .bool false) (q_neq rfl rfl) (by simp [hz])) (al_p (q_pickF rfl rfl) (al_p (q_move rfl) (al_p (q_move rfl) (al_p (q_neq rfl rfl) ?_))))
      refine al_p (q_pickF rfl rfl) (al_end (aq_then ?_))
      refine ac_cond rfl (fun h2 => ?_) (fun h2 => ?_)
      · skip
        refine ac_seq (ac_region ?_)
        refine al_call Tryz.call7 .nil rfl rfl (fun w7 hs7 => ?_)
        refine (awake_any _).mono ?_
        rintro e u7 ⟨rfl, hb_7⟩
        refine ⟨_, rfl, hb_7, ?_⟩
        clear hs7
        refine al_p (q_assign rfl) (al_end (aq_then ?_))
        refine ac_ret (aq_thenR (ret1 Tryz.results4 rfl (fun w9 hs => ?_)))
        exact ⟨rfl, hs.below⟩
      · have hae : agE M C zs cell cur = 0 := by simpa using h2
        have he := candE_ok hz
        obtain ⟨hin, hag⟩ := agE_ok hae
        have hlst := accZ_least he hin
        rw [← hag] at hlst
        have hnz : zs.length = nf := hF.1
        have hna := N_a.isT.1
        have hnl := N_l.isT.1
        have hnk := N_k.isT.1
        have hl5 := excZ_len (M := M) (C := C) (zs := zs) (by have := hM.sensors.1; omega)
        have hndp := agL_nodup (clL M (bgL M C) zs cell) cur
        rw [← hag] at hndp
        refine ac_skip (aq_then (ac_seq (ac_seq (ac_region ?_))))
        refine al_p (q_fieldAddr 2 rfl Tryz.runUnderlying39 rfl Tryz.sizeOf30 (by decide) rfl) (al_p (q_load (i := 0) rfl rfl rfl Tryz.isAgg30) (al_p (q_lenS rfl Tryz.runUnderlying30) ?_))
        refine al_p (q_fieldAddr 13 rfl Tryz.runUnderlying35 rfl Tryz.sizeOf33 (by decide) rfl) (al_p (q_load (i := 2) rfl rfl rfl Tryz.isAgg33) (al_p (q_lenS rfl Tryz.runUnderlying33) (al_p (q_move rfl) (al_p (q_lenS rfl Tryz.runUnderlying30) ?_))))
        refine al_p (q_sub rfl rfl (by omega)) ?_
        refine al_p (q_same (v' := .bool false) (q_gtr rfl rfl) (by simp; omega)) (al_end (aq_then ?_))
        refine aq_keepL [4, 7, 9, 72] (.cons rfl (.cons rfl (.cons rfl (.cons rfl .nil)))) ?_
        refine ac_condF rfl (ac_skip (aq_then (ac_seq (ac_seq (ac_region ?_)))))
        refine al_p (q_assign rfl) (al_end (aq_then ?_))
        refine ac_block ?_
        refine ac_loop (β := Nat) (fun i => i ≤ n_l) (fun i => [(4, (.bool false)), (7, (.slice A_l n_l c_l)), (9, (.slice A_k n_k c_k)), (11, (.int .i64 (i : Int)))]) (fun _ => _) (fun i => [(b3, _), (b2, _), (b1, _)]) (fun i => n_l - i) 0 (by omega) ⟨rfl, rfl, rfl, rfl, trivial⟩ (fun w9 hs => hs) (fun i hF1 => ?_)
        refine ac_seq (ac_seq (ac_region ?_))
        refine al_p (q_move rfl) (al_p (q_move rfl) (al_p (q_lenS rfl Tryz.runUnderlying44) (al_p (q_lss rfl rfl) (al_end (aq_then ?_)))))
        refine ac_cond rfl (fun h3 => ?_) (fun h3 => ?_)
        · have hil : i < n_l := by have := of_decide_eq_true h3; omega
          obtain ⟨b_p, o_p, hA_p, hlt_p, hget_p⟩ := N_l.isT.2 (by omega)
          have hx_p := getD_get (l := excZ M C zs) (d := (0, 0)) (k := i) (by omega)
          have hone := hit_one hndp (p := ((excZ M C zs).getD i (0, 0))) (by rw [hag]; exact exc_lies (a := ((excZ M C zs).getD i (0, 0)).1) (b := ((excZ M C zs).getD i (0, 0)).2) he hin (List.mem_of_getElem? hx_p)) (n := n_k) (by omega)
          refine ac_skip (aq_then (ac_seq (ac_block (ac_seq (ac_region ?_)))))
          refine al_p (q_assign rfl) (al_end (aq_then ?_))
          refine ac_seq (ac_seq (ac_region ?_))
          refine al_p (q_assign rfl) (al_end (aq_then ?_))
          refine ac_block ?_
          refine ac_loop (β := Nat) (fun n => n ≤ n_k) (fun n => [(4, (.bool false)), (7, (.slice A_l n_l c_l)), (9, (.slice A_k n_k c_k)), (11, (.int .i64 (i : Int))), (12, (.int .i64 ((hitN (agZ M C zs cell cur) ((excZ M C zs).getD i (0, 0)) n : Nat) : Int))), (13, (.int .i64 (n : Int))), (73, (.int .i64 (i : Int))), (74, (.slice A_l n_l c_l)), (75, (.int .i64 (n_l : Int)))]) (fun _ => _) (fun n => [(b3, _), (b2, _), (b1, _)]) (fun n => n_k - n) 0 (by omega) ⟨rfl, rfl, rfl, rfl, rfl, rfl, rfl, rfl, rfl, trivial⟩ (fun w9 hs => hs) (fun n hF2 => ?_)
          refine ac_seq (ac_seq (ac_region ?_))
          refine al_p (q_move rfl) (al_p (q_move rfl) (al_p (q_lenS rfl Tryz.runUnderlying30) (al_p (q_lss rfl rfl) (al_end (aq_then ?_)))))
          refine ac_cond rfl (fun h4 => ?_) (fun h4 => ?_)
          · have hnl2 : n < n_k := by have := of_decide_eq_true h4; omega
            obtain ⟨x9, hx9⟩ : ∃ x9, (agZ M C zs cell cur)[n]? = some x9 := ⟨_, List.getElem?_eq_getElem (by omega)⟩
            obtain ⟨b_q, o_q, hA_q, hlt_q, hget_q⟩ := N_k.isT.2 (by omega)
            have hx_q := hx9
            have hhl := hitN_le (agZ M C zs cell cur) ((excZ M C zs).getD i (0, 0)) n
            refine ac_skip (aq_then (ac_seq (ac_block (ac_seq ?_))))
            refine ac_draw 21 (by kernel_rfl) (by kernel_rfl) ?_
            refine ah_t 0 (fun w9 hs => hs) rfl rfl (by kernel_rfl) (q_move rfl) (ah_t 1 (fun w9 hs => hs) rfl rfl (by kernel_rfl) (q_move rfl) ?_)
            refine ah_t 2 (fun w9 hs => hs) rfl rfl (by kernel_rfl) (q_indexAddrA (i := n) (o_q + n * 1 + 0) hA_q rfl rfl rfl (by omega) Tryz.runUnderlying30 Tryz.sizeOf3 rfl) (ah_t 3 (fun w9 hs => hs) rfl rfl (by kernel_rfl) (q_loadX rfl Tryz.isAgg3 (fun w9 hs => (hs.cellOf (.head _) (N_k.new _ _ hA_q) hlt_q (hget_q n _ hx_q 0 _ rfl)))) (ah_t 4 (fun w9 hs => hs) rfl rfl (by kernel_rfl) (q_move rfl) (ah_t 5 (fun w9 hs => hs) rfl rfl (by kernel_rfl) (q_move rfl) ?_)))
            refine ah_t 6 (fun w9 hs => hs) rfl rfl (by kernel_rfl) (q_indexAddrA (i := i) (o_p + i * 2 + 0) hA_p rfl rfl rfl (by omega) Tryz.runUnderlying44 Tryz.sizeOf47 rfl) ?_
            refine ah_t 7 (fun w9 hs => hs) rfl rfl (by kernel_rfl) (q_indexAddrP (i := 0) (len := 2) (o_p + i * 2 + 0) rfl rfl rfl (by decide) Tryz.runUnderlying47 Tryz.sizeOf3 rfl) (ah_t 8 (fun w9 hs => hs) rfl rfl (by kernel_rfl) (q_loadX rfl Tryz.isAgg3 (fun w9 hs => (hs.cellOf (.tail _ (.head _)) (N_l.new _ _ hA_p) hlt_p (hget_p i _ hx_p 0 _ rfl)))) (ah_t 9 (fun w9 hs => hs) rfl rfl (by kernel_rfl) (q_eql rfl rfl) (ah_t 10 (fun w9 hs => hs) rfl rfl (by kernel_rfl) (q_move rfl) ?_)))
            refine ah_split 95 rfl (fun hb2 => ?_) (fun hb2 => ?_)
            · have q1 := of_decide_eq_true hb2
              have hht := hitN_yes hx_q (p := ((excZ M C zs).getD i (0, 0))) (Or.inl q1)
              refine ah_s 11 (fun w9 hs => hs) rfl rfl (by kernel_rfl) (ah_s 12 (fun w9 hs => hs) rfl rfl (by kernel_rfl) (ah_s 13 (fun w9 hs => hs) rfl rfl (by kernel_rfl) (ah_s 14 (fun w9 hs => hs) rfl rfl (by kernel_rfl) (ah_s 15 (fun w9 hs => hs) rfl rfl (by kernel_rfl) ?_))))
              refine ah_s 16 (fun w9 hs => hs) rfl rfl (by kernel_rfl) (ah_s 17 (fun w9 hs => hs) rfl rfl (by kernel_rfl) (ah_s 18 (fun w9 hs => hs) rfl rfl (by kernel_rfl) (ah_s 19 (fun w9 hs => hs) rfl rfl (by kernel_rfl) (ah_s 20 (fun w9 hs => hs) rfl rfl (by kernel_rfl) ?_))))
              refine ah_t 21 (fun w9 hs => hs) rfl rfl (by kernel_rfl) (q_pickT rfl rfl) (ah_done (by kernel_rfl) ?_)
              refine aq_then (ac_condT rfl (ac_region (al_p (q_move rfl) ?_)))
              refine al_p (q_add rfl rfl (by omega)) (al_p (q_assign rfl) (al_end (aq_inN (aq_then ?_))))
              refine ac_region (al_p (q_move rfl) ?_)
              refine al_p (q_add rfl rfl (by omega)) (al_p (q_assign rfl) (al_end (aq_then ?_)))
              skip
              refine aq_round (n + 1) (by omega) (by omega) ⟨rfl, rfl, rfl, rfl, (by rw [hht]; rfl), rfl, rfl, rfl, rfl, trivial⟩ (fun w9 hs => hs)
            · have q1 := of_decide_eq_false hb2
              refine ah_t 11 (fun w9 hs => hs) rfl rfl (by kernel_rfl) (q_move rfl) (ah_t 12 (fun w9 hs => hs) rfl rfl (by kernel_rfl) (q_move rfl) ?_)
              refine ah_t 13 (fun w9 hs => hs) rfl rfl (by kernel_rfl) (q_indexAddrA (i := n) (o_q + n * 1 + 0) hA_q rfl rfl rfl (by omega) Tryz.runUnderlying30 Tryz.sizeOf3 rfl) (ah_t 14 (fun w9 hs => hs) rfl rfl (by kernel_rfl) (q_loadX rfl Tryz.isAgg3 (fun w9 hs => (hs.cellOf (.head _) (N_k.new _ _ hA_q) hlt_q (hget_q n _ hx_q 0 _ rfl)))) (ah_t 15 (fun w9 hs => hs) rfl rfl (by kernel_rfl) (q_move rfl) (ah_t 16 (fun w9 hs => hs) rfl rfl (by kernel_rfl) (q_move rfl) ?_)))
              refine ah_t 17 (fun w9 hs => hs) rfl rfl (by kernel_rfl) (q_indexAddrA (i := i) (o_p + i * 2 + 0) hA_p rfl rfl rfl (by omega) Tryz.runUnderlying44 Tryz.sizeOf47 rfl) ?_
              refine ah_t 18 (fun w9 hs => hs) rfl rfl (by kernel_rfl) (q_indexAddrP (i := 1) (len := 2) (o_p + i * 2 + 1) rfl rfl rfl (by decide) Tryz.runUnderlying47 Tryz.sizeOf3 rfl) (ah_t 19 (fun w9 hs => hs) rfl rfl (by kernel_rfl) (q_loadX rfl Tryz.isAgg3 (fun w9 hs => (hs.cellOf (.tail _ (.head _)) (N_l.new _ _ hA_p) hlt_p (hget_p i _ hx_p 1 _ rfl)))) (ah_t 20 (fun w9 hs => hs) rfl rfl (by kernel_rfl) (q_eql rfl rfl) (ah_t 21 (fun w9 hs => hs) rfl rfl (by kernel_rfl) (q_pickF rfl rfl) (ah_done (by kernel_rfl) ?_))))
              refine aq_then ?_
              refine ac_cond rfl (fun h5 => ?_) (fun h5 => ?_)
              · have q2 := of_decide_eq_true h5
                have hht := hitN_yes hx_q (p := ((excZ M C zs).getD i (0, 0))) (Or.inr q2)
                refine ac_region (al_p (q_move rfl) ?_)
                refine al_p (q_add rfl rfl (by omega)) (al_p (q_assign rfl) (al_end (aq_inN (aq_then ?_))))
                refine ac_region (al_p (q_move rfl) ?_)
                refine al_p (q_add rfl rfl (by omega)) (al_p (q_assign rfl) (al_end (aq_then ?_)))
                skip
                refine aq_round (n + 1) (by omega) (by omega) ⟨rfl, rfl, rfl, rfl, (by rw [hht]; rfl), rfl, rfl, rfl, rfl, trivial⟩ (fun w9 hs => hs)
              · have q2 := of_decide_eq_false h5
                have hht := hitN_no hx_q (p := ((excZ M C zs).getD i (0, 0))) q1 q2
                refine ac_skip (aq_inN (aq_then (ac_region (al_p (q_move rfl) ?_))))
                refine al_p (q_add rfl rfl (by omega)) (al_p (q_assign rfl) (al_end (aq_then ?_)))
                skip
                refine aq_round (n + 1) (by omega) (by omega) ⟨rfl, rfl, rfl, rfl, (by rw [hht]; rfl), rfl, rfl, rfl, rfl, trivial⟩ (fun w9 hs => hs)
          · have hne : n = n_k := by have := of_decide_eq_false h4; omega
            rw [← hne] at hone
            refine ac_exit (aq_thenE (aq_thenE (aq_hit (aq_then ?_))))
            refine ac_seq (ac_region ?_)
            refine al_p (q_move rfl) ?_
            refine al_p (q_same (v' := .bool false) (q_eql rfl rfl) (congrArg Value.bool (decide_eq_false (by omega)))) (al_end (aq_then ?_))
            refine ac_condF rfl (ac_skip (aq_inN (aq_then (ac_region ?_))))
            refine al_p (q_move rfl) ?_
            refine al_p (q_add rfl rfl (by omega)) (al_p (q_assign rfl) (al_end (aq_then ?_)))
            skip
            refine aq_round (i + 1) (by omega) (by omega) ⟨rfl, rfl, rfl, rfl, trivial⟩ (fun w9 hs => hs)
        · skip
          refine ac_exit (aq_thenE (aq_thenE (aq_hit (aq_then ?_))))
          refine ac_seq (ac_region ?_)
          refine al_call Tryz.call7 .nil rfl rfl (fun w8 hs8 => ?_)
          refine (awake_any _).mono ?_
          rintro e u8 ⟨rfl, hb_8⟩
          refine ⟨_, rfl, hb_8, ?_⟩
          clear hs8
          refine al_p (q_assign rfl) (al_end (aq_then ?_))
          refine ac_ret (ret1 Tryz.results4 rfl (fun w9 hs => ?_))
          exact ⟨rfl, hs.below⟩
theorem least_walk (R : MachR) (M : MachD) (Q : CurR) (C : CurD) (F : Option Addr) (nf cf : Nat) (zs : List SpanD) (s cell cur : Int) (w : World) (hM0 : R.la ≤ 1000000000000000 → R.lb ≤ 1000000000000000 → R.lc ≤ 1000000000000000 → R.ld ≤ 1000000000000000 → IsM w R M) (hC0 : Q.la ≤ 1000000000000000 → Q.lb ≤ 1000000000000000 → Q.lc ≤ 1000000000000000 → IsC w Q C) (hF : IsT 2 SpanD.cells w F nf zs) : Calls Tryz.prog 4 #[.agg (machCells R M ++ #[.slice Q.A Q.la Q.ca, .slice Q.B Q.lb Q.cb, .slice Q.C Q.lc Q.cc, .slice F nf cf]), .agg #[.int .i64 s, .int .i64 cell, .int .i64 cur]] w (Ret (.bool true) w) := least_lit R M Q C F nf cf zs s cell cur w hM0 hC0 hF
end
end Go.Proofs.YthggkidiidnaoaaGreatDoor
