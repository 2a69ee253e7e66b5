import Derived.Test.YthggkidiidnaoaaGreatDoorMAK
import Derived.Test.YthggkidiidnaoaaGreatDoorMAL
import Derived.Test.YthggkidiidnaoaaGreatDoorMAV
import Derived.Test.YthggkidiidnaoaaGreatDoorMBK
import Derived.Test.YthggkidiidnaoaaGreatDoorMBN
import Derived.Test.YthggkidiidnaoaaGreatDoorMBO
import Derived.Test.YthggkidiidnaoaaGreatDoorMBP
import Derived.Test.YthggkidiidnaoaaGreatDoorMBQ
import Derived.Test.YthggkidiidnaoaaGreatDoorRows
import Derived.KernelRfl
import Derived.Laws.StructEq
import Derived.ChangeKeysEq
namespace Go.Proofs.YthggkidiidnaoaaGreatDoor
set_option linter.unusedVariables false
set_option linter.unusedSimpArgs false
section
open Go.RowKit
end
section
open Go.RowKit
theorem allow_agree {lo hi b n cur : Int} (hv : vld lo hi = true) (c0 : 0 ≤ cur) (c1 : cur ≤ 1000000) : cont (allowL lo hi b n).1 (allowL lo hi b n).2 cur = wthn (b + cur * n) lo hi := by
  rw [Bool.eq_iff_iff, wthn_iff]
  have key : cont (allowL lo hi b n).1 (allowL lo hi b n).2 cur = true ↔ (allowL lo hi b n).1 ≤ cur ∧ cur ≤ (allowL lo hi b n).2 := by
    have ho := okAl_vld lo hi b n
    unfold cont
    rw [Bool.and_eq_true, Bool.and_eq_true, decide_eq_true_iff, decide_eq_true_iff, ← ho, okAl, decide_eq_true_iff]
    exact ⟨fun h => h.2, fun h => ⟨Int.le_trans h.1 h.2, h⟩⟩
  rw [key]
  rcases Int.lt_trichotomy n 0 with hn | hn | hn
  · have f1 := flo_iff cur (lo - b) n (by omega)
    have f2 := flo_iff (-cur) (-(hi - b)) n (by omega)
    rw [Int.neg_mul] at f2
    unfold allowL possL
    rw [if_neg (by omega), if_pos hn]
    simp only [cei]
    constructor
    · intro h
      have g1 := f1.1 (by omega)
      have g2 := f2.1 (by omega)
      omega
    · intro h
      have g1 := f1.2 (Or.inr ⟨hn, by omega⟩)
      have g2 := f2.2 (Or.inr ⟨hn, by omega⟩)
      omega
  · subst hn
    rw [allow_zero hv, Int.mul_zero, Int.add_zero]
    cases hw : wthn b lo hi
    · rw [if_neg (by decide)]
      constructor
      · intro h; simp only at h; omega
      · intro h; rw [wthn_iff.2 h] at hw; cases hw
    · rw [if_pos rfl]
      exact ⟨fun _ => wthn_iff.1 hw, fun _ => ⟨c0, c1⟩⟩
  · have f1 := flo_iff cur (hi - b) n (by omega)
    have f2 := flo_iff (-cur) (-(lo - b)) n (by omega)
    rw [Int.neg_mul] at f2
    unfold allowL possL
    rw [if_pos hn]
    simp only [cei]
    constructor
    · intro h
      have g1 := f1.1 (by omega)
      have g2 := f2.1 (by omega)
      omega
    · intro h
      have g1 := f1.2 (Or.inl ⟨hn, by omega⟩)
      have g2 := f2.2 (Or.inl ⟨hn, by omega⟩)
      omega
theorem clF_eq {M : MachD} {C : CurD} {zs : List SpanD} {cell : Int} {k : Nat} (h : k < M.sensors.length) : clF M (bgL M C) zs cell k = ⟨(allowL (zs.getD k ⟨0, 0⟩).lo (zs.getD k ⟨0, 0⟩).hi (backL M C (k : Int)).1 (respL M (k : Int) cell).1).1, (allowL (zs.getD k ⟨0, 0⟩).lo (zs.getD k ⟨0, 0⟩).hi (backL M C (k : Int)).1 (respL M (k : Int) cell).1).2⟩ := by
  unfold clF
  rw [List.getD_eq_getElem?_getD (l := bgL M C), bgL_get h]
  rfl
def goInv (CL : List SpanD) (j : Nat) (lo hi : Int) (ok : Bool) : Prop := commL CL = if ok = true then commGo lo hi (CL.drop j) else (0, 0, false)
theorem goInv.zero (CL : List SpanD) : goInv CL 0 0 1000000 true := rfl
theorem goInv.no {CL : List SpanD} {j j' : Nat} {lo hi lo' hi' : Int} (h : goInv CL j lo hi false) : goInv CL j' lo' hi' false := h
theorem goInv.step {CL : List SpanD} {j : Nat} {lo hi : Int} {x : SpanD} (h : goInv CL j lo hi true) (hx : CL[j]? = some x) (he : (meetL lo hi x.lo x.hi).2.2 = 0) : goInv CL (j + 1) (meetL lo hi x.lo x.hi).1 (meetL lo hi x.lo x.hi).2.1 (decide ((meetL lo hi x.lo x.hi).2.2 = 0)) := by
  unfold goInv at h ⊢
  rw [if_pos rfl, commGo_drop hx, if_pos he] at h
  rw [he]; exact h
theorem goInv.stop {CL : List SpanD} {j j' : Nat} {lo hi lo' hi' : Int} {x : SpanD} (h : goInv CL j lo hi true) (hx : CL[j]? = some x) (he : ¬ (meetL lo hi x.lo x.hi).2.2 = 0) : goInv CL j' lo' hi' (decide ((meetL lo hi x.lo x.hi).2.2 = 0)) := by
  unfold goInv at h ⊢
  rw [if_pos rfl, commGo_drop hx, if_neg he] at h
  rw [decide_eq_false he]; exact h
theorem goInv.end {CL : List SpanD} {j : Nat} {lo hi : Int} {ok : Bool} (h : goInv CL j lo hi ok) (hj : CL.length ≤ j) : (commL CL).2.2 = ok ∧ (ok = true → (commL CL).1 = lo ∧ (commL CL).2.1 = hi) := by
  unfold goInv at h
  rw [List.drop_eq_nil_of_le hj] at h
  cases ok
  · rw [h]; exact ⟨rfl, fun e => by cases e⟩
  · rw [h]; exact ⟨rfl, fun _ => ⟨rfl, rfl⟩⟩
end
section
open Go.RowKit Go.Shelf
theorem fila_ok {M : MachD} {C : CurD} {cell cur : Int} (h : filaE M C cell cur = 0) : Fit2 M C ∧ inB C cell cur = true := by
  unfold filaE at h
  cases hv : validC M C
  · rw [hv] at h; simp at h
  · cases hi : inB C cell cur
    · rw [hv, hi] at h; simp at h
    · exact ⟨fit2_iff.1 hv, rfl⟩
theorem exactL_bd8 {M : MachD} {C : CurD} (h : Fit2 M C) (i : Int) : -800000000000000 ≤ (exactL M C i).1 ∧ (exactL M C i).1 ≤ 800000000000000 := by
  unfold exactL
  rw [fit2_iff.2 h, if_pos rfl]
  split
  · split
    · rename_i x _
      have q := fluxM_bd h
      have a := q (x.r, x.z)
      have b := q (x.r, x.z - 1)
      have c := q (x.r, x.z + 1)
      have d := q (x.r + 1, x.z)
      have e := q (x.r - 1, x.z)
      unfold sensP fieldP
      split
      · omega
      · split
        · dsimp only; omega
        · dsimp only; omega
    · simp
  · simp
def honL (M : MachD) (C : CurD) (cell cur : Int) (t : Nat) : List SpanD := rdL M (filaD C cell cur) [] t t
theorem hon_get {M : MachD} {C : CurD} {cell cur : Int} {t k : Nat} (hk : k < M.sensors.length) : (honL M C cell cur t)[k]? = some (rdF M (filaD C cell cur) [] t t k) := by
  unfold honL rdL
  rw [List.getElem?_map, List.getElem?_range hk]; rfl
theorem hon_one {M : MachD} {C : CurD} {cell cur : Int} {t k : Nat} (h : filaE M C cell cur = 0) (hk : k < M.sensors.length) : vld (rdF M (filaD C cell cur) [] t t k).lo (rdF M (filaD C cell cur) [] t t k).hi = true ∧ (rdF M (filaD C cell cur) [] t t k).lo ≤ (exactL M (filaD C cell cur) (k : Int)).1 ∧ (exactL M (filaD C cell cur) (k : Int)).1 ≤ (rdF M (filaD C cell cur) [] t t k).hi := by
  obtain ⟨hf, hi⟩ := fila_ok h
  have hb := exactL_bd8 (fila_fit hf hi) (k : Int)
  have hx := getD_get (d := (⟨⟨#[]⟩, 0, 0, 0, 0⟩ : SensorD)) hk
  have he := ((sound_of hf.check).sensors.2 _ (List.mem_of_getElem? hx)).2.2
  have hm := tmod_bd (m := (mixN t t k : Int)) (d := 2 * (M.sensors.getD k ⟨⟨#[]⟩, 0, 0, 0, 0⟩).error + 1) (by omega) (by omega)
  unfold rdF faultGo
  simp only
  refine ⟨vld_iff.2 ⟨by omega, by omega, by omega⟩, by omega, by omega⟩
theorem hon_expl {M : MachD} {C : CurD} {cell cur : Int} (t : Nat) (h : filaE M C cell cur = 0) : explB M C (honL M C cell cur t) = true := by
  obtain ⟨hf, hi⟩ := fila_ok h
  refine explB_iff.2 ⟨hf, rdL_len _ _ _ _ _, fun s hs => ?_⟩
  unfold honL rdL at hs
  obtain ⟨k, hk, rfl⟩ := List.mem_map.1 hs
  exact (hon_one h (List.mem_range.1 hk)).1
theorem hon_all {M : MachD} {C : CurD} {cell cur : Int} (t : Nat) (h : filaE M C cell cur = 0) : ∀ s ∈ clL M (bgL M C) (honL M C cell cur t) cell, cont s.lo s.hi cur = true := by
  obtain ⟨hf, hi⟩ := fila_ok h
  have hi2 := hi
  unfold inB at hi2
  rw [Bool.and_eq_true] at hi2
  have a := wthn_iff.1 hi2.1
  have b := wthn_iff.1 hi2.2
  have hp := hf.plasma.1
  intro s hs
  unfold clL at hs
  obtain ⟨k, hk, rfl⟩ := List.mem_map.1 hs
  have hk := List.mem_range.1 hk
  have hz := hon_get (M := M) (C := C) (cell := cell) (cur := cur) (t := t) hk
  have hd : (honL M C cell cur t).getD k ⟨0, 0⟩ = rdF M (filaD C cell cur) [] t t k := by rw [List.getD_eq_getElem?_getD, hz]; rfl
  obtain ⟨h1, h2, h3⟩ := hon_one (t := t) h hk
  rw [clF_eq hk, hd]
  simp only
  rw [allow_agree h1 b.1 b.2, wthn_iff]
  have hw : wthn (k : Int) 0 ((M.sensors.length : Int) - 1) = true := wthn_iff.2 (by omega)
  have hx := getD_get (d := (⟨⟨#[]⟩, 0, 0, 0, 0⟩ : SensorD)) hk
  have q1 : (backL M C (k : Int)).2 = 0 := by
    rw [backL_eq (fit2_iff.2 hf), if_pos hw]
    unfold exactL
    rw [fit2_iff.2 (dark_fit hf), if_pos rfl, hw, if_pos rfl, Int.toNat_natCast, hx]
  have q2 : (respL M (k : Int) cell).2 = 0 := by
    rw [respL_val hf.check hw (wthn_iff.2 (by omega)) (by rw [Int.toNat_natCast]; exact hx)]
  have hl := (linear h q1 q2).1
  rw [hl] at h2 h3
  simp only at h2 h3
  rw [Int.mul_comm] at h2 h3
  exact ⟨h2, h3⟩
theorem hon_blame {M : MachD} {C : CurD} {cell cur : Int} (t : Nat) (h : filaE M C cell cur = 0) : accZ M C (honL M C cell cur t) = [] := by
  have h1 := accZ_least (hon_expl t h) (fila_ok h).2
  have h2 := (agL_full _ cur).2 (hon_all t h)
  rw [h2, clL_len, ← (explB_iff.1 (hon_expl t h)).2.1] at h1
  exact List.length_eq_zero_iff.1 (by omega)
theorem hon_exc {M : MachD} {C : CurD} {cell cur : Int} (t : Nat) (h : filaE M C cell cur = 0) : excZ M C (honL M C cell cur t) = [] := by
  refine List.eq_nil_iff_forall_not_mem.2 fun p hp => ?_
  obtain ⟨a, b⟩ := p
  unfold excZ at hp
  rw [if_pos (hon_expl t h)] at hp
  obtain ⟨h1, h2, h3, h4⟩ := mem_excU hp
  have g : ∀ k, k < M.sensors.length → cont ((clL M (bgL M C) (honL M C cell cur t) cell).getD k ⟨0, 0⟩).lo ((clL M (bgL M C) (honL M C cell cur t) cell).getD k ⟨0, 0⟩).hi cur = true := fun k hk => by
    have hx := clL_get (M := M) (bs := bgL M C) (zs := honL M C cell cur t) (cell := cell) hk
    rw [List.getD_eq_getElem?_getD, hx]
    exact hon_all t h _ (List.mem_of_getElem? hx)
  rw [tog_of (fila_ok h).2 (g a h1) (g b h3)] at h4
  cases h4
theorem hon_cand {M : MachD} {C : CurD} {cell cur : Int} (t : Nat) (h : filaE M C cell cur = 0) : (∃ y ∈ candZ M C (honL M C cell cur t), y.1 = cell) ∧ ∀ y ∈ candZ M C (honL M C cell cur t), y.1 = cell → y.2.1 ≤ cur ∧ cur ≤ y.2.2 := by
  obtain ⟨hf, hi⟩ := fila_ok h
  unfold inB at hi
  rw [Bool.and_eq_true] at hi
  have a := wthn_iff.1 hi.1
  have b := wthn_iff.1 hi.2
  have hall := hon_all t h
  obtain ⟨k, rfl⟩ : ∃ k : Nat, cell = k := ⟨cell.toNat, by omega⟩
  obtain ⟨c1, c2, c3⟩ := (comm_iff cur (clL M (bgL M C) (honL M C (k : Int) cur t) (k : Int)) 0 1000000 (by decide)).2 ⟨by omega, by omega, hall⟩
  have c1' : (commL (clL M (bgL M C) (honL M C (k : Int) cur t) (k : Int))).2.2 = true := c1
  unfold candZ candL
  rw [if_pos (hon_expl t h)]
  refine ⟨⟨_, List.mem_filterMap.2 ⟨k, List.mem_range.2 (by omega), by unfold candF; rw [if_pos c1']⟩, rfl⟩, fun y hy e => ?_⟩
  obtain ⟨j, hj, hf2⟩ := List.mem_filterMap.1 hy
  unfold candF at hf2
  by_cases hc : (commL (clL M (bgL M C) (honL M C (k : Int) cur t) (j : Int))).2.2 = true
  · rw [if_pos hc] at hf2
    have hy2 := Option.some.inj hf2
    have ej : (j : Int) = (k : Int) := by rw [← hy2] at e; exact e
    rw [← hy2]
    simp only
    rw [ej]
    exact ⟨c2, c3⟩
  · rw [if_neg hc] at hf2; cases hf2
theorem hon_faults {M : MachD} {C : CurD} {cell cur : Int} (h : filaE M C cell cur = 0) : faultsB M [] = true := by
  unfold faultsB; rw [(fila_ok h).1.check]; rfl
end
section
open Go.RowKit
theorem lah_bl_apiScene_0_ (a0 : Value) (ha0 : a0.oneCell' = true) : ∀ w, (Instr.build 62 #[(0, a0)]).run Tryz.prog w = .ok (.agg #[a0, (.slice none 0 0), (.slice none 0 0)]) w := by
  have ea0 : a0.cells = #[a0] := cells_one ha0
  intro w; simp [Instr.build, Instr.fill, cells_agg, Tryz.runUnderlying62, Tryz.zeroValue62, Tryz.sizeOf58, Tryz.sizeOf59, Tryz.sizeOf60, ea0]
set_option maxRecDepth 100000 in
theorem honest_lit (R : MachR) (M : MachD) (Q : CurR) (C : CurD) (s cell cur : Int) (w : World) (hM0 : R.la ≤ 1000000000000000 → R.lb ≤ 1000000000000000 → R.lc ≤ 1000000000000000 → R.ld ≤ 1000000000000000 → IsM w R M) (hC0 : Q.la ≤ 1000000000000000 → Q.lb ≤ 1000000000000000 → Q.lc ≤ 1000000000000000 → IsC w Q C) (hK : Kinds w) : Calls Tryz.prog 5 #[(.agg (machCells R M)), Q.v, (.agg #[.int .i64 s, .int .i64 cell, .int .i64 cur])] w (Ret (.bool true) w) := by
  refine calls_ax (vs := [(.agg (machCells R M)), Q.v, (.agg #[.int .i64 s, .int .i64 cell, .int .i64 cur])]) Tryz.func5 rfl rfl ?_
  refine ac_seq (ac_region ?_)
  refine al_new (fun b => .pointer (some ⟨b, 0, none⟩)) (r_box rfl rfl) rfl rfl rfl ?_
  intro b1
  refine al_new (fun b => .pointer (some ⟨b, 0, none⟩)) (r_box rfl rfl) rfl rfl rfl ?_
  intro b2
  refine al_new (fun b => .pointer (some ⟨b, 0, none⟩)) (r_box rfl rfl) rfl rfl rfl ?_
  intro b3
  refine al_p (q_assign rfl) (al_end (aq_then ?_))
  refine ac_seq (ac_seq (ac_region ?_))
  refine al_p (q_loadAll (i := 2) rfl rfl Tryz.isAgg29 Tryz.sizeOf29 rfl) (al_p (q_loadAll (i := 1) rfl rfl Tryz.isAgg32 Tryz.sizeOf32 rfl) (al_call Tryz.call14 (.cons rfl (.cons rfl (.cons rfl .nil))) rfl rfl (fun w1 hs1 => ?_)))
  refine (brief_any M.name R.A R.B R.C R.D R.la R.ca R.lb R.cb R.lc R.cc R.ld R.cd M.grid.r M.grid.z M.grid.nr M.grid.nz M.grid.step Q.A Q.B Q.C none Q.la Q.ca Q.lb Q.cb Q.lc Q.cc 0 0 _).mono ?_
  rintro e u1 ⟨rfl, hb_1⟩
  refine ⟨_, rfl, hb_1, ?_⟩
  clear hs1
  refine al_p (q_not rfl) (al_end (aq_then ?_))
  refine ac_cond rfl (fun h1 => ?_) (fun h1 => ?_)
  · skip
    refine ac_seq (ac_region ?_)
    refine al_call Tryz.call7 .nil rfl rfl (fun w2 hs2 => ?_)
    refine (awake_any _).mono ?_
    rintro e u2 ⟨rfl, hb_2⟩
    refine ⟨_, rfl, hb_2, ?_⟩
    clear hs2
    refine al_p (q_assign rfl) (al_end (aq_then ?_))
    refine ac_ret (aq_thenR (ret1 Tryz.results5 rfl (fun w9 hs => ?_)))
    exact ⟨rfl, hs.below⟩
  · obtain ⟨u1, u2, u3, u4, u5, u6, u7, u8⟩ := brief_bd (show briefB R.la R.lb R.lc R.ld Q.la Q.lb Q.lc 0 = true by simpa using h1)
    have hM := hM0 (by omega) (by omega) (by omega) (by omega)
    have hC := hC0 (by omega) (by omega) (by omega)
    have hld := hM.sensors.1
    refine ac_skip (aq_then (ac_seq (ac_region ?_)))
    refine al_p (q_loadAll (i := 2) rfl rfl Tryz.isAgg29 Tryz.sizeOf29 rfl) (al_p (q_loadAll (i := 1) rfl rfl Tryz.isAgg32 Tryz.sizeOf32 rfl) ?_)
    refine al_p (q_fieldAddr 1 rfl Tryz.runUnderlying49 rfl Tryz.sizeOf3 (by decide) rfl) (al_p (q_load (i := 0) rfl rfl rfl Tryz.isAgg3) ?_)
    refine al_p (q_fieldAddr 2 rfl Tryz.runUnderlying49 rfl Tryz.sizeOf3 (by decide) rfl) (al_p (q_load (i := 0) rfl rfl rfl Tryz.isAgg3) (al_call Tryz.call15 (.cons rfl (.cons rfl (.cons rfl (.cons rfl .nil)))) rfl rfl (fun w3 hs3 => ?_)))
    refine (rfilN_any R M Q C cell cur _ (hM.below hs3.below) (hC.below hs3.below)).mono ?_
    rintro e u3 ⟨Y, rfl, hY_, hb_3⟩
    refine ⟨_, rfl, hb_3, ?_⟩
    clear hs3
    refine al_p (q_move rfl) (al_p (q_extract rfl rfl) (al_p (q_extract rfl rfl) (al_new (fun b => .pointer (some ⟨b, 0, none⟩)) (r_alloc Tryz.zeroValue32 rfl) rfl rfl rfl ?_)))
    intro b4
    refine al_storeAll (i := 0) rfl rfl rfl rfl Tryz.sizeOf32 rfl rfl .k0 rfl (al_p (q_assign rfl) (al_end (aq_then ?_)))
    refine ac_seq (ac_seq (ac_region ?_))
    refine al_p (q_move rfl) (al_p (q_neq rfl rfl) (al_p (q_move rfl) ?_))
    refine aq_split 35 rfl (fun hb1 => ?_) (fun hb1 => ?_)
    · skip
      refine al_skip rfl rfl rfl (al_skip rfl rfl rfl (al_skip rfl rfl rfl (al_p (q_pickT rfl rfl) (al_p (q_move rfl) ?_))))
      refine al_skip rfl rfl rfl (al_skip rfl rfl rfl (al_skip rfl rfl rfl (al_p (q_pickT rfl rfl) (al_end (aq_then ?_)))))
      refine ac_condT rfl (ac_seq (ac_region ?_))
      refine al_call Tryz.call7 .nil rfl rfl (fun w4 hs4 => ?_)
      refine (awake_any _).mono ?_
      rintro e u4 ⟨rfl, hb_4⟩
      refine ⟨_, rfl, hb_4, ?_⟩
      clear hs4
      refine al_p (q_assign rfl) (al_end (aq_then ?_))
      refine ac_ret (aq_thenR (ret1 Tryz.results5 rfl (fun w9 hs => ?_)))
      exact ⟨rfl, hs.below⟩
    · have hz : filaE M C cell cur = 0 := by simpa using hb1
      obtain ⟨hf, hi⟩ := fila_ok hz
      refine al_p (q_fieldAddr 0 rfl Tryz.runUnderlying49 rfl Tryz.sizeOf3 (by decide) rfl) (al_p (q_load (i := 1) rfl rfl rfl Tryz.isAgg3) (al_p (q_lss rfl rfl) (al_p (q_pickF rfl rfl) (al_p (q_move rfl) ?_))))
      refine aq_split 40 rfl (fun hb2 => ?_) (fun hb2 => ?_)
      · skip
        refine al_skip rfl rfl rfl (al_skip rfl rfl rfl (al_skip rfl rfl rfl (al_p (q_pickT rfl rfl) (al_end (aq_then ?_)))))
        refine ac_condT rfl (ac_seq (ac_region ?_))
        refine al_call Tryz.call7 .nil rfl rfl (fun w5 hs5 => ?_)
        refine (awake_any _).mono ?_
        rintro e u5 ⟨rfl, hb_5⟩
        refine ⟨_, rfl, hb_5, ?_⟩
        clear hs5
        refine al_p (q_assign rfl) (al_end (aq_then ?_))
        refine ac_ret (aq_thenR (ret1 Tryz.results5 rfl (fun w9 hs => ?_)))
        exact ⟨rfl, hs.below⟩
      · have q40 := of_decide_eq_false hb2
        refine al_p (q_fieldAddr 0 rfl Tryz.runUnderlying49 rfl Tryz.sizeOf3 (by decide) rfl) (al_p (q_load (i := 1) rfl rfl rfl Tryz.isAgg3) (al_p (q_gtr rfl rfl) (al_p (q_pickF rfl rfl) (al_end (aq_then ?_)))))
        refine ac_cond rfl (fun h2 => ?_) (fun h2 => ?_)
        · skip
          refine ac_seq (ac_region ?_)
          refine al_call Tryz.call7 .nil rfl rfl (fun w6 hs6 => ?_)
          refine (awake_any _).mono ?_
          rintro e u6 ⟨rfl, hb_6⟩
          refine ⟨_, rfl, hb_6, ?_⟩
          clear hs6
          refine al_p (q_assign rfl) (al_end (aq_then ?_))
          refine ac_ret (aq_thenR (ret1 Tryz.results5 rfl (fun w9 hs => ?_)))
          exact ⟨rfl, hs.below⟩
        · have q43 := of_decide_eq_false h2
          obtain ⟨sn, rfl⟩ : ∃ sn : Nat, s = (sn : Int) := ⟨s.toNat, by omega⟩
          have hce : candE M C (honL M C cell cur sn) = 0 := by unfold candE; rw [if_pos (hon_expl sn hz)]
          refine ac_skip (aq_then (ac_seq (ac_region ?_)))
          refine al_p (q_loadAll (i := 3) rfl rfl Tryz.isAgg29 Tryz.sizeOf29 rfl) (al_p (q_loadAll (i := 0) rfl rfl Tryz.isAgg32 Tryz.sizeOf32 rfl) ?_)
          refine al_p (q_fieldAddr 0 rfl Tryz.runUnderlying49 rfl Tryz.sizeOf3 (by decide) rfl) (al_p (q_load (i := 1) rfl rfl rfl Tryz.isAgg3) ?_)
          refine al_p (q_convI rfl Tryz.underlying3 Tryz.underlying58 (by go_arith)) (al_p (q_build (.cons rfl .nil) (lah_bl_apiScene_0_ _ rfl)) ?_)
          refine al_p (q_fieldAddr 0 rfl Tryz.runUnderlying49 rfl Tryz.sizeOf3 (by decide) rfl) (al_p (q_load (i := 1) rfl rfl rfl Tryz.isAgg3) (al_call Tryz.call16 (.cons rfl (.cons rfl (.cons rfl (.cons rfl .nil)))) rfl rfl (fun w7 hs7 => ?_)))
          refine (cread_ok R M Y (filaD C cell cur) none none 0 0 0 0 sn [] sn _ (hM.below hs7.below) (hs7.isC4 (.head _) (hY_ hz).1 (hY_ hz).2.1 (hY_ hz).2.2.1 (hY_ hz).2.2.2) (IsT.nil _ _ _ _) (by omega) (hK.below hs7.below) (fila_fit hf hi) (hon_faults hz) (by omega) (by omega)).mono ?_
          rintro e u7 ⟨A_r, n_r, c_r, rfl, N_r, hb_7⟩
          have N_r : NewT 2 SpanD.cells w7.heap.size u7 A_r n_r c_r (honL M C cell cur sn) := N_r
          have hnr := N_r.isT.1
          have hnr2 : (honL M C cell cur sn).length = M.sensors.length := rdL_len _ _ _ _ _
          refine ⟨_, rfl, hb_7, ?_⟩
          clear hs7
          refine al_p (q_move rfl) (al_p (q_extract rfl rfl) (al_p (q_extract rfl rfl) (al_p (q_assign rfl) (al_p (q_assign rfl) ?_))))
          refine al_end (aq_then ?_)
          refine ac_seq (ac_seq (ac_region ?_))
          refine al_p (q_move rfl) ?_
          refine al_p (q_same (v' := .bool false) (q_neq rfl rfl) (by simp)) (al_end (aq_then ?_))
          refine ac_condF rfl (ac_skip (aq_then (ac_seq (ac_region ?_))))
          refine al_p (q_loadAll (i := 3) rfl rfl Tryz.isAgg29 Tryz.sizeOf29 rfl) (al_p (q_loadAll (i := 2) rfl rfl Tryz.isAgg32 Tryz.sizeOf32 rfl) (al_p (q_move rfl) (al_call Tryz.call17 (.cons rfl (.cons rfl (.cons rfl .nil))) rfl rfl (fun w8 hs8 => ?_))))
          refine (ccand9_any R M Q C A_r n_r c_r (honL M C cell cur sn) _ (hM.below hs8.below) (hC.below hs8.below) (hs8.newT (.head _) N_r) (by omega)).mono ?_
          rintro e u8 ⟨A_l, n_l, c_l, rfl, N_l, hb_8⟩
          refine ⟨_, rfl, hb_8, ?_⟩
          clear hs8
          refine al_p (q_move rfl) (al_p (q_extract rfl rfl) (al_p (q_extract rfl rfl) (al_p (q_assign rfl) (al_p (q_assign rfl) ?_))))
          refine al_end (aq_then ?_)
          refine ac_seq (ac_region ?_)
          refine al_p (q_loadAll (i := 3) rfl rfl Tryz.isAgg29 Tryz.sizeOf29 rfl) (al_p (q_loadAll (i := 2) rfl rfl Tryz.isAgg32 Tryz.sizeOf32 rfl) (al_p (q_move rfl) (al_call Tryz.call8 (.cons rfl (.cons rfl (.cons rfl .nil))) rfl rfl (fun w9 hs9 => ?_))))
          refine (caccuse9_any R M Q C A_r n_r c_r (honL M C cell cur sn) _ (hM.below hs9.below) (hC.below hs9.below) (hs9.newT (.tail _ (.head _)) N_r) (by omega)).mono ?_
          rintro e u9 ⟨A_a, n_a, c_a, rfl, N_a, hb_9⟩
          have hna : n_a = 0 := by rw [← N_a.isT.1, hon_blame sn hz]; rfl
          refine ⟨_, rfl, hb_9, ?_⟩
          clear hs9
          refine al_p (q_move rfl) (al_p (q_extract rfl rfl) (al_p (q_extract rfl rfl) (al_new (fun b => .pointer (some ⟨b, 0, none⟩)) (r_alloc Tryz.zeroValue39 rfl) rfl rfl rfl ?_)))
          intro b5
          refine al_storeAll (i := 0) rfl rfl rfl rfl Tryz.sizeOf39 rfl rfl .k0 rfl (al_p (q_assign rfl) (al_end (aq_then ?_)))
          refine aq_keepL [3, 4, 5, 6, 9, 11, 12, 13, 14] (.cons rfl (.cons rfl (.cons rfl (.cons rfl (.cons rfl (.cons rfl (.cons rfl (.cons rfl (.cons rfl .nil))))))))) ?_
          refine ac_seq (ac_region ?_)
          refine al_p (q_loadAll (i := 4) rfl rfl Tryz.isAgg29 Tryz.sizeOf29 rfl) (al_p (q_loadAll (i := 3) rfl rfl Tryz.isAgg32 Tryz.sizeOf32 rfl) (al_p (q_move rfl) (al_call Tryz.call11 (.cons rfl (.cons rfl (.cons rfl .nil))) rfl rfl (fun w10 hs10 => ?_))))
          refine (cexcl9_any R M Q C A_r n_r c_r (honL M C cell cur sn) _ (hM.below hs10.below) (hC.below hs10.below) (hs10.newT (.tail _ (.tail _ (.head _))) N_r) (by omega)).mono ?_
          rintro e u10 ⟨A_x, n_x, c_x, rfl, N_x, hb_10⟩
          have hnx : n_x = 0 := by rw [← N_x.isT.1, hon_exc sn hz]; rfl
          have hlc := candU_len M C (honL M C cell cur sn) C.plasma.length
          have hln := N_l.isT.1
          have hcz : candZ M C (honL M C cell cur sn) = candU M C (honL M C cell cur sn) C.plasma.length := by unfold candZ; rw [if_pos (hon_expl sn hz)]; rfl
          rw [hcz] at hln
          have hpl := hC.plasma.1
          refine ⟨_, rfl, hb_10, ?_⟩
          clear hs10
          refine al_p (q_move rfl) (al_p (q_extract rfl rfl) (al_p (q_extract rfl rfl) (al_p (q_assign rfl) (al_p (q_assign rfl) ?_))))
          refine al_end (aq_then ?_)
          refine ac_seq (ac_seq (ac_region ?_))
          refine al_p (q_move rfl) ?_
          refine al_p (q_same (v' := .bool false) (q_neq rfl rfl) (by simp [hce])) (al_p (q_move rfl) (al_p (q_move rfl) ?_))
          refine al_p (q_same (v' := .bool false) (q_neq rfl rfl) (by simp [hce])) (al_p (q_pickF rfl rfl) (al_p (q_move rfl) (al_p (q_move rfl) ?_)))
          refine al_p (q_same (v' := .bool false) (q_neq rfl rfl) (by simp [hce])) (al_p (q_pickF rfl rfl) (al_p (q_move rfl) ?_))
          refine al_p (q_fieldAddr 2 rfl Tryz.runUnderlying39 rfl Tryz.sizeOf30 (by decide) rfl) (al_p (q_load (i := 0) rfl rfl rfl Tryz.isAgg30) (al_p (q_lenS rfl Tryz.runUnderlying30) ?_))
          refine al_p (q_same (v' := .bool false) (q_gtr rfl rfl) (by simp [hna])) (al_p (q_pickF rfl rfl) (al_p (q_move rfl) (al_p (q_move rfl) (al_p (q_lenS rfl Tryz.runUnderlying44) ?_))))
          refine al_p (q_same (v' := .bool false) (q_gtr rfl rfl) (by simp [hnx])) (al_p (q_pickF rfl rfl) (al_end (aq_then ?_)))
          refine ac_condF rfl (ac_skip (aq_then (ac_seq (ac_seq (ac_region ?_)))))
          refine al_p (q_assign rfl) (al_end (aq_then ?_))
          refine ac_block (ac_loop (β := Nat) (fun n => n ≤ n_l ∧ ∀ (j : Nat) y, j < n → (candZ M C (honL M C cell cur sn))[j]? = some y → y.1 ≠ cell) (fun n => [(5, (.pointer (some ⟨b3, 0, none⟩))), (6, (.bool false)), (11, (.slice A_l n_l c_l)), (17, (.int .i64 (n : Int)))]) (fun _ => _) (fun n => [(b5, _), (b4, _), (b3, _), (b2, _), (b1, _)]) (fun n => n_l - n) 0 ⟨by omega, fun j y h => by omega⟩ ⟨rfl, rfl, rfl, rfl, trivial⟩ (fun w9 hs => hs) (fun n hF1 => ?_))
          refine ac_seq (ac_seq (ac_region ?_))
          refine al_p (q_move rfl) (al_p (q_move rfl) (al_p (q_lenS rfl Tryz.runUnderlying63) (al_p (q_lss rfl rfl) (al_end (aq_then ?_)))))
          refine ac_cond rfl (fun h3 => ?_) (fun h3 => ?_)
          · have hnl : n < n_l := by have := of_decide_eq_true h3; omega
            obtain ⟨y9, hy9⟩ : ∃ y9, (candZ M C (honL M C cell cur sn))[n]? = some y9 := ⟨_, List.getElem?_eq_getElem (by rw [hcz]; omega)⟩
            obtain ⟨b_p, o_p, hA_p, hlt_p, hget_p⟩ := N_l.isT.2 (by omega)
            have hx_p := hy9
            refine ac_skip (aq_then (ac_seq (ac_block (ac_seq ?_))))
            refine ac_draw 7 (by kernel_rfl) (by kernel_rfl) ?_
            refine ah_t 0 (fun w9 hs => hs) rfl rfl (by kernel_rfl) (q_move rfl) (ah_t 1 (fun w9 hs => hs) rfl rfl (by kernel_rfl) (q_move rfl) ?_)
            refine ah_t 2 (fun w9 hs => hs) rfl rfl (by kernel_rfl) (q_indexAddrA (i := n) (o_p + n * 3 + 0) hA_p rfl rfl rfl (by omega) Tryz.runUnderlying63 Tryz.sizeOf69 rfl) ?_
            refine ah_t 3 (fun w9 hs => hs) rfl rfl (by kernel_rfl) (q_fieldAddr (o_p + n * 3 + 0) rfl Tryz.runUnderlying69 rfl Tryz.sizeOf3 (by decide) rfl) (ah_t 4 (fun w9 hs => hs) rfl rfl (by kernel_rfl) (q_loadX rfl Tryz.isAgg3 (fun w9 hs => (hs.cellOf (.tail _ (.tail _ (.head _))) (N_l.new _ _ hA_p) hlt_p (hget_p n _ hx_p 0 _ rfl)))) ?_)
            refine ah_t 5 (fun w9 hs => hs) rfl rfl (by kernel_rfl) (q_fieldAddr 1 rfl Tryz.runUnderlying49 rfl Tryz.sizeOf3 (by decide) rfl) (ah_t 6 (fun w9 hs => hs) rfl rfl (by kernel_rfl) (q_load (i := 2) rfl rfl rfl Tryz.isAgg3) (ah_t 7 (fun w9 hs => hs) rfl rfl (by kernel_rfl) (q_eql rfl rfl) (ah_done (by kernel_rfl) ?_)))
            refine aq_then ?_
            refine ac_cond rfl (fun h4 => ?_) (fun h4 => ?_)
            · have hin9 := (hon_cand sn hz).2 y9 (List.mem_of_getElem? hy9) (of_decide_eq_true h4)
              refine ac_seq (ac_draw 23 (by kernel_rfl) (by kernel_rfl) ?_)
              refine ah_t 0 (fun w9 hs => hs) rfl rfl (by kernel_rfl) (q_move rfl) (ah_t 1 (fun w9 hs => hs) rfl rfl (by kernel_rfl) (q_move rfl) ?_)
              refine ah_t 2 (fun w9 hs => hs) rfl rfl (by kernel_rfl) (q_indexAddrA (i := n) (o_p + n * 3 + 0) hA_p rfl rfl rfl (by omega) Tryz.runUnderlying63 Tryz.sizeOf69 rfl) ?_
              refine ah_t 3 (fun w9 hs => hs) rfl rfl (by kernel_rfl) (q_fieldAddr (o_p + n * 3 + 1) rfl Tryz.runUnderlying69 rfl Tryz.sizeOf67 (by decide) rfl) ?_
              refine ah_t 4 (fun w9 hs => hs) rfl rfl (by kernel_rfl) (q_fieldAddr (o_p + n * 3 + 1) rfl Tryz.runUnderlying67 rfl Tryz.sizeOf3 (by decide) rfl) (ah_t 5 (fun w9 hs => hs) rfl rfl (by kernel_rfl) (q_loadX rfl Tryz.isAgg3 (fun w9 hs => (hs.cellOf (.tail _ (.tail _ (.head _))) (N_l.new _ _ hA_p) hlt_p (hget_p n _ hx_p 1 _ rfl)))) ?_)
              refine ah_t 6 (fun w9 hs => hs) rfl rfl (by kernel_rfl) (q_fieldAddr 2 rfl Tryz.runUnderlying49 rfl Tryz.sizeOf3 (by decide) rfl) (ah_t 7 (fun w9 hs => hs) rfl rfl (by kernel_rfl) (q_load (i := 2) rfl rfl rfl Tryz.isAgg3) (ah_t 8 (fun w9 hs => hs) rfl rfl (by kernel_rfl) (q_same (v' := .bool true) (q_leq rfl rfl) (congrArg Value.bool (decide_eq_true hin9.1))) (ah_t 9 (fun w9 hs => hs) rfl rfl (by kernel_rfl) (q_move rfl) ?_)))
              refine ah_t 10 (fun w9 hs => hs) rfl rfl (by kernel_rfl) (q_fieldAddr 2 rfl Tryz.runUnderlying49 rfl Tryz.sizeOf3 (by decide) rfl) (ah_t 11 (fun w9 hs => hs) rfl rfl (by kernel_rfl) (q_load (i := 2) rfl rfl rfl Tryz.isAgg3) (ah_t 12 (fun w9 hs => hs) rfl rfl (by kernel_rfl) (q_move rfl) (ah_t 13 (fun w9 hs => hs) rfl rfl (by kernel_rfl) (q_move rfl) ?_)))
              refine ah_t 14 (fun w9 hs => hs) rfl rfl (by kernel_rfl) (q_indexAddrA (i := n) (o_p + n * 3 + 0) hA_p rfl rfl rfl (by omega) Tryz.runUnderlying63 Tryz.sizeOf69 rfl) ?_
              refine ah_t 15 (fun w9 hs => hs) rfl rfl (by kernel_rfl) (q_fieldAddr (o_p + n * 3 + 1) rfl Tryz.runUnderlying69 rfl Tryz.sizeOf67 (by decide) rfl) ?_
              refine ah_t 16 (fun w9 hs => hs) rfl rfl (by kernel_rfl) (q_fieldAddr (o_p + n * 3 + 2) rfl Tryz.runUnderlying67 rfl Tryz.sizeOf3 (by decide) rfl) (ah_t 17 (fun w9 hs => hs) rfl rfl (by kernel_rfl) (q_loadX rfl Tryz.isAgg3 (fun w9 hs => (hs.cellOf (.tail _ (.tail _ (.head _))) (N_l.new _ _ hA_p) hlt_p (hget_p n _ hx_p 2 _ rfl)))) (ah_t 18 (fun w9 hs => hs) rfl rfl (by kernel_rfl) (q_same (v' := .bool true) (q_leq rfl rfl) (congrArg Value.bool (decide_eq_true hin9.2))) (ah_t 19 (fun w9 hs => hs) rfl rfl (by kernel_rfl) (q_pickT rfl rfl) (ah_t 20 (fun w9 hs => hs) rfl rfl (by kernel_rfl) (q_move rfl) ?_))))
              refine ah_one 21 rfl (by kernel_rfl) (fun hok1 hcl1 => ?_)
              refine al_call Tryz.call7 .nil rfl rfl (fun w11 hs11 => ?_)
              refine (awake_any _).mono ?_
              rintro e u11 ⟨rfl, hb_11⟩
              refine ⟨_, rfl, hb_11, ?_⟩
              clear hs11
              refine al_end (ah_back hok1 hcl1 (fun w9 hs => (hs.fewer 1 rfl)) ?_)
              refine ah_t 22 (fun w9 hs => (hs.fewer 1 rfl)) rfl rfl (by kernel_rfl) (q_pickT rfl rfl) (ah_one 23 rfl (by kernel_rfl) (fun hok2 hcl2 => ?_))
              refine al_p (q_assign rfl) (al_end (ah_last (by kernel_rfl) ?_))
              refine aq_then (aq_keepL [5, 6, 11, 17, 102, 103, 104, 105, 108, 109, 110, 111, 112, 113, 114, 115, 116, 117, 118, 119, 120, 121, 122, 123, 124, 125, 126, 127, 128, 129, 130, 131, 132, 133, 134, 135, 136, 137, 138] (.cons rfl (.cons rfl (.cons rfl (.cons rfl (.cons rfl (.cons rfl (.cons rfl (.cons rfl (.cons rfl (.cons rfl (.cons rfl (.cons rfl (.cons rfl (.cons rfl (.cons rfl (.cons rfl (.cons rfl (.cons rfl (.cons rfl (.cons rfl (.cons rfl (.cons rfl (.cons rfl (.cons rfl (.cons rfl (.cons rfl (.cons rfl (.cons rfl (.cons rfl (.cons rfl (.cons rfl (.cons rfl (.cons rfl (.cons rfl (.cons rfl (.cons rfl (.cons rfl (.cons rfl (.cons rfl .nil))))))))))))))))))))))))))))))))))))))) ?_)
              refine ac_ret (aq_inR (aq_thenR (aq_thenR (aq_inR ?_))))
              refine aq_thenR (ret1 Tryz.results5 rfl (fun w9 hs => ?_))
              exact ⟨rfl, hs.below⟩
            · have q115 := of_decide_eq_false h4
              refine ac_skip (aq_inN (aq_then (ac_region (al_p (q_move rfl) ?_))))
              refine al_p (q_add rfl rfl (by omega)) (al_p (q_assign rfl) (al_end (aq_then ?_)))
              skip
              refine aq_round (n + 1) (by omega) ⟨by omega, fun j y h1 h2 => by
                            rcases Nat.lt_or_ge j n with g | g
                            · exact hF1.2 j y g h2
                            · obtain rfl : j = n := by omega
                              rw [hy9] at h2; cases h2; exact q115⟩ ⟨rfl, rfl, rfl, rfl, trivial⟩ (fun w9 hs => hs)
          · exfalso
            have hne : n = n_l := by have := of_decide_eq_false h3; omega
            obtain ⟨y, hy, e⟩ := (hon_cand sn hz).1
            obtain ⟨j, hj⟩ := List.mem_iff_getElem?.1 hy
            exact hF1.2 j y (by have := (List.getElem?_eq_some_iff.1 hj).1; rw [hcz] at this; omega) hj e
theorem honest_walk (R : MachR) (M : MachD) (Q : CurR) (C : CurD) (s cell cur : Int) (w : World) (hM0 : R.la ≤ 1000000000000000 → R.lb ≤ 1000000000000000 → R.lc ≤ 1000000000000000 → R.ld ≤ 1000000000000000 → IsM w R M) (hC0 : Q.la ≤ 1000000000000000 → Q.lb ≤ 1000000000000000 → Q.lc ≤ 1000000000000000 → IsC w Q C) (hK : Kinds w) : Calls Tryz.prog 5 #[.agg (machCells R M), Q.v, .agg #[.int .i64 s, .int .i64 cell, .int .i64 cur]] w (Ret (.bool true) w) := honest_lit R M Q C s cell cur w hM0 hC0 hK
end
end Go.Proofs.YthggkidiidnaoaaGreatDoor
