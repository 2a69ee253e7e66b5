import Derived.Test.YtogcjgjhmlifgaaGreatOAC
import Derived.Test.YtogcjgjhmlifgaaGreatOAH
import Derived.Test.YtogcjgjhmlifgaaGreatOAS
import Derived.Test.YtogcjgjhmlifgaaGreatOAT
import Derived.Test.YtogcjgjhmlifgaaGreatOAU
import Derived.Test.YtogcjgjhmlifgaaGreatRows
import Derived.KernelRfl
import Derived.Laws.StructEq
namespace Go.Proofs.YtogcjgjhmlifgaaGreat
set_option linter.unusedVariables false
set_option linter.unusedSimpArgs false
section
open Go.RowKit
structure FaF (R : MachR) (M : MachD) (Q : CurR) (C : CurD) (b6 b7 b4 bz : Nat) (A7 : Option Addr) (c7 : Nat) (W : World) : Prop where
  m : IsM W (bareR R) (bareM M)
  c : IsC W (bareQ Q bz) (bareC C)
  b6 : ∀ (j : Nat) (v : Value), (mCs (bareR R) (bareM M))[j]? = some v → W.cell? ⟨b6, 0 + j, none⟩ = some v
  b7 : ∀ (j : Nat) (v : Value), (cCs (bareQ Q bz))[j]? = some v → W.cell? ⟨b7, 0 + j, none⟩ = some v
  b4 : ∀ (j : Nat) (v : Value), [Value.slice A7 (cellN M) c7][j]? = some v → W.cell? ⟨b4, 0 + j, none⟩ = some v
  t : IsT 2 PointD.cells W A7 (cellN M) (lst (cellN M) (cellP M))
theorem lend_end {n : Nat} {D : List Deferred} {W2 W3 : World} {U : Snaps} {b : Nat} {c c' : Cont} {G G' : Boxes} (h : Sta ⟨n, D, W2, ((b, c) :: G).map Prod.fst⟩ U ((b, c') :: G') W3) :
    BoxAt W3 b c' ∧ (∀ p ∈ G', BoxAt W3 p.1 p.2 ∧ p.1 ≠ b ∧ (p.1 ∈ G.map Prod.fst ∨ W2.heap.size ≤ p.1)) ∧ G'.Pairwise (fun a b => a.1 ≠ b.1) ∧ Chg (b :: G.map Prod.fst) W2 W3 := by
  refine ⟨h.at 0 rfl, fun p hp => ?_, (List.pairwise_cons.1 (apart_pair.1 h.apart)).2, h.chg⟩
  obtain ⟨i, hi⟩ := List.getElem?_of_mem hp
  have hi2 : ((b, c') :: G')[i + 1]? = some p := by simpa using hi
  have hn : p.1 ≠ b := fun e => by have := h.apart (i + 1) 0 b _ _ (hi2.trans (by rw [← e])) rfl; omega
  refine ⟨h.at _ hi2, hn, ?_⟩
  rcases (h.box _ _ _ hi2).1 with g | g
  · exact Or.inr g
  · have g : p.1 ∈ b :: G.map Prod.fst := g
    rcases List.mem_cons.1 g with g | g
    · exact absurd g hn
    · exact Or.inl g
def knC (M : MachD) (C : CurD) (pts : Nat → PointD) (k : Nat) : List Value := lst k fun i => .int .i64 (knP M C (pts i))
def wgC (M : MachD) (p : PointD) (j : Nat) : List Value := lst j fun i => .int .i64 (wgt M p i)
def itC (M : MachD) (pts : Nat → PointD) (k : Nat) : List Value := (List.range k).flatMap fun i => wgC M (pts i) (cellN M)
theorem itC_succ (M : MachD) (pts : Nat → PointD) (k : Nat) : itC M pts (k + 1) = itC M pts k ++ wgC M (pts k) (cellN M) := by simp [itC, List.range_succ]
theorem knC_succ (M : MachD) (C : CurD) (pts : Nat → PointD) (k : Nat) : knC M C pts (k + 1) = knC M C pts k ++ [.int .i64 (knP M C (pts k))] := lst_snoc _ _
theorem wgC_succ (M : MachD) (p : PointD) (j : Nat) : wgC M p (j + 1) = wgC M p j ++ [.int .i64 (wgt M p j)] := lst_snoc _ _
def knL (M : MachD) (C : CurD) (pts : Nat → PointD) (N : Nat) : List Int := lst N fun i => knP M C (pts i)
def itL (M : MachD) (pts : Nat → PointD) (N : Nat) : List Int := (List.range N).flatMap fun i => lst (cellN M) (wgt M (pts i))
theorem knL_flat (M : MachD) (C : CurD) (pts : Nat → PointD) (N : Nat) : (knL M C pts N).flatMap intCells = knC M C pts N := by rw [flat_int]; simp [knL, knC, lst]
theorem itL_flat (M : MachD) (pts : Nat → PointD) (N : Nat) : (itL M pts N).flatMap intCells = itC M pts N := by rw [flat_int]; simp [itL, itC, wgC, lst, List.map_flatMap, Function.comp_def]
theorem itL_len (M : MachD) (pts : Nat → PointD) : ∀ N : Nat, (itL M pts N).length = N * cellN M
  | 0 => by simp [itL]
  | N + 1 => by
    have e : itL M pts (N + 1) = itL M pts N ++ lst (cellN M) (wgt M (pts N)) := by simp [itL, List.range_succ]
    rw [e, List.length_append, itL_len M pts N, lst_length, Nat.add_mul, Nat.one_mul]
abbrev fG (M : MachD) (C : CurD) (pts : Nat → PointD) (k : Nat) (o1 o2 : Gr) : Boxes := gt o1 (knC M C pts k) ++ (gt o2 (itC M pts k) ++ [])
theorem fG_ne {M : MachD} {C : CurD} {pts : Nat → PointD} {k : Nat} {o1 o2 : Gr} (hn : 1 ≤ cellN M) (h0 : k = 0 → o1 = none ∧ o2 = none) {p : Nat × Cont} {w : World} (hp : p ∈ fG M C pts k o1 o2) (hb : BoxAt w p.1 p.2) : ∃ b : Obj, w.heap[p.1]? = some b ∧ b.isCells = true := by
  cases k with
  | zero => obtain ⟨rfl, rfl⟩ := h0 rfl; simp [fG, gt] at hp
  | succ k =>
    rcases List.mem_append.1 hp with h | h
    · exact gt_isCellsx h hb (by rw [knC_succ]; simp)
    · rw [List.append_nil] at h
      exact gt_isCellsx h hb (by
        obtain ⟨m, hm⟩ : ∃ m, cellN M = m + 1 := ⟨cellN M - 1, by omega⟩
        rw [itC_succ, hm, wgC_succ]; simp)
structure Fst where
  (b : Nat) (A : Option Addr) (c lo : Nat) (u : World)
theorem newT_gt {α : Type} {z n B : Nat} {enc : α → List Value} {W : World} {o : Gr} {cs : List Value} {zs : List α} (hg : gok o n z cs) (hb : ∀ p ∈ gt o cs, BoxAt W p.1 p.2 ∧ B ≤ p.1) (hz : zs.flatMap enc = cs) (hn : zs.length = n) (hlen : ∀ x, (enc x).length = z := by intro _; rfl) : NewT z enc B W (gA o) n (gC o) zs := by
  refine ⟨?_, fun b off e => ?_, hg.le⟩
  · rcases o with _ | ⟨b, c, sp⟩
    · exact ⟨hn, fun h0 => by have := hg.nil rfl; omega⟩
    · exact isT_box hlen (hb (b, .cells (cs ++ sp)) (List.mem_singleton.2 rfl)).1 hz hn
  · rcases o with _ | ⟨b', c, sp⟩
    · cases e
    · obtain rfl : b' = b := by cases e; rfl
      exact (hb (b', .cells (cs ++ sp)) (List.mem_singleton.2 rfl)).2
theorem newT_cells {B : Nat} {w : World} {A : Option Addr} {c : Nat} {M : MachD} (h : NewT 2 PointD.cells B w A (ptN M) c (lst (ptN M) (ptA M))) : NewT 2 PointD.cells B w A (cellN M) c (lst (cellN M) (cellP M)) := by
  have h1 := h.isT.take (k := cellN M) (by unfold ptN; omega)
  have e : (lst (ptN M) (ptA M)).take (cellN M) = lst (cellN M) (cellP M) := by
    refine List.ext_getElem? fun j => ?_
    rw [List.getElem?_take]
    split
    · rename_i hj
      rw [lst_get _ (show j < ptN M by unfold ptN; omega), lst_get _ hj, ptA_cell hj]
    · rename_i hj
      rw [List.getElem?_eq_none (by rw [lst_length]; omega)]
  rw [e] at h1
  exact ⟨h1, h.new, by have := h.le; unfold ptN at this; omega⟩
theorem iter_places {R : MachR} {M : MachD} {w u : World} {bg bm : Nat} (hM : IsM w R M) (hb : Below w.heap.size w u) (hc : checkC M = 0) (hg : BoxAt u bg (.cells (mCs (gridR R) (gridM M)))) (hm : BoxAt u bm (.cells (mCs R M))) :
    ∀ (b : Nat) (v : World), Below u.heap.size u v → u.heap.size ≤ b → b < v.heap.size → IterOwn Tryz.prog 152 #[.pointer (some ⟨bg, 0, none⟩), .pointer (some ⟨bm, 0, none⟩)] PointD.v (fun _ _ k x _ => x = ptA M k) [b] 0 (ptN M) v := by
  intro b v hv hl hlt
  have hz := hv.size
  have hg1 := hg.lt
  have hm1 := hm.lt
  refine places1_own R M bg bm [b] v hc (fun W hk => ?_) (by omega) (by omega)
  have key : ∀ k, k < u.heap.size → W.heap[k]? = u.heap[k]? := fun k h => (hk.block k (by omega) (by simp; omega)).trans (hv.block k h)
  have low : ∀ k, k < w.heap.size → W.heap[k]? = w.heap[k]? := fun k h => (key k (Nat.lt_of_lt_of_le h hb.size)).trans (hb.block k h)
  have sz := hk.size
  have sz2 := hb.size
  exact ⟨hM.keepx (by omega) low, fun j x hj => by rw [Nat.zero_add]; exact (cell_blkx (key _ hm1)).trans (hm.cell _ rfl j x hj).1, fun j x hj => by rw [Nat.zero_add]; exact (cell_blkx (key _ hg1)).trans (hg.cell _ rfl j x hj).1⟩
theorem eqg_bl_x95_0_ (a0 : Value) (ha0 : a0.oneCell' = true) : ∀ w, (Instr.build 95 #[(0, a0)]).run Tryz.prog w = .ok (.agg #[a0, (.slice none 0 0)]) w := by
  have ea0 : a0.cells = #[a0] := cells_one ha0
  intro w; simp [Instr.build, Instr.fill, cells_agg, Tryz.runUnderlying95, Tryz.zeroValue95, Tryz.sizeOf3, Tryz.sizeOf30, ea0]
theorem eqg_bl_equilfield_1_ (c0_0 c0_1 : Value) : ∀ w, (Instr.build 97 #[(1, .agg #[c0_0, c0_1])]).run Tryz.prog w = .ok (.agg #[(.slice none 0 0), c0_0, c0_1]) w := by
  intro w; simp [Instr.build, Instr.fill, cells_agg, Tryz.runUnderlying97, Tryz.zeroValue97, Tryz.sizeOf30, Tryz.sizeOf95]
theorem eqg_bs_int_1_0_ (a0 : Value) (ha0 : a0.oneCell' = true) : ∀ w, (Instr.buildSlice 30 1 #[(0, a0)]).run Tryz.prog w = .ok (.slice (some ⟨w.heap.size, 0, none⟩) 1 1) (w.alloc (.cells [a0].toArray 3)) := by
  have ea0 : a0.cells = #[a0] := cells_one ha0
  intro w; (simp [Instr.buildSlice, Instr.fill, cells_agg, newRow, Tryz.runUnderlying30, Tryz.zeroValue3, Tryz.sizeOf3, ea0] <;> (rw [(by kernel_rfl : Array.range 1 = #[0])]; simp [Value.cells]))
set_option maxRecDepth 100000 in
set_option maxHeartbeats 1000000 in
theorem fieldAt_any (R : MachR) (M : MachD) (Q : CurR) (C : CurD) (w : World) (hM : IsM w R M) (hC : IsC w Q C) (hf : Fit2 M C) (pts : Nat → PointD) (gf : Nat) (lb : Array Value) (N : Nat) (hN : N ≤ 1000) (hpn : ∀ k, k < N → nearB (pts k).r (pts k).z 100 = true) (eg : ∀ args w, (callFunc gf args).run Tryz.prog w = .ok (.enter gf args) w)
    (hseq : ∀ (b : Nat) (v : World), Below w.heap.size w v → w.heap.size ≤ b → b < v.heap.size → IterOwn Tryz.prog gf lb PointD.v (fun _ _ k x _ => x = pts k) [b] 0 N v) :
    Calls Tryz.prog 73 #[.agg (mCs R M).toArray, .agg (cCs Q).toArray, .func (.func gf) #[] lb] w (fun e w' => ∃ A c A2 c2, e = .returned (.agg #[.slice A N c, .int .i64 (cellN M : Int), .slice A2 (N * cellN M) c2]) ∧ NewT 1 intCells w.heap.size w' A N c (knL M C pts N) ∧ NewT 1 intCells w.heap.size w' A2 (N * cellN M) c2 (itL M pts N) ∧ Below w.heap.size w w') := by
  have hc := hf.check
  have hcn := cellN_eq hc
  have hl : 1 ≤ R.lc := by have := limits_pos hc; have := hM.limits.1; omega
  have hlm := limits_most hc
  refine calls_axM (vs := [.agg (mCs R M).toArray, .agg (cCs Q).toArray, .func (.func gf) #[] lb]) Tryz.func73 rfl rfl ?_
  refine ac_seq (ac_region ?_)
  refine al_new (fun b => .pointer (some ⟨b, 0, none⟩)) (r_box rfl rfl) rfl rfl rfl ?_
  intro b1
  refine al_new (fun b => .pointer (some ⟨b, 0, none⟩)) (r_box rfl rfl) rfl rfl rfl ?_
  intro b2
  refine al_new (fun b => .pointer (some ⟨b, 0, none⟩)) (r_alloc Tryz.zeroValue97 rfl) rfl rfl rfl ?_
  intro b3
  refine al_end (aq_then ?_)
  refine ac_cut (β := Fst) (fun x => NewT 2 PointD.cells x.lo x.u x.A (cellN M) x.c (lst (cellN M) (cellP M))) (fun x => [(2, (.func (.func gf) #[] lb)), (3, (.pointer (some ⟨b1, 0, none⟩))), (4, (.pointer (some ⟨b2, 0, none⟩))), (6, (.pointer (some ⟨b3, 0, none⟩))), (7, (.pointer (some ⟨x.b, 0, none⟩)))]) (fun x => [(x.lo, x.u)]) (fun x L9 => (x.b, .cells [.slice x.A (cellN M) x.c]) :: L9) (fun X9 hX9 => ?_) (fun x hF9 => ?_)
  · refine ac_draw 7 (by kernel_rfl) (by kernel_rfl) ?_
    refine ah_t 0 (fun w9 hs => hs) rfl rfl (by kernel_rfl) (q_loadAll (i := 2) rfl rfl Tryz.isAgg29 Tryz.sizeOf29 rfl) (ah_t 3 (fun w9 hs => hs) rfl rfl (by kernel_rfl) (q_loadAll (i := 2) rfl rfl Tryz.isAgg29 Tryz.sizeOf29 rfl) ?_)
    refine ah_two 1 6 rfl rfl  (by kernel_rfl) (fun hok1 hcl1 => ?_) (fun hok1 hcl1 => ?_)
    · refine al_callS Tryz.call99 (.cons rfl .nil) rfl rfl (fun w1 hs1 => ?_)
      refine (places_any R M _ (hM.below hs1.below) hl).mono ?_
      rintro e u1 ⟨bg, bm, rfl, hb_1⟩
      refine ⟨_, _, _, rfl, hs1.gift hb_1, ?_⟩
      refine al_end (ah_back hok1 hcl1 (fun w9 hs => (hs.tail 2 rfl)) ?_)
      refine ah_two 2 6 rfl rfl  (by kernel_rfl) (fun hok2 hcl2 => ?_) (fun hok2 hcl2 => ?_)
      · refine al_call Tryz.call111 (.cons rfl .nil) rfl rfl (fun w2 hs2 => ?_)
        refine (collectP_any (ptA M) _ _ (ptN M) _ (by unfold ptN; omega) Tryz.call152 (iter_places hM hs2.below hc (hs2.at 0 rfl) (hs2.at 1 rfl))).mono ?_
        rintro e u2 ⟨A7, c7, rfl, k9_, hb_2⟩
        have k7_ := newT_cells k9_
        refine ⟨_, rfl, hb_2, ?_⟩
        clear hs2
        refine al_end (ah_back hok2 hcl2 (fun w9 hs => ((hs.fewer 1 rfl).tail 2 rfl)) ?_)
        refine ah_two 4 6 rfl rfl  (by kernel_rfl) (fun hok3 hcl3 => ?_) (fun hok3 hcl3 => ?_)
        · refine al_call Tryz.call93 (.cons rfl .nil) rfl rfl (fun w3 hs3 => ?_)
          refine (pcells_any R M _ (hM.below hs3.below) hc).mono ?_
          rintro e u3 ⟨rfl, hb_3⟩
          refine ⟨_, rfl, hb_3, ?_⟩
          clear hs3
          refine al_end (ah_back hok3 hcl3 (fun w9 hs => ((hs.fewer 2 rfl).tail 2 rfl)) ?_)
          refine ah_t 5 (fun w9 hs => ((hs.fewer 2 rfl).tail 2 rfl)) rfl rfl (by kernel_rfl) (q_upto (hi := cellN M) rfl rfl rfl (by have := k9_.le.1; unfold ptN at this; omega) Tryz.underlying24 Tryz.sizeOf36) (ah_one 6 rfl (by kernel_rfl) (fun hok4 hcl4 => ?_))
          refine al_new (fun b => .pointer (some ⟨b, 0, none⟩)) (r_alloc Tryz.zeroValue24 rfl) rfl rfl rfl ?_
          intro b4
          refine al_end (ah_back hok4 hcl4 (fun w9 hs => ((hs.fewer 2 rfl).tail 3 rfl)) ?_)
          refine ah_one 7 rfl (by kernel_rfl) (fun hok5 hcl5 => ?_)
          refine al_store1 (i := 0) rfl rfl rfl rfl Tryz.sizeOf24 .k0 .k0 rfl (al_end (ah_last (by kernel_rfl) ?_))
          refine aq_then (aq_keepB (.keep (.drop (.drop (.keep (.keep (.keep .nil)))))) ?_)
          exact aq_sub (hX9 (⟨b4, A7, c7, w2.heap.size, u2⟩) (k7_)) ⟨rfl, rfl, rfl, rfl, rfl, trivial⟩ (fun w9 hs => (hs.fewer 1 rfl))
        · refine al_new (fun b => .pointer (some ⟨b, 0, none⟩)) (r_alloc Tryz.zeroValue24 rfl) rfl rfl rfl ?_
          intro b5
          refine al_end (ah_back hok3 hcl3 (fun w9 hs => ((hs.fewer 1 rfl).tail 3 rfl)) ?_)
          refine ah_one 4 rfl (by kernel_rfl) (fun hok6 hcl6 => ?_)
          refine al_call Tryz.call93 (.cons rfl .nil) rfl rfl (fun w4 hs4 => ?_)
          refine (pcells_any R M _ (hM.below hs4.below) hc).mono ?_
          rintro e u4 ⟨rfl, hb_4⟩
          refine ⟨_, rfl, hb_4, ?_⟩
          clear hs4
          refine al_end (ah_back hok6 hcl6 (fun w9 hs => ((hs.fewer 2 rfl).tail 3 rfl)) ?_)
          refine ah_t 5 (fun w9 hs => ((hs.fewer 2 rfl).tail 3 rfl)) rfl rfl (by kernel_rfl) (q_upto (hi := cellN M) rfl rfl rfl (by have := k9_.le.1; unfold ptN at this; omega) Tryz.underlying24 Tryz.sizeOf36) (ah_one 7 rfl (by kernel_rfl) (fun hok7 hcl7 => ?_))
          refine al_store1 (i := 0) rfl rfl rfl rfl Tryz.sizeOf24 .k0 .k0 rfl (al_end (ah_last (by kernel_rfl) ?_))
          refine aq_then (aq_keepB (.keep (.drop (.drop (.keep (.keep (.keep .nil)))))) ?_)
          exact aq_sub (hX9 (⟨b5, A7, c7, w2.heap.size, u2⟩) (k7_)) ⟨rfl, rfl, rfl, rfl, rfl, trivial⟩ (fun w9 hs => (hs.fewer 1 rfl))
      · refine al_new (fun b => .pointer (some ⟨b, 0, none⟩)) (r_alloc Tryz.zeroValue24 rfl) rfl rfl rfl ?_
        intro b5
        refine al_end (ah_back hok2 hcl2 (fun w9 hs => (hs.tail 3 rfl)) ?_)
        refine ah_one 2 rfl (by kernel_rfl) (fun hok8 hcl8 => ?_)
        refine al_call Tryz.call111 (.cons rfl .nil) rfl rfl (fun w5 hs5 => ?_)
        refine (collectP_any (ptA M) _ _ (ptN M) _ (by unfold ptN; omega) Tryz.call152 (iter_places hM hs5.below hc (hs5.at 1 rfl) (hs5.at 2 rfl))).mono ?_
        rintro e u5 ⟨A7, c7, rfl, k9_, hb_5⟩
        have k7_ := newT_cells k9_
        refine ⟨_, rfl, hb_5, ?_⟩
        clear hs5
        refine al_end (ah_back hok8 hcl8 (fun w9 hs => ((hs.fewer 1 rfl).tail 3 rfl)) ?_)
        refine ah_one 4 rfl (by kernel_rfl) (fun hok9 hcl9 => ?_)
        refine al_call Tryz.call93 (.cons rfl .nil) rfl rfl (fun w6 hs6 => ?_)
        refine (pcells_any R M _ (hM.below hs6.below) hc).mono ?_
        rintro e u6 ⟨rfl, hb_6⟩
        refine ⟨_, rfl, hb_6, ?_⟩
        clear hs6
        refine al_end (ah_back hok9 hcl9 (fun w9 hs => ((hs.fewer 2 rfl).tail 3 rfl)) ?_)
        refine ah_t 5 (fun w9 hs => ((hs.fewer 2 rfl).tail 3 rfl)) rfl rfl (by kernel_rfl) (q_upto (hi := cellN M) rfl rfl rfl (by have := k9_.le.1; unfold ptN at this; omega) Tryz.underlying24 Tryz.sizeOf36) (ah_one 7 rfl (by kernel_rfl) (fun hok10 hcl10 => ?_))
        refine al_store1 (i := 0) rfl rfl rfl rfl Tryz.sizeOf24 .k0 .k0 rfl (al_end (ah_last (by kernel_rfl) ?_))
        refine aq_then (aq_keepB (.keep (.drop (.drop (.keep (.keep (.keep .nil)))))) ?_)
        exact aq_sub (hX9 (⟨b5, A7, c7, w5.heap.size, u5⟩) (k7_)) ⟨rfl, rfl, rfl, rfl, rfl, trivial⟩ (fun w9 hs => (hs.fewer 1 rfl))
    · refine al_new (fun b => .pointer (some ⟨b, 0, none⟩)) (r_alloc Tryz.zeroValue24 rfl) rfl rfl rfl ?_
      intro b5
      refine al_end (ah_back hok1 hcl1 (fun w9 hs => (hs.tail 1 rfl)) ?_)
      refine ah_one 1 rfl (by kernel_rfl) (fun hok11 hcl11 => ?_)
      refine al_callS Tryz.call99 (.cons rfl .nil) rfl rfl (fun w7 hs7 => ?_)
      refine (places_any R M _ (hM.below hs7.below) hl).mono ?_
      rintro e u7 ⟨bg, bm, rfl, hb_7⟩
      refine ⟨_, _, _, rfl, hs7.gift hb_7, ?_⟩
      refine al_end (ah_back hok11 hcl11 (fun w9 hs => (hs.tail 3 rfl)) ?_)
      refine ah_one 2 rfl (by kernel_rfl) (fun hok12 hcl12 => ?_)
      refine al_call Tryz.call111 (.cons rfl .nil) rfl rfl (fun w8 hs8 => ?_)
      refine (collectP_any (ptA M) _ _ (ptN M) _ (by unfold ptN; omega) Tryz.call152 (iter_places hM hs8.below hc (hs8.at 0 rfl) (hs8.at 1 rfl))).mono ?_
      rintro e u8 ⟨A7, c7, rfl, k9_, hb_8⟩
      have k7_ := newT_cells k9_
      refine ⟨_, rfl, hb_8, ?_⟩
      clear hs8
      refine al_end (ah_back hok12 hcl12 (fun w9 hs => ((hs.fewer 1 rfl).tail 3 rfl)) ?_)
      refine ah_one 4 rfl (by kernel_rfl) (fun hok13 hcl13 => ?_)
      refine al_call Tryz.call93 (.cons rfl .nil) rfl rfl (fun w9 hs9 => ?_)
      refine (pcells_any R M _ (hM.below hs9.below) hc).mono ?_
      rintro e u9 ⟨rfl, hb_9⟩
      refine ⟨_, rfl, hb_9, ?_⟩
      clear hs9
      refine al_end (ah_back hok13 hcl13 (fun w9 hs => ((hs.fewer 2 rfl).tail 3 rfl)) ?_)
      refine ah_t 5 (fun w9 hs => ((hs.fewer 2 rfl).tail 3 rfl)) rfl rfl (by kernel_rfl) (q_upto (hi := cellN M) rfl rfl rfl (by have := k9_.le.1; unfold ptN at this; omega) Tryz.underlying24 Tryz.sizeOf36) (ah_one 7 rfl (by kernel_rfl) (fun hok14 hcl14 => ?_))
      refine al_store1 (i := 2) rfl rfl rfl rfl Tryz.sizeOf24 .k0 .k2 rfl (al_end (ah_last (by kernel_rfl) ?_))
      refine aq_then (aq_keepB (.drop (.drop (.keep (.keep (.keep (.keep .nil)))))) ?_)
      exact aq_sub (hX9 (⟨b5, A7, c7, w8.heap.size, u8⟩) (k7_)) ⟨rfl, rfl, rfl, rfl, rfl, trivial⟩ (fun w9 hs => (hs.fewer 1 rfl))
  · refine ac_seq (ac_region ?_)
    refine al_p (q_load (i := 0) rfl rfl rfl Tryz.isAgg24) (al_p (q_lenS rfl Tryz.runUnderlying24) (al_p (q_build (.cons rfl .nil) (eqg_bl_x95_0_ _ rfl)) (al_p (q_build (.cons rfl .nil) (eqg_bl_equilfield_1_ _ _)) (al_new (fun b => .pointer (some ⟨b, 0, none⟩)) (r_alloc Tryz.zeroValue97 rfl) rfl rfl rfl ?_))))
    intro b5
    refine al_storeAll (i := 0) rfl rfl rfl rfl Tryz.sizeOf97 rfl rfl .k0 rfl (al_end (aq_then ?_))
    refine ac_seq (ac_region ?_)
    refine al_p (q_loadAll (i := 4) rfl rfl Tryz.isAgg29 Tryz.sizeOf29 rfl) (al_p (q_loadAll (i := 3) rfl rfl Tryz.isAgg32 Tryz.sizeOf32 rfl) (al_callS Tryz.call43 (.cons rfl (.cons rfl .nil)) rfl rfl (fun w10 hs10 => ?_)))
    refine (withoutPlasma_any R M Q C _ (hM.below hs10.below) (hC.below hs10.below) hl).mono ?_
    rintro e u10 ⟨bz, rfl, hb_10⟩
    refine ⟨_, _, _, rfl, hs10.gift hb_10, ?_⟩
    refine al_p (q_move rfl) (al_p (q_extract rfl rfl) (al_p (q_extract rfl rfl) (al_new (fun b => .pointer (some ⟨b, 0, none⟩)) (r_alloc Tryz.zeroValue29 rfl) rfl rfl rfl ?_)))
    intro b6
    refine al_new (fun b => .pointer (some ⟨b, 0, none⟩)) (r_alloc Tryz.zeroValue32 rfl) rfl rfl rfl ?_
    intro b7
    refine al_storeAll (i := 1) rfl rfl rfl rfl Tryz.sizeOf29 rfl rfl .k1 rfl (al_storeAll (i := 0) rfl rfl rfl rfl Tryz.sizeOf32 rfl rfl .k0 rfl (al_end (aq_then ?_)))
    refine ac_seq (ac_seq (ac_region ?_))
    refine al_p (q_move rfl) (al_end (aq_then ?_))
    refine ac_block (fun a9 v hf9 hs9 => (wpIn_wide (n := 0)).1 ?_)
    have hbw : Below w.heap.size w v := hs9.below
    have hsw := hbw.size
    have hB5 := (hs9.at 3 rfl)
    have lbl := hB5.lt
    have hl5 : w.heap.size ≤ b5 := (hs9.box 3 _ _ rfl).1.resolve_right (by simp)
    have hl6 := (hs9.at 1 rfl).lt
    have hl7 := (hs9.at 0 rfl).lt
    have hl4 := (hs9.at 4 rfl).lt
    have hlz := (hs9.at 2 rfl).lt
    have n6 : b6 ≠ b5 := fun e => by have := hs9.apart 1 3 b5 _ _ (by rw [← e]; rfl) rfl; omega
    have n7 : b7 ≠ b5 := fun e => by have := hs9.apart 0 3 b5 _ _ (by rw [← e]; rfl) rfl; omega
    have n4 : x.b ≠ b5 := fun e => by have := hs9.apart 4 3 b5 _ _ (by rw [← e]; rfl) rfl; omega
    have nz : bz ≠ b5 := fun e => by have := hs9.apart 2 3 b5 _ _ (by rw [← e]; rfl) rfl; omega
    have hT7 := hs9.newT (.head _) hF9
    have hsn := (hs9.snap _ _ (.head _)).2.2.2.2.2 3 b5 _ rfl
    have hTb : ∀ b o, x.A = some ⟨b, o, none⟩ → b < v.heap.size ∧ b ≠ b5 := fun b o e => by
      have h1 := hF9.new b o e
      obtain ⟨b', o', e', h2, _⟩ := hF9.isT.2 (by omega)
      rw [e] at e'; cases e'
      have h3 := (hs9.snap _ _ (.head _)).2.2.1
      exact ⟨by omega, by omega⟩
    have hFa : ∀ W, Kx [b5] v W → FaF R M Q C b6 b7 x.b bz x.A x.c W := fun W hk => by
      have key : ∀ b, b < v.heap.size → b ≠ b5 → W.heap[b]? = v.heap[b]? := fun b h1 h2 => hk.block b h1 (by simpa using h2)
      have low : ∀ b, b < w.heap.size → W.heap[b]? = w.heap[b]? := fun b h => (key b (by omega) (by omega)).trans (hbw.block b h)
      have lsz : w.heap.size ≤ W.heap.size := Nat.le_trans hsw hk.size
      refine ⟨(hM.keepx lsz low).bare hl, (hC.keepx lsz low).bare ((hs9.at 2 rfl).blkx (key _ hlz nz) hk.size), fun j u hu => ?_, fun j u hu => ?_, fun j u hu => ?_, hT7.keep hk.size fun b o e h0 => key b ?_ ?_⟩
      · rw [Nat.zero_add]; exact (cell_blkx (key _ hl6 n6)).trans ((hs9.at 1 rfl).cell _ rfl j u hu).1
      · rw [Nat.zero_add]; exact (cell_blkx (key _ hl7 n7)).trans ((hs9.at 0 rfl).cell _ rfl j u hu).1
      · rw [Nat.zero_add]; exact (cell_blkx (key _ hl4 n4)).trans ((hs9.at 4 rfl).cell _ rfl j u hu).1
      · exact (hTb b o e).1
      · exact (hTb b o e).2
    refine wpIn_range_own (X := [b5]) (zl := 0) (N := N) (Good := fun _ _ k x _ => x = pts k) (enc := PointD.v) (hf9.ev rfl) eg (hseq b5 v hbw hl5 lbl) (fun Z Y k V => Z = [] ∧ Chg [b5] v V ∧ ∃ (o1 o2 : Gr), BoxAt V b5 (.cells [.slice (gA o1) (k) (gC o1), .int .i64 (cellN M : Int), .slice (gA o2) (k * cellN M) (gC o2)]) ∧ (∀ p ∈ fG M C pts k o1 o2, BoxAt V p.1 p.2 ∧ v.heap.size ≤ p.1) ∧ (fG M C pts k o1 o2).Pairwise (fun a b => a.1 ≠ b.1) ∧ gok o1 k 1 (knC M C pts k) ∧ gok o2 (k * cellN M) 1 (itC M pts k) ∧ Y = (fG M C pts k o1 o2).map Prod.fst ∧ (k = 0 → o1 = none ∧ o2 = none)) ?_ ?_ ?_ ?_ ?_
    · rintro Z Y k W1 W2 ⟨rfl, q1, o1, o2, q2, q3, q4, q5, q6, q7, q9⟩ hm
      refine ⟨rfl, q1.mv hm (Nat.le_refl _) (fun z hz => by cases hz), o1, o2, q2.blkx (hm.block _ q2.lt (by simp) (Or.inl lbl)) hm.size, fun p hp => ?_, q4, q5, q6, q7, q9⟩
      obtain ⟨h1, h2⟩ := q3 p hp
      exact ⟨h1.blkx (hm.block _ h1.lt (by simp) (Or.inr (fG_ne hcn.2.1 q9 hp h1))) hm.size, h2⟩
    · intro Z hZ hz
      exact ⟨List.length_eq_zero_iff.1 hZ, Chg.refl _ _, none, none, (by rw [Nat.zero_mul]; exact hB5), (fun p hp => by simp [fG, gt] at hp), by simp [fG, gt], gok.none 1, by rw [Nat.zero_mul]; exact gok.none 1, by simp [fG, gt], fun _ => ⟨rfl, rfl⟩⟩
    · rintro l2 Z Y k x9 V hl2 sV ⟨rfl, q1, o1, o2, q2, q3, q4, q5, q6, rfl, q9⟩ hYv rfl hk
      have hW2 : Wide (Fence.wide.inRound l2) := Or.inr ⟨l2, rfl⟩
      have hnn : k * cellN M + cellN M = (k + 1) * cellN M := by rw [Nat.add_mul, Nat.one_mul]
      have hkm : k * cellN M ≤ 1000 * 64 := Nat.mul_le_mul (by omega) hcn.2.2
      refine ci_go (hf9.setp (w1 := V) (bs' := []) (p := 33) rfl (pts k).v) (Sta.start _ _ _) ?_
      refine ci_region hW2 (fun ⟨a, w, h⟩ => h) rfl ?_
      refine al_new (fun b => .pointer (some ⟨b, 0, none⟩)) (r_alloc Tryz.zeroValue36 rfl) rfl rfl rfl ?_
      intro b8
      refine al_storeAll (i := 0) rfl rfl rfl rfl Tryz.sizeOf36 rfl rfl .k0 rfl (al_end (fun a1 W1 hf1 hs1 => ⟨Chg.of_below _ hs1.below, fun W2 hm2 => ?_⟩))
      have hmm : Mv v.heap.size [] V W2 := (Mv.of_chg (Chg.of_below _ hs1.below)).trans hm2
      have s12 : V.heap.size ≤ W2.heap.size := hmm.size
      have svV := q1.size
      have e2 := hmm.block b5 q2.lt (by simp) (Or.inl lbl)
      have hB2w : BoxAt W2 b5 (.cells [.slice (gA o1) (k) (gC o1), .int .i64 (cellN M : Int), .slice (gA o2) (k * cellN M) (gC o2)]) := q2.blkx e2 hmm.size
      have hG2 : ∀ p ∈ fG M C pts k o1 o2, BoxAt W2 p.1 p.2 := fun p hp => by
        obtain ⟨h1, h2⟩ := q3 p hp
        exact h1.blkx (hmm.block _ h1.lt (by simp) (Or.inr (fG_ne hcn.2.1 q9 hp h1))) hmm.size
      have hK2 : Kx [b5] v W2 := ⟨by omega, fun b hb hx => (hmm.block b (by omega) (by simp) (Or.inl hb)).trans (q1.block b hb hx)⟩
      have hF2 := hFa W2 hK2
      have hdxc : ∀ (j : Nat) (u : Value), (PointD.cells (pts k))[j]? = some u → W2.cell? ⟨b8, 0 + j, none⟩ = some u := fun j u hu => by
        have h6 := hs1.at 0 rfl
        rw [Nat.zero_add]
        exact (cell_blkx (hm2.block b8 h6.lt (by simp) (Or.inr h6.isCellsx))).trans ((h6.cell _ rfl j u hu).1)
      have lb8V : V.heap.size ≤ b8 := (hs1.box 0 _ _ rfl).1.resolve_right (by simp)
      have lb8 : b8 < W2.heap.size := Nat.lt_of_lt_of_le (hs1.at 0 rfl).lt hm2.size
      have hnl : ∀ b, b ≠ b5 → (b < v.heap.size ∨ V.heap.size ≤ b) → b ∉ ((b5, Cont.cells [.slice (gA o1) (k) (gC o1), .int .i64 (cellN M : Int), .slice (gA o2) (k * cellN M) (gC o2)]) :: fG M C pts k o1 o2).map Prod.fst := fun b hb hor hm => by
        rcases List.mem_cons.1 hm with h | h
        · exact hb h
        · obtain ⟨p, hp, e⟩ := List.mem_map.1 h
          have h1 := q3 p hp
          have h2 := h1.1.lt
          omega
      have lb6 : b6 < W2.heap.size := by omega
      have lb7 : b7 < W2.heap.size := by omega
      have lb4 : x.b < W2.heap.size := by omega
      have hn8 := hnl b8 (by omega) (Or.inr lb8V)
      have hn6 := hnl b6 n6 (Or.inl hl6)
      have hn7 := hnl b7 n7 (Or.inl hl7)
      have hn4 := hnl x.b n4 (Or.inl hl4)
      have hnear := hpn k hk
      refine ci_go (hf1.rebase (w1 := W2) (bs' := ((b5, Cont.cells [.slice (gA o1) (k) (gC o1), .int .i64 (cellN M : Int), .slice (gA o2) (k * cellN M) (gC o2)]) :: fG M C pts k o1 o2).map Prod.fst)) (Sta.lendGx _ _ _ _ (fun p hp => ?_) ?_) ?_
      · rcases List.mem_cons.1 hp with h | h
        · subst h; exact hB2w
        · exact hG2 p h
      · refine List.pairwise_cons.2 ⟨fun p hp => ?_, q4⟩
        have := (q3 p hp).2
        show b5 ≠ p.1
        omega
      refine ci_block ?_
      refine ci_seq ?_
      refine ci_region hW2 (fun ⟨a, w, h⟩ => by cases (And.left (a := Exit.outgrown = Exit.normal) h)) rfl ?_
      refine al_p (q_loadXs (mCs (bareR R) (bareM M)) rfl Tryz.isAgg29 Tryz.sizeOf29 (fun w9 hs j9 v9 h9 => by rw [addr_add]; exact (hs.cellL lb6 hn6).trans (hF2.b6 j9 v9 h9)) rfl) (al_p (q_loadXs (cCs (bareQ Q bz)) rfl Tryz.isAgg32 Tryz.sizeOf32 (fun w9 hs j9 v9 h9 => by rw [addr_add]; exact (hs.cellL lb7 hn7).trans (hF2.b7 j9 v9 h9)) rfl) (al_p (q_loadXs (PointD.cells (pts k)) rfl Tryz.isAgg36 Tryz.sizeOf36 (fun w9 hs j9 v9 h9 => by rw [addr_add]; exact (hs.cellL lb8 hn8).trans (hdxc j9 v9 h9)) rfl) (al_call Tryz.call34 (.cons rfl (.cons rfl (.cons rfl .nil))) rfl rfl (fun w11 hs11 => ?_))))
      have hF3 := hFa w11 ⟨Nat.le_trans hK2.size hs11.chg.size, fun b hb hx => (hs11.chg.block b (Nat.lt_of_lt_of_le hb hK2.size) (hnl b (by simpa using hx) (Or.inl hb))).trans (hK2.block b hb hx)⟩
      refine (pflux_any (bareR R) M (bareQ Q bz) C (pts k) _ hF3.m hF3.c hf hnear).mono ?_
      rintro e u11 ⟨rfl, hb_11⟩
      refine ⟨_, rfl, hb_11, ?_⟩
      clear hs11
      refine al_p (q_move rfl) (al_p (q_extract rfl rfl) (al_p (q_extract rfl rfl) (al_p (q_assign rfl) (al_p (q_assign rfl) ?_))))
      refine al_end (aq_then ?_)
      refine ci_seq ?_
      refine ci_region hW2 (fun ⟨a, w, h⟩ => by cases (And.left (a := Exit.outgrown = Exit.normal) h)) rfl ?_
      refine al_p (q_fieldAddr 0 rfl Tryz.runUnderlying97 rfl Tryz.sizeOf30 (by decide) rfl) (al_p (q_load (i := 0) rfl rfl rfl Tryz.isAgg30) (al_p (q_move rfl) (al_new (fun b => .slice (some ⟨b, 0, none⟩) 1 1) (r_buildSlice (.cons rfl .nil) (eqg_bs_int_1_0_ _ rfl)) rfl rfl rfl ?_)))
      intro b9
      refine al_grow (z := 1) (bytes := 8) (zv := (.int .i64 0)) (o := o1) (cs := (knC M C pts k)) (vs := [.int .i64 (knP M C (pts k))]) rfl rfl (.s (.s (.z))) q5 (Sor.box (j := 0) rfl rfl rfl) Tryz.underlying30 (by kernel_rfl) rfl (by omega) (by decide) rfl rfl (fun o_1 g_1 => ?_)
      refine ⟨_, (.s (.s (.z))), ?_⟩
      refine al_p (q_fieldAddr 0 rfl Tryz.runUnderlying97 rfl Tryz.sizeOf30 (by decide) rfl) (al_store1 (i := 1) rfl rfl rfl rfl Tryz.sizeOf30 .k0 .k1 rfl (al_end (aq_then ?_)))
      refine ci_seq ?_
      refine aq_swapT (.s (.s (.z))) (.s (.s (.z))) ?_
      refine ci_region hW2 (fun ⟨a, w, h⟩ => by cases (And.left (a := Exit.outgrown = Exit.normal) h)) rfl ?_
      refine al_p (q_loadX rfl Tryz.isAgg24 (fun w9 hs => (hs.cellL lb4 hn4).trans (hF2.b4 0 _ rfl))) (al_p (q_lenS rfl Tryz.runUnderlying24) (al_p (q_move rfl) (al_end (aq_then ?_))))
      refine ci_block ?_
      refine ci_loop (β := Nat × Gr) (fun p => p.1 ≤ cellN M ∧ gok p.2 (k * cellN M + p.1) 1 (itC M pts k ++ wgC M (pts k) p.1)) (fun _ => []) (fun p => [(8, (.pointer (some ⟨b5, 0, none⟩))), (11, (.pointer (some ⟨b8, 0, none⟩))), (47, (.slice x.A (cellN M) x.c)), (48, (.int .i64 ((cellN M) : Int))), (49, (.int .i64 (p.1 : Int)))]) (fun _ => _) (fun p => (b9, _) :: (b5, .cells [.slice (gA o_1) (k + 1) (gC o_1), .int .i64 (cellN M : Int), .slice (gA p.2) (k * cellN M + p.1) (gC p.2)]) :: (gt p.2 (itC M pts k ++ wgC M (pts k) p.1) ++ (gt o_1 (knC M C pts k ++ [.int .i64 (knP M C (pts k))]) ++ ([])))) (fun p => cellN M - p.1) (0, o2) ⟨Nat.zero_le _, by simpa [wgC, lst] using q6⟩ rfl ⟨rfl, rfl, rfl, rfl, rfl, trivial⟩ (fun w9 hs => (by simpa [wgC, lst] using hs)) (fun p hF1 => ?_)
      obtain ⟨hpl, hgp⟩ := hF1
      refine ci_seq ?_
      refine ci_region hW2 (fun ⟨a, w, h⟩ => by cases (And.left (a := Exit.outgrown = Exit.normal) h)) rfl ?_
      refine al_p (q_lss rfl rfl) (al_end (aq_then ?_))
      refine ci_seq ?_
      refine ci_cond rfl (fun h1 => ?_) (fun h1 => ?_)
      · have hpj : p.1 < cellN M := by have := of_decide_eq_true h1; omega
        obtain ⟨b11, o11, hA1, hlt1, hget1⟩ := hF2.t.2 (by omega)
        have hx1 := lst_get (cellP M) hpj
        have hb1 := hTb _ _ hA1
        have hnb := hnl b11 hb1.2 (Or.inl hb1.1)
        refine ci_skip ?_
        refine aq_then (ci_seq ?_)
        refine ci_block ?_
        refine ci_seq ?_
        refine ci_region hW2 (fun ⟨a, w, h⟩ => by cases (And.left (a := Exit.outgrown = Exit.normal) h)) rfl ?_
        refine al_p (q_indexAddrA (i := p.1) (o11 + p.1 * 2 + 0) hA1 rfl rfl rfl (by omega) Tryz.runUnderlying24 Tryz.sizeOf36 rfl) (al_p (q_loadXs (PointD.cells (cellP M p.1)) rfl Tryz.isAgg36 Tryz.sizeOf36 (fun w9 hs j9 v9 h9 => by rw [addr_add]; exact (hs.cellL hlt1 hnb).trans ((hget1 p.1 _ hx1) j9 v9 h9)) rfl) (al_new (fun b => .pointer (some ⟨b, 0, none⟩)) (r_alloc Tryz.zeroValue36 rfl) rfl rfl rfl ?_))
        intro b10
        refine al_storeAll (i := 0) rfl rfl rfl rfl Tryz.sizeOf36 rfl rfl .k0 rfl (al_end (aq_then ?_))
        refine ci_drawF 10 hW2 (fun ⟨a, w, h⟩ => by cases (And.left (a := Exit.outgrown = Exit.normal) h)) rfl (.s (.s (.s .z))) (by kernel_rfl) (by kernel_rfl) ?_
        refine ah_take 0 (fun w9 hs => (hs.front (.s (.s (.s (.z)))))) rfl rfl rfl (by kernel_rfl) (by kernel_rfl) (by kernel_rfl) (fun _ _ _ h => by cases (And.left (a := Exit.panic _ = Exit.normal) h)) rfl (q_fieldAddr 1 rfl Tryz.runUnderlying97 rfl Tryz.sizeOf95 (by decide) rfl) ?_
        refine ah_take 1 (fun w9 hs => (hs.front (.s (.s (.s (.z)))))) rfl rfl rfl (by kernel_rfl) (by kernel_rfl) (by kernel_rfl) (fun _ _ _ h => by cases (And.left (a := Exit.panic _ = Exit.normal) h)) rfl (q_fieldAddr 2 rfl Tryz.runUnderlying95 rfl Tryz.sizeOf30 (by decide) rfl) (ah_take 2 (fun w9 hs => (hs.front (.s (.s (.s (.z)))))) rfl rfl rfl (by kernel_rfl) (by kernel_rfl) (by kernel_rfl) (fun _ _ _ h => by cases (And.left (a := Exit.panic _ = Exit.normal) h)) rfl (q_load (i := 2) rfl rfl rfl Tryz.isAgg30) (ah_take 3 (fun w9 hs => (hs.front (.s (.s (.s (.z)))))) rfl rfl rfl (by kernel_rfl) (by kernel_rfl) (by kernel_rfl) (fun _ _ _ h => by cases (And.left (a := Exit.panic _ = Exit.normal) h)) rfl (q_loadXs (PointD.cells (pts k)) rfl Tryz.isAgg36 Tryz.sizeOf36 (fun w9 hs j9 v9 h9 => by rw [addr_add]; exact (hs.cellL lb8 hn8).trans (hdxc j9 v9 h9)) rfl) (ah_take 4 (fun w9 hs => (hs.front (.s (.s (.s (.z)))))) rfl rfl rfl (by kernel_rfl) (by kernel_rfl) (by kernel_rfl) (fun _ _ _ h => by cases (And.left (a := Exit.panic _ = Exit.normal) h)) rfl (q_loadAll (i := 0) rfl rfl Tryz.isAgg36 Tryz.sizeOf36 rfl) (ah_one 5 rfl (by kernel_rfl) (fun hok15 hcl15 => ?_)))))
        refine al_call Tryz.call112 (.cons rfl (.cons rfl .nil)) rfl rfl (fun w12 hs12 => ?_)
        refine (influence_any (pts k).r (pts k).z (cellP M p.1).r (cellP M p.1).z _).mono ?_
        rintro e u12 ⟨rfl, hb_12⟩
        refine ⟨_, rfl, hb_12, ?_⟩
        clear hs12
        refine al_end (ah_back hok15 hcl15 (fun w9 hs => ((hs.fewer 1 rfl).front (.s (.s (.s (.z)))))) ?_)
        refine ah_one 6 rfl (by kernel_rfl) (fun hok16 hcl16 => ?_)
        refine al_new (fun b => .slice (some ⟨b, 0, none⟩) 1 1) (r_buildSlice (.cons rfl .nil) (eqg_bs_int_1_0_ _ rfl)) rfl rfl rfl ?_
        intro b11
        refine al_end (ah_back hok16 hcl16 (fun w9 hs => (((hs.fewer 1 rfl).tail 1 rfl).front (.s (.s (.s (.z)))))) ?_)
        refine ah_one 7 rfl (by kernel_rfl) (fun hok17 hcl17 => ?_)
        refine al_grow (z := 1) (bytes := 8) (zv := (.int .i64 0)) (o := p.2) (cs := (itC M pts k ++ wgC M (pts k) p.1)) (vs := [.int .i64 (wgt M (pts k) p.1)]) rfl rfl (.s (.s (.s (.s (.z))))) hgp (Sor.box (j := 0) rfl rfl rfl) Tryz.underlying30 (by kernel_rfl) rfl (by omega) (by decide) rfl rfl (fun o_2 g_2 => ?_)
        refine ⟨_, (.s (.s (.s (.s (.z))))), ?_⟩
        refine al_end (ah_back hok17 hcl17 (fun w9 hs => (((hs.fewer 1 rfl).tail 1 rfl).front (.s (.s (.s (.z)))))) ?_)
        refine ah_take 8 (fun w9 hs => (((hs.fewer 1 rfl).tail 1 rfl).front (.s (.s (.s (.z)))))) rfl rfl rfl (by kernel_rfl) (by kernel_rfl) (by kernel_rfl) (fun _ _ _ h => by cases (And.left (a := Exit.panic _ = Exit.normal) h)) rfl (q_fieldAddr 1 rfl Tryz.runUnderlying97 rfl Tryz.sizeOf95 (by decide) rfl) ?_
        refine ah_take 9 (fun w9 hs => (((hs.fewer 1 rfl).tail 1 rfl).front (.s (.s (.s (.z)))))) rfl rfl rfl (by kernel_rfl) (by kernel_rfl) (by kernel_rfl) (fun _ _ _ h => by cases (And.left (a := Exit.panic _ = Exit.normal) h)) rfl (q_fieldAddr 2 rfl Tryz.runUnderlying95 rfl Tryz.sizeOf30 (by decide) rfl) (ah_one 10 rfl (by kernel_rfl) (fun hok18 hcl18 => ?_))
        refine al_store1 (i := 3) rfl rfl rfl rfl Tryz.sizeOf30 .k2 .k3 rfl (al_end (ah_last (by kernel_rfl) ?_))
        refine aq_inN (aq_then (ci_region hW2 (fun ⟨a, w, h⟩ => by cases (And.left (a := Exit.outgrown = Exit.normal) h)) rfl ?_))
        refine al_p (q_add rfl rfl (by omega)) (al_p (q_move rfl) (al_end (aq_then ?_)))
        skip
        refine ci_round ((p.1 + 1, o_2)) rfl (by simp only; omega) ⟨by simp only; omega, by simp only; rw [wgC_succ, ← List.append_assoc]; exact g_2⟩ ⟨rfl, rfl, rfl, rfl, rfl, trivial⟩ (fun w9 hs => (by have h9 := ((hs.fewer 1 rfl).tail 2 rfl); rw [List.append_assoc, ← wgC_succ] at h9; exact h9))
      · have hpe : p.1 = cellN M := by have := of_decide_eq_false h1; omega
        refine ci_exit ?_
        refine aq_thenE (aq_thenE (aq_hit (aq_inN (aq_swapT (.s (.s (.z))) (.s (.s (.z))) ?_))))
        refine fun a3 W3 hf3 hs3 => ?_
        have hs4 := hs3.tail 1 rfl
        rw [hpe, ← knC_succ, ← itC_succ, hnn] at hs4
        rw [hpe, ← itC_succ, hnn] at hgp
        rw [← knC_succ] at g_1
        obtain ⟨r1, r2, r3, r4⟩ := lend_end (W2 := W2) (G := fG M C pts k o1 o2) (G' := fG M C pts (k + 1) o_1 p.2) hs4
        have hC23 : Chg (b5 :: ([] ++ (fG M C pts k o1 o2).map Prod.fst)) W2 W3 := r4.mono (fun y hy => by simpa using hy)
        have s23 := hC23.size
        have hYb : ∀ y ∈ (fG M C pts (k + 1) o_1 p.2).map Prod.fst, y ∈ (fG M C pts k o1 o2).map Prod.fst ∨ W2.heap.size ≤ y := fun y hy => by
          obtain ⟨p', hp', rfl⟩ := List.mem_map.1 hy
          exact (r2 p' hp').2.2
        refine ⟨rfl, (fG M C pts (k + 1) o_1 p.2).map Prod.fst, (fun y hy => (hYb y hy).imp id (fun h => by omega)), (fun y hy => ?_), ⟨rfl, (q1.mv hmm (Nat.le_refl _) (fun z h => by cases h)).ownx hC23 (fun y hy => by obtain ⟨p', hp', rfl⟩ := List.mem_map.1 hy; exact (q3 p' hp').2), o_1, p.2, r1, fun p' hp' => ?_, r3, g_1, hgp, rfl, (fun h => by omega)⟩, r4.mono (fun y hy => by simpa using hy)⟩
        · obtain ⟨p', hp', rfl⟩ := List.mem_map.1 hy
          exact (r2 p' hp').1.lt
        · obtain ⟨h1, h2, h3⟩ := r2 p' hp'
          refine ⟨h1, ?_⟩
          rcases h3 with h | h
          · obtain ⟨p9, hp9, e⟩ := List.mem_map.1 h
            have := (q3 p9 hp9).2
            omega
          · omega
    · exact fun y hx => by rw [List.mem_singleton.1 hx]; exact lbl
    · rintro D Z Y Wd hD ⟨rfl, q1, o1, o2, q2, q3, q4, q5, q6, q7, q9⟩ hDd
      have hD2 : D < Wd.heap.size := (Array.getElem?_eq_some_iff.1 hDd).1
      have hT1 : NewT 1 intCells v.heap.size Wd (gA o1) N (gC o1) (knL M C pts N) := newT_gt q5 (fun p hp => q3 p (List.mem_append_left _ hp)) (knL_flat M C pts N) (by simp [knL, lst])
      have hT2 : NewT 1 intCells v.heap.size Wd (gA o2) (N * cellN M) (gC o2) (itL M pts N) := newT_gt q6 (fun p hp => q3 p (List.mem_append_right _ (List.mem_append_left _ hp))) (itL_flat M pts N) (itL_len M pts N)
      refine (?_ : AQ ⟨_, [_], w, []⟩ ((v.heap.size, Wd) :: _) _ _ _) _ _ (hf9.marked _) ((hs9.callC (i := 3) rfl q1 q2 .k3).defer _)
      refine aq_inN (aq_then (ac_seq (ac_region ?_)))
      refine al_p (q_loadAll (i := 3) rfl rfl Tryz.isAgg97 Tryz.sizeOf97 rfl) (al_storeAll (i := 5) rfl rfl rfl rfl Tryz.sizeOf97 rfl rfl .k5 rfl (al_end (aq_then ?_)))
      refine ac_ret (retMD Tryz.results73 (.agg (i := 5) rfl rfl Tryz.isAgg97 Tryz.sizeOf97 rfl .nil) .one (Nat.le_trans hbw.size hD) (fun w9 hs => ((hs.snap _ _ (.head _)).2.2.2.1 D hD hD2).trans hDd) (fun w9 w8 hs hm hc8 => ?_))
      have hb9 := hs.below
      have hsz8 := hm.size
      exact ⟨gA o1, gC o1, gA o2, gC o2, rfl, ⟨IsT.mv (Z := []) (fun _ => by simp [intCells]) (hs.isT (.head _) hT1.isT (fun b o e => Or.inl (hT1.new b o e))) hm (by simp), fun b o e => by have := hT1.new b o e; omega, hT1.le⟩, ⟨IsT.mv (Z := []) (fun _ => by simp [intCells]) (hs.isT (.head _) hT2.isT (fun b o e => Or.inl (hT2.new b o e))) hm (by simp), fun b o e => by have := hT2.new b o e; omega, hT2.le⟩, below_mark hb9 hc8 (Nat.le_trans hbw.size hD)⟩
end
section
open Go.RowKit
def OutT {α : Type} (z : Nat) (enc : α → List Value) (w : World) (E : Int) (zs : List α) (e : Ending) (w' : World) : Prop := ∃ A n c, e = .returned (.tuple #[.slice A n c, .int .i64 E]) ∧ NewT z enc w.heap.size w' A n c zs ∧ Below w.heap.size w w'
theorem OutT.nil {α : Type} {z : Nat} {enc : α → List Value} {w w' : World} {E : Int} (hb : Below w.heap.size w w') : OutT z enc w E ([] : List α) (.returned (.tuple #[.slice none 0 0, .int .i64 E])) w' :=
  ⟨none, 0, 0, rfl, ⟨IsT.nil _ _ _ _, fun b o e => (by cases e), Nat.le_refl _, by omega⟩, hb⟩
theorem OutT.ok {α : Type} {z n c : Nat} {enc : α → List Value} {w w' : World} {A : Option Addr} {zs : List α} {E : Int} (h : NewT z enc w.heap.size w' A n c zs) (hb : Below w.heap.size w w') : OutT z enc w E zs (.returned (.tuple #[.slice A n c, .int .i64 E])) w' := ⟨A, n, c, rfl, h, hb⟩
end
section
open Go.RowKit
theorem cell_nearx {M : MachD} (h : checkC M = 0) {i : Int} (h0 : 0 ≤ i) (h1 : i ≤ M.grid.nr * M.grid.nz - 1) : (-60 ≤ cellR M.grid i ∧ cellR M.grid i ≤ 60) ∧ -60 ≤ cellZ M.grid i ∧ cellZ M.grid i ≤ 60 := by
  have hg := grid_of h
  have hf := fine_grid hg
  have hc := cells_fine hf
  unfold gridC at hg
  obtain ⟨r0, r1, z0, z1, n0, n1, k0, k1, s0, s1⟩ := hf
  split at hg
  · split at hg
    · have hl := nearB_iff.1 (rng_zero hg)
      unfold cellR cellZ at *
      generalize M.grid.r = r at *
      generalize M.grid.z = z at *
      generalize M.grid.nr = a at *
      generalize M.grid.nz = b at *
      generalize M.grid.step = s at *
      have m1 : (a * b - 1) % a = a - 1 := by
        rw [show a * b - 1 = (a - 1) + (b - 1) * a by rw [Int.sub_mul, Int.one_mul, Int.mul_comm b a]; omega, Int.add_mul_emod_self_right]
        exact Int.emod_eq_of_lt (by omega) (by omega)
      have d1 : (a * b - 1) / a = b - 1 := by
        rw [show a * b - 1 = (a - 1) + (b - 1) * a by rw [Int.sub_mul, Int.one_mul, Int.mul_comm b a]; omega, Int.add_mul_ediv_right _ _ (by omega), Int.ediv_eq_zero_of_lt (by omega) (by omega)]
        omega
      rw [m1, d1] at hl
      have a0 := Int.emod_nonneg i (show a ≠ 0 by omega)
      have a1 := Int.emod_lt_of_pos i (show 0 < a by omega)
      have b0 := Int.ediv_nonneg h0 (show 0 ≤ a by omega)
      have b1 : i / a ≤ b - 1 := by
        have : i / a < b := Int.ediv_lt_of_lt_mul (by omega) (by rw [Int.mul_comm b a]; omega)
        omega
      have u0 := Int.mul_nonneg a0 (show 0 ≤ s by omega)
      have u1 := Int.mul_le_mul_of_nonneg_right (show i % a ≤ a - 1 by omega) (show 0 ≤ s by omega)
      have v0 := Int.mul_nonneg b0 (show 0 ≤ s by omega)
      have v1 := Int.mul_le_mul_of_nonneg_right b1 (show 0 ≤ s by omega)
      omega
    · simp at hg
  · simp at hg
theorem ptA_near {M : MachD} (h : checkC M = 0) (k : Nat) (hk : k < ptN M) : nearB (ptA M k).r (ptA M k).z 100 = true := by
  rw [nearB_iff]
  have h1 := cellN_eq h
  unfold ptA
  split
  · have := cell_nearx h (i := (k : Int)) (by omega) (by omega)
    unfold cellP
    dsimp only
    omega
  · have := limits_near h _ (limP_mem (M := M) (k := k - cellN M) (by unfold ptN at hk; omega))
    omega
abbrev spmix (n k : Nat) (f : Nat → SpanD) : List Value := mixF n k (fun j => SpanD.cells (f j)) (fun _ => [.int .i64 0, .int .i64 0])
theorem flat_spx (n : Nat) (f : Nat → SpanD) : (lst n f).flatMap SpanD.cells = spmix n n f := by
  rw [spmix, mixF_all]; unfold lst; rw [List.flatMap_map]
theorem loT_succ (M : MachD) (C : CurD) (p : PointD) (x : List SpanD) (n : Nat) : loT M C p x (n + 1) = loT M C p x n + wgt M p n * (spA x n).lo := by unfold loT; simp only [dotTo]; omega
theorem hiT_succ (M : MachD) (C : CurD) (p : PointD) (x : List SpanD) (n : Nat) : hiT M C p x (n + 1) = hiT M C p x n + wgt M p n * (spA x n).hi := by unfold hiT; simp only [dotTo]; omega
theorem itL_row (M : MachD) (pts : Nat → PointD) : ∀ (N k : Nat), k < N → ((itL M pts N).drop (k * cellN M)).take (cellN M) = lst (cellN M) (wgt M (pts k))
  | 0, k, h => absurd h (by omega)
  | N + 1, k, h => by
    have e : itL M pts (N + 1) = itL M pts N ++ lst (cellN M) (wgt M (pts N)) := by simp [itL, List.range_succ]
    have hl := itL_len M pts N
    rw [e]
    rcases Nat.lt_or_ge k N with g | g
    · have h1 : (k + 1) * cellN M ≤ N * cellN M := Nat.mul_le_mul_right _ (by omega)
      rw [Nat.add_mul, Nat.one_mul] at h1
      rw [List.drop_append_of_le_length (by omega), List.take_append_of_le_length (by rw [List.length_drop]; omega)]
      exact itL_row M pts N k g
    · have hk : k = N := by omega
      subst hk
      rw [← hl, List.drop_left, List.take_of_length_le (by rw [lst_length]; exact Nat.le_refl _)]
set_option maxRecDepth 100000 in
theorem fieldOf_any (R : MachR) (M : MachD) (Q : CurR) (C : CurD) (w : World) (hM : IsM w R M) (hC : IsC w Q C) (hf : Fit2 M C) : Calls Tryz.prog 60 #[(.agg (mCs R M).toArray), (.agg (cCs Q).toArray)] w (fun e w' => ∃ A c A2 c2, e = .returned (.agg #[.slice A (ptN M) c, .int .i64 (cellN M : Int), .slice A2 (ptN M * cellN M) c2]) ∧ NewT 1 intCells w.heap.size w' A (ptN M) c (knL M C (ptA M) (ptN M)) ∧ NewT 1 intCells w.heap.size w' A2 (ptN M * cellN M) c2 (itL M (ptA M) (ptN M)) ∧ Below w.heap.size w w') := by
  have hl : 1 ≤ R.lc := by have := limits_pos hf.check; have := hM.limits.1; omega
  have hlm := limits_most hf.check
  have hcn := cellN_eq hf.check
  refine calls_ax (vs := [(.agg (mCs R M).toArray), (.agg (cCs Q).toArray)]) Tryz.func60 rfl rfl ?_
  refine ac_seq (ac_region ?_)
  refine al_new (fun b => .pointer (some ⟨b, 0, none⟩)) (r_box rfl rfl) rfl rfl rfl ?_
  intro b1
  refine al_new (fun b => .pointer (some ⟨b, 0, none⟩)) (r_box rfl rfl) rfl rfl rfl ?_
  intro b2
  refine al_new (fun b => .pointer (some ⟨b, 0, none⟩)) (r_alloc Tryz.zeroValue97 rfl) rfl rfl rfl ?_
  intro b3
  refine al_end (aq_then ?_)
  refine ac_seq (ac_draw 5 (by kernel_rfl) (by kernel_rfl) ?_)
  refine ah_t 0 (fun w9 hs => hs) rfl rfl (by kernel_rfl) (q_loadAll (i := 2) rfl rfl Tryz.isAgg29 Tryz.sizeOf29 rfl) (ah_t 1 (fun w9 hs => hs) rfl rfl (by kernel_rfl) (q_loadAll (i := 1) rfl rfl Tryz.isAgg32 Tryz.sizeOf32 rfl) (ah_t 2 (fun w9 hs => hs) rfl rfl (by kernel_rfl) (q_loadAll (i := 2) rfl rfl Tryz.isAgg29 Tryz.sizeOf29 rfl) (ah_one 3 rfl (by kernel_rfl) (fun hok1 hcl1 => ?_))))
  refine al_callS Tryz.call99 (.cons rfl .nil) rfl rfl (fun w1 hs1 => ?_)
  refine (places_any R M _ (hM.below hs1.below) hl).mono ?_
  rintro e u1 ⟨bg, bm, rfl, hb_1⟩
  refine ⟨_, _, _, rfl, hs1.gift hb_1, ?_⟩
  refine al_end (ah_back hok1 hcl1 (fun w9 hs => (hs.tail 2 rfl)) ?_)
  refine ah_one 4 rfl (by kernel_rfl) (fun hok2 hcl2 => ?_)
  refine al_call Tryz.call73 (.cons rfl (.cons rfl (.cons rfl .nil))) rfl rfl (fun w2 hs2 => ?_)
  have hz := hs2.below.size
  refine (fieldAt_any R M Q C _ (hM.below hs2.below) (hC.below hs2.below) hf (ptA M) _ _ (ptN M) (by unfold ptN; omega) (fun k hk => ptA_near hf.check k hk) Tryz.call152 (iter_places hM hs2.below hf.check (hs2.at 0 rfl) (hs2.at 1 rfl))).mono ?_
  rintro e u2 ⟨A1, c1, A2, c2, rfl, k1_, k2_, hb_2⟩
  refine ⟨_, rfl, hb_2, ?_⟩
  clear hs2
  refine al_end (ah_back hok2 hcl2 (fun w9 hs => ((hs.fewer 1 rfl).tail 2 rfl)) ?_)
  refine ah_one 5 rfl (by kernel_rfl) (fun hok3 hcl3 => ?_)
  refine al_storeAll (i := 2) rfl rfl rfl rfl Tryz.sizeOf97 rfl rfl .k2 rfl (al_end (ah_last (by kernel_rfl) ?_))
  refine aq_then (ac_ret (retR Tryz.results60 (.agg (i := 2) rfl rfl Tryz.isAgg97 Tryz.sizeOf97 rfl .nil) .one (fun w9 hs => ?_)))
  exact ⟨A1, c1, A2, c2, rfl, ⟨hs.newT (.head _) k1_, (fun b o e => Nat.le_trans hz (k1_.new b o e)), k1_.le⟩, ⟨hs.newT (.head _) k2_, (fun b o e => Nat.le_trans hz (k2_.new b o e)), k2_.le⟩, hs.below⟩
set_option maxRecDepth 100000 in
theorem row_any (B : Option Addr) (b o k n L c : Nat) (w : World) (hB : B = some ⟨b, o, none⟩) (h1 : (k + 1) * n ≤ L) (h2 : L ≤ c) (h3 : 1 ≤ n) (h4 : n ≤ 64) (h5 : k ≤ 1000) : Calls Tryz.prog 114 #[(.agg #[.int .i64 (n : Int), .slice B L c]), (.int .i64 (k : Int))] w (Ret (.slice (some ⟨b, o + k * n * 1, none⟩) n (c - k * n)) w) := by
  have hk1 : k * n ≤ 1000 * 64 := Nat.mul_le_mul h5 h4
  have hk2 : ((k : Int) * (n : Int)) = ((k * n : Nat) : Int) := by rw [Int.natCast_mul]
  have hk3 : (((k : Int) + 1) * (n : Int)) = ((k * n : Nat) : Int) + n := by rw [Int.add_mul, Int.one_mul, hk2]
  have hk4 : (k + 1) * n = k * n + n := by rw [Nat.add_mul, Nat.one_mul]
  refine calls_ax (vs := [(.agg #[.int .i64 (n : Int), .slice B L c]), (.int .i64 (k : Int))]) Tryz.func114 rfl rfl ?_
  refine ac_seq (ac_region ?_)
  refine al_new (fun b => .pointer (some ⟨b, 0, none⟩)) (r_box rfl rfl) rfl rfl rfl ?_
  intro b1
  refine al_p (q_assign rfl) (al_end (aq_then ?_))
  refine ac_seq (ac_region ?_)
  refine al_p (q_fieldAddr 1 rfl Tryz.runUnderlying95 rfl Tryz.sizeOf30 (by decide) rfl) (al_p (q_load (i := 0) rfl rfl rfl Tryz.isAgg30) (al_p (q_move rfl) ?_))
  refine al_p (q_fieldAddr 0 rfl Tryz.runUnderlying95 rfl Tryz.sizeOf3 (by decide) rfl) (al_p (q_load (i := 0) rfl rfl rfl Tryz.isAgg3) ?_)
  refine al_p (q_mul rfl rfl (by omega)) (al_p (q_move rfl) ?_)
  refine al_p (q_add rfl rfl (by omega)) ?_
  refine al_p (q_fieldAddr 0 rfl Tryz.runUnderlying95 rfl Tryz.sizeOf3 (by decide) rfl) (al_p (q_load (i := 0) rfl rfl rfl Tryz.isAgg3) ?_)
  refine al_p (q_mul rfl rfl (by omega)) ?_
  refine al_p (q_piece (lo := k * n) (hi := (k + 1) * n) (n := n) (o + k * n * 1) hB rfl rfl rfl (by rw [Int.natCast_mul]) (by rw [Int.natCast_mul, Int.natCast_add]; rfl) (by rw [Nat.add_mul]; omega) (by rw [Nat.add_mul]; omega) (by omega) (by omega) Tryz.underlying30 Tryz.sizeOf3 rfl) (al_p (q_assign rfl) (al_end (aq_then ?_)))
  refine ac_ret (ret1 Tryz.results114 rfl (fun w9 hs => ?_))
  exact ⟨rfl, hs.below⟩
theorem row_get {w : World} {b o N k : Nat} {M : MachD} {pts : Nat → PointD} (h : ∀ (j : Nat) (x : Int), (itL M pts N)[j]? = some x → ∀ (i : Nat) (v : Value), (intCells x)[i]? = some v → w.cell? ⟨b, o + j * 1 + i, none⟩ = some v) (hk : k < N) :
    ∀ (j : Nat) (x : Int), (lst (cellN M) (wgt M (pts k)))[j]? = some x → ∀ (i : Nat) (v : Value), (intCells x)[i]? = some v → w.cell? ⟨b, o + k * cellN M * 1 + j * 1 + i, none⟩ = some v := by
  intro j x hx i v hv
  rw [← itL_row M pts N k hk, List.getElem?_take] at hx
  split at hx
  · rw [List.getElem?_drop] at hx
    have := h _ x hx i v hv
    rwa [show o + k * cellN M * 1 + j * 1 + i = o + (k * cellN M + j) * 1 + i by omega]
  · cases hx
theorem eqh_bl_apiSpan_0_1 (a0 a1 : Value) (ha0 : a0.oneCell' = true) (ha1 : a1.oneCell' = true) : ∀ w, (Instr.build 52 #[(0, a0), (1, a1)]).run Tryz.prog w = .ok (.agg #[a0, a1]) w := by
  have ea0 : a0.cells = #[a0] := cells_one ha0
  have ea1 : a1.cells = #[a1] := cells_one ha1
  intro w; simp [Instr.build, Instr.fill, cells_agg, Tryz.runUnderlying52, Tryz.zeroValue52, Tryz.sizeOf3, ea0, ea1]
set_option maxRecDepth 100000 in
theorem fluxes_any (M : MachD) (C : CurD) (pts : Nat → PointD) (N : Nat) (A A2 X : Option Addr) (c c2 nx cx : Nat) (xs : List SpanD) (t : Int) (w : World) (hf : Fit2 M C) (hX : FitX M t xs) (ht : t ≤ 1000000) (hK : IsT 1 intCells w A N (knL M C pts N)) (hI : IsT 1 intCells w A2 (N * cellN M) (itL M pts N)) (hc2 : N * cellN M ≤ c2) (hS : IsT 2 SpanD.cells w X nx xs) (hN : N ≤ 1000) : Calls Tryz.prog 75 #[(.agg #[.slice A N c, .int .i64 (cellN M : Int), .slice A2 (N * cellN M) c2]), (.slice X nx cx)] w (fun e w' => ∃ b, e = .returned (.slice (some ⟨b, 0, none⟩) N N) ∧ Own w [(b, .cells (spmix N N (fun j => flS M C xs (pts j))))] w') := by
  have hcn := cellN_eq hf.check
  have n1 := hS.1
  have n2 := hX.len
  have n3 := hK.1
  refine calls_ax (vs := [(.agg #[.slice A N c, .int .i64 (cellN M : Int), .slice A2 (N * cellN M) c2]), (.slice X nx cx)]) Tryz.func75 rfl rfl ?_
  refine ac_seq (ac_region ?_)
  refine al_new (fun b => .pointer (some ⟨b, 0, none⟩)) (r_box rfl rfl) rfl rfl rfl ?_
  intro b1
  refine al_p (q_assign rfl) (al_end (aq_then ?_))
  refine ac_seq (ac_region ?_)
  refine al_p (q_fieldAddr 0 rfl Tryz.runUnderlying97 rfl Tryz.sizeOf30 (by decide) rfl) (al_p (q_load (i := 0) rfl rfl rfl Tryz.isAgg30) (al_p (q_lenS rfl Tryz.runUnderlying30) ?_))
  refine al_makeAgg (n := N) (bytes := 16) (zv := (.agg #[.int .i64 0, .int .i64 0])) [(.int .i64 0), (.int .i64 0)] rfl rfl rfl Tryz.underlying45 (by kernel_rfl) rfl rfl rfl (by omega) (by decide) rfl rfl ?_
  intro b2
  refine al_p (q_assign rfl) (al_end (aq_then ?_))
  refine ac_seq (ac_seq (ac_region ?_))
  refine al_p (q_fieldAddr 0 rfl Tryz.runUnderlying97 rfl Tryz.sizeOf30 (by decide) rfl) (al_p (q_load (i := 1) rfl rfl rfl Tryz.isAgg30) (al_p (q_lenS rfl Tryz.runUnderlying30) (al_p (q_move rfl) (al_end (aq_then ?_)))))
  refine ac_block ?_
  refine ac_loop (β := Nat) (fun k => k ≤ N) (fun k => [(1, (.slice X nx cx)), (2, (.pointer (some ⟨b1, 0, none⟩))), (4, (.slice none 0 0)), (5, (.slice (some ⟨b2, 0, none⟩) (N) (N))), (16, (.slice A N c)), (17, (.int .i64 (N : Int))), (18, (.int .i64 (k : Int)))]) (fun _ => _) (fun k => [(b2, .cells (spmix N k (fun j => flS M C xs (pts j)))), (b1, _)]) (fun k => N - k) 0 (by omega) ⟨rfl, rfl, rfl, rfl, rfl, rfl, rfl, trivial⟩ (fun w9 hs => (by rw [show spmix N 0 (fun j => flS M C xs (pts j)) = (List.range N).flatMap (fun _ => [.int .i64 0, .int .i64 0]) from mixF_zero _ _ _]; exact hs)) (fun k hF1 => ?_)
  refine ac_seq (ac_region ?_)
  refine al_p (q_lss rfl rfl) (al_end (aq_then ?_))
  refine ac_seq ?_
  refine ac_cond rfl (fun h1 => ?_) (fun h1 => ?_)
  · have hkN : k < N := by have := of_decide_eq_true h1; omega
    have hk1 : (k + 1) * cellN M ≤ N * cellN M := Nat.mul_le_mul_right _ (by omega)
    have hNm : 0 < N * cellN M := Nat.mul_pos (by omega) hcn.2.1
    obtain ⟨b11, o11, hA1, hlt1, hget1⟩ := hK.2 (by omega)
    have hx1 := (lst_get (fun i => knP M C (pts i)) hkN)
    refine ac_skip (aq_then (ac_seq (ac_block (ac_seq (ac_region ?_)))))
    refine al_p (q_move rfl) ?_
    refine al_p (q_indexAddrA (i := k) (o11 + k * 1 + 0) hA1 rfl rfl rfl (by omega) Tryz.runUnderlying30 Tryz.sizeOf3 rfl) (al_p (q_loadX rfl Tryz.isAgg3 (fun w9 hs => (hs.below.cell (p := ⟨_, _, none⟩) hlt1).trans ((hget1 k _ hx1) 0 _ rfl))) (al_p (q_assign rfl) (al_p (q_assign rfl) (al_end (aq_then ?_)))))
    refine ac_seq (ac_region ?_)
    refine al_p (q_move rfl) (al_p (q_move rfl) (al_p (q_build (.cons rfl (.cons rfl .nil)) (eqh_bl_apiSpan_0_1 _ _ rfl rfl)) (al_new (fun b => .pointer (some ⟨b, 0, none⟩)) (r_alloc Tryz.zeroValue52 rfl) rfl rfl rfl ?_)))
    intro b3
    refine al_storeAll (i := 0) rfl rfl rfl rfl Tryz.sizeOf52 rfl rfl .k0 rfl (al_end (aq_then ?_))
    refine ac_seq (ac_seq (ac_region ?_))
    refine al_p (q_fieldAddr 1 rfl Tryz.runUnderlying97 rfl Tryz.sizeOf95 (by decide) rfl) (al_p (q_loadSub (i := 2) rfl rfl Tryz.isAgg95 Tryz.sizeOf95 .k1 .k2) (al_p (q_move rfl) (al_call Tryz.call114 (.cons rfl (.cons rfl .nil)) rfl rfl (fun w1 hs1 => ?_))))
    obtain ⟨b21, o21, hA2, hlt2, hget2⟩ := hI.2 hNm
    refine (row_any A2 b21 o21 k (cellN M) (N * cellN M) c2 _ hA2 hk1 hc2 hcn.2.1 hcn.2.2 (by omega)).mono ?_
    rintro e u1 ⟨rfl, hb_1⟩
    refine ⟨_, rfl, hb_1, ?_⟩
    clear hs1
    have hrow : ∀ (j : Nat) (x : Int), (lst (cellN M) (wgt M (pts k)))[j]? = some x → ∀ (i : Nat) (v : Value), (intCells x)[i]? = some v → w.cell? ⟨b21, o21 + k * cellN M * 1 + j * 1 + i, none⟩ = some v := row_get hget2 hkN
    refine al_p (q_lenS rfl Tryz.runUnderlying30) (al_p (q_move rfl) (al_end (aq_then ?_)))
    refine ac_block ?_
    refine ac_loop (β := Nat) (fun j => j ≤ cellN M) (fun j => [(1, (.slice X nx cx)), (2, (.pointer (some ⟨b1, 0, none⟩))), (4, (.slice none 0 0)), (5, (.slice (some ⟨b2, 0, none⟩) (N) (N))), (6, (.int .i64 (k : Int))), (7, (.int .i64 (knP M C (pts k)))), (8, (.pointer (some ⟨b3, 0, none⟩))), (16, (.slice A N c)), (17, (.int .i64 (N : Int))), (18, (.int .i64 (k : Int))), (20, (.int .i64 (k : Int))), (21, (.pointer (some ⟨b11, o11 + k * 1 + 0, none⟩))), (22, (.int .i64 (knP M C (pts k)))), (23, (.int .i64 (knP M C (pts k)))), (24, (.int .i64 (knP M C (pts k)))), (26, (.pointer (some ⟨b1, 1, none⟩))), (28, (.int .i64 (k : Int))), (29, (.slice (some ⟨b21, o21 + k * cellN M * 1, none⟩) (cellN M) (c2 - k * cellN M))), (30, (.int .i64 ((cellN M) : Int))), (31, (.int .i64 (j : Int)))]) (fun _ => _) (fun j => [(b3, .cells [.int .i64 (loT M C (pts k) xs j), .int .i64 (hiT M C (pts k) xs j)]), (b2, _), (b1, _)]) (fun j => cellN M - j) 0 (by omega) ⟨rfl, rfl, rfl, rfl, rfl, rfl, rfl, rfl, rfl, rfl, rfl, rfl, rfl, rfl, rfl, rfl, rfl, rfl, rfl, rfl, trivial⟩ (fun w9 hs => (by rw [show loT M C (pts k) xs 0 = knP M C (pts k) by simp [loT, dotTo], show hiT M C (pts k) xs 0 = knP M C (pts k) by simp [hiT, dotTo]]; exact hs)) (fun j hF2 => ?_)
    refine ac_seq (ac_region ?_)
    refine al_p (q_lss rfl rfl) (al_end (aq_then ?_))
    refine ac_seq ?_
    refine ac_cond rfl (fun h2 => ?_) (fun h2 => ?_)
    · have hjm : j < cellN M := by have := of_decide_eq_true h2; omega
      obtain ⟨b31, o31, hA3, hlt3, hget3⟩ := hS.2 (by omega)
      have hx3 := spA_get (x := xs) (k := j) (by have := hX.len; omega)
      have hx4 := lst_get (wgt M (pts k)) hjm
      have g1 := wl_bd hX ht (pts k) hjm
      have g2 := part_bd hf hX ht (pts k) (n := j) (by omega)
      have g3 := part_bd hf hX ht (pts k) (n := j + 1) (by omega)
      rw [loT_succ, hiT_succ] at g3
      refine ac_skip (aq_then (ac_seq (ac_block (ac_seq (ac_region ?_)))))
      refine al_p (q_move rfl) ?_
      refine al_p (q_indexAddrA (i := j) ((o21 + k * cellN M * 1) + j * 1 + 0) rfl rfl rfl rfl (by omega) Tryz.runUnderlying30 Tryz.sizeOf3 rfl) (al_p (q_loadX rfl Tryz.isAgg3 (fun w9 hs => (hs.below.cell (p := ⟨_, _, none⟩) hlt2).trans ((hrow j _ hx4) 0 _ rfl))) (al_p (q_assign rfl) (al_p (q_assign rfl) (al_end (aq_then ?_)))))
      refine ac_seq (ac_draw 11 (by kernel_rfl) (by kernel_rfl) ?_)
      refine ah_t 0 (fun w9 hs => hs) rfl rfl (by kernel_rfl) (q_fieldAddr 0 rfl Tryz.runUnderlying52 rfl Tryz.sizeOf3 (by decide) rfl) (ah_t 1 (fun w9 hs => hs) rfl rfl (by kernel_rfl) (q_load (i := 0) rfl rfl rfl Tryz.isAgg3) (ah_t 2 (fun w9 hs => hs) rfl rfl (by kernel_rfl) (q_move rfl) (ah_t 3 (fun w9 hs => hs) rfl rfl (by kernel_rfl) (q_move rfl) (ah_t 4 (fun w9 hs => hs) rfl rfl (by kernel_rfl) (q_move rfl) ?_))))
      refine ah_t 5 (fun w9 hs => hs) rfl rfl (by kernel_rfl) (q_indexAddrA (i := j) (o31 + j * 2 + 0) hA3 rfl rfl rfl (by omega) Tryz.runUnderlying45 Tryz.sizeOf52 rfl) ?_
      refine ah_t 6 (fun w9 hs => hs) rfl rfl (by kernel_rfl) (q_fieldAddr (o31 + j * 2 + 0) rfl Tryz.runUnderlying52 rfl Tryz.sizeOf3 (by decide) rfl) (ah_t 7 (fun w9 hs => hs) rfl rfl (by kernel_rfl) (q_loadX rfl Tryz.isAgg3 (fun w9 hs => (hs.below.cell (p := ⟨_, _, none⟩) hlt3).trans ((hget3 j _ hx3) 0 _ rfl))) ?_)
      refine ah_t 8 (fun w9 hs => hs) rfl rfl (by kernel_rfl) (q_mul rfl rfl (by omega)) ?_
      refine ah_t 9 (fun w9 hs => hs) rfl rfl (by kernel_rfl) (q_add rfl rfl (by omega)) ?_
      refine ah_t 10 (fun w9 hs => hs) rfl rfl (by kernel_rfl) (q_fieldAddr 0 rfl Tryz.runUnderlying52 rfl Tryz.sizeOf3 (by decide) rfl) (ah_one 11 rfl (by kernel_rfl) (fun hok1 hcl1 => ?_))
      refine al_store1 (i := 0) rfl rfl rfl rfl Tryz.sizeOf3 .k0 .k0 rfl (al_end (ah_last (by kernel_rfl) ?_))
      refine aq_then (ac_draw 11 (by kernel_rfl) (by kernel_rfl) ?_)
      refine ah_t 0 (fun w9 hs => hs) rfl rfl (by kernel_rfl) (q_fieldAddr 1 rfl Tryz.runUnderlying52 rfl Tryz.sizeOf3 (by decide) rfl) (ah_t 1 (fun w9 hs => hs) rfl rfl (by kernel_rfl) (q_load (i := 0) rfl rfl rfl Tryz.isAgg3) (ah_t 2 (fun w9 hs => hs) rfl rfl (by kernel_rfl) (q_move rfl) (ah_t 3 (fun w9 hs => hs) rfl rfl (by kernel_rfl) (q_move rfl) (ah_t 4 (fun w9 hs => hs) rfl rfl (by kernel_rfl) (q_move rfl) ?_))))
      refine ah_t 5 (fun w9 hs => hs) rfl rfl (by kernel_rfl) (q_indexAddrA (i := j) (o31 + j * 2 + 0) hA3 rfl rfl rfl (by omega) Tryz.runUnderlying45 Tryz.sizeOf52 rfl) ?_
      refine ah_t 6 (fun w9 hs => hs) rfl rfl (by kernel_rfl) (q_fieldAddr (o31 + j * 2 + 1) rfl Tryz.runUnderlying52 rfl Tryz.sizeOf3 (by decide) rfl) (ah_t 7 (fun w9 hs => hs) rfl rfl (by kernel_rfl) (q_loadX rfl Tryz.isAgg3 (fun w9 hs => (hs.below.cell (p := ⟨_, _, none⟩) hlt3).trans ((hget3 j _ hx3) 1 _ rfl))) ?_)
      refine ah_t 8 (fun w9 hs => hs) rfl rfl (by kernel_rfl) (q_mul rfl rfl (by omega)) ?_
      refine ah_t 9 (fun w9 hs => hs) rfl rfl (by kernel_rfl) (q_add rfl rfl (by omega)) ?_
      refine ah_t 10 (fun w9 hs => hs) rfl rfl (by kernel_rfl) (q_fieldAddr 1 rfl Tryz.runUnderlying52 rfl Tryz.sizeOf3 (by decide) rfl) (ah_one 11 rfl (by kernel_rfl) (fun hok2 hcl2 => ?_))
      refine al_store1 (i := 0) rfl rfl rfl rfl Tryz.sizeOf3 .k1 .k0 rfl (al_end (ah_last (by kernel_rfl) ?_))
      refine aq_inN (aq_then (ac_region ?_))
      refine al_p (q_add rfl rfl (by omega)) (al_p (q_move rfl) (al_end (aq_then ?_)))
      skip
      refine aq_round (j + 1) (by omega) (by omega) ⟨rfl, rfl, rfl, rfl, rfl, rfl, rfl, rfl, rfl, rfl, rfl, rfl, rfl, rfl, rfl, rfl, rfl, rfl, rfl, rfl, trivial⟩ (fun w9 hs => (by have h9 := hs; rw [← loT_succ, ← hiT_succ] at h9; exact h9))
    · have hje : j = cellN M := by have := of_decide_eq_false h2; omega
      refine ac_exit (aq_thenE (aq_thenE (aq_hit (aq_then ?_))))
      refine ac_region (al_p (q_move rfl) (al_p (q_move rfl) (al_p (q_loadAll (i := 0) rfl rfl Tryz.isAgg52 Tryz.sizeOf52 rfl) ?_)))
      refine al_p (q_indexAddr (i := k) (0 + k * 2) rfl rfl rfl (by omega) Tryz.runUnderlying45 Tryz.sizeOf52 rfl) ?_
      refine al_storeV (i := 1) (cs' := (spmix N (k + 1) (fun j => flS M C xs (pts j)))) (vs := [.int .i64 (loT M C (pts k) xs j), .int .i64 (hiT M C (pts k) xs j)]) rfl rfl rfl Tryz.sizeOf52 rfl (by rw [mixF_len (z := 2) (fun _ => rfl) (fun _ => rfl)]; omega) rfl (by have h := mixF_store (n := N) (k := k) (z := 2) (F := fun j => SpanD.cells (flS M C xs (pts j))) (G := fun _ => [.int .i64 0, .int .i64 0]) (fun _ => rfl) (fun _ => rfl) hkN; rw [Nat.zero_add, hje]; exact h) .k1 rfl ?_
      refine al_end (aq_inN (aq_then (ac_region ?_)))
      refine al_p (q_add rfl rfl (by omega)) (al_p (q_move rfl) (al_end (aq_then ?_)))
      skip
      refine aq_round (k + 1) (by omega) (by omega) ⟨rfl, rfl, rfl, rfl, rfl, rfl, rfl, trivial⟩ (fun w9 hs => ((hs.fewer 1 rfl).tail 1 rfl))
  · have hke : k = N := by have := of_decide_eq_false h1; omega
    refine ac_exit (aq_thenE (aq_thenE (aq_hit (aq_then ?_))))
    refine ac_seq (ac_region ?_)
    refine al_p (q_move rfl) (al_p (q_assign rfl) (al_end (aq_then ?_)))
    refine aq_keepL [4] (.cons rfl .nil) ?_
    refine ac_ret (ret1 Tryz.results75 rfl (fun w9 hs => ?_))
    rw [hke] at hs; exact ⟨b2, rfl, hs.own (.cons (j := 0) rfl .nil) (by decide)⟩
end
end Go.Proofs.YtogcjgjhmlifgaaGreat
