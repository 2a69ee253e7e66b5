import Derived.Test.YtkhahbnagbjbiaaGreatNAZ
import Derived.Test.YtkhahbnagbjbiaaGreatNBB
import Derived.OwnWalkIn
import Derived.TacticsInMore
import Derived.LoopIn
import Derived.KernelRfl
import Derived.Laws.StructEq
import Derived.Test.YtkhahbnagbjbiaaGreatRows
section
/- Ranges over functions whose rounds always go on and own memory that they make: what slices.Collect does. -/
namespace Go.Proofs.YtkhahbnagbjbiaaGreat
set_option linter.unusedVariables false
set_option linter.unusedSimpArgs false
set_option autoImplicit false
open Go.RowKit

/-- An iterator whose rounds always go on, and may own memory that they make: Y, the blocks that rounds have made and may change later. -/
def IterOwn {α : Type} (P : Program) (gf : Nat) (lb : Array Value) (enc : α → Value) (Good : List Nat → List Nat → Nat → α → World → Prop) (X : List Nat) (zl N : Nat) (w : World) : Prop :=
  ∀ (l : Nat) (J : List Nat → List Nat → Nat → World → Prop) (W : World), Below w.heap.size w W → w.heap.size ≤ l → l < W.heap.size →
    (∀ Z Y k W1 W2, J Z Y k W1 → Mv W.heap.size Z W1 W2 → J Z Y k W2) →
    (∀ Z Y k x W1, k < N → J Z Y k W1 → Good Z Y k x W1 → YieldAt Fence.wide 0 P l #[enc x] W1 (fun e W2 => e = .returned (.bool true) ∧ ∃ Y9 : List Nat, (∀ y ∈ Y9, y ∈ Y ∨ W1.heap.size ≤ y) ∧ (∀ y ∈ Y9, y < W2.heap.size) ∧ J Z Y9 (k + 1) W2 ∧ Chg (l :: (X ++ Y)) W1 W2)) →
    (∀ Z : List Nat, Z.length = zl → (∀ z ∈ Z, W.heap.size ≤ z) → J Z [] 0 W) →
    CallsIn Fence.wide 0 P gf (#[.func (.yield l) #[] #[]] ++ lb) W (fun e W' => (∃ v, e = .returned v) ∧ ∃ Z Y, J Z Y N W')

/-- the statement over such an iterator, in a function of its own -/
theorem wpIn_range_own {α : Type} {P : Program} {n : Nat} {g : Operand} {p : Tmp} {assign body : Code} {Q : Exit → Act → World → Prop} {a : Act} {w : World} {gf : Nat} {lb : Array Value} (hg : a.eval g = .func (.func gf) #[] lb) (eg : ∀ args w, (callFunc gf args).run P w = .ok (.enter gf args) w)
    {enc : α → Value} {Good : List Nat → List Nat → Nat → α → World → Prop} {X : List Nat} {zl N : Nat} (hseq : IterOwn P gf lb enc Good X zl N w) (I : List Nat → List Nat → Nat → World → Prop)
    (hI : ∀ Z Y k W1 W2, I Z Y k W1 → Mv w.heap.size Z W1 W2 → I Z Y k W2) (h0 : ∀ Z : List Nat, Z.length = zl → (∀ z ∈ Z, w.heap.size < z) → I Z [] 0 w)
    (hround : ∀ (l : Nat) (Z Y : List Nat) (k : Nat) (x : α) (W : World), w.heap.size ≤ l → w.heap.size ≤ W.heap.size → I Z Y k W → (∀ y ∈ Y, w.heap.size ≤ y) → Good Z Y k x W → k < N →
      assign.wpIn (Fence.wide.inRound l) 0 P (Exit.then (fun a1 W1 => Chg X W W1 ∧ ∀ W2, Mv w.heap.size [] W1 W2 → body.wpIn (Fence.wide.inRound l) 0 P (fun e a3 W3 => e = .normal ∧ ∃ Y9 : List Nat, (∀ y ∈ Y9, y ∈ Y ∨ W.heap.size ≤ y) ∧ (∀ y ∈ Y9, y < W3.heap.size) ∧ I Z Y9 (k + 1) W3 ∧ Chg (X ++ Y) W2 W3) a1 W2) (fun _ _ _ => False))
        { tmps := a.tmps.setIfInBounds p (enc x), defers := [] } W)
    (hXw : ∀ x ∈ X, x < w.heap.size)
    (hdone : ∀ (D : Nat) (Z Y : List Nat) (W : World), w.heap.size ≤ D → I Z Y N W → W.heap[D]? = some (.deferred (some [])) → Q .normal { a with defers := { target := .collected D, args := #[] } :: a.defers } W) :
    (Code.rangeFunc g #[p] assign body).wpIn Fence.wide n P Q a w := by
  refine wpIn_rangeFunc ?_
  intro fn hfn
  obtain ⟨rec, hrec⟩ : ∃ rec : LoopState → Loop, rec = fun st => { state := st, pending := none, fn, tmps := a.tmps, params := #[p], assign, body, defers := w.heap.size } := ⟨_, rfl⟩
  obtain ⟨W1, hW1⟩ : ∃ W1, (w.alloc (.deferred (some []))).alloc (.loop (rec .ready)) = W1 := ⟨_, rfl⟩
  have hL1 : W1.heap[w.heap.size + 1]? = some (.loop (rec .ready)) := by
    rw [← hW1]; have := World.alloc_heap_new (w.alloc (.deferred (some []))) (.loop (rec .ready)); rwa [World.size_alloc] at this
  have hK1 : W1.heap[w.heap.size]? = some (.deferred (some [])) := by
    rw [← hW1]; exact (Below.heap_alloc _ _ _ (by simp)).trans (World.alloc_heap_new w _)
  have hb1 : Below w.heap.size w W1 := by rw [← hW1]; exact ((Below.refl _ w).alloc (Nat.le_refl _) _).alloc (by simp) _
  have hs1 : W1.heap.size = w.heap.size + 2 := by rw [← hW1]; simp
  refine ⟨w.heap.size + 1, [{ target := .collected w.heap.size, args := #[] }], W1, { target := .fn (.func gf) lb, args := #[.func (.yield (w.heap.size + 1)) #[] #[]] }, W1, gf,
    #[.func (.yield (w.heap.size + 1)) #[] #[]] ++ lb, W1, ?_, ?_, ?_, ?_, (fun h => by cases h), ?_⟩
  · rw [← hW1, hrec]; exact run_enterLoop_outer _ _ _ _ _
  · simp only [resolve, hg]; simp [go_sem]
  · intro f' _; trivial
  · simp [invoke, go_sem, eg]
  · refine callsIn_n ((hseq (w.heap.size + 1) (fun Z Y k W => I Z Y k W ∧ (∀ y ∈ Y, W1.heap.size ≤ y) ∧ (∀ z ∈ Z, W1.heap.size ≤ z) ∧ W.heap[w.heap.size + 1]? = some (.loop (rec .ready)) ∧ W.heap[w.heap.size]? = some (.deferred (some []))) W1 hb1 (by omega) (by omega) ?_ ?_ ?_).mono ?_)
    · rintro Z Y k A B ⟨hi, hy, hz, hl, hk⟩ hm
      have l1 := (Array.getElem?_eq_some_iff.1 hl).1
      refine ⟨hI _ _ _ _ _ hi (hm.low (by omega)), hy, hz, (hm.block _ l1 (fun h => by have := hz _ h; omega) (Or.inl (by omega))).trans hl, (hm.block _ (by omega) (fun h => by have := hz _ h; omega) (Or.inl (by omega))).trans hk⟩
    · rintro Z Y k x W hkN ⟨hi, hYW, hz, hl, hk⟩ hgd
      have hlt : w.heap.size + 1 < W.heap.size := (Array.getElem?_eq_some_iff.1 hl).1
      have hy := run_yield (P := P) (args := #[enc x]) hl (by rw [hrec]; rfl)
      rw [hrec] at hy
      refine ⟨fn, _, assign, body, hy, roundIn_n (roundIn_of_wpIn (n := 0) hfn ?_)⟩
      have hzip : ((#[p] : Array Tmp).zip #[enc x]).foldl (fun t q => t.setIfInBounds q.1 q.2) a.tmps = a.tmps.setIfInBounds p (enc x) := by first | rfl | simp
      show assign.wpIn (Fence.wide.inRound _) 0 P _ ({ tmps := ((#[p] : Array Tmp).zip #[enc x]).foldl (fun t q => t.setIfInBounds q.1 q.2) a.tmps, defers := [] } : Act) W
      rw [hzip]
      refine wpIn_mono (hround (w.heap.size + 1) Z Y k x W (by omega) (by omega) hi (fun y hy => by have := hYW y hy; omega) hgd hkN) ?_
      rintro e a1 Wa hp
      cases e with
      | normal =>
        obtain ⟨hc1, hp⟩ := hp
        have e1 : Wa.heap[w.heap.size + 1]? = some (.loop (rec .ready)) := (hc1.block _ hlt (fun h => by have := hXw _ h; omega)).trans hl
        have k1 : Wa.heap[w.heap.size]? = some (.deferred (some [])) := (hc1.block _ (by omega) (fun h => by have := hXw _ h; omega)).trans hk
        have hla := (Array.getElem?_eq_some_iff.1 e1).1
        have hsz : (Wa.putObj (w.heap.size + 1) (.loop { rec .ready with state := .busy })).heap.size = Wa.heap.size := by simp [World.putObj]
        have e2 : (Wa.putObj (w.heap.size + 1) (.loop { rec .ready with state := .busy })).heap[w.heap.size + 1]? = some (.loop { rec .ready with state := .busy }) := World.putObj_heap_same hla
        have k2 : (Wa.putObj (w.heap.size + 1) (.loop { rec .ready with state := .busy })).heap[w.heap.size]? = some (.deferred (some [])) := (World.putObj_heap_other (by omega)).trans k1
        refine ⟨_, run_beginRound e1 (by rw [hrec]), wpIn_mono (hp _ (Mv.putObj (by omega) e1 rfl)) ?_⟩
        rintro e a3 W3 ⟨rfl, Y9, hy9, hyl9, hi3, hc3⟩
        have hXY : ∀ x ∈ X ++ Y, x < w.heap.size ∨ W1.heap.size ≤ x := fun x hx => (List.mem_append.1 hx).elim (fun h => Or.inl (hXw _ h)) (fun h => Or.inr (hYW _ h))
        have hWl : W1.heap.size ≤ W.heap.size ∨ W.heap.size < W1.heap.size := by omega
        have e3 : W3.heap[w.heap.size + 1]? = some (.loop { rec .ready with state := .busy }) := (hc3.block _ (by rw [hsz]; exact hla) (fun h => by have := hXY _ h; omega)).trans e2
        have k3 : W3.heap[w.heap.size]? = some (.deferred (some [])) := (hc3.block _ (by rw [hsz]; omega) (fun h => by have := hXY _ h; omega)).trans k2
        have hend := run_endRound (P := P) none e3
        rw [hrec] at hend e3
        have e4 : (W3.putObj (w.heap.size + 1) (.loop (rec .ready))).heap[w.heap.size + 1]? = some (.loop (rec .ready)) := World.putObj_heap_same (Array.getElem?_eq_some_iff.1 e3).1
        refine ⟨_, _, hend, rfl, Y9, hy9, (fun y hy => by have := hyl9 y hy; simpa [World.putObj] using this), ⟨?_, (fun y hy => (hy9 y hy).elim (fun h => hYW y h) (fun h => by omega)), hz, ?_, ?_⟩, ?_⟩
        · exact hI _ _ _ _ _ hi3 (Mv.putObj (by omega) e3 rfl)
        · rw [hrec] at e4; rw [hrec]; exact e4
        · exact (World.putObj_heap_other (by omega)).trans k3
        · refine (hc1.mono (fun x hx => List.mem_cons_of_mem _ (List.mem_append_left _ hx))).trans (((Chg.putObj e1).mono (fun x hx => by simp at hx; simp [hx])).trans ((hc3.mono (fun x hx => List.mem_cons_of_mem _ hx)).trans ((Chg.putObj e3).mono (fun x hx => by simp at hx; simp [hx]))))
      | exit id => exact hp.elim
      | goto t => exact hp.elim
      | ret => exact hp.elim
      | panic chain => exact hp.elim
      | outgrown => exact hp.elim
    · intro Z hl hz
      exact ⟨hI _ _ _ _ _ (h0 Z hl (fun z h => by have := hz z h; omega)) (Mv.of_chg (Chg.of_below _ hb1)), (fun y hy => by cases hy), hz, hL1, hK1⟩
    · rintro e W2 ⟨⟨v, rfl⟩, Z, Y, hi, hy, hz, hl, hk⟩
      refine ⟨none, _, by have := run_endLoop (P := P) hl (by rw [hrec]; simp); rw [hrec] at this; exact this, hdone _ Z Y _ (Nat.le_refl _) (hI _ _ _ _ _ hi (Mv.putObj (by omega) hl rfl)) ((World.putObj_heap_other (by omega)).trans hk)⟩

end Go.Proofs.YtkhahbnagbjbiaaGreat
end
section
/- Package slices: Values over drives, for a consumer that owns memory (after XKiI). -/
namespace Go.Proofs.YtkhahbnagbjbiaaGreat
set_option linter.unusedVariables false
set_option linter.unusedSimpArgs false
open Go.RowKit Go.Shelf
attribute [local go_sem] Oper.semAt_some

theorem Chg.own {l : Nat} {X Y : List Nat} {A B C : World} (h : Chg (l :: X) A B) (k : Chg (l :: (X ++ Y)) B C) (hY : ∀ y ∈ Y, A.heap.size ≤ y) : Chg (l :: X) A C :=
  ⟨k.os.trans h.os, k.tape.trans h.tape, k.output.trans h.output, Nat.le_trans h.size k.size, fun b hb hx => (k.block b (Nat.lt_of_lt_of_le hb h.size) (fun hm => by
    rcases List.mem_cons.1 hm with e | hm
    · exact hx (e ▸ List.mem_cons_self)
    · rcases List.mem_append.1 hm with e | e
      · exact hx (List.mem_cons_of_mem _ e)
      · have := hY b e; omega)).trans (h.block b hb hx)⟩

set_option maxRecDepth 100000 in
set_option maxHeartbeats 4000000 in
theorem values1_own (bv N dc : Nat) (DL : Option Addr) (ds : List DrvR) (X : List Nat) (w : World) (hbv : w.cell? ⟨bv, 0, none⟩ = some (.slice DL N dc)) (lbv : bv < w.heap.size) (hI : IsT 2 DrvR.cells w DL N ds) (hN : N ≤ 1000000) (x1 : bv ∉ X) (x2 : 0 < N → ∀ b o, DL = some ⟨b, o, none⟩ → b ∉ X) :
    IterOwn Tryz.prog 69 #[.pointer (some ⟨bv, 0, none⟩)] DrvR.v (fun _ _ k x _ => ds[k]? = some x) X 0 N w := by
  intro l J W hw hl hl2 hJ hY h0
  have HJ := Lib.hid hJ
  have HY := Lib.hid hY
  have hf2 : ∀ W2, Chg (l :: X) W W2 → IsT 2 DrvR.cells W2 DL N ds := fun W2 hc => by
    refine (hI.below hw).keep hc.size fun b o e h0 => ?_
    obtain ⟨b', o', e', h1, h2⟩ := hI.2 h0
    rw [e] at e'; cases e'
    exact hc.block b (Nat.lt_of_lt_of_le h1 hw.size) (fun h => by
      rcases List.mem_cons.1 h with h | h
      · omega
      · exact x2 h0 b o e h)
  have HF := Lib.hid hf2
  have hJ0 : J [] [] 0 W := h0 [] rfl (fun z h => by cases h)
  have cb := (hw.cell (p := ⟨bv, 0, none⟩) lbv).trans hbv
  clear hJ hY h0 hf2 hI hbv x1 x2
  show CallsIn _ _ _ _ #[.func (.yield l) #[] #[], .pointer (some ⟨bv, 0, none⟩)] W _
  refine callsIn_of_wp Tryz.func69 rfl trivial ?_ rfl
  simp only [Tryz.ntmps69, List.size_toArray, List.length_cons, List.length_nil, Nat.reduceAdd, Nat.reduceSub, Array.replicate_succ, Array.replicate_zero, List.push_toArray, List.append_toArray, List.nil_append, List.cons_append]
  gi_wp2
  gi_loopw [7] (fun i wx => ∃ k : Nat, k ≤ N ∧ i = .int .i64 k ∧ (∃ Y : List Nat, (∀ y ∈ Y, W.heap.size ≤ y) ∧ J [] Y k wx) ∧ Chg (l :: X) W wx) (fun i _ => N - (intOf i).toNat)
  case atStart => exact ⟨0, Nat.zero_le _, rfl, ⟨[], (fun y hy => by cases hy), hJ0⟩, Chg.refl _ _⟩
  case round =>
    obtain ⟨k, hk, rfl, ⟨Y, hYl, hJs⟩, hB⟩ := hrel
    by_cases hlt : k < N
    · obtain ⟨hlen, hcf⟩ := HF.out wr hB
      obtain ⟨bf, of, rfl, hbf, hcg⟩ := hcf (by omega)
      obtain ⟨s, hs⟩ : ∃ s, ds[k]? = some s := ⟨_, List.getElem?_eq_getElem (by omega)⟩
      have e0 : wr.cell? ⟨bf, of + k * 2, none⟩ = some (.slice s.A1 s.l1 s.c1) := by have h := hcg k s hs 0 _ rfl; simpa using h
      have e1 : wr.cell? ⟨bf, of + k * 2 + 1, none⟩ = some (.slice s.A2 s.l2 s.c2) := by have h := hcg k s hs 1 _ rfl; simpa using h
      have HYk := Lib.hid (fun W1 (hJ1 : J [] Y k W1) => HY.out [] Y k s W1 hlt hJ1 hs)
      clear hcf hcg hs hlen
      gi_wp2_with fail
      have hA : Below wr.heap.size wr (wr.alloc (.cells #[.slice s.A1 s.l1 s.c1, .slice s.A2 s.l2 s.c2] 37)) := (Below.refl _ _).alloc (Nat.le_refl _) _
      have hJ1 := HJ.out _ _ _ _ _ hJs (Mv.of_chg (Chg.of_below _ hA))
      obtain ⟨fn, tmps, assign, body, hy, hR⟩ := HYk.out _ hJ1
      rw [show Instr.yield l #[.agg #[.slice s.A1 s.l1 s.c1, .slice s.A2 s.l2 s.c2]] = Instr.yield l #[s.v] from rfl, hy]
      refine ⟨fun h => (by cases h), (roundIn_n hR).mono ?_⟩
      clear hR hy
      rintro e W3 ⟨rfl, Y9, hy9, hyl9, hJ3, hk3⟩
      have hB3 := (hB.trans (Chg.of_below (l :: X) hA)).own hk3 hYl
      have hsz3 := hB.size
      have hsz4 := hA.size
      have hY9 : ∀ y ∈ Y9, W.heap.size ≤ y := fun y hy => (hy9 y hy).elim (fun h => hYl y h) (fun h => by omega)
      gi_wp2
      go_roundw
      case rel => exact ⟨k + 1, by omega, by go_num, ⟨Y9, hY9, hJ3⟩, hB3⟩
      case measure => simp [intOf]; omega
    · obtain rfl : k = N := by omega
      gi_wp2
      go_end0
      exact ⟨⟨_, rfl⟩, [], Y, hJs⟩

end Go.Proofs.YtkhahbnagbjbiaaGreat
end
section
/- The iterator of states, for a consumer that owns memory (after XKiJ). -/
namespace Go.Proofs.YtkhahbnagbjbiaaGreat
set_option linter.unusedVariables false
set_option linter.unusedSimpArgs false
open Go.RowKit

/-- the state that comes k-th, its lists outside of Z and Y, from block B on -/
def GoodO (sts : Nat → StD) (B : Nat) (Z Y : List Nat) (k : Nat) (x : StR × Int) (W : World) : Prop := x.2 = (sts k).tick ∧ IsS W x.1 (sts k) ∧ x.1.All (fun b => b ∉ Z ∧ B ≤ b ∧ b ∉ Y ∧ b < W.heap.size) ∧ ∀ z ∈ Z, z < W.heap.size
theorem StR.All.and {x : StR} {p q : Nat → Prop} (h : x.All p) (k : x.All q) : x.All (fun b => p b ∧ q b) :=
  ⟨fun b o e => ⟨h.a b o e, k.a b o e⟩, fun b o e => ⟨h.b b o e, k.b b o e⟩, fun b o e => ⟨h.c b o e, k.c b o e⟩, fun b o e => ⟨h.h b o e, k.h b o e⟩, fun b o e => ⟨h.t b o e, k.t b o e⟩⟩

set_option maxRecDepth 100000 in
set_option maxHeartbeats 1000000 in
theorem states1_own (R : MachR) (M : MachD) (Lk : Option Addr) (cl : Nat) (rows : List (Option Addr × Nat)) (RS : StR) (sts : Nat → StD) (bs bd bc bv N dc : Nat) (DL : Option Addr) (dr : List DrvR) (ds : Nat → List Int × List Int) (X : List Nat) (w : World) (hN : N ≤ 1000000)
    (hFc : ∀ W, KP X w W → FcS R M Lk cl rows RS (sts 0) bs bd bc bv N dc DL dr ds W) (hst : ∀ k, k < N → sts (k + 1) = stepD M (sts k) (ds k).1 (ds k).2) (hFit : ∀ k, k ≤ N → FitS M (sts k)) (hdf : ∀ k, k < N → FitD M (ds k))
    (lbs : bs < w.heap.size) (lbd : bd < w.heap.size) (lbc : bc < w.heap.size) (lbv : bv < w.heap.size) (hbvX : bv ∉ X) (hdlX : 0 < N → ∀ b o, DL = some ⟨b, o, none⟩ → b ∉ X ∧ b < w.heap.size) (hX0 : ∀ x ∈ X, x < w.heap.size) :
    IterOwn Tryz.prog 66 #[.pointer (some ⟨bs, 0, none⟩), .pointer (some ⟨bd, 0, none⟩), .pointer (some ⟨bc, 0, none⟩)] (fun x : StR × Int => x.1.v x.2) (GoodO sts w.heap.size) X 1 (N + 1) w := by
  intro l J W hw hl hl2 hJ hY h0
  have hF0 := hFc W ((KP.refl X w).chg (Chg.of_below [] hw) (fun y hy => by cases hy))
  have hw0 := hw.size
  have lbsW : bs < W.heap.size := by omega
  have lbdW : bd < W.heap.size := by omega
  have lbcW : bc < W.heap.size := by omega
  have hF00 := hFit 0 (by omega)
  have hc := hF00.cur.check
  have n3 := cellN_bd hc
  have n4 := (sound_of hc).coils.1
  have n5 := (sound_of hc).shells.1
  have f8 : (cellN M : Int) = M.grid.nr * M.grid.nz := by have := cells_fine (sound_of hc).grid; unfold cellN; omega
  have m1 := hF0.s.cur.coils.1
  have m2 := hF0.s.cur.shells.1
  have m3 := hF0.s.cur.plasma.1
  have m4 := hF0.s.heat.1
  have m5 := hF0.s.trip.1
  have f1 := hF00.cur.coils.1
  have f2 := hF00.cur.shells.1
  have f3 := hF00.cur.plasma.1
  have f4 := hF00.heat.1
  have f5 := hF00.trip
  refine callsIn_axM (vs := [.func (.yield l) #[] #[], .pointer (some ⟨bs, 0, none⟩), .pointer (some ⟨bd, 0, none⟩), .pointer (some ⟨bc, 0, none⟩)]) Tryz.func66 rfl rfl ?_
  refine ci_seq ?_
  refine ci_region (Or.inl rfl) (fun ⟨a, w, h⟩ => h) rfl ?_
  refine al_new (fun b => .pointer (some ⟨b, 0, none⟩)) (r_box rfl rfl) rfl rfl rfl ?_
  intro b1
  refine al_end (aq_then ?_)
  refine ci_seq ?_
  refine ci_region (Or.inl rfl) (fun ⟨a, w, h⟩ => h) rfl ?_
  refine al_p (q_loadXs (stC RS (sts 0).tick) rfl Tryz.isAgg35 Tryz.sizeOf35 (fun w9 hs j9 v9 h9 => by rw [addr_add]; exact (hs.below.cell (p := ⟨_, _, none⟩) lbsW).trans (hF0.bs j9 v9 h9)) rfl) ?_
  refine al_callS Tryz.call67 (.cons rfl .nil) rfl rfl (fun w1 hs1 => ?_)
  refine (cloneL_any RS (sts 0) _ (hF0.s.below hs1.below) (by omega) (by omega) (by omega) (by omega) (by omega)).mono ?_
  rintro e u1 ⟨o_1, o_2, o_3, o_4, o_5, rfl, G9, hb_1⟩
  refine ⟨_, _, _, rfl, hs1.giftF (.s (.z)) hb_1 (.s (.z)), ?_⟩
  refine al_new (fun b => .pointer (some ⟨b, 0, none⟩)) (r_alloc Tryz.zeroValue35 rfl) rfl rfl rfl ?_
  intro b2
  refine al_storeAll (i := 0) rfl rfl rfl rfl Tryz.sizeOf35 rfl rfl .k0 rfl ?_
  refine al_end (aq_then ?_)
  refine ci_seq ?_
  refine ci_seq ?_
  refine ci_regionY ?_
  refine li_q (Or.inl rfl) rfl (q_load (i := 1) rfl rfl rfl Tryz.isAgg84) rfl rfl rfl ?_
  refine li_q (Or.inl rfl) rfl (q_loadAll (i := 0) rfl rfl Tryz.isAgg35 Tryz.sizeOf35 rfl) rfl rfl rfl ?_
  refine li_yield (Or.inl rfl) rfl (.cons rfl .nil) rfl rfl (fun w9 hs9 => ?_)
  have hJ9 : J [b2] [] 0 w9 := hJ _ _ _ _ _ (h0 [b2] rfl (fun z hz => by obtain rfl := List.mem_singleton.1 hz; exact (hs9.box 0 _ _ rfl).1.resolve_right (by simp))) (Mv.of_chg (Chg.of_below _ hs9.below))
  have hb2 : W.heap.size ≤ b2 := (hs9.box 0 _ _ rfl).1.resolve_right (by simp)
  have hne : b1 ≠ b2 := fun e => by
    have := hs9.apart 0 1 b2 _ _ rfl (by rw [← e]; rfl)
    omega
  have hb1 : W.heap.size ≤ b1 := (hs9.box 1 _ _ rfl).1.resolve_right (by simp)
  have h9 := hs9
  simp only [List.append_nil] at h9
  have hS9 : IsS w9 (fiveR o_1 o_2 o_3 o_4 o_5 RS.Q.la RS.Q.lb RS.Q.lc RS.lh RS.lt) (sts 0) := isS_five (x := ⟨b2, o_1, o_2, o_3, o_4, o_5⟩) h9 (.s (.s .z)) (G9 _) hF0.s.cur.coils.1 hF0.s.cur.shells.1 hF0.s.cur.plasma.1 hF0.s.heat.1 hF0.s.trip.1 (by omega) (by omega) (by omega) (by omega) (by omega)
  have hA9 : StR.All (fiveR o_1 o_2 o_3 o_4 o_5 RS.Q.la RS.Q.lb RS.Q.lc RS.lh RS.lt) (fun b => b ∉ [b2] ∧ W.heap.size ≤ b) := (h9.fiveAll (L1 := [_, _]) (.s (.s .z))).mono (fun b ⟨q1, q2, q3⟩ => ⟨fun hm => q3 _ (List.Mem.head _) (List.mem_singleton.1 hm).symm, q1.resolve_right (by simp)⟩)
  have hA9b : StR.All (fiveR o_1 o_2 o_3 o_4 o_5 RS.Q.la RS.Q.lb RS.Q.lc RS.lh RS.lt) (fun b => b < w9.heap.size) := (h9.fiveAll (L1 := [_, _]) (.s (.s .z))).mono (fun b hb => hb.2.1)
  refine (hY [b2] [] 0 ((fiveR o_1 o_2 o_3 o_4 o_5 RS.Q.la RS.Q.lb RS.Q.lc RS.lh RS.lt), (sts 0).tick) w9 (by omega) hJ9 ⟨rfl, hS9, (hA9.and hA9b).mono (fun b hb => ⟨hb.1.1, Nat.le_trans hw.size hb.1.2, (fun h => by cases h), hb.2⟩), fun z hz => by rw [List.mem_singleton.1 hz]; exact (hs9.at 0 rfl).lt⟩).mono ?_
  rintro e u9 ⟨rfl, Y1, hy1, hyl1, hJu, hCu⟩
  rw [List.append_nil] at hCu
  have hY1 : ∀ y ∈ Y1, w9.heap.size ≤ y := fun y hy => (hy1 y hy).elim (fun h => by cases h) id
  have lb2w : b2 < w9.heap.size := (hs9.at 0 rfl).lt
  have lb1w : b1 < w9.heap.size := (hs9.at 1 rfl).lt
  have hX9 : ∀ b, W.heap.size ≤ b → b ∉ l :: X := fun b hb hm => by
    rcases List.mem_cons.1 hm with h | h
    · omega
    · have := hX0 _ h; have := hw.size; omega
  have hB2 : BoxAt u9 b2 (.cells (stC (fiveR o_1 o_2 o_3 o_4 o_5 RS.Q.la RS.Q.lb RS.Q.lc RS.lh RS.lt) (sts 0).tick)) := (hs9.at 0 rfl).blk (hCu.block _ (hs9.at 0 rfl).lt (hX9 _ hb2)) hCu.size
  have hB1 : BoxAt u9 b1 (.cells [.func (.yield l) #[] #[]]) := (hs9.at 1 rfl).blk (hCu.block _ (hs9.at 1 rfl).lt (hX9 _ hb1)) hCu.size
  have hSu : IsS u9 (fiveR o_1 o_2 o_3 o_4 o_5 RS.Q.la RS.Q.lb RS.Q.lc RS.lh RS.lt) (sts 0) := hS9.chg hCu (hA9.mono (fun b hb => hX9 b hb.2))
  have hKu : KP X w u9 := ((KP.refl X w).chg (Chg.of_below [] (hw.trans (hs9.below.mono hw.size))) (fun y hy => by cases hy)).chg hCu (fun y hy => by
    rcases List.mem_cons.1 hy with h | h
    · exact Or.inr (by omega)
    · exact Or.inl h)
  have hFu := hFc _ hKu
  have hbdu : bd < u9.heap.size := Nat.lt_of_lt_of_le lbd hKu.size
  refine ⟨_, rfl, ?_⟩
  refine li_q (Or.inl rfl) rfl (q_not rfl) rfl rfl rfl ?_
  refine li_end ?_
  refine aq_then ?_
  refine ci_condF rfl ?_
  refine ci_skip ?_
  refine aq_then ?_
  refine ci_seq ?_
  refine ci_region (Or.inl rfl) (fun ⟨a, w, h⟩ => h) rfl ?_
  refine al_p (q_loadX rfl Tryz.isAgg77 (fun w9 hs => (hs.below.cell (p := ⟨_, _, none⟩) hbdu).trans ((one_fact hFu.bd) 0 _ rfl))) ?_
  refine al_end (aq_then ?_)
  refine ci_block ?_
  refine fun a9 v hf9 hs9v => ?_
  have hv := hs9v.below
  have sv := hv.size
  have lb2v : b2 < v.heap.size := Nat.lt_of_lt_of_le hB2.lt sv
  have lb1v : b1 < v.heap.size := Nat.lt_of_lt_of_le hB1.lt sv
  have hKv : KP X w v := hKu.chg (Chg.of_below [] hv) (fun y hy => by cases hy)
  have hFv := hFc _ hKv
  have hs0 := hCu.size
  have sW := hs9.below.size
  refine wpIn_range_own (X := b2 :: l :: (X ++ Y1)) (zl := 0) (N := N) (Good := fun _ _ k x _ => dr[k]? = some x) (enc := DrvR.v) (hf9.ev rfl) Tryz.call69 (values1_own bv N dc DL dr (b2 :: l :: (X ++ Y1)) v hFv.bv (by have := hKv.size; omega) hFv.dl hN ?_ ?_) (fun Z Y k V => Z = [] ∧ ∃ (x : StR) (Yo : List Nat), BoxAt V b2 (.cells (stC x (sts k).tick)) ∧ IsS V x (sts k) ∧ x.All (fun b => b ∉ [b2] ∧ w.heap.size ≤ b) ∧ x.lens RS ∧ (J [b2] Yo (k + 1) V ∧ (∀ y ∈ Yo, y ∈ Y1 ∨ y ∈ Y) ∧ (∀ y ∈ Yo, y < V.heap.size) ∧ ∀ y ∈ Y, y < V.heap.size) ∧ KP X w V ∧ V.cell? ⟨b1, 0, none⟩ = some (.func (.yield l) #[] #[])) ?_ ?_ ?_ ?_ ?_
  · intro hm
    rcases List.mem_cons.1 hm with h | h
    · omega
    · rcases List.mem_cons.1 h with h | h
      · omega
      · rcases List.mem_append.1 h with h | h
        · exact hbvX h
        · have := hY1 _ h; omega
  · intro hN0 b o e hm
    rcases List.mem_cons.1 hm with h | h
    · have := (hdlX hN0 b o e).2; omega
    · rcases List.mem_cons.1 h with h | h
      · have := (hdlX hN0 b o e).2; omega
      · rcases List.mem_append.1 h with h | h
        · exact (hdlX hN0 b o e).1 h
        · have := hY1 _ h; have := (hdlX hN0 b o e).2; omega
  · rintro Z Y k W1 W2 ⟨rfl, x, Yo, q1, q2, q3, q4, ⟨q5, qa, qb, qc⟩, q6, q7⟩ hm
    have hms := hm.size
    exact ⟨rfl, x, Yo, q1.blk (hm.block _ q1.lt (by simp) (Or.inl lb2v)) hm.size, q2.mv hm (q3.mono (fun b hb => by simp)), q3, q4, ⟨hJ _ _ _ _ _ q5 ((hm.low (by omega)).wider (fun z hz => by cases hz)), qa, (fun y hy => Nat.lt_of_lt_of_le (qb y hy) hms), fun y hy => Nat.lt_of_lt_of_le (qc y hy) hms⟩, q6.mv hm (by omega) (fun y hy => by cases hy), (cell_blk (hm.block b1 (by have := cells_of_cell q7; obtain ⟨o, ho, _⟩ := this; exact (Array.getElem?_eq_some_iff.1 ho).1) (by simp) (Or.inl lb1v))).trans q7⟩
  · intro Z hZ _
    obtain rfl := List.length_eq_zero_iff.1 hZ
    exact ⟨rfl, (fiveR o_1 o_2 o_3 o_4 o_5 RS.Q.la RS.Q.lb RS.Q.lc RS.lh RS.lt), Y1, hB2.blk (hv.block _ hB2.lt) sv, hSu.below hv, hA9.mono (fun b hb => ⟨hb.1, by have := hw.size; omega⟩), ⟨rfl, rfl, rfl, rfl, rfl⟩, ⟨hJ _ _ _ _ _ hJu (Mv.of_chg (Chg.of_below _ hv)), (fun y hy => Or.inl hy), (fun y hy => Nat.lt_of_lt_of_le (hyl1 y hy) sv), fun y hy => by cases hy⟩, hKv, (cell_blk (hv.block _ hB1.lt)).trans (hB1.cell _ rfl 0 _ rfl).1⟩
  · rintro l2 Z Y k x V hl2 sV ⟨rfl, xk, Yo, hBk, hSk, hAk, hlk, ⟨hJk, hYo, hYoV, hYV⟩, hKk, hyk⟩ hYv hdx hk
    have hYow : ∀ y ∈ Yo, w9.heap.size ≤ y := fun y hy => (hYo y hy).elim (fun h => hY1 y h) (fun h => by have := hYv y h; omega)
    have hW2 : Wide (Fence.wide.inRound l2) := Or.inr ⟨l2, rfl⟩
    obtain ⟨k1, k2, k3, k4, k5⟩ := hlk
    have hlk : xk.lens RS := ⟨k1, k2, k3, k4, k5⟩
    refine ci_go (hf9.setp (w1 := V) (bs' := []) (p := 14) rfl x.v) (Sta.start _ _ _) ?_
    refine ci_region hW2 (fun ⟨a, w, h⟩ => h) rfl ?_
    refine al_new (fun b => .pointer (some ⟨b, 0, none⟩)) (r_alloc Tryz.zeroValue37 rfl) rfl rfl rfl ?_
    intro b3
    refine al_storeAll (i := 0) rfl rfl rfl rfl Tryz.sizeOf37 rfl rfl .k0 rfl ?_
    refine al_end ?_
    refine fun a1 W1 hf1 hs1 => ⟨Chg.of_below _ hs1.below, fun W2 hm2 => ?_⟩
    have hmm : Mv v.heap.size [] V W2 := (Mv.of_chg (Chg.of_below _ hs1.below)).trans hm2
    have s12 : V.heap.size ≤ W2.heap.size := hmm.size
    have e2 := hmm.block b2 hBk.lt (by simp) (Or.inl lb2v)
    have hB2w : BoxAt W2 b2 (.cells (stC xk (sts k).tick)) := hBk.blk e2 hmm.size
    have hS2 : IsS W2 xk (sts k) := hSk.mv hmm (hAk.mono (fun b hb => by simp))
    have hJ2 : J [b2] Yo (k + 1) W2 := hJ _ _ _ _ _ hJk ((hmm.low (by omega)).wider (fun z hz => by cases hz))
    have hK2 : KP X w W2 := hKk.mv hmm (by omega) (fun y hy => by cases hy)
    have hF2 := hFc _ hK2
    have lb1 : b1 < W2.heap.size := by omega
    have hy2 : W2.cell? ⟨b1, 0, none⟩ = some (.func (.yield l) #[] #[]) := (cell_blk (hmm.block b1 (by omega) (by simp) (Or.inl (by omega)))).trans hyk
    have hdxc : ∀ (j : Nat) (u : Value), (DrvR.cells x)[j]? = some u → W2.cell? ⟨b3, 0 + j, none⟩ = some u := fun j u hu => by
      have h6 := hs1.at 0 rfl
      rw [Nat.zero_add]
      exact (cell_blk (hm2.block b3 h6.lt (by simp) (Or.inr h6.isCells))).trans ((h6.cell _ rfl j u hu).1)
    have lb3 : b3 < W2.heap.size := Nat.lt_of_lt_of_le (hs1.at 0 rfl).lt hm2.size
    have lbc2 : bc < W2.heap.size := by have := hK2.size; omega
    have hn1 : bc ≠ b2 := by omega
    have hn3 : b3 ≠ b2 := by have : V.heap.size ≤ b3 := (hs1.box 0 _ _ rfl).1.resolve_right (by simp); omega
    refine ci_go (hf1.rebase (w1 := W2) (bs' := [b2])) (Sta.lend _ _ _ b2 _ hB2w) ?_
    refine ci_block ?_
    refine ci_seq ?_
    refine ci_region hW2 (fun ⟨a, w, h⟩ => by cases (And.left (a := Exit.outgrown = Exit.normal) h)) rfl ?_
    refine al_p (q_loadXs (circC R M Lk cl) rfl Tryz.isAgg73 Tryz.sizeOf73 (fun w9 hs j9 v9 h9 => by rw [addr_add]; exact (hs.cellL lbc2 (fun hm => hn1 (List.mem_singleton.1 hm))).trans (hF2.bc j9 v9 h9)) rfl) ?_
    refine al_p (q_loadAll (i := 0) rfl rfl Tryz.isAgg35 Tryz.sizeOf35 rfl) ?_
    refine al_p (q_loadXs (DrvR.cells x) rfl Tryz.isAgg37 Tryz.sizeOf37 (fun w9 hs j9 v9 h9 => by rw [addr_add]; exact (hs.cellL lb3 (fun hm => hn3 (List.mem_singleton.1 hm))).trans (hdxc j9 v9 h9)) rfl) ?_
    refine al_callS Tryz.call68 (.cons rfl (.cons rfl (.cons rfl .nil))) rfl rfl (fun w2 hs2 => ?_)
    have hKP := hK2.chg hs2.chg (fun y hy => Or.inr (by obtain rfl := List.mem_singleton.1 hy; omega))
    have hFc2 := hFc _ hKP
    have hdm := hFc2.dm k x hdx
    refine (after_any R M Lk cl rows xk (sts k) x.A1 x.A2 x.l1 x.c1 x.l2 x.c2 (ds k).1 (ds k).2 _ hFc2.m hFc2.k (hS2.chg hs2.chg (hAk.mono (fun b hb => hb.1))) (hFit k (by omega)) hdm.1 (hdf k hk).ch hdm.2 (hdf k hk).pl).mono ?_
    rintro e u2 ⟨xn, rfl, G9, hb_2⟩
    refine ⟨_, _, _, rfl, hs2.giftF (.s (.z)) hb_2 (.s (.z)), ?_⟩
    refine al_storeAll (i := 0) rfl rfl rfl rfl Tryz.sizeOf35 rfl rfl .k0 rfl ?_
    refine al_end (aq_then ?_)
    refine ci_seq ?_
    refine ci_regionY ?_
    refine li_q hW2 rfl (q_loadX rfl Tryz.isAgg84 (fun w9 hs => (hs.cellL lb1 (fun hm => hne (List.mem_singleton.1 hm))).trans ((one_fact hy2) 0 _ rfl))) rfl rfl rfl ?_
    refine li_q hW2 rfl (q_loadAll (i := 0) rfl rfl Tryz.isAgg35 Tryz.sizeOf35 rfl) rfl rfl rfl ?_
    refine li_yield hW2 rfl (.cons rfl .nil) rfl rfl (fun w8 hs8 => ?_)
    have hJ8 : J [b2] Yo (k + 1) w8 := hJ _ _ _ _ _ hJ2 (Mv.of_chg hs8.chg)
    have h8 := hs8
    simp only [List.append_nil] at h8
    have hx : sts (k + 1) = stepD M (sts k) (ds k).1 (ds k).2 := hst k hk
    have g8 : AfF xk (sts (k + 1)) xn := ⟨G9.g1.len2 (by simp only [lst_length]), G9.g2.len2 (by simp only [lst_length]), G9.g3.len2 (by simp only [lst_length]), G9.g4.len2 (by simp only [lst_length]), G9.g5.len2 (by simp only [lst_length])⟩
    have z1 : lst xk.Q.la (fun j => Value.int .i64 (coilN M (sts k) (ds k).1 j)) = lst xk.Q.la (intsF (sts (k + 1)).C.coils) := lst_ext fun j hj => by rw [hx]; simp only [intsF, stepD]; rw [iA_lst _ (by omega)]
    have z2 : lst xk.Q.lb (fun j => Value.int .i64 (shellN M (sts k) (ds k).1 (ds k).2 j)) = lst xk.Q.lb (intsF (sts (k + 1)).C.shells) := lst_ext fun j hj => by rw [hx]; simp only [intsF, stepD]; rw [iA_lst _ (by omega)]
    have z3 : lst xk.Q.lc (intsF (ds k).2) = lst xk.Q.lc (intsF (sts (k + 1)).C.plasma) := by rw [hx]; rfl
    have z4 : lst xk.lh (fun j => Value.int .i64 (heatN M (sts k) (ds k).1 j)) = lst xk.lh (intsF (sts (k + 1)).heat) := lst_ext fun j hj => by rw [hx]; simp only [intsF, stepD]; rw [iA_lst _ (by omega)]
    have z5 : lst xk.lt (fun j => Value.bool (tripN M (sts k) (ds k).1 j)) = lst xk.lt (boolsF (sts (k + 1)).trip) := lst_ext fun j hj => by rw [hx]; simp only [boolsF, stepD]; rw [bA_lst _ (by omega)]
    rw [z1, z2, z3, z4, z5] at h8
    have hFk1 := hFit (k + 1) (by omega)
    have hS8 : IsS w8 (fiveR xn.o1 xn.o2 xn.o3 xn.o4 xn.o5 xk.Q.la xk.Q.lb xk.Q.lc xk.lh xk.lt) (sts (k + 1)) := isS_five h8 (.s .z) g8 (by have := hFk1.cur.coils.1; omega) (by have := hFk1.cur.shells.1; omega) (by have := hFk1.cur.plasma.1; omega) (by have := hFk1.heat.1; omega) (by have := hFk1.trip; omega) (by omega) (by omega) (by omega) (by omega) (by omega)
    have hA8 : StR.All (fiveR xn.o1 xn.o2 xn.o3 xn.o4 xn.o5 xk.Q.la xk.Q.lb xk.Q.lc xk.lh xk.lt) (fun b => b ∉ [b2] ∧ W2.heap.size ≤ b) := (h8.fiveAll (L1 := [_]) (.s .z)).mono (fun b ⟨q1, q2, q3⟩ => by
      have hn : b ∉ [b2] := fun hm => q3 _ (List.Mem.head _) (List.mem_singleton.1 hm).symm
      exact ⟨hn, q1.resolve_right hn⟩)
    have s28 : W2.heap.size ≤ w8.heap.size := hs8.chg.size
    have hA8b : StR.All (fiveR xn.o1 xn.o2 xn.o3 xn.o4 xn.o5 xk.Q.la xk.Q.lb xk.Q.lc xk.lh xk.lt) (fun b => b < w8.heap.size) := (h8.fiveAll (L1 := [_]) (.s .z)).mono (fun b hb => hb.2.1)
    have hyy := hY [b2] Yo (k + 1) (fiveR xn.o1 xn.o2 xn.o3 xn.o4 xn.o5 xk.Q.la xk.Q.lb xk.Q.lc xk.lh xk.lt, (sts (k + 1)).tick) w8 (by omega) hJ8 ⟨rfl, hS8, (hA8.and hA8b).mono (fun b hb => ⟨hb.1.1, by omega, (fun h => by have := hYoV b h; omega), hb.2⟩), fun z hz => by rw [List.mem_singleton.1 hz]; exact (h8.at 0 rfl).lt⟩
    have ht : (sts (k + 1)).tick = (sts k).tick + 1 := by rw [hx]; rfl
    dsimp only at hyy
    rw [ht] at hyy
    refine hyy.mono ?_
    rintro e u8 ⟨rfl, Y9, hy9, hyl9, hJu8, hCu8⟩
    have hX8 : ∀ b, W2.heap.size ≤ b ∨ b = b2 ∨ b = b1 → b ∉ l :: (X ++ Yo) := fun b hb hm => by
      rcases List.mem_cons.1 hm with h | h
      · omega
      · rcases List.mem_append.1 h with h | h
        · have := hX0 _ h; have := hw.size; omega
        · have h1 := hYoV b h
          have h2 := hYow b h
          omega
    refine ⟨_, rfl, ?_⟩
    refine li_q hW2 rfl (q_not rfl) rfl rfl rfl ?_
    refine li_end ?_
    refine aq_then ?_
    refine ci_condF rfl ?_
    refine ci_skip ?_
    refine aq_inN ?_
    refine fun a3 W3 hf3 hs3 => ⟨rfl, Y9.filter (fun y => decide (V.heap.size ≤ y)) ++ Y, ?_, ?_, ⟨rfl, fiveR xn.o1 xn.o2 xn.o3 xn.o4 xn.o5 xk.Q.la xk.Q.lb xk.Q.lc xk.lh xk.lt, Y9, ?_, ?_, hA8.mono (fun b hb => ⟨hb.1, by omega⟩), hlk, ⟨?_, ?_, ?_, ?_⟩, ?_, ?_⟩, ?_⟩
    · intro y hy
      rcases List.mem_append.1 hy with h | h
      · exact Or.inr (of_decide_eq_true (List.mem_filter.1 h).2)
      · exact Or.inl h
    · intro y hy
      have s83 : u8.heap.size ≤ W3.heap.size := hs3.below.size
      have s98 : w8.heap.size ≤ u8.heap.size := hCu8.size
      rcases List.mem_append.1 hy with h | h
      · have := hyl9 y (List.mem_filter.1 h).1; omega
      · have := hYV y h; omega
    · have e1 := hCu8.block b2 (h8.at 0 rfl).lt (hX8 _ (Or.inr (Or.inl rfl)))
      have h1 := (h8.at 0 rfl).blk e1 hCu8.size
      rw [ht]
      exact h1.blk (hs3.below.block _ h1.lt) hs3.below.size
    · exact (hS8.chg hCu8 (hA8.mono (fun b hb => hX8 b (Or.inl hb.2)))).below hs3.below
    · exact hJ _ _ _ _ _ hJu8 (Mv.of_chg (Chg.of_below _ hs3.below))
    · intro y hy
      rcases hy9 y hy with h | h
      · exact (hYo y h).imp id (fun h => List.mem_append_right _ h)
      · exact Or.inr (List.mem_append_left _ (List.mem_filter.2 ⟨hy, decide_eq_true (by omega)⟩))
    · intro y hy
      have := hyl9 y hy; have := hs3.below.size; omega
    · intro y hy
      have s83 : u8.heap.size ≤ W3.heap.size := hs3.below.size
      have s98 : w8.heap.size ≤ u8.heap.size := hCu8.size
      rcases List.mem_append.1 hy with h | h
      · have := hyl9 y (List.mem_filter.1 h).1; omega
      · have := hYV y h; omega
    · refine ((hK2.chg hs8.chg (fun y hy => Or.inr (by obtain rfl := List.mem_singleton.1 hy; omega))).chg hCu8 (fun y hy => ?_)).chg (Chg.of_below [] hs3.below) (fun y hy => by cases hy)
      rcases List.mem_cons.1 hy with h | h
      · exact Or.inr (by omega)
      · rcases List.mem_append.1 h with h | h
        · exact Or.inl h
        · exact Or.inr (by have := hYow y h; have := hw.size; omega)
    · have e0 := hs8.chg.block b1 lb1 (fun hm => hne (List.mem_singleton.1 hm))
      have e1 := hCu8.block b1 (Nat.lt_of_lt_of_le lb1 hs8.chg.size) (hX8 _ (Or.inr (Or.inr rfl)))
      have e2 := hs3.below.block b1 (Nat.lt_of_lt_of_le lb1 (Nat.le_trans hs8.chg.size hCu8.size))
      exact (cell_blk e2).trans ((cell_blk e1).trans ((cell_blk e0).trans hy2))
    · exact ((hs8.chg.mono (fun y hy => by obtain rfl := List.mem_singleton.1 hy; simp)).trans (hCu8.mono (fun y hy => by
        rcases List.mem_cons.1 hy with h | h
        · subst h; simp
        · rcases List.mem_append.1 h with h | h
          · simp [h]
          · rcases hYo y h with h | h <;> simp [h]))).trans (Chg.of_below _ hs3.below)
  · intro y hy
    rcases List.mem_cons.1 hy with h | h
    · omega
    · rcases List.mem_cons.1 h with h | h
      · have := hw.size; omega
      · rcases List.mem_append.1 h with h | h
        · have := hX0 _ h; have := hw.size; omega
        · have := hyl1 _ h; omega
  · rintro D Z Y Wd hD ⟨rfl, x, Yo, q1, q2, q3, q4, ⟨q5, -, -, -⟩, q6, q7⟩ hDd
    refine marks_end (D := D) (by rw [hf9.defers]) hDd (fun w' => results_none rfl _ _ _) (fun w' hm _ => ⟨⟨_, rfl⟩, [b2], Yo, hJ _ _ _ _ _ q5 ((hm.low (by omega)).wider (fun z hz => by cases hz))⟩)

end Go.Proofs.YtkhahbnagbjbiaaGreat
end
section
/- Package slices: Collect over states, over this seat's translation (written by ax_co1.py). -/
namespace Go.Proofs.YtkhahbnagbjbiaaGreat
set_option linter.unusedVariables false
set_option linter.unusedSimpArgs false
open Go.RowKit

theorem koc_bs_apiState_1_0_ (c0_0 c0_1 c0_2 c0_3 c0_4 c0_5 : Value) : ∀ w, (Instr.buildSlice 47 1 #[(0, .agg #[c0_0, c0_1, c0_2, c0_3, c0_4, c0_5])]).run Tryz.prog w = .ok (.slice (some ⟨w.heap.size, 0, none⟩) 1 1) (w.alloc (.cells [c0_0, c0_1, c0_2, c0_3, c0_4, c0_5].toArray 35)) := by
  intro w; (simp [Instr.buildSlice, Instr.fill, cells_agg, newRow, Tryz.runUnderlying47, Tryz.zeroValue35, Tryz.sizeOf35] <;> (rw [(by kernel_rfl : Array.range 6 = #[0, 1, 2, 3, 4, 5])]; simp [Value.cells]))

theorem Sta.lendG (n : Nat) (D : List Deferred) (w : World) (L : Boxes) (hb : ∀ p ∈ L, BoxAt w p.1 p.2) (ha : L.Pairwise (fun a b => a.1 ≠ b.1)) : Sta ⟨n, D, w, L.map Prod.fst⟩ [] L w :=
  ⟨Chg.refl _ _, fun i b cs hi => ⟨Or.inr (List.mem_map.2 ⟨(b, cs), List.mem_of_getElem? hi, rfl⟩), hb (b, cs) (List.mem_of_getElem? hi)⟩, apart_pair.2 ha, fun lo u h => by cases h⟩
theorem gt_isCells {o : Gr} {cs : List Value} {p : Nat × Cont} {w : World} (hp : p ∈ gt o cs) (h : BoxAt w p.1 p.2) (hc : cs ≠ []) : ∃ b : Obj, w.heap[p.1]? = some b ∧ b.isCells = true := by
  rcases o with _ | ⟨b, c, sp⟩
  · cases hp
  · obtain rfl := List.mem_singleton.1 hp
    obtain ⟨v, r, rfl⟩ := List.exists_cons_of_ne_nil hc
    exact BoxAt.isCells h
abbrev yC : StR × StD → List Value := fun p => stC p.1 p.2.tick
/-- the states that were collected, the k-th one in its place, their lists outside of Y -/
def Cld (sts : Nat → StD) (B : Nat) (Y : List Nat) (k : Nat) (ys : List (StR × StD)) (W : World) : Prop := ys.length = k ∧ ∀ (j : Nat) (p : StR × StD), ys[j]? = some p → p.2 = sts j ∧ IsS W p.1 p.2 ∧ p.1.All (fun b => B ≤ b ∧ b ∉ Y ∧ b < W.heap.size)
theorem Cld.mv {sts : Nat → StD} {B k n0 : Nat} {Y Z : List Nat} {ys : List (StR × StD)} {W W' : World} (h : Cld sts B Y k ys W) (hm : Mv n0 Z W W') (hz : ∀ (j : Nat) (p : StR × StD), ys[j]? = some p → p.1.All (fun b => b ∉ Z)) : Cld sts B Y k ys W' :=
  ⟨h.1, fun j p hp => by
    obtain ⟨h1, h2, h3⟩ := h.2 j p hp
    exact ⟨h1, h2.mv hm (hz j p hp), h3.mono (fun b hb => ⟨hb.1, hb.2.1, Nat.lt_of_lt_of_le hb.2.2 hm.size⟩)⟩⟩
theorem Cld.get {sts : Nat → StD} {B k : Nat} {Y : List Nat} {ys : List (StR × StD)} {W : World} (h : Cld sts B Y k ys W) : ∀ (j : Nat) (p : StR × StD), ys[j]? = some p → p.1.All (fun b => B ≤ b ∧ b ∉ Y ∧ b < W.heap.size) := fun j p hp => (h.2 j p hp).2.2

set_option maxRecDepth 100000 in
set_option maxHeartbeats 1000000 in
theorem appendSeq_any (sts : Nat → StD) (gf : Nat) (lb : Array Value) (N : Nat) (w : World) (hN : N ≤ 100000) (eg : ∀ args w, (callFunc gf args).run Tryz.prog w = .ok (.enter gf args) w)
    (hseq : ∀ (b : Nat) (v : World), Below w.heap.size w v → w.heap.size ≤ b → b < v.heap.size → IterOwn Tryz.prog gf lb (fun x : StR × Int => x.1.v x.2) (GoodO sts v.heap.size) [b] 1 N v) :
    Calls Tryz.prog 62 #[.slice none 0 0, .func (.func gf) #[] lb] w (fun e w' => ∃ A c ys, e = .returned (.slice A N c) ∧ NewT 6 yC w.heap.size w' A N c ys ∧ Cld sts w.heap.size [] N ys w' ∧ Below w.heap.size w w') := by
  refine calls_axM (vs := [.slice none 0 0, .func (.func gf) #[] lb]) Tryz.func62 rfl rfl ?_
  refine ac_seq (ac_region ?_)
  refine al_new (fun b => .pointer (some ⟨b, 0, none⟩)) (r_box rfl rfl) rfl rfl rfl ?_
  intro b2
  refine al_p (q_assign rfl) ?_
  refine al_end (aq_then ?_)
  refine ac_seq ?_
  refine ac_seq (ac_region ?_)
  refine al_p (q_move rfl) ?_
  refine al_end (aq_then ?_)
  refine ac_block ?_
  refine fun a9 v hf9 hs9 => (wpIn_wide (n := 0)).1 ?_
  have hbw : Below w.heap.size w v := hs9.below
  have hbl := hs9.at 0 rfl
  have hl2 : w.heap.size ≤ b2 := (hs9.box 0 _ _ rfl).1.resolve_right (by simp)
  have lbl := hbl.lt
  refine wpIn_range_own (X := [b2]) (zl := 1) (N := N) (Good := GoodO sts v.heap.size) (enc := fun x : StR × Int => x.1.v x.2) (hf9.ev rfl) eg (hseq b2 v hbw hl2 lbl)
    (fun Z Y k V => (∀ z ∈ Z, v.heap.size ≤ z) ∧ Chg [b2] v V ∧ ∃ (o : Gr) (ys : List (StR × StD)), BoxAt V b2 (.cells [.slice (gA o) k (gC o)]) ∧ (∀ p ∈ gt o (ys.flatMap yC), BoxAt V p.1 p.2 ∧ v.heap.size ≤ p.1 ∧ p.1 ∉ Z) ∧ (gt o (ys.flatMap yC)).Pairwise (fun a b => a.1 ≠ b.1) ∧ gok o k 6 (ys.flatMap yC) ∧ Y = (gt o (ys.flatMap yC)).map Prod.fst ∧ Cld sts v.heap.size Y k ys V ∧ (∀ (j : Nat) (p : StR × StD), ys[j]? = some p → p.1.All (fun b => b ∉ Z)) ∧ (k = 0 → o = none)) ?_ ?_ ?_ ?_ ?_
  · rintro Z Y k W1 W2 ⟨q0, q1, o, ys, q2, q3, q4, q5, q6, q7, q8, q9⟩ hm
    refine ⟨q0, q1.mv hm (Nat.le_refl _) q0, o, ys, q2.blk (hm.block _ q2.lt (fun h => by have := q0 _ h; omega) (Or.inl lbl)) hm.size, fun p hp => ?_, q4, q5, q6, q7.mv hm q8, q8, q9⟩
    obtain ⟨h1, h2, h3⟩ := q3 p hp
    refine ⟨h1.blk (hm.block _ h1.lt h3 (Or.inr (gt_isCells hp h1 (fun e => ?_)))) hm.size, h2, h3⟩
    have h4 := q5.len
    rw [e] at h4
    have h5 : k = 0 := by simp at h4; omega
    rw [q9 h5] at hp
    cases hp
  · intro Z hZ hz
    exact ⟨fun z h => Nat.le_of_lt (hz z h), Chg.refl _ _, none, [], hbl, (fun p hp => by cases hp), List.Pairwise.nil, gok.none 6, rfl, ⟨rfl, fun j p hp => by simp at hp⟩, (fun j p hp => by simp at hp), fun _ => rfl⟩
  · rintro l2 Z Y k x V hl2 sV ⟨q0, q1, o, ys, q2, q3, q4, q5, rfl, q7, q8, q9⟩ hYv ⟨hx1, hx2, hx3, hx4⟩ hk
    have hW2 : Wide (Fence.wide.inRound l2) := Or.inr ⟨l2, rfl⟩
    refine ci_go (hf9.setp (w1 := V) (bs' := []) (p := 7) rfl (x.1.v x.2)) (Sta.start _ _ _) ?_
    refine ci_region hW2 (fun ⟨a, w, h⟩ => h) rfl ?_
    refine al_new (fun b => .pointer (some ⟨b, 0, none⟩)) (r_alloc Tryz.zeroValue35 rfl) rfl rfl rfl ?_
    intro b5
    refine al_storeAll (i := 0) rfl rfl rfl rfl Tryz.sizeOf35 rfl rfl .k0 rfl ?_
    refine al_end ?_
    refine fun a1 W1 hf1 hs1 => ⟨Chg.of_below _ hs1.below, fun W2 hm2 => ?_⟩
    have hmm : Mv v.heap.size [] V W2 := (Mv.of_chg (Chg.of_below _ hs1.below)).trans hm2
    have s12 : V.heap.size ≤ W2.heap.size := hmm.size
    have e2 := hmm.block b2 q2.lt (by simp) (Or.inl lbl)
    have hB2w : BoxAt W2 b2 (.cells [.slice (gA o) k (gC o)]) := q2.blk e2 hmm.size
    have hG2 : ∀ p ∈ gt o (ys.flatMap yC), BoxAt W2 p.1 p.2 := fun p hp => by
      obtain ⟨h1, h2, h3⟩ := q3 p hp
      refine h1.blk (hmm.block _ h1.lt (by simp) (Or.inr (gt_isCells hp h1 (fun e => ?_)))) hmm.size
      have h4 := q5.len
      rw [e] at h4
      have h5 : k = 0 := by simp at h4; omega
      rw [q9 h5] at hp
      cases hp
    have hdxc : ∀ (j : Nat) (u : Value), (stC x.1 x.2)[j]? = some u → W2.cell? ⟨b5, 0 + j, none⟩ = some u := fun j u hu => by
      have h6 := hs1.at 0 rfl
      rw [Nat.zero_add]
      exact (cell_blk (hm2.block b5 h6.lt (by simp) (Or.inr h6.isCells))).trans ((h6.cell _ rfl j u hu).1)
    have lb5V : V.heap.size ≤ b5 := (hs1.box 0 _ _ rfl).1.resolve_right (by simp)
    have lb5 : b5 < W2.heap.size := Nat.lt_of_lt_of_le (hs1.at 0 rfl).lt hm2.size
    have hn5 : b5 ∉ ((b2, Cont.cells [.slice (gA o) k (gC o)]) :: (gt o (ys.flatMap yC) ++ [])).map Prod.fst := by
      intro hm
      rw [List.append_nil] at hm
      rcases List.mem_cons.1 hm with h | h
      · have : b5 = b2 := h
        omega
      · obtain ⟨p, hp, e⟩ := List.mem_map.1 h
        have := (q3 p hp).1.lt
        omega
    refine ci_go (hf1.rebase (w1 := W2) (bs' := ((b2, Cont.cells [.slice (gA o) k (gC o)]) :: (gt o (ys.flatMap yC) ++ [])).map Prod.fst)) (Sta.lendG _ _ _ _ (fun p hp => ?_) ?_) ?_
    · rw [List.append_nil] at hp
      rcases List.mem_cons.1 hp with h | h
      · subst h; exact hB2w
      · exact hG2 p h
    · rw [List.append_nil]
      refine List.pairwise_cons.2 ⟨fun p hp => ?_, q4⟩
      have := (q3 p hp).2.1
      show b2 ≠ p.1
      omega
    refine ci_block ?_
    refine ci_region hW2 (fun ⟨a, w, h⟩ => by cases (And.left (a := Exit.outgrown = Exit.normal) h)) rfl ?_
    refine al_p (q_load (i := 0) rfl rfl rfl Tryz.isAgg47) ?_
    refine al_p (q_loadXs (stC x.1 x.2) rfl Tryz.isAgg35 Tryz.sizeOf35 (fun w9 hs j9 v9 h9 => by rw [addr_add]; exact (hs.cellL lb5 hn5).trans (hdxc j9 v9 h9)) rfl) ?_
    refine al_new (fun b => .slice (some ⟨b, 0, none⟩) 1 1) (r_buildSlice (.cons rfl .nil) (koc_bs_apiState_1_0_ _ _ _ _ _ _)) rfl rfl rfl ?_
    intro b6
    refine al_grow (z := 6) (bytes := 128) (zv := .agg #[.int .i64 0, .slice none 0 0, .slice none 0 0, .slice none 0 0, .slice none 0 0, .slice none 0 0]) (o := o) (cs := ys.flatMap yC) (vs := stC x.1 x.2) rfl rfl (.s (.s (.z))) q5 (Sor.box (j := 0) rfl rfl rfl) Tryz.underlying47 (by kernel_rfl) rfl (by omega) (by decide) rfl rfl (fun o1 g1 => ?_)
    refine ⟨_, (.s (.s (.z))), ?_⟩
    refine al_store1 (i := 1) rfl rfl rfl rfl Tryz.sizeOf47 .k0 .k1 rfl ?_
    refine al_end ?_
    refine aq_inN ?_
    refine fun a3 W3 hf3 hs3 => ?_
    have hcs : (ys ++ [(x.1, sts k)]).flatMap yC = ys.flatMap yC ++ stC x.1 x.2 := by rw [List.flatMap_append, hx1]; simp [yC]
    have hbox : ∀ p ∈ gt o1 (ys.flatMap yC ++ stC x.1 x.2), BoxAt W3 p.1 p.2 ∧ p.1 ≠ b2 ∧ (p.1 ∈ (gt o (ys.flatMap yC)).map Prod.fst ∨ W2.heap.size ≤ p.1) := fun p hp => by
      obtain ⟨i, hi⟩ := List.getElem?_of_mem hp
      have hi2 : ((b6, Cont.cells (stC x.1 x.2)) :: (b2, Cont.cells [.slice (gA o1) (k + 1) (gC o1)]) :: (gt o1 (ys.flatMap yC ++ stC x.1 x.2) ++ []))[i + 2]? = some p := by
        rw [List.append_nil]; simpa using hi
      have hn : p.1 ≠ b2 := fun e => by have := hs3.apart (i + 2) 1 b2 _ _ (hi2.trans (by rw [← e])) rfl; omega
      refine ⟨hs3.at _ hi2, hn, ?_⟩
      rcases (hs3.box _ _ _ hi2).1 with h | h
      · exact Or.inr h
      · have h : p.1 ∈ ((b2, Cont.cells [.slice (gA o) k (gC o)]) :: (gt o (ys.flatMap yC) ++ [])).map Prod.fst := h
        rw [List.append_nil] at h
        rcases List.mem_cons.1 h with h | h
        · exact absurd h hn
        · exact Or.inl h
    have hC23 : Chg (b2 :: ([] ++ (gt o (ys.flatMap yC)).map Prod.fst)) W2 W3 := hs3.chg.mono (fun y hy => by simpa using hy)
    have s23 := hC23.size
    have hYb : ∀ y ∈ (gt o1 (ys.flatMap yC ++ stC x.1 x.2)).map Prod.fst, y ∈ (gt o (ys.flatMap yC)).map Prod.fst ∨ W2.heap.size ≤ y := fun y hy => by
      obtain ⟨p, hp, rfl⟩ := List.mem_map.1 hy
      exact (hbox p hp).2.2
    have hq7 := q7.mv hmm (fun j p hp => StR.All.mono (q7.2 j p hp).2.2 (fun b hb => by simp))
    refine ⟨rfl, (gt o1 (ys.flatMap yC ++ stC x.1 x.2)).map Prod.fst, (fun y hy => (hYb y hy).imp id (fun h => by omega)), (fun y hy => ?_), ⟨q0, (q1.mv hmm (Nat.le_refl _) (fun z h => by cases h)).own hC23 (fun y hy => by obtain ⟨p, hp, rfl⟩ := List.mem_map.1 hy; exact (q3 p hp).2.1), o1, ys ++ [(x.1, sts k)], hs3.at 1 rfl, ?_, ?_, ?_, ?_, ⟨?_, ?_⟩, ?_, (fun h => by omega)⟩, hs3.chg.mono (fun y hy => by simpa using hy)⟩
    · obtain ⟨p, hp, rfl⟩ := List.mem_map.1 hy
      exact (hbox p hp).1.lt
    · rw [hcs]
      intro p hp
      obtain ⟨h1, h2, h3⟩ := hbox p hp
      refine ⟨h1, ?_, fun hz => ?_⟩
      · rcases h3 with h | h
        · obtain ⟨p', hp', e⟩ := List.mem_map.1 h
          have := (q3 p' hp').2.1
          omega
        · omega
      · rcases h3 with h | h
        · obtain ⟨p', hp', e⟩ := List.mem_map.1 h
          exact (q3 p' hp').2.2 (e ▸ hz)
        · have := hx4 _ hz; omega
    · rw [hcs]
      exact ((apart_pair.1 hs3.apart).sublist (by rw [List.append_nil]; exact (List.sublist_cons_self _ _).trans (List.sublist_cons_self _ _)))
    · rw [hcs]; exact g1
    · rw [hcs]
    · simp [q7.1]
    · intro j p hp
      by_cases hj : j < ys.length
      · rw [List.getElem?_append_left hj] at hp
        obtain ⟨h1, h2, h3⟩ := hq7.2 j p hp
        have h4 := (q7.2 j p hp).2.2
        refine ⟨h1, h2.chg hC23 (h3.mono (fun b hb hm => ?_)), (h4.and h3).mono (fun b hb => ⟨hb.1.1, fun hm => ?_, by omega⟩)⟩
        · rcases List.mem_cons.1 hm with h | h
          · omega
          · exact hb.2.1 (by simpa using h)
        · rcases hYb _ hm with h | h
          · exact hb.1.2.1 h
          · omega
      · rw [List.getElem?_append_right (by omega)] at hp
        have hj0 : j - ys.length = 0 := by
          obtain ⟨h, _⟩ := List.getElem?_eq_some_iff.1 hp
          simp at h; omega
        rw [hj0] at hp
        cases hp
        have hjk : j = k := by have := q7.1; omega
        refine ⟨by rw [hjk], (hx2.mv hmm (hx3.mono (fun b hb => by simp))).chg hC23 (hx3.mono (fun b hb hm => ?_)), hx3.mono (fun b hb => ⟨by omega, fun hm => ?_, by omega⟩)⟩
        · rcases List.mem_cons.1 hm with h | h
          · omega
          · exact hb.2.2.1 (by simpa using h)
        · rcases hYb _ hm with h | h
          · exact hb.2.2.1 h
          · omega
    · intro j p hp
      by_cases hj : j < ys.length
      · rw [List.getElem?_append_left hj] at hp
        exact q8 j p hp
      · rw [List.getElem?_append_right (by omega)] at hp
        have hj0 : j - ys.length = 0 := by
          obtain ⟨h, _⟩ := List.getElem?_eq_some_iff.1 hp
          simp at h; omega
        rw [hj0] at hp
        cases hp
        exact hx3.mono (fun b hb => hb.1)
  · exact fun x hx => by rw [List.mem_singleton.1 hx]; exact lbl
  · rintro D Z Y Wd hD ⟨q0, q1, o, ys, q2, q3, q4, q5, q6, q7, q8, q9⟩ hDd
    have hD2 : D < Wd.heap.size := (Array.getElem?_eq_some_iff.1 hDd).1
    have hT : NewT 6 yC v.heap.size Wd (gA o) N (gC o) ys := by
      refine ⟨?_, fun b off e => ?_, q5.le⟩
      · rcases o with _ | ⟨b, c, sp⟩
        · exact ⟨q7.1, fun h0 => by have := q5.nil rfl; omega⟩
        · have h7 : BoxAt Wd b (.cells (ys.flatMap yC ++ sp)) := (q3 (b, .cells (ys.flatMap yC ++ sp)) (List.mem_singleton.2 rfl)).1
          exact isT_box (enc := yC) (zs := ys) (fun _ => rfl) h7 rfl q7.1
      · rcases o with _ | ⟨b', c, sp⟩
        · cases e
        · obtain rfl : b' = b := by cases e; rfl
          exact (q3 (b', .cells (ys.flatMap yC ++ sp)) (List.mem_singleton.2 rfl)).2.1
    have hsw := hbw.size
    refine (?_ : AQ ⟨_, [_], w, []⟩ ((v.heap.size, Wd) :: _) _ _ _) _ _ (hf9.marked _) ((hs9.callC (i := 0) rfl q1 q2 .k0).defer _)
    refine aq_inN ?_
    refine aq_then ?_
    refine ac_seq (ac_region ?_)
    refine al_p (q_load (i := 0) rfl rfl rfl Tryz.isAgg47) ?_
    refine al_p (q_assign rfl) ?_
    refine al_end (aq_then ?_)
    refine ac_ret ?_
    refine retMD Tryz.results62 (.tmp rfl .nil) .one (Nat.le_trans hbw.size hD) (fun w9 hs => ((hs.snap _ _ (.head _)).2.2.2.1 D hD hD2).trans hDd) (fun w9 w8 hs hm hc8 => ?_)
    have hb9 := hs.below
    have hsz : Wd.heap.size ≤ w9.heap.size := (hs.snap _ _ (.head _)).2.2.1
    have hsz8 := hm.size
    refine ⟨gA o, gC o, ys, rfl, ⟨IsT.mv (Z := []) (fun _ => by simp [yC, stC]) (hs.isT (.head _) hT.isT (fun b o e => Or.inl (hT.new b o e))) hm (by simp), fun b o e => by have := hT.new b o e; omega, hT.le⟩, ⟨q7.1, fun j p hp => ?_⟩, below_chg hb9 hc8 (Nat.le_trans hbw.size hD)⟩
    obtain ⟨h1, h2, h3⟩ := q7.2 j p hp
    exact ⟨h1, IsS.mv (Z := []) (hs.isS (.head _) h2 (h3.mono (fun b hb => hb.1))) hm (h3.mono (fun b hb => by simp)), h3.mono (fun b hb => ⟨by omega, by simp, by omega⟩)⟩

end Go.Proofs.YtkhahbnagbjbiaaGreat
end
