import Derived.Test.YtcjndnadibbcbaaJAA
import Derived.Test.YtcjndnadibbcbaaJAE
import Derived.Test.YtcjndnadibbcbaaJAJ
import Derived.Test.YtcjndnadibbcbaaJAM
import Derived.Test.YtcjndnadibbcbaaJAQ
import Derived.Test.YtcjndnadibbcbaaJAT
import Derived.Test.YtcjndnadibbcbaaJBA
import Derived.Test.YtcjndnadibbcbaaRows
import Derived.KernelRfl
import Derived.Laws.StructEq
import Derived.Handy
import Derived.Shelf.Bits.Mul64
import Derived.Ground.Names2Prog
import Derived.Shelf.Slices.Clone
import Derived.Ground.SlgnProg
import Derived.Shelf.SlicesE.Clone
import Derived.Test.YtcjndnadibbcbaaProg
import Derived.Laws.OwnMore
import Derived.Deep.OwnRows
import Derived.Laws.AppendOwn
import Derived.Laws.AppendOwnNone
import Derived.WalkKit
import Derived.Lib.Hide
import Derived.Deep.RegionHeld3
import Derived.Deep.AppendLies
section
/- Package circuit: Rest, Settle, over this seat's translation (written by ax_ci10.py). -/
namespace Go.Proofs.Ytcjndnadibbcbaa
set_option linter.unusedVariables false
set_option linter.unusedSimpArgs false
open Go.RowKit

def maxTo (f : Nat → Int) : Nat → Int
  | 0 => 0
  | n + 1 => max (maxTo f n) (f n)
theorem maxTo_bd {f : Nat → Int} {B : Int} (hB : 0 ≤ B) : ∀ n : Nat, (∀ k, k < n → f k ≤ B) → 0 ≤ maxTo f n ∧ maxTo f n ≤ B
  | 0, _ => ⟨Int.le_refl 0, hB⟩
  | n + 1, h => by
    have h1 := maxTo_bd hB n (fun k hk => h k (by omega))
    have h2 := h n (by omega)
    simp only [maxTo]; omega
theorem maxTo_ge {f : Nat → Int} : ∀ (n : Nat) {k : Nat}, k < n → f k ≤ maxTo f n
  | n + 1, k, h => by
    simp only [maxTo]
    rcases Nat.lt_or_ge k n with g | g
    · have := maxTo_ge (f := f) n g; omega
    · obtain rfl : k = n := by omega
      omega
theorem maxTo_at {f : Nat → Int} : ∀ (n : Nat), maxTo f n = 0 ∨ ∃ k, k < n ∧ f k = maxTo f n
  | 0 => Or.inl rfl
  | n + 1 => by
    simp only [maxTo]
    rcases Int.le_total (maxTo f n) (f n) with g | g
    · exact Or.inr ⟨n, by omega, by omega⟩
    · rw [Int.max_eq_left g]
      rcases maxTo_at (f := f) n with h | ⟨k, h1, h2⟩
      · exact Or.inl h
      · exact Or.inr ⟨k, by omega, h2⟩
def restF (M : MachD) (S : StD) (heat : List Int) (k : Nat) : Int := if iA S.heat k ≤ iA heat k then 0 else (iA S.heat k - iA heat k + (cA M k).cool - 1).tdiv (cA M k).cool
def restB (M : MachD) (S : StD) (heat : List Int) (k : Nat) : Prop := iA heat k < iA S.heat k ∧ (cA M k).cool = 0
instance (M : MachD) (S : StD) (heat : List Int) (k : Nat) : Decidable (restB M S heat k) := inferInstanceAs (Decidable (_ ∧ _))
def restL (M : MachD) (S : StD) (heat : List Int) : Int × Int :=
  if ¬ (validS M S = true ∧ heat.length = M.coils.length) then (0, 1) else if (heat.any fun n => decide (n < 0)) = true then (0, 7) else if ∃ k ∈ List.range M.coils.length, restB M S heat k then (0, 8) else (maxTo (restF M S heat) M.coils.length, 0)
theorem restF_bd {M : MachD} {S : StD} {heat : List Int} (hF : FitS M S) (hh : ∀ x ∈ heat, 0 ≤ x) (hl : heat.length = M.coils.length) {k : Nat} (hk : k < M.coils.length) (hb : ¬ restB M S heat k) : 0 ≤ restF M S heat k ∧ restF M S heat k ≤ 1000002000000000 := by
  unfold restF
  split
  · omega
  · rename_i h
    have h1 := (cA_ok hF.cur.check hk).cool
    have h2 := hF.heat.2 _ (iA_mem (by rw [hF.heat.1]; exact hk))
    have h3 := hh _ (iA_mem (by rw [hl]; exact hk))
    have h4 : (cA M k).cool ≠ 0 := fun e => hb ⟨by omega, e⟩
    have := tdiv_bd (a := iA S.heat k - iA heat k + (cA M k).cool - 1) (B := 1000002000000000) (show 1 ≤ (cA M k).cool by omega) (by omega)
    have : 0 ≤ (iA S.heat k - iA heat k + (cA M k).cool - 1).tdiv (cA M k).cool := Int.tdiv_nonneg (by omega) (by omega)
    omega
theorem not_neg {l : List Int} (h : (l.any fun n => decide (n < 0)) = false) : ∀ x ∈ l, 0 ≤ x := fun x hx => by
  have := List.any_eq_false.1 h x hx
  simpa using this
set_option maxRecDepth 100000 in
theorem crest1_any (n : Int) (w : World) : Calls Try.prog 48 #[(.int .i64 n)] w (Ret (.bool (decide (n < 0))) w) := by
  refine calls_ax (vs := [(.int .i64 n)]) Try.func48 rfl rfl ?_
  refine ac_seq ?_
  refine ac_region ?_
  refine al_q (q_assign rfl) rfl rfl rfl ?_
  refine al_end ?_
  refine aq_then ?_
  refine ac_seq ?_
  refine ac_region ?_
  refine al_q (q_move rfl) rfl rfl rfl ?_
  refine al_q (q_lss rfl rfl) rfl rfl rfl ?_
  refine al_q (q_assign rfl) rfl rfl rfl ?_
  refine al_end ?_
  refine aq_then ?_
  refine ac_ret ?_
  refine ret1 Try.results48 rfl (fun w9 hs => ?_)
  exact ⟨rfl, hs.below⟩

set_option maxRecDepth 100000 in
theorem crest_any (R : MachR) (M : MachD) (RS : StR) (S : StD) (A : Option Addr) (len cap : Nat) (heat : List Int) (w : World) (hM : IsM w R M) (hS : IsS w RS S) (hI : IsT 1 intCells w A len heat) (hl : len ≤ 1000000000000000) : Calls Try.prog 20 #[(.agg (machCells R M)), (RS.v S.tick), (.slice A len cap)] w (Ret (.tuple #[.int .i64 (restL M S heat).1, .int .i64 (restL M S heat).2]) w) := by
  have n1 := hM.coils.1
  have n4 := hI.1
  refine calls_ax (vs := [(.agg (machCells R M)), (RS.v S.tick), (.slice A len cap)]) Try.func20 rfl rfl ?_
  refine ac_seq ?_
  refine ac_region ?_
  refine al_new (fun b => .pointer (some ⟨b, 0, none⟩)) (r_box rfl rfl) rfl rfl rfl ?_
  intro b1
  refine al_new (fun b => .pointer (some ⟨b, 0, none⟩)) (r_box rfl rfl) rfl rfl rfl ?_
  intro b2
  refine al_q (q_assign rfl) rfl rfl rfl ?_
  refine al_q (q_assign rfl) rfl rfl rfl ?_
  refine al_end ?_
  refine aq_then ?_
  refine ac_seq ?_
  refine ac_seq ?_
  refine ac_region ?_
  refine al_q (q_loadAll (i := 1) rfl rfl Try.isAgg29 Try.sizeOf29 rfl) rfl rfl rfl ?_
  refine al_q (q_loadAll (i := 0) rfl rfl Try.isAgg35 Try.sizeOf35 rfl) rfl rfl rfl ?_
  refine al_call Try.call13 (.cons rfl (.cons rfl .nil)) rfl rfl (fun w1 hs1 => ?_)
  refine (validState_any R M RS S _ (hM.below hs1.below) (hS.below hs1.below)).mono ?_
  rintro e u1 ⟨rfl, hb_1⟩
  refine ⟨_, rfl, hb_1, ?_⟩
  clear hs1
  refine al_q (q_not rfl) rfl rfl rfl ?_
  refine al_q (q_move rfl) rfl rfl rfl ?_
  refine aq_split 15 rfl (fun hb1 => ?_) (fun hb1 => ?_)
  · have hE : restL M S heat = (0, 1) := if_pos (fun h => by rw [h.1] at hb1; cases hb1)
    refine al_skip rfl rfl rfl ?_
    refine al_skip rfl rfl rfl ?_
    refine al_skip rfl rfl rfl ?_
    refine al_skip rfl rfl rfl ?_
    refine al_skip rfl rfl rfl ?_
    refine al_skip rfl rfl rfl ?_
    refine al_q (q_pickT rfl rfl) rfl rfl rfl ?_
    refine al_end ?_
    refine aq_then ?_
    refine ac_condT rfl ?_
    refine ac_seq ?_
    refine ac_region ?_
    refine al_q (q_assign rfl) rfl rfl rfl ?_
    refine al_q (q_assign rfl) rfl rfl rfl ?_
    refine al_end ?_
    refine aq_then ?_
    refine ac_ret ?_
    refine aq_thenR ?_
    refine ret2 Try.results20 rfl rfl (fun w9 hs => ?_)
    rw [hE]; exact ⟨rfl, hs.below⟩
  · have hv : validS M S = true := by simpa using hb1
    have hf := fitS_iff.1 hv
    refine al_q (q_move rfl) rfl rfl rfl ?_
    refine al_q (q_lenS rfl Try.runUnderlying30) rfl rfl rfl ?_
    refine al_q (q_fieldAddr 1 rfl Try.runUnderlying29 rfl Try.sizeOf22 (by decide) rfl) rfl rfl rfl ?_
    refine al_q (q_load (i := 1) rfl rfl rfl Try.isAgg22) rfl rfl rfl ?_
    refine al_q (q_lenS rfl Try.runUnderlying22) rfl rfl rfl ?_
    refine al_q (q_neq rfl rfl) rfl rfl rfl ?_
    refine al_q (q_pickF rfl rfl) rfl rfl rfl ?_
    refine al_end ?_
    refine aq_then ?_
    refine ac_cond rfl (fun h1 => ?_) (fun h1 => ?_)
    · have hE : restL M S heat = (0, 1) := if_pos (fun h => by have := h.2; simp at h1; omega)
      refine ac_seq ?_
      refine ac_region ?_
      refine al_q (q_assign rfl) rfl rfl rfl ?_
      refine al_q (q_assign rfl) rfl rfl rfl ?_
      refine al_end ?_
      refine aq_then ?_
      refine ac_ret ?_
      refine aq_thenR ?_
      refine ret2 Try.results20 rfl rfl (fun w9 hs => ?_)
      rw [hE]; exact ⟨rfl, hs.below⟩
    · have hln : len = R.la := by simp at h1; omega
      have hvl : ¬ ¬ (validS M S = true ∧ heat.length = M.coils.length) := fun h => h ⟨hv, by omega⟩
      have n5 := (sound_of hf.cur.check).coils.1
      have n6 := hf.heat.1
      have n7 := hS.heat.1
      refine ac_skip ?_
      refine aq_then ?_
      refine ac_seq ?_
      refine ac_seq ?_
      refine ac_region ?_
      refine al_q (q_move rfl) rfl rfl rfl ?_
      refine al_call Try.call47 (.cons rfl (.cons rfl .nil)) rfl rfl (fun w2 hs2 => ?_)
      refine (containsint0 48 (fun n => decide (n < 0)) A len cap heat _ (hI.below hs2.below) hl Try.call48 (fun x W9 _ hB => crest1_any x W9)).mono ?_
      rintro e u2 ⟨rfl, hb_2⟩
      refine ⟨_, rfl, hb_2, ?_⟩
      clear hs2
      refine al_end ?_
      refine aq_then ?_
      refine ac_cond rfl (fun h2 => ?_) (fun h2 => ?_)
      · have hE : restL M S heat = (0, 7) := by rw [restL, if_neg hvl, if_pos h2]
        refine ac_seq ?_
        refine ac_region ?_
        refine al_q (q_assign rfl) rfl rfl rfl ?_
        refine al_q (q_assign rfl) rfl rfl rfl ?_
        refine al_end ?_
        refine aq_then ?_
        refine ac_ret ?_
        refine aq_thenR ?_
        refine ret2 Try.results20 rfl rfl (fun w9 hs => ?_)
        rw [hE]; exact ⟨rfl, hs.below⟩
      · have hnn := not_neg h2
        have hg7 : ¬ (heat.any fun n => decide (n < 0)) = true := by rw [h2]; simp
        refine ac_skip ?_
        refine aq_then ?_
        refine ac_seq ?_
        refine ac_region ?_
        refine al_q (q_assign rfl) rfl rfl rfl ?_
        refine al_end ?_
        refine aq_then ?_
        refine ac_seq ?_
        refine ac_seq ?_
        refine ac_region ?_
        refine al_q (q_fieldAddr 1 rfl Try.runUnderlying29 rfl Try.sizeOf22 (by decide) rfl) rfl rfl rfl ?_
        refine al_q (q_load (i := 1) rfl rfl rfl Try.isAgg22) rfl rfl rfl ?_
        refine al_q (q_lenS rfl Try.runUnderlying22) rfl rfl rfl ?_
        refine al_q (q_move rfl) rfl rfl rfl ?_
        refine al_end ?_
        refine aq_then ?_
        refine ac_block ?_
        refine ac_loop (β := Nat) (fun x => x ≤ R.la ∧ 0 ≤ maxTo (restF M S heat) x ∧ maxTo (restF M S heat) x ≤ 1000002000000000 ∧ ∀ j, j < x → ¬ restB M S heat j) (fun x => [(2, (.slice A len cap)), (4, (.pointer (some ⟨b2, 0, none⟩))), (6, (.int .i64 0)), (7, (.int .i64 0)), (8, (.int .i64 (maxTo (restF M S heat) x))), (26, (.slice (R.A) R.la R.ca)), (27, (.int .i64 (R.la : Int))), (28, (.int .i64 (x : Int)))]) (fun _ => _) (fun x => [(b2, _), (b1, _)]) (fun x => R.la - x) 0 ⟨by omega, by simp [maxTo], by simp [maxTo], fun j h => by omega⟩ ⟨rfl, rfl, rfl, rfl, rfl, rfl, rfl, rfl, trivial⟩ (fun w9 hs => hs) (fun x hF1 => ?_)
        refine ac_seq ?_
        refine ac_region ?_
        refine al_q (q_lss rfl rfl) rfl rfl rfl ?_
        refine al_end ?_
        refine aq_then ?_
        refine ac_seq ?_
        refine ac_cond rfl (fun h3 => ?_) (fun h3 => ?_)
        · have hxl : x < R.la := by have := of_decide_eq_true h3; omega
          obtain ⟨b11, o11, hA1, hlt1, hget1⟩ := hM.coils.2 (by omega)
          have hx1 := cA_get (M := M) (k := x) (by omega)
          obtain ⟨b21, o21, hA2, hlt2, hget2⟩ := hS.heat.2 (by omega)
          have hx2 := iA_get (l := S.heat) (k := x) (by have := hf.heat.1; omega)
          obtain ⟨b31, o31, hA3, hlt3, hget3⟩ := hI.2 (by omega)
          have hx3 := iA_get (l := heat) (k := x) (by omega)
          have q1 := (cA_ok hf.cur.check (k := x) (by omega)).cool
          have q2 := hf.heat.2 _ (List.mem_of_getElem? hx2)
          have q3 := hnn _ (List.mem_of_getElem? hx3)
          refine ac_skip ?_
          refine aq_then ?_
          refine ac_seq ?_
          refine ac_block ?_
          refine ac_seq ?_
          refine ac_region ?_
          refine al_q (q_move rfl) rfl rfl rfl ?_
          refine al_q (q_indexAddrA (i := x) (o11 + x * 8 + 0) hA1 rfl rfl rfl (by omega) Try.runUnderlying22 Try.sizeOf46 rfl) rfl rfl rfl ?_
          refine al_q (q_loadXs (CoilD.cells (cA M x)) rfl Try.isAgg46 Try.sizeOf46 (fun w9 hs j9 v9 h9 => by rw [addr_add]; exact (hs.below.cell (p := ⟨_, _, none⟩) hlt1).trans ((hget1 x _ hx1) j9 v9 h9)) rfl) rfl rfl rfl ?_
          refine al_new (fun b => .pointer (some ⟨b, 0, none⟩)) (r_alloc Try.zeroValue46 rfl) rfl rfl rfl ?_
          intro b3
          refine al_q (q_assign rfl) rfl rfl rfl ?_
          refine al_storeAll (i := 0) rfl rfl rfl rfl Try.sizeOf46 rfl rfl .k0 rfl ?_
          refine al_end ?_
          refine aq_then ?_
          refine ac_seq ?_
          refine ac_seq ?_
          refine ac_draw 9 (by kernel_rfl) (by kernel_rfl) ?_
          refine ah_take 0 (fun w9 hs => hs) rfl rfl rfl (by kernel_rfl) (by kernel_rfl) (by kernel_rfl) (fun _ _ _ h => h) rfl (q_fieldAddr 4 rfl Try.runUnderlying35 rfl Try.sizeOf30 (by decide) rfl) ?_
          refine ah_take 1 (fun w9 hs => hs) rfl rfl rfl (by kernel_rfl) (by kernel_rfl) (by kernel_rfl) (fun _ _ _ h => h) rfl (q_load (i := 1) rfl rfl rfl Try.isAgg30) ?_
          refine ah_take 2 (fun w9 hs => hs) rfl rfl rfl (by kernel_rfl) (by kernel_rfl) (by kernel_rfl) (fun _ _ _ h => h) rfl (q_move rfl) ?_
          refine ah_take 3 (fun w9 hs => hs) rfl rfl rfl (by kernel_rfl) (by kernel_rfl) (by kernel_rfl) (fun _ _ _ h => h) rfl (q_indexAddrA (i := x) (o21 + x * 1 + 0) hA2 rfl rfl rfl (by omega) Try.runUnderlying30 Try.sizeOf3 rfl) ?_
          refine ah_take 4 (fun w9 hs => hs) rfl rfl rfl (by kernel_rfl) (by kernel_rfl) (by kernel_rfl) (fun _ _ _ h => h) rfl (q_loadX rfl Try.isAgg3 (fun w9 hs => (hs.below.cell (p := ⟨_, _, none⟩) hlt2).trans ((hget2 x _ hx2) 0 _ rfl))) ?_
          refine ah_take 5 (fun w9 hs => hs) rfl rfl rfl (by kernel_rfl) (by kernel_rfl) (by kernel_rfl) (fun _ _ _ h => h) rfl (q_move rfl) ?_
          refine ah_take 6 (fun w9 hs => hs) rfl rfl rfl (by kernel_rfl) (by kernel_rfl) (by kernel_rfl) (fun _ _ _ h => h) rfl (q_move rfl) ?_
          refine ah_take 7 (fun w9 hs => hs) rfl rfl rfl (by kernel_rfl) (by kernel_rfl) (by kernel_rfl) (fun _ _ _ h => h) rfl (q_indexAddrA (i := x) (o31 + x * 1 + 0) hA3 rfl rfl rfl (by omega) Try.runUnderlying30 Try.sizeOf3 rfl) ?_
          refine ah_take 8 (fun w9 hs => hs) rfl rfl rfl (by kernel_rfl) (by kernel_rfl) (by kernel_rfl) (fun _ _ _ h => h) rfl (q_loadX rfl Try.isAgg3 (fun w9 hs => (hs.below.cell (p := ⟨_, _, none⟩) hlt3).trans ((hget3 x _ hx3) 0 _ rfl))) ?_
          refine ah_take 9 (fun w9 hs => hs) rfl rfl rfl (by kernel_rfl) (by kernel_rfl) (by kernel_rfl) (fun _ _ _ h => h) rfl (q_leq rfl rfl) ?_
          refine ah_done (by kernel_rfl) ?_
          refine aq_then ?_
          refine ac_cond rfl (fun h4 => ?_) (fun h4 => ?_)
          · have g4 := of_decide_eq_true h4
            have hval : maxTo (restF M S heat) (x + 1) = maxTo (restF M S heat) x := by simp only [maxTo]; rw [show restF M S heat x = 0 from if_pos g4]; omega
            have hnb : ¬ restB M S heat x := fun h => by have := h.1; omega
            refine ac_exit ?_
            refine aq_thenE ?_
            refine aq_hit ?_
            refine aq_then ?_
            refine ac_region ?_
            refine al_q (q_add rfl rfl (by omega)) rfl rfl rfl ?_
            refine al_q (q_move rfl) rfl rfl rfl ?_
            refine al_end ?_
            refine aq_then ?_
            have hfin : ∀ j, j < x + 1 → ¬ restB M S heat j := fun j hj => by
              rcases Nat.lt_or_ge j x with g | g
              · exact hF1.2.2.2 j g
              · obtain rfl : j = x := by omega
                exact hnb
            refine aq_round (x + 1) (by omega) ⟨by omega, (maxTo_bd (by omega) (x + 1) (fun k hk => (restF_bd hf hnn (by omega) (by omega) (hfin k hk)).2)).1, (maxTo_bd (by omega) (x + 1) (fun k hk => (restF_bd hf hnn (by omega) (by omega) (hfin k hk)).2)).2, hfin⟩ ⟨rfl, rfl, rfl, rfl, (by rw [hval]; rfl), rfl, rfl, rfl, trivial⟩ (fun w9 hs => (hs.tail 1 rfl))
          · have g4 := of_decide_eq_false h4
            refine ac_skip ?_
            refine aq_then ?_
            refine ac_seq ?_
            refine ac_seq ?_
            refine ac_region ?_
            refine al_q (q_fieldAddr 7 rfl Try.runUnderlying46 rfl Try.sizeOf3 (by decide) rfl) rfl rfl rfl ?_
            refine al_q (q_load (i := 0) rfl rfl rfl Try.isAgg3) rfl rfl rfl ?_
            refine al_q (q_eql rfl rfl) rfl rfl rfl ?_
            refine al_end ?_
            refine aq_then ?_
            refine ac_cond rfl (fun h5 => ?_) (fun h5 => ?_)
            · have g5 : (cA M x).cool = 0 := by simpa using h5
              have hE : restL M S heat = (0, 8) := by rw [restL, if_neg hvl, if_neg hg7, if_pos ⟨x, List.mem_range.2 (by omega), by omega, g5⟩]
              refine ac_seq ?_
              refine ac_region ?_
              refine al_q (q_assign rfl) rfl rfl rfl ?_
              refine al_q (q_assign rfl) rfl rfl rfl ?_
              refine al_end ?_
              refine aq_then ?_
              refine ac_ret ?_
              refine aq_thenR ?_
              refine aq_inR ?_
              refine aq_thenR ?_
              refine aq_thenR ?_
              refine aq_inR ?_
              refine aq_thenR ?_
              refine ret2 Try.results20 rfl rfl (fun w9 hs => ?_)
              rw [hE]; exact ⟨rfl, hs.below⟩
            · have g5 : (cA M x).cool ≠ 0 := by simpa using h5
              have hnb : ¬ restB M S heat x := fun h => g5 h.2
              have hval : max (maxTo (restF M S heat) x) ((iA S.heat x - iA heat x + (cA M x).cool - 1).tdiv (cA M x).cool) = maxTo (restF M S heat) (x + 1) := by simp only [maxTo]; rw [show restF M S heat x = _ from if_neg g4]
              refine ac_skip ?_
              refine aq_then ?_
              refine ac_draw 19 (by kernel_rfl) (by kernel_rfl) ?_
              refine ah_take 0 (fun w9 hs => hs) rfl rfl rfl (by kernel_rfl) (by kernel_rfl) (by kernel_rfl) (fun _ _ _ h => h) rfl (q_move rfl) ?_
              refine ah_take 1 (fun w9 hs => hs) rfl rfl rfl (by kernel_rfl) (by kernel_rfl) (by kernel_rfl) (fun _ _ _ h => h) rfl (q_fieldAddr 4 rfl Try.runUnderlying35 rfl Try.sizeOf30 (by decide) rfl) ?_
              refine ah_take 2 (fun w9 hs => hs) rfl rfl rfl (by kernel_rfl) (by kernel_rfl) (by kernel_rfl) (fun _ _ _ h => h) rfl (q_load (i := 1) rfl rfl rfl Try.isAgg30) ?_
              refine ah_take 3 (fun w9 hs => hs) rfl rfl rfl (by kernel_rfl) (by kernel_rfl) (by kernel_rfl) (fun _ _ _ h => h) rfl (q_move rfl) ?_
              refine ah_take 4 (fun w9 hs => hs) rfl rfl rfl (by kernel_rfl) (by kernel_rfl) (by kernel_rfl) (fun _ _ _ h => h) rfl (q_indexAddrA (i := x) (o21 + x * 1 + 0) hA2 rfl rfl rfl (by omega) Try.runUnderlying30 Try.sizeOf3 rfl) ?_
              refine ah_take 5 (fun w9 hs => hs) rfl rfl rfl (by kernel_rfl) (by kernel_rfl) (by kernel_rfl) (fun _ _ _ h => h) rfl (q_loadX rfl Try.isAgg3 (fun w9 hs => (hs.below.cell (p := ⟨_, _, none⟩) hlt2).trans ((hget2 x _ hx2) 0 _ rfl))) ?_
              refine ah_take 6 (fun w9 hs => hs) rfl rfl rfl (by kernel_rfl) (by kernel_rfl) (by kernel_rfl) (fun _ _ _ h => h) rfl (q_move rfl) ?_
              refine ah_take 7 (fun w9 hs => hs) rfl rfl rfl (by kernel_rfl) (by kernel_rfl) (by kernel_rfl) (fun _ _ _ h => h) rfl (q_move rfl) ?_
              refine ah_take 8 (fun w9 hs => hs) rfl rfl rfl (by kernel_rfl) (by kernel_rfl) (by kernel_rfl) (fun _ _ _ h => h) rfl (q_indexAddrA (i := x) (o31 + x * 1 + 0) hA3 rfl rfl rfl (by omega) Try.runUnderlying30 Try.sizeOf3 rfl) ?_
              refine ah_take 9 (fun w9 hs => hs) rfl rfl rfl (by kernel_rfl) (by kernel_rfl) (by kernel_rfl) (fun _ _ _ h => h) rfl (q_loadX rfl Try.isAgg3 (fun w9 hs => (hs.below.cell (p := ⟨_, _, none⟩) hlt3).trans ((hget3 x _ hx3) 0 _ rfl))) ?_
              refine ah_take 10 (fun w9 hs => hs) rfl rfl rfl (by kernel_rfl) (by kernel_rfl) (by kernel_rfl) (fun _ _ _ h => h) rfl (q_sub rfl rfl (by omega)) ?_
              refine ah_take 11 (fun w9 hs => hs) rfl rfl rfl (by kernel_rfl) (by kernel_rfl) (by kernel_rfl) (fun _ _ _ h => h) rfl (q_fieldAddr 7 rfl Try.runUnderlying46 rfl Try.sizeOf3 (by decide) rfl) ?_
              refine ah_take 12 (fun w9 hs => hs) rfl rfl rfl (by kernel_rfl) (by kernel_rfl) (by kernel_rfl) (fun _ _ _ h => h) rfl (q_load (i := 0) rfl rfl rfl Try.isAgg3) ?_
              refine ah_take 13 (fun w9 hs => hs) rfl rfl rfl (by kernel_rfl) (by kernel_rfl) (by kernel_rfl) (fun _ _ _ h => h) rfl (q_add rfl rfl (by omega)) ?_
              refine ah_take 14 (fun w9 hs => hs) rfl rfl rfl (by kernel_rfl) (by kernel_rfl) (by kernel_rfl) (fun _ _ _ h => h) rfl (q_sub rfl rfl (by omega)) ?_
              refine ah_take 15 (fun w9 hs => hs) rfl rfl rfl (by kernel_rfl) (by kernel_rfl) (by kernel_rfl) (fun _ _ _ h => h) rfl (q_fieldAddr 7 rfl Try.runUnderlying46 rfl Try.sizeOf3 (by decide) rfl) ?_
              refine ah_take 16 (fun w9 hs => hs) rfl rfl rfl (by kernel_rfl) (by kernel_rfl) (by kernel_rfl) (fun _ _ _ h => h) rfl (q_load (i := 0) rfl rfl rfl Try.isAgg3) ?_
              refine ah_take 17 (fun w9 hs => hs) rfl rfl rfl (by kernel_rfl) (by kernel_rfl) (by kernel_rfl) (fun _ _ _ h => h) rfl (q_quo rfl rfl (by omega)) ?_
              refine ah_take 18 (fun w9 hs => hs) rfl rfl rfl (by kernel_rfl) (by kernel_rfl) (by kernel_rfl) (fun _ _ _ h => h) rfl (q_max rfl rfl) ?_
              refine ah_one 19 rfl (by kernel_rfl) (fun hok1 hcl1 => ?_)
              refine al_q (q_assign rfl) rfl rfl rfl ?_
              refine al_end (ah_last (by kernel_rfl) ?_)
              refine aq_inN ?_
              refine aq_then ?_
              refine aq_keepL [2, 4, 6, 7, 8, 9, 10, 26, 27, 28, 29, 30, 31, 32, 33, 34, 35, 36, 37, 38, 39, 40, 41, 42, 43, 44, 45, 46, 47, 48, 49, 50, 51, 52, 53, 54, 55, 56, 57, 58, 59, 60, 61, 62, 63, 64] (.cons rfl (.cons rfl (.cons rfl (.cons rfl (.cons rfl (.cons rfl (.cons rfl (.cons rfl (.cons rfl (.cons rfl (.cons rfl (.cons rfl (.cons rfl (.cons rfl (.cons rfl (.cons rfl (.cons rfl (.cons rfl (.cons rfl (.cons rfl (.cons rfl (.cons rfl (.cons rfl (.cons rfl (.cons rfl (.cons rfl (.cons rfl (.cons rfl (.cons rfl (.cons rfl (.cons rfl (.cons rfl (.cons rfl (.cons rfl (.cons rfl (.cons rfl (.cons rfl (.cons rfl (.cons rfl (.cons rfl (.cons rfl (.cons rfl (.cons rfl (.cons rfl (.cons rfl (.cons rfl .nil)))))))))))))))))))))))))))))))))))))))))))))) ?_
              refine ac_region ?_
              refine al_q (q_add rfl rfl (by omega)) rfl rfl rfl ?_
              refine al_q (q_move rfl) rfl rfl rfl ?_
              refine al_end ?_
              refine aq_then ?_
              have hfin : ∀ j, j < x + 1 → ¬ restB M S heat j := fun j hj => by
                rcases Nat.lt_or_ge j x with g | g
                · exact hF1.2.2.2 j g
                · obtain rfl : j = x := by omega
                  exact hnb
              refine aq_round (x + 1) (by omega) ⟨by omega, (maxTo_bd (by omega) (x + 1) (fun k hk => (restF_bd hf hnn (by omega) (by omega) (hfin k hk)).2)).1, (maxTo_bd (by omega) (x + 1) (fun k hk => (restF_bd hf hnn (by omega) (by omega) (hfin k hk)).2)).2, hfin⟩ ⟨rfl, rfl, rfl, rfl, (by rw [hval]; rfl), rfl, rfl, rfl, trivial⟩ (fun w9 hs => (hs.tail 1 rfl))
        · have hxe : x = R.la := by have := of_decide_eq_false h3; omega
          refine ac_exit ?_
          refine aq_thenE ?_
          refine aq_thenE ?_
          refine aq_hit ?_
          refine aq_then ?_
          refine ac_seq ?_
          refine ac_region ?_
          refine al_q (q_move rfl) rfl rfl rfl ?_
          refine al_q (q_assign rfl) rfl rfl rfl ?_
          refine al_q (q_assign rfl) rfl rfl rfl ?_
          refine al_end ?_
          refine aq_then ?_
          refine ac_ret ?_
          refine ret2 Try.results20 rfl rfl (fun w9 hs => ?_)
          have hE : restL M S heat = (maxTo (restF M S heat) R.la, 0) := by
            rw [restL, if_neg hvl, if_neg hg7, if_neg (fun ⟨k, h1, h2⟩ => hF1.2.2.2 k (by have := List.mem_range.1 h1; omega) h2), hM.coils.1]
          rw [hE, ← hxe]; exact ⟨rfl, hs.below⟩

end Go.Proofs.Ytcjndnadibbcbaa
end
section
/- The specification of layer 2: Influence, over this seat's translation. -/
namespace Go.Proofs.Ytcjndnadibbcbaa
set_option linter.unusedVariables false
set_option linter.unusedSimpArgs false
open Go.RowKit

end Go.Proofs.Ytcjndnadibbcbaa
end
section
/- The library's contracts that these proofs use, at this seat's numbers: laid by the kit's own programs, in plain words. -/
namespace Go.Proofs
open Go.Shelf
end Go.Proofs
end
section
/- Lists of whole numbers in new memory: slices.Clone, over this seat's translation. -/
namespace Go.Proofs.Ytcjndnadibbcbaa
set_option linter.unusedVariables false
set_option linter.unusedSimpArgs false
open Go.RowKit Go.Shelf

/-- A list of whole numbers that lies in the blocks from B on. -/
structure NewI (B : Nat) (w' : World) (A : Option Addr) (len cap : Nat) (zs : List Int) : Prop where
  isT : IsT 1 intCells w' A len zs
  le : len ≤ cap
  cap : cap ≤ maxLen
  new : ∀ a, A = some a → B ≤ a.block
  lt : ∀ a, A = some a → a.block < w'.heap.size
theorem NewI.below {B : Nat} {w1 w2 : World} {A : Option Addr} {len cap : Nat} {zs : List Int} (h : NewI B w1 A len cap zs) (hb : Below w1.heap.size w1 w2) : NewI B w2 A len cap zs :=
  ⟨h.isT.below hb, h.le, h.cap, h.new, fun a ha => Nat.lt_of_lt_of_le (h.lt a ha) hb.size⟩

theorem NewI.drew {B : Nat} {W : World} {A : Option Addr} {len cap : Nat} {zs : List Int} (h : NewI B W A len cap zs) : NewI B W.drew A len cap zs :=
  h.below ((Below.refl _ _).drew)
theorem NewI.alloc {B : Nat} {W : World} {A : Option Addr} {len cap : Nat} {zs : List Int} (h : NewI B W A len cap zs) (o : Obj) : NewI B (W.alloc o) A len cap zs :=
  h.below ((Below.refl _ _).alloc (Nat.le_refl _) o)
theorem NewI.setCell {B : Nat} {W : World} {A : Option Addr} {len cap : Nat} {zs : List Int} (h : NewI B W A len cap zs) {p : Addr} (hp : ∀ a, A = some a → a.block ≠ p.block) (v : Value) : NewI B (W.setCell p v) A len cap zs :=
  ⟨⟨h.isT.1, fun h0 => by
      obtain ⟨b, o, e, h1, h2⟩ := h.isT.2 h0
      refine ⟨b, o, e, by rw [World.size_setCell]; exact h1, fun j x hx i u hu => ?_⟩
      rw [World.cell?_setCell_other _ _ _ _ (fun e2 => hp _ e (by first | exact congrArg Addr.block e2 | exact (congrArg Addr.block e2).symm))]
      exact h2 j x hx i u hu⟩, h.le, h.cap, h.new, fun a ha => by rw [World.size_setCell]; exact h.lt a ha⟩
theorem NewI.mono {B B' : Nat} {W : World} {A : Option Addr} {len cap : Nat} {zs : List Int} (h : NewI B W A len cap zs) (hB : B' ≤ B) : NewI B' W A len cap zs :=
  ⟨h.isT, h.le, h.cap, fun a ha => Nat.le_trans hB (h.new a ha), h.lt⟩

/-- Block b begins with n zeros, none marked. -/
structure ZeroL (b n : Nat) (W : World) : Prop where
  lt : b < W.heap.size
  cell : ∀ j, j < n → W.cell? ⟨b, j, none⟩ = some (.int .i64 0)
  mark : ∀ j, j < n → W.frozen? ⟨b, j, none⟩ = false
theorem ZeroL.new (W : World) (n : Nat) (t : TypeId) (hn : n ≤ 1000000000000) : ZeroL W.heap.size n (W.alloc (.cells (madeCells #[.int .i64 0] n) t)) := by
  have hrow := World.ownsRow_lit (base := W.heap.size) (size := 1) (e := t) W (madeCells #[.int .i64 0] n) n (Nat.le_refl _) (by unfold maxLen; omega) (by rw [size_madeCells]; omega)
  refine ⟨by simp, fun j hj => ?_, fun j hj => hrow.frozenAt j⟩
  rw [hrow.cellAt j (by omega), toList_madeCells_one]
  simp [List.getElem?_replicate, hj]
theorem ZeroL.below {b n : Nat} {W W' : World} (h : ZeroL b n W) (hb : Below W.heap.size W W') : ZeroL b n W' :=
  ⟨Nat.lt_of_lt_of_le h.lt hb.size, fun j hj => (hb.cell (p := ⟨b, j, none⟩) h.lt).trans (h.cell j hj), fun j hj => (hb.frozen (p := ⟨b, j, none⟩) h.lt).trans (h.mark j hj)⟩
theorem ZeroL.drew {b n : Nat} {W : World} (h : ZeroL b n W) : ZeroL b n W.drew := h.below ((Below.refl _ _).drew)
theorem ZeroL.alloc {b n : Nat} {W : World} (h : ZeroL b n W) (o : Obj) : ZeroL b n (W.alloc o) := h.below ((Below.refl _ _).alloc (Nat.le_refl _) o)
theorem ZeroL.setCell {b n : Nat} {W : World} (h : ZeroL b n W) {p : Addr} (hp : b ≠ p.block) (v : Value) : ZeroL b n (W.setCell p v) :=
  ⟨by rw [World.size_setCell]; exact h.lt, fun j hj => by
      rw [World.cell?_setCell_other _ _ _ _ (fun e => hp (by first | exact congrArg Addr.block e | exact (congrArg Addr.block e).symm))]; exact h.cell j hj, fun j hj => by rw [World.frozen?_setCell]; exact h.mark j hj⟩
end Go.Proofs.Ytcjndnadibbcbaa
end
section
/- Plain arithmetic of numbers in digits of base 10,000, the lowest first. -/
namespace Go.Proofs.Ytcjndnadibbcbaa
set_option linter.unusedVariables false
set_option linter.unusedSimpArgs false

/-- The number that digits make. -/
def val : List Int → Int
  | [] => 0
  | d :: r => d + 10000 * val r
def Digs (l : List Int) : Prop := ∀ d ∈ l, 0 ≤ d ∧ d < 10000
/-- No high zeros. -/
def Canon (l : List Int) : Prop := Digs l ∧ ∀ d, l.getLast? = some d → d ≠ 0

theorem Digs.snoc {l : List Int} {d : Int} (h : Digs l) (h0 : 0 ≤ d) (h1 : d < 10000) : Digs (l ++ [d]) := fun x hx => by
  rcases List.mem_append.1 hx with hx | hx
  · exact h x hx
  · rw [List.mem_singleton.1 hx]; exact ⟨h0, h1⟩
theorem Digs.tail {d : Int} {l : List Int} (h : Digs (d :: l)) : (0 ≤ d ∧ d < 10000) ∧ Digs l := ⟨h d (List.mem_cons_self ..), fun x hx => h x (List.mem_cons_of_mem _ hx)⟩

theorem neg_tdiv (m : Int) (h : 0 ≤ m) : (-m).tdiv 10000 = -(m / 10000) := by rw [Int.neg_tdiv, Int.tdiv_eq_ediv_of_nonneg h]

end Go.Proofs.Ytcjndnadibbcbaa
end
section
/- The specification's whole numbers of any length: how they lie in memory, and the contract of Of, over this seat's translation. -/
namespace Go.Proofs.Ytcjndnadibbcbaa
set_option linter.unusedVariables false
set_option linter.unusedSimpArgs false
open Go.RowKit

/-- A list of ints, nil or not, from block base on. -/
def IsI (w : World) (base : Nat) (A : Option Addr) (n : Nat) (P : List Int) : Prop :=
  P.length = n ∧ (0 < n → ∃ b o : Nat, A = some ⟨b, o, none⟩ ∧ base ≤ b ∧ b < w.heap.size ∧ ∀ j, j < n → w.cell? ⟨b, o + j, none⟩ = some (.int .i64 (P.getD j 0)))
theorem IsI.below {w w1 : World} {base n : Nat} {A : Option Addr} {P : List Int} (h : IsI w base A n P) (hb : Below w.heap.size w w1) : IsI w1 base A n P :=
  ⟨h.1, fun h0 => by
    obtain ⟨b, o, e, h1, h2, h3⟩ := h.2 h0
    exact ⟨b, o, e, h1, Nat.lt_of_lt_of_le h2 hb.size, fun j hj => (hb.cell (p := ⟨b, _, none⟩) h2).trans (h3 j hj)⟩⟩
theorem IsI.setCell {w : World} {base n : Nat} {A : Option Addr} {P : List Int} (h : IsI w base A n P) {p : Addr} (hp : p.block < base) (v : Value) : IsI (w.setCell p v) base A n P :=
  ⟨h.1, fun h0 => by
    obtain ⟨b, o, e, h1, h2, h3⟩ := h.2 h0
    refine ⟨b, o, e, h1, by rw [World.size_setCell]; exact h2, fun j hj => ?_⟩
    rw [World.cell?_setCell_other _ _ _ _ (by intro e; subst e; simp at hp; omega)]
    exact h3 j hj⟩
theorem IsI.mono {w : World} {base base' n : Nat} {A : Option Addr} {P : List Int} (h : IsI w base A n P) (hb : base' ≤ base) : IsI w base' A n P :=
  ⟨h.1, fun h0 => by
    obtain ⟨b, o, e, h1, h2, h3⟩ := h.2 h0
    exact ⟨b, o, e, Nat.le_trans hb h1, h2, h3⟩⟩

/-- A value that is the number z. -/
def BigV (w : World) (v : Value) (z : Int) : Prop :=
  ∃ (A : Option Addr) (n cap : Nat) (P : List Int), v = .agg #[.bool (decide (z < 0)), .slice A n cap] ∧ IsI w 0 A n P ∧ n ≤ cap ∧ n ≤ 64 ∧ Canon P ∧ val P = max z (-z)
theorem BigV.below {w w1 : World} {v : Value} {z : Int} (h : BigV w v z) (hb : Below w.heap.size w w1) : BigV w1 v z := by
  obtain ⟨A, n, cap, P, h1, h2, h3⟩ := h
  exact ⟨A, n, cap, P, h1, h2.below hb, h3⟩

/-- The same, its digits from block base on. -/
def BigB (w : World) (base : Nat) (v : Value) (z : Int) : Prop :=
  ∃ (A : Option Addr) (n cap : Nat) (P : List Int), v = .agg #[.bool (decide (z < 0)), .slice A n cap] ∧ IsI w base A n P ∧ n ≤ cap ∧ n ≤ 64 ∧ Canon P ∧ val P = max z (-z)
theorem BigB.below {w w1 : World} {base : Nat} {v : Value} {z : Int} (h : BigB w base v z) (hb : Below w.heap.size w w1) : BigB w1 base v z := by
  obtain ⟨A, n, cap, P, h1, h2, h3⟩ := h
  exact ⟨A, n, cap, P, h1, h2.below hb, h3⟩
theorem BigB.mono {w : World} {base base' : Nat} {v : Value} {z : Int} (h : BigB w base v z) (hb : base' ≤ base) : BigB w base' v z := by
  obtain ⟨A, n, cap, P, h1, h2, h3⟩ := h
  exact ⟨A, n, cap, P, h1, h2.mono hb, h3⟩
theorem BigB.setCell {w : World} {base : Nat} {v : Value} {z : Int} (h : BigB w base v z) {p : Addr} (hp : p.block < base) (u : Value) : BigB (w.setCell p u) base v z := by
  obtain ⟨A, n, cap, P, h1, h2, h3⟩ := h
  exact ⟨A, n, cap, P, h1, h2.setCell hp u, h3⟩

end Go.Proofs.Ytcjndnadibbcbaa
end
section
/- The specification of layer 2: From, over this seat's translation (written by mk_from.py). -/
namespace Go.Proofs.Ytcjndnadibbcbaa
set_option linter.unusedVariables false
set_option linter.unusedSimpArgs false
open Go.RowKit Go.Shelf

end Go.Proofs.Ytcjndnadibbcbaa
end
