import Derived.Test.YthggkidiidnaoaaGreatWAA
import Derived.Test.YthggkidiidnaoaaGreatWAV
import Derived.Test.YthggkidiidnaoaaGreatWAX
import Derived.Test.YthggkidiidnaoaaGreatWAY
import Derived.Test.YthggkidiidnaoaaGreatWAZ
import Derived.Test.YthggkidiidnaoaaGreatRows
import Derived.KernelRfl
import Derived.Laws.StructEq
import Derived.Handy
namespace Go.Proofs.YthggkidiidnaoaaGreat
set_option linter.unusedVariables false
set_option linter.unusedSimpArgs false
section
open Go.RowKit
theorem flat_ints : ∀ n : Nat, (List.replicate n (0 : Int)).flatMap intCells = List.replicate n (.int .i64 0)
 | 0 => rfl
 | n + 1 => by rw [List.replicate_succ, List.replicate_succ, List.flatMap_cons, flat_ints n]; rfl
end
section
open Go.RowKit
theorem flatZ (n : Nat) : (zerosI n).flatMap intCells = List.replicate n (.int .i64 0) := flat_ints n
set_option maxRecDepth 100000 in
theorem ccut_any (n m : Int) (w : World) (hn : -9223372036854775807 ≤ m ∧ m ≤ 9223372036854775807) : Calls Tryz.prog 163 #[(.int .i64 n), (.int .i64 m)] w (Ret (.int .i64 (cutI n m)) w) := by
 refine calls_ax (vs := [(.int .i64 n), (.int .i64 m)]) Tryz.func163 rfl rfl ?_
 refine ac_seq (ac_region ?_)
 refine al_p (q_assign rfl) (al_end (aq_then ?_))
 refine ac_seq (ac_region ?_)
 refine al_p (q_move rfl) ?_
 refine al_p (q_neg rfl om9) (al_p (q_move rfl) (al_p (q_move rfl) (al_p (q_min rfl rfl) (al_p (q_max rfl rfl) ?_))))
 refine al_p (q_assign rfl) (al_end (aq_then ?_))
 refine ac_ret (ret1 Tryz.results163 rfl (fun w9 hs => ?_))
 exact ⟨rfl, hs.below⟩
set_option maxRecDepth 100000 in
theorem clost_any (n m : Int) (w : World) (hn : -1000000000 ≤ n ∧ n ≤ 1000000000) (hp : 0 ≤ max n (-n) * m ∧ max n (-n) * m ≤ 1000000000000) : Calls Tryz.prog 164 #[(.int .i64 n), (.int .i64 m)] w (Ret (.int .i64 (lostI n m)) w) := by
 have hq : 0 ≤ (max n (-n) * m + 1000 - 1).tdiv 1000 ∧ (max n (-n) * m + 1000 - 1).tdiv 1000 ≤ 1000000000000 := by rw [Int.tdiv_eq_ediv_of_nonneg om9]; omega
 refine calls_ax (vs := [(.int .i64 n), (.int .i64 m)]) Tryz.func164 rfl rfl ?_
 refine ac_seq (ac_region ?_)
 refine al_p (q_assign rfl) (al_end (aq_then ?_))
 refine ac_seq (ac_region ?_)
 refine al_p (q_move rfl) (al_p (q_move rfl) ?_)
 refine al_p (q_neg rfl om9) (al_p (q_max rfl rfl) (al_p (q_move rfl) ?_))
 refine al_p (q_mul rfl rfl om9) ?_
 refine al_p (q_add rfl rfl om9) ?_
 refine al_p (q_sub rfl rfl om9) ?_
 refine al_p (q_quo rfl rfl om9) (al_p (q_assign rfl) (al_end (aq_then ?_)))
 refine ac_seq (ac_seq (ac_region ?_))
 refine al_p (q_move rfl) (al_p (q_lss rfl rfl) (al_end (aq_then ?_)))
 refine ac_cond rfl (fun h1 => ?_) (fun h1 => ?_)
 ·refine ac_seq (ac_region ?_)
  refine al_p (q_move rfl) ?_
  refine al_p (q_neg rfl om9) (al_p (q_assign rfl) (al_end (aq_then ?_)))
  refine ac_ret (aq_thenR (ret1 Tryz.results164 rfl (fun w9 hs => ?_)))
  exact ⟨by rw [lostI, if_pos (by have := of_decide_eq_true h1; omega)], hs.below⟩
 ·refine ac_skip (aq_then (ac_seq (ac_region ?_)))
  refine al_p (q_move rfl) (al_p (q_assign rfl) (al_end (aq_then ?_)))
  refine ac_ret (ret1 Tryz.results164 rfl (fun w9 hs => ?_))
  exact ⟨by rw [lostI, if_neg (by have := of_decide_eq_false h1; omega)], hs.below⟩
def mixC (n k : Nat) (f g : Nat → Value) : List Value := (List.range n).map fun j => if j < k then f j else g j
theorem mixC_zero (n : Nat) (f g : Nat → Value) : mixC n 0 f g = lst n g := by simp [mixC, lst]
theorem mixC_all (n : Nat) (f g : Nat → Value) : mixC n n f g = lst n f := lst_ext (fun k hk => by simp [hk])
theorem mixC_len (n k : Nat) (f g : Nat → Value) : (mixC n k f g).length = n := by simp [mixC]
theorem mixC_set (n k : Nat) (f g : Nat → Value) (hk : k < n) : (mixC n k f g).set k (f k) = mixC n (k + 1) f g := by
 apply List.ext_getElem?
 intro i
 unfold mixC
 rw [List.getElem?_set]
 rcases Nat.lt_or_ge i n with hi | hi
 ·by_cases h : k = i
  ·subst h; simp [hk]
  ·simp only [List.getElem?_map, List.getElem?_range hi, Option.map_some, if_neg h, List.length_map, List.length_range]
   have : (i < k) ↔ (i < k + 1) := by omega
   simp only [this]
 ·rw [List.getElem?_eq_none (by simp; omega)]
  rw [if_neg om9, List.getElem?_eq_none (by simp; omega)]
theorem mixC_old (n k : Nat) (f g : Nat → Value) (i : Nat) (hi : i < n) (hk : k ≤ i) : (mixC n k f g)[i]? = some (g i) := by
 simp only [mixC, List.getElem?_map, List.getElem?_range hi, Option.map_some]
 rw [if_neg om9]
theorem mixC_new (n k : Nat) (f g : Nat → Value) (i : Nat) (hi : i < n) (hk : i < k) : (mixC n k f g)[i]? = some (f i) := by
 simp only [mixC, List.getElem?_map, List.getElem?_range hi, Option.map_some]
 rw [if_pos hk]
theorem rep_lst (n : Nat) (v : Value) : List.replicate n v = lst n (fun _ => v) := by
 apply List.ext_getElem?
 intro i
 rcases Nat.lt_or_ge i n with hi | hi
 ·rw [lst_get _ hi]; simp [hi]
 ·rw [List.getElem?_eq_none (by simpa using hi), List.getElem?_eq_none (by rw [lst_length]; exact hi)]
theorem lst_ints (n : Nat) (f : Nat → Int) : (lst n f).flatMap intCells = lst n (fun j => Value.int .i64 (f j)) := by rw [flat_int]; simp [lst]
theorem lst_bools (n : Nat) (f : Nat → Bool) : (lst n f).flatMap boolCells = lst n (fun j => Value.bool (f j)) := by
 unfold lst
 induction n with
 | zero => rfl
 | succ n ih => rw [List.range_succ, List.map_append, List.flatMap_append, ih, List.map_append]; rfl
abbrev intsF (l : List Int) (j : Nat) : Value := .int .i64 (iA l j)
theorem new_lst {N : Nat} {D : List Deferred} {U : Snaps} {L : Boxes} {w0 w : World} {i b n : Nat} {f : Nat → Int} (h : Sta ⟨N, D, w0, []⟩ U L w) (hi : L[i]? = some (b, .cells (lst n fun j => .int .i64 (f j)))) (hn : n ≤ 1000000) : NewT 1 intCells w0.heap.size w (some ⟨b, 0, none⟩) n n (lst n f) :=
 ⟨isT_box0 (n := 1) (enc := intCells) (fun _ => rfl) (h.at i hi) (lst_ints n f) (lst_length n f), h.new i hi, Nat.le_refl _, by omega⟩
set_option maxRecDepth 100000 in
theorem differences_any (A B : Option Addr) (la ca lb cb : Nat) (za zb : List Int) (w : World) (i1 : IsT 1 intCells w A la za) (i2 : IsT 1 intCells w B lb zb) (hl : la = lb) (hm : la ≤ 1000000) (d1 : ∀ y ∈ za, -1000000000 ≤ y ∧ y ≤ 1000000000) (d2 : ∀ y ∈ zb, -1000000000 ≤ y ∧ y ≤ 1000000000) : Calls Tryz.prog 142 #[(.slice A la ca), (.slice B lb cb)] w (fun e w' => ∃ A' c, e = .returned (.slice A' la c) ∧ NewT 1 intCells w.heap.size w' A' la c (diffL za zb) ∧ Below w.heap.size w w') := by
 refine calls_ax (vs := [(.slice A la ca), (.slice B lb cb)]) Tryz.func142 rfl rfl ?_
 refine ac_seq (ac_region ?_)
 refine al_p (q_assign rfl) (al_end (aq_then ?_))
 refine ac_seq (ac_region ?_)
 refine al_p (q_move rfl) (al_p (q_lenS rfl Tryz.runUnderlying30) ?_)
 refine al_makeInts (n := la) (z := (.int .i64 0)) (bytes := 8) rfl rfl rfl Tryz.underlying30 kr9 rfl om9 de9 rfl rfl ?_
 intro b1
 refine al_p (q_assign rfl) (al_end (aq_then ?_))
 refine ac_seq (ac_seq (ac_region ?_))
 refine al_p (q_move rfl) (al_p (q_lenS rfl Tryz.runUnderlying30) (al_p (q_move rfl) (al_end (aq_then ?_))))
 refine ac_block ?_
 refine ac_loop (β := Nat) (fun x => x ≤ la) (fun x => [(0, (.slice A la ca)), (1, (.slice B lb cb)), (4, (.slice none 0 0)), (5, (.slice (some ⟨b1, 0, none⟩) (la) (la))), (11, (.int .i64 (la : Int))), (12, (.int .i64 (x : Int)))]) (fun _ => _) (fun x => [(b1, .cells (mixC la x (fun j => .int .i64 (iA za j - iA zb j)) (fun _ => .int .i64 0)))]) (fun x => la - x) 0 om9 ⟨rfl, rfl, rfl, rfl, rfl, rfl, trivial⟩ (fun w9 hs => (by rw [mixC_zero, ← rep_lst]; exact hs)) (fun x hF1 => ?_)
 refine ac_seq (ac_region ?_)
 refine al_p (q_lss rfl rfl) (al_end (aq_then ?_))
 refine ac_seq ?_
 refine ac_cond rfl (fun h1 => ?_) (fun h1 => ?_)
 ·have hxl : x < la := by have := of_decide_eq_true h1; omega
  obtain ⟨b11, o11, hA1, hlt1, hget1⟩ := i1.2 om9
  obtain ⟨b21, o21, hA2, hlt2, hget2⟩ := i2.2 om9
  have hx1 := iA_get (l := za) (k := x) (by rw [i1.1]; exact hxl)
  have hx2 := iA_get (l := zb) (k := x) (by rw [i2.1]; omega)
  have q1 := d1 _ (List.mem_of_getElem? hx1)
  have q2 := d2 _ (List.mem_of_getElem? hx2)
  refine ac_skip (aq_then (ac_seq (ac_block (ac_seq (ac_region ?_)))))
  refine al_p (q_move rfl) (al_p (q_assign rfl) (al_end (aq_then ?_)))
  refine ac_draw 12 kr9 kr9 ?_
  refine ah_t 0 (fun w9 hs => hs) rfl rfl kr9 (q_move rfl) (ah_t 1 (fun w9 hs => hs) rfl rfl kr9 (q_move rfl) (ah_t 2 (fun w9 hs => hs) rfl rfl kr9 (q_move rfl) (ah_t 3 (fun w9 hs => hs) rfl rfl kr9 (q_move rfl) ?_)))
  refine ah_t 4 (fun w9 hs => hs) rfl rfl kr9 (q_indexAddrA (i := x) (o11 + x * 1 + 0) hA1 rfl rfl rfl om9 Tryz.runUnderlying30 Tryz.sizeOf3 rfl) (ah_t 5 (fun w9 hs => hs) rfl rfl kr9 (q_loadX rfl Tryz.isAgg3 (fun w9 hs => (hs.below.cell (p := ⟨_, _, none⟩) hlt1).trans ((hget1 x _ hx1) 0 _ rfl))) (ah_t 6 (fun w9 hs => hs) rfl rfl kr9 (q_move rfl) (ah_t 7 (fun w9 hs => hs) rfl rfl kr9 (q_move rfl) ?_)))
  refine ah_t 8 (fun w9 hs => hs) rfl rfl kr9 (q_indexAddrA (i := x) (o21 + x * 1 + 0) hA2 rfl rfl rfl om9 Tryz.runUnderlying30 Tryz.sizeOf3 rfl) (ah_t 9 (fun w9 hs => hs) rfl rfl kr9 (q_loadX rfl Tryz.isAgg3 (fun w9 hs => (hs.below.cell (p := ⟨_, _, none⟩) hlt2).trans ((hget2 x _ hx2) 0 _ rfl))) ?_)
  refine ah_t 10 (fun w9 hs => hs) rfl rfl kr9 (q_sub rfl rfl om9) ?_
  refine ah_t 11 (fun w9 hs => hs) rfl rfl kr9 (q_indexAddr (i := x) (x) rfl rfl rfl hxl Tryz.runUnderlying30 Tryz.sizeOf3 om9) (ah_one 12 rfl kr9 (fun hok1 hcl1 => ?_))
  refine al_store1 (i := 0) rfl rfl rfl rfl Tryz.sizeOf3 (SetAt.ofSet (by rw [mixC_len]; exact hxl)) .k0 rfl (al_end (ah_last kr9 ?_))
  refine aq_inN (aq_then (ac_region ?_))
  refine al_p (q_add rfl rfl om9) (al_p (q_move rfl) (al_end (aq_then ?_)))
  skip
  refine aq_round (x + 1) om9 om9 ⟨rfl, rfl, rfl, rfl, rfl, rfl, trivial⟩ (fun w9 hs => (by have h9 := hs; rw [mixC_set la x _ _ hxl] at h9; exact h9))
 ·have hxe : x = la := by have := of_decide_eq_false h1; omega
  refine ac_exit (aq_thenE (aq_thenE (aq_hit (aq_then ?_))))
  refine ac_seq (ac_region ?_)
  refine al_p (q_move rfl) (al_p (q_assign rfl) (al_end (aq_then ?_)))
  refine ac_ret (ret1 Tryz.results142 rfl (fun w9 hs => ?_))
  rw [hxe, mixC_all] at hs
  exact ⟨some ⟨b1, 0, none⟩, la, rfl, by rw [diffL, i1.1]; exact new_lst hs (i := 0) rfl hm, hs.below⟩
end
section
open Go.RowKit
set_option maxRecDepth 100000 in
theorem applied_any (R : MachR) (M : MachD) (RS : StR) (S : StD) (A : Option Addr) (len cap : Nat) (ch : List Int) (w : World) (hM : IsM w R M) (hS : IsS w RS S) (hF : FitS M S) (hI : IsT 1 intCells w A len ch) (hc : validCh M ch 1000000000000000 = true) : Calls Tryz.prog 161 #[(.agg (machCells R M)), (RS.v S.tick), (.slice A len cap)] w (fun e w' => ∃ A' c, e = .returned (.slice A' R.la c) ∧ NewT 1 intCells w.heap.size w' A' R.la c (appL M S ch) ∧ Below w.heap.size w w') := by
 have n1 := hM.coils.1
 have n2 := hS.cur.coils.1
 have n3 := hS.trip.1
 have n4 := hI.1
 have hv := validCh_iff.1 hc
 have n5 := (sound_of hF.cur.check).coils.1
 have n6 := hF.cur.coils.1
 have n7 := hF.trip
 refine calls_ax (vs := [(.agg (machCells R M)), (RS.v S.tick), (.slice A len cap)]) Tryz.func161 rfl rfl ?_
 refine ac_seq (ac_region ?_)
 refine al_nb (r_box rfl rfl) ?_
 intro b1
 refine al_nb (r_box rfl rfl) ?_
 intro b2
 refine al_p (q_assign rfl) (al_end (aq_then ?_))
 refine ac_seq (ac_region ?_)
 refine al_p (q_fieldAddr 1 rfl Tryz.runUnderlying29 rfl Tryz.sizeOf22 de9 rfl) (al_p (q_load (i := 1) rfl rfl rfl Tryz.isAgg22) (al_p (q_lenS rfl Tryz.runUnderlying22) ?_))
 refine al_makeInts (n := R.la) (z := (.int .i64 0)) (bytes := 8) rfl rfl rfl Tryz.underlying30 kr9 rfl om9 de9 rfl rfl ?_
 intro b3
 refine al_p (q_assign rfl) (al_end (aq_then ?_))
 refine ac_seq (ac_seq (ac_region ?_))
 refine al_p (q_fieldAddr 1 rfl Tryz.runUnderlying29 rfl Tryz.sizeOf22 de9 rfl) (al_p (q_load (i := 2) rfl rfl rfl Tryz.isAgg22) (al_p (q_lenS rfl Tryz.runUnderlying22) (al_p (q_move rfl) (al_end (aq_then ?_)))))
 refine ac_block ?_
 refine ac_loop (β := Nat) (fun x => x ≤ R.la) (fun x => [(2, (.slice A len cap)), (4, (.pointer (some ⟨b2, 0, none⟩))), (6, (.slice none 0 0)), (7, (.slice (some ⟨b3, 0, none⟩) (R.la) (R.la))), (17, (.slice (R.A) R.la R.ca)), (18, (.int .i64 (R.la : Int))), (19, (.int .i64 (x : Int)))]) (fun _ => _) (fun x => [(b3, .cells (mixC R.la x (fun j => .int .i64 (appA M S ch j)) (fun _ => .int .i64 0))), (b2, _), (b1, _)]) (fun x => R.la - x) 0 om9 ⟨rfl, rfl, rfl, rfl, rfl, rfl, rfl, trivial⟩ (fun w9 hs => (by rw [mixC_zero, ← rep_lst]; exact hs)) (fun x hF1 => ?_)
 refine ac_seq (ac_region ?_)
 refine al_p (q_lss rfl rfl) (al_end (aq_then ?_))
 refine ac_seq ?_
 refine ac_cond rfl (fun h1 => ?_) (fun h1 => ?_)
 ·have hxl : x < R.la := by have := of_decide_eq_true h1; omega
  obtain ⟨b11, o11, hA1, hlt1, hget1⟩ := hM.coils.2 om9
  have hx1 := cA_get (M := M) (k := x) om9
  obtain ⟨b21, o21, hA2, hlt2, hget2⟩ := hS.cur.coils.2 om9
  have hx2 := iA_get (l := S.C.coils) (k := x) om9
  obtain ⟨b31, o31, hA3, hlt3, hget3⟩ := hS.trip.2 om9
  have hx3 := bA_get (l := S.trip) (k := x) om9
  obtain ⟨b41, o41, hA4, hlt4, hget4⟩ := hI.2 om9
  have hx4 := iA_get (l := ch) (k := x) om9
  have hco := cA_ok hF.cur.check (k := x) om9
  have q1 := hco.step
  have q2 := hco.cur
  have q3 := hF.cur.coils.2 _ (List.mem_of_getElem? hx2)
  have q4 := hv.2 _ (List.mem_of_getElem? hx4)
  have q5 := cutI_bd (n := (iA ch x)) (most := (cA M x).step) om9
  have q6 := cutI_bd (n := ((iA S.C.coils x) + cutI (iA ch x) (cA M x).step)) (most := (cA M x).cur) om9
  refine ac_skip (aq_then (ac_seq (ac_block (ac_seq (ac_region ?_)))))
  refine al_p (q_move rfl) ?_
  refine al_p (q_indexAddrA (i := x) (o11 + x * 8 + 0) hA1 rfl rfl rfl om9 Tryz.runUnderlying22 Tryz.sizeOf51 rfl) (al_p (q_loadXs (CoilD.cells (cA M x)) rfl Tryz.isAgg51 Tryz.sizeOf51 (fun w9 hs j9 v9 h9 => by rw [addr_add]; exact (hs.below.cell (p := ⟨_, _, none⟩) hlt1).trans ((hget1 x _ hx1) j9 v9 h9)) rfl) (al_new (fun b => .pointer (some ⟨b, 0, none⟩)) (r_alloc Tryz.zeroValue51 rfl) rfl rfl rfl ?_))
  intro b4
  refine al_p (q_assign rfl) (al_storeAll (i := 0) rfl rfl rfl rfl Tryz.sizeOf51 rfl rfl .k0 rfl (al_end (aq_then ?_)))
  refine ac_seq (ac_region ?_)
  refine al_p (q_fieldAddr 1 rfl Tryz.runUnderlying35 rfl Tryz.sizeOf32 de9 rfl) ?_
  refine al_p (q_fieldAddr 1 rfl Tryz.runUnderlying32 rfl Tryz.sizeOf30 de9 rfl) (al_p (q_load (i := 2) rfl rfl rfl Tryz.isAgg30) (al_p (q_move rfl) ?_))
  refine al_p (q_indexAddrA (i := x) (o21 + x * 1 + 0) hA2 rfl rfl rfl om9 Tryz.runUnderlying30 Tryz.sizeOf3 rfl) (al_p (q_loadX rfl Tryz.isAgg3 (fun w9 hs => (hs.below.cell (p := ⟨_, _, none⟩) hlt2).trans ((hget2 x _ hx2) 0 _ rfl))) (al_p (q_assign rfl) (al_end (aq_then ?_))))
  refine ac_seq (ac_seq (ac_region ?_))
  refine al_p (q_fieldAddr 5 rfl Tryz.runUnderlying35 rfl Tryz.sizeOf33 de9 rfl) (al_p (q_load (i := 2) rfl rfl rfl Tryz.isAgg33) (al_p (q_move rfl) ?_))
  refine al_p (q_indexAddrA (i := x) (o31 + x * 1 + 0) hA3 rfl rfl rfl om9 Tryz.runUnderlying33 Tryz.sizeOf4 rfl) (al_p (q_loadX rfl Tryz.isAgg4 (fun w9 hs => (hs.below.cell (p := ⟨_, _, none⟩) hlt3).trans ((hget3 x _ hx3) 0 _ rfl))) (al_end (aq_then ?_)))
  refine ac_cond rfl (fun h2 => ?_) (fun h2 => ?_)
  ·have hval : cutI (-(iA S.C.coils x)) (cA M x).step = appA M S ch x := by simp [appA, appI, show bA S.trip x = true from h2]
   refine ac_seq (ac_region ?_)
   refine al_p (q_move rfl) (al_p (q_move rfl) (al_p (q_move rfl) ?_))
   refine al_p (q_neg rfl om9) ?_
   refine al_p (q_fieldAddr 5 rfl Tryz.runUnderlying51 rfl Tryz.sizeOf3 de9 rfl) (al_p (q_load (i := 0) rfl rfl rfl Tryz.isAgg3) (al_call Tryz.call163 (.cons rfl (.cons rfl .nil)) rfl rfl (fun w1 hs1 => ?_)))
   refine (ccut_any (-(iA S.C.coils x)) (cA M x).step _ om9).mono ?_
   rintro e u1 ⟨rfl, hb_1⟩
   refine ⟨_, rfl, hb_1, ?_⟩
   clear hs1
   refine al_p (q_indexAddr (i := x) (x) rfl rfl rfl hxl Tryz.runUnderlying30 Tryz.sizeOf3 om9) ?_
   refine al_store1 (i := 1) rfl rfl rfl rfl Tryz.sizeOf3 (SetAt.ofSet (by rw [mixC_len]; exact hxl)) .k1 rfl (al_end (aq_then ?_))
   refine ac_exit (aq_thenE (aq_hit (aq_then (ac_region ?_))))
   refine al_p (q_add rfl rfl om9) (al_p (q_move rfl) (al_end (aq_then ?_)))
   skip
   refine aq_round (x + 1) om9 om9 ⟨rfl, rfl, rfl, rfl, rfl, rfl, rfl, trivial⟩ (fun w9 hs => (by have h9 := ((hs.fewer 1 rfl).tail 1 rfl); rw [hval, mixC_set R.la x _ _ hxl] at h9; exact h9))
  ·have hval : cutI (cutI ((iA S.C.coils x) + cutI (iA ch x) (cA M x).step) (cA M x).cur - (iA S.C.coils x)) (cA M x).step = appA M S ch x := by simp [appA, appI, show bA S.trip x = false from h2]
   refine ac_skip (aq_then (ac_seq (ac_draw 12 kr9 kr9 ?_)))
   refine ah_t 0 (fun w9 hs => hs) rfl rfl kr9 (q_move rfl) (ah_t 1 (fun w9 hs => hs) rfl rfl kr9 (q_move rfl) (ah_t 2 (fun w9 hs => hs) rfl rfl kr9 (q_move rfl) ?_))
   refine ah_t 3 (fun w9 hs => hs) rfl rfl kr9 (q_indexAddrA (i := x) (o41 + x * 1 + 0) hA4 rfl rfl rfl om9 Tryz.runUnderlying30 Tryz.sizeOf3 rfl) (ah_t 4 (fun w9 hs => hs) rfl rfl kr9 (q_loadX rfl Tryz.isAgg3 (fun w9 hs => (hs.below.cell (p := ⟨_, _, none⟩) hlt4).trans ((hget4 x _ hx4) 0 _ rfl))) ?_)
   refine ah_t 5 (fun w9 hs => hs) rfl rfl kr9 (q_fieldAddr 5 rfl Tryz.runUnderlying51 rfl Tryz.sizeOf3 de9 rfl) (ah_t 6 (fun w9 hs => hs) rfl rfl kr9 (q_load (i := 0) rfl rfl rfl Tryz.isAgg3) ?_)
   refine ah_t 9 (fun w9 hs => hs) rfl rfl kr9 (q_fieldAddr 4 rfl Tryz.runUnderlying51 rfl Tryz.sizeOf3 de9 rfl) (ah_t 10 (fun w9 hs => hs) rfl rfl kr9 (q_load (i := 0) rfl rfl rfl Tryz.isAgg3) (ah_one 7 rfl kr9 (fun hok1 hcl1 => ?_)))
   refine al_call Tryz.call163 (.cons rfl (.cons rfl .nil)) rfl rfl (fun w2 hs2 => ?_)
   refine (ccut_any (iA ch x) (cA M x).step _ om9).mono ?_
   rintro e u2 ⟨rfl, hb_2⟩
   refine ⟨_, rfl, hb_2, ?_⟩
   clear hs2
   refine al_end (ah_back hok1 hcl1 (fun w9 hs => (hs.fewer 1 rfl)) ?_)
   refine ah_t 8 (fun w9 hs => (hs.fewer 1 rfl)) rfl rfl kr9 (q_add rfl rfl om9) (ah_one 11 rfl kr9 (fun hok2 hcl2 => ?_))
   refine al_call Tryz.call163 (.cons rfl (.cons rfl .nil)) rfl rfl (fun w3 hs3 => ?_)
   refine (ccut_any ((iA S.C.coils x) + cutI (iA ch x) (cA M x).step) (cA M x).cur _ om9).mono ?_
   rintro e u3 ⟨rfl, hb_3⟩
   refine ⟨_, rfl, hb_3, ?_⟩
   clear hs3
   refine al_end (ah_back hok2 hcl2 (fun w9 hs => (hs.fewer 2 rfl)) ?_)
   refine ah_one 12 rfl kr9 (fun hok3 hcl3 => ?_)
   refine al_p (q_assign rfl) (al_end (ah_last kr9 ?_))
   refine aq_then (ac_region (al_p (q_move rfl) (al_p (q_move rfl) (al_p (q_move rfl) ?_))))
   refine al_p (q_move rfl) ?_
   refine al_p (q_sub rfl rfl om9) ?_
   refine al_p (q_fieldAddr 5 rfl Tryz.runUnderlying51 rfl Tryz.sizeOf3 de9 rfl) (al_p (q_load (i := 0) rfl rfl rfl Tryz.isAgg3) (al_call Tryz.call163 (.cons rfl (.cons rfl .nil)) rfl rfl (fun w4 hs4 => ?_)))
   refine (ccut_any (cutI ((iA S.C.coils x) + cutI (iA ch x) (cA M x).step) (cA M x).cur - (iA S.C.coils x)) (cA M x).step _ om9).mono ?_
   rintro e u4 ⟨rfl, hb_4⟩
   refine ⟨_, rfl, hb_4, ?_⟩
   clear hs4
   refine al_p (q_indexAddr (i := x) (x) rfl rfl rfl hxl Tryz.runUnderlying30 Tryz.sizeOf3 om9) ?_
   refine al_store1 (i := 1) rfl rfl rfl rfl Tryz.sizeOf3 (SetAt.ofSet (by rw [mixC_len]; exact hxl)) .k1 rfl (al_end (aq_inN (aq_then (ac_region ?_))))
   refine al_p (q_add rfl rfl om9) (al_p (q_move rfl) (al_end (aq_then ?_)))
   skip
   refine aq_round (x + 1) om9 om9 ⟨rfl, rfl, rfl, rfl, rfl, rfl, rfl, trivial⟩ (fun w9 hs => (by have h9 := ((hs.fewer 3 rfl).tail 1 rfl); rw [hval, mixC_set R.la x _ _ hxl] at h9; exact h9))
 ·have hxe : x = R.la := by have := of_decide_eq_false h1; omega
  refine ac_exit (aq_thenE (aq_thenE (aq_hit (aq_then ?_))))
  refine ac_seq (ac_region ?_)
  refine al_p (q_move rfl) (al_p (q_assign rfl) (al_end (aq_then ?_)))
  refine ac_ret (ret1 Tryz.results161 rfl (fun w9 hs => ?_))
  rw [hxe, mixC_all] at hs
  exact ⟨some ⟨b3, 0, none⟩, R.la, rfl, by rw [appL, n1]; exact new_lst hs (i := 0) rfl om9, hs.below⟩
end
section
set_option autoImplicit false
open Go.RowKit
def mixF (n k : Nat) (F G : Nat → List Value) : List Value := (List.range n).flatMap fun j => if j < k then F j else G j
theorem flatMap_len {α : Type} {z : Nat} (l : List α) {F : α → List Value} (hF : ∀ j, (F j).length = z) : (l.flatMap F).length = l.length * z := by
 induction l with
 | nil => simp
 | cons x r ih => rw [List.flatMap_cons, List.length_append, hF, ih, List.length_cons, Nat.add_mul]; omega
theorem flatMap_ext {α : Type} {l : List α} {F G : α → List Value} (h : ∀ x ∈ l, F x = G x) : l.flatMap F = l.flatMap G := by
 induction l with
 | nil => rfl
 | cons x r ih => rw [List.flatMap_cons, List.flatMap_cons, h x (by simp), ih (fun y hy => h y (by simp [hy]))]
theorem mixF_len {n k z : Nat} {F G : Nat → List Value} (hF : ∀ j, (F j).length = z) (hG : ∀ j, (G j).length = z) : (mixF n k F G).length = n * z := by
 have := flatMap_len (z := z) (List.range n) (F := fun j => if j < k then F j else G j) (fun j => by split <;> simp [hF, hG])
 rw [List.length_range] at this; exact this
theorem mixF_zero (n : Nat) (F G : Nat → List Value) : mixF n 0 F G = (List.range n).flatMap G := by simp [mixF]
theorem range_at {n k : Nat} (hk : k < n) : List.range n = List.range k ++ k :: List.range' (k + 1) (n - (k + 1)) := by
 have h : n = k + ((n - (k + 1)) + 1) := by omega
 conv => lhs; rw [h, List.range_add, List.range_succ_eq_map]
 rw [List.map_cons, List.map_map, Nat.add_zero, List.range'_eq_map_range]
 congr 2
 apply List.map_congr_left
 intro a _
 simp only [Function.comp_def]
 omega
theorem mixF_store {n k z : Nat} {F G : Nat → List Value} (hF : ∀ j, (F j).length = z) (hG : ∀ j, (G j).length = z) (hk : k < n) : mixF n (k + 1) F G = (mixF n k F G).take (k * z) ++ F k ++ (mixF n k F G).drop (k * z + (F k).length) := by
 have e1 : mixF n k F G = (List.range k).flatMap F ++ (G k ++ (List.range' (k + 1) (n - (k + 1))).flatMap G) := by
  unfold mixF
  rw [range_at hk, List.flatMap_append, List.flatMap_cons, if_neg om9]
  congr 1
  ·exact flatMap_ext fun j hj => by rw [if_pos (List.mem_range.1 hj)]
  ·congr 1
   exact flatMap_ext fun j hj => by rw [List.mem_range'_1] at hj; rw [if_neg om9]
 have e2 : mixF n (k + 1) F G = (List.range k).flatMap F ++ (F k ++ (List.range' (k + 1) (n - (k + 1))).flatMap G) := by
  unfold mixF
  rw [range_at hk, List.flatMap_append, List.flatMap_cons, if_pos om9]
  congr 1
  ·exact flatMap_ext fun j hj => by rw [if_pos (by have := List.mem_range.1 hj; omega)]
  ·congr 1
   exact flatMap_ext fun j hj => by rw [List.mem_range'_1] at hj; rw [if_neg om9]
 have hA : ((List.range k).flatMap F).length = k * z := by rw [flatMap_len _ hF, List.length_range]
 rw [e1, e2, List.take_left' hA, ← List.append_assoc ((List.range k).flatMap F) (G k), List.drop_left' (by rw [List.length_append, hA, hG, hF]), List.append_assoc]
theorem mixF_old {n k z : Nat} {F G : Nat → List Value} (hF : ∀ j, (F j).length = z) (hG : ∀ j, (G j).length = z) {j : Nat} (hj : j < n) {i : Nat} {v : Value} (hv : (if j < k then F j else G j)[i]? = some v) : (mixF n k F G)[j * z + i]? = some v :=
 flat_get (n := z) (enc := fun j => if j < k then F j else G j) (fun j => by split <;> simp [hF, hG]) (List.range n) j j (by simp [hj]) i v hv
theorem made_flat (zs : List Value) (n : Nat) (hz : 0 < zs.length) : (madeCells zs.toArray (n * zs.length)).toList = (List.range n).flatMap (fun _ => zs) := by
 apply List.ext_getElem?
 intro i
 rcases Nat.lt_or_ge i (n * zs.length) with h | h
 ·have hm : i % zs.length < zs.length := Nat.mod_lt _ hz
  have hd : i / zs.length < n := Nat.div_lt_of_lt_mul (by rw [Nat.mul_comm]; exact h)
  have e := flat_get (n := zs.length) (enc := fun _ : Nat => zs) (fun _ => rfl) (List.range n) (i / zs.length) (i / zs.length) (by simp [hd]) (i % zs.length) _ (List.getElem?_eq_getElem hm)
  rw [Nat.div_add_mod'] at e
  rw [e]
  simp [madeCells, h, hm]
 ·rw [List.getElem?_eq_none (by rw [Array.length_toList, size_madeCells]; exact h), List.getElem?_eq_none (by rw [flatMap_len (z := zs.length) _ (fun _ => rfl), List.length_range]; exact h)]
section
variable {P : Program} {e0 : Cfg} {U : Snaps} {l : Slots} {L : Boxes} {ops : Array Oper} {Q : Exit → Act → World → Prop} {rest : List Oper} {d : Nat} {v : Value}
variable {ty : TypeId} {pos : String} {af : Array Edge} {g : Option (Nat × Bool)} {dd : Option Nat}
theorem al_makeAgg {t e bytes n z : Nat} (zs : List Value) {zv : Value} {x : Int} {ol oc : Operand} (hl : E l ol = some (.int .i64 x)) (hc : E l oc = some (.int .i64 x)) (hx : x = (n : Int)) (hu : P.underlying t = some (.slice e)) (hinfo : (P.info? e).map (fun i => (i.zero, i.size, i.bytes)) = some (some zv, z, bytes)) (hz1 : zv.cells = zs.toArray) (hz : zs.length = z) (h0 : Nat.blt 0 z = true) (hm : n ≤ 1000000) (hb : bytes ≤ 10000)
  (hn : Nat.blt d e0.n = true) (hw : want ops l g = some true)
  (k : ∀ b, AL P ops Q e0 U ((d, .slice (some ⟨b, 0, none⟩) n n) :: l) ((b, .cells ((List.range n).flatMap fun _ => zs)) :: L) rest) :
  AL P ops Q e0 U l L (⟨some d, .makeSlice t ol oc, ty, pos, af, g⟩ :: rest) :=
 al_run2 (K := True) hw rfl hn (fun a w hf hs => by
  subst hx
  obtain ⟨i, hi, hzz, h1, rfl⟩ := info_split hinfo
  have hnb : i.bytes * n ≤ 10000 * 1000000 := Nat.mul_le_mul hb hm
  have hb' : (i.bytes : Int) * (n : Int) ≤ 281474976710656 := by
   have h : ((i.bytes * n : Nat) : Int) ≤ 281474976710656 := by omega
   rwa [Int.natCast_mul] at h
  have hr := run_make (P := P) w t e i zv hu hi hzz .i64 .i64 (n : Int) (n : Int) om9 (Int.le_refl _) hb' om9
  simp only [Int.toNat_natCast, h1, hz1] at hr
  have hq := made_flat zs n (by rw [hz]; simpa [Nat.blt_eq] using h0)
  rw [hz] at hq
  have hA : madeCells zs.toArray (n * z) = ((List.range n).flatMap fun _ => zs).toArray := Array.ext' (by simpa using hq)
  rw [hA] at hr
  exact ⟨_, _, U, _, by simp [execOp, hf.ev hl, hf.ev hc, hr], hs.alloc _ e, k _⟩)
theorem al_storeV {t b off i z : Nat} {cs cs' vs : List Value} {L' : Boxes} {ox oy : Operand} (hx : E l ox = some (.pointer (some ⟨b, off, none⟩))) (hy : E l oy = some (.agg vs.toArray)) (hi : L[i]? = some (b, .cells cs))
  (hz : ∀ w, (sizeOf t).run P w = .ok z w) (hz' : vs.length = z) (hl : off + z ≤ cs.length) (hone : vs.all (fun v => v.oneCell') = true) (hc : cs' = cs.take off ++ vs ++ cs.drop (off + vs.length)) (hL : SetAt i (b, .cells cs') L L') (hw : want ops l g = some true)
  (k : AL P ops Q e0 U l L' rest) : AL P ops Q e0 U l L (⟨none, .store t ox oy, ty, pos, af, g⟩ :: rest) :=
 al_store (cs' := cs') hx hy rfl hi hz hz' (by simpa using hl) hone hc _ hL.eq hw k
end
def RowsF (F : Nat → List Int) (m : Nat) (G : Boxes) (rows : List (Option Addr × Nat)) : Prop := ∀ (i : Nat) r, rows[i]? = some r → ∃ b sp, r.1 = some ⟨b, 0, none⟩ ∧ (b, Cont.cells ((F i).map (Value.int .i64) ++ sp)) ∈ G ∧ (F i).length = m ∧ m ≤ r.2 ∧ r.2 ≤ 9223372036854775807
theorem RowsF.nil (F : Nat → List Int) (m : Nat) (G : Boxes) : RowsF F m G [] := fun i r h => by simp at h
theorem RowsF.snoc {F : Nat → List Int} {m : Nat} {G : Boxes} {rows : List (Option Addr × Nat)} (h : RowsF F m G rows) {o : Gr} {cs : List Value} (hg : gok o m 1 cs) (hn : 0 < m) (hl : (F rows.length).length = m) (hcs : cs = (F rows.length).map (Value.int .i64)) : RowsF F m (gt o cs ++ G) (rows ++ [(gA o, gC o)]) := by
 intro i r hr
 rcases Nat.lt_or_ge i rows.length with g1 | g1
 ·rw [List.getElem?_append_left g1] at hr
  obtain ⟨b, sp, e, hm, h1⟩ := h i r hr
  exact ⟨b, sp, e, List.mem_append_right _ hm, h1⟩
 ·rw [List.getElem?_append_right g1] at hr
  have hi : i - rows.length = 0 := by
   have := (List.getElem?_eq_some_iff.1 hr).1
   simp only [List.length_cons, List.length_nil] at this; omega
  rw [hi] at hr
  obtain rfl : (gA o, gC o) = r := by simpa using hr
  obtain ⟨b, c, sp, rfl⟩ := hg.some hn
  obtain ⟨h1, h2, h3⟩ := hg.own b c sp rfl
  obtain rfl : i = rows.length := by omega
  refine ⟨b, sp, rfl, List.mem_append_left _ ?_, hl, h1, h2⟩
  rw [← hcs]; simp [gt]
theorem Sta.rowF {N : Nat} {D : List Deferred} {w0 w : World} {U : Snaps} {L G : Boxes} {F : Nat → List Int} {m : Nat} {rows : List (Option Addr × Nat)} (h : Sta ⟨N, D, w0, []⟩ U L w) (hG : ∀ x ∈ G, x ∈ L) (hr : RowsF F m G rows) : ∀ (i : Nat) r, rows[i]? = some r → NewT 1 intCells w0.heap.size w r.1 m r.2 (F i) := by
 intro i r hi
 obtain ⟨b, sp, e, hm, hl, h1, h2⟩ := hr i r hi
 obtain ⟨j, hj⟩ := List.getElem?_of_mem (hG _ hm)
 refine ⟨?_, fun b' off e' => ?_, h1, h2⟩
 ·rw [e]; exact isT_box (n := 1) (enc := intCells) (fun _ => rfl) (h.at j hj) (flat_int _) hl
 ·rw [e] at e'; cases e'
  rcases (h.box j _ _ hj).1 with g1 | g1
  ·exact g1
  ·cases g1
def outK (N m : Nat) (rows : List (Option Addr × Nat)) : List Value := rows.map (fun r => Value.slice r.1 m r.2) ++ List.replicate (N - rows.length) (.slice none 0 0)
def linkC (N m : Nat) (rows : List (Option Addr × Nat)) (o : Gr) (n : Nat) : List Value := rows.map (fun r => Value.slice r.1 m r.2) ++ Value.slice (gA o) n (gC o) :: List.replicate (N - (rows.length + 1)) (.slice none 0 0)
theorem outK_nil (N m : Nat) : outK N m [] = List.replicate N (.slice none 0 0) := by simp [outK]
theorem outK_link {N m : Nat} {rows : List (Option Addr × Nat)} (h : rows.length < N) : outK N m rows = linkC N m rows none 0 := by
 unfold outK linkC
 obtain ⟨k, hk⟩ : ∃ k, N - rows.length = k + 1 := ⟨N - rows.length - 1, by omega⟩
 rw [hk, List.replicate_succ, show N - (rows.length + 1) = k by omega]; rfl
theorem linkC_set (N m : Nat) (rows : List (Option Addr × Nat)) (o o' : Gr) (n n' : Nat) : (linkC N m rows o n).set rows.length (.slice (gA o') n' (gC o')) = linkC N m rows o' n' := by
 unfold linkC
 rw [List.set_append_right _ _ (by simp)]; simp
theorem linkC_get (N m : Nat) (rows : List (Option Addr × Nat)) (o : Gr) (n : Nat) : (linkC N m rows o n)[rows.length]? = some (.slice (gA o) n (gC o)) := by
 unfold linkC
 rw [List.getElem?_append_right (by simp)]; simp
theorem linkC_len (N m : Nat) (rows : List (Option Addr × Nat)) (o : Gr) (n : Nat) (h : rows.length < N) : (linkC N m rows o n).length = N := by
 unfold linkC; simp; omega
theorem linkC_out (N m : Nat) (rows : List (Option Addr × Nat)) (o : Gr) : linkC N m rows o m = outK N m (rows ++ [(gA o, gC o)]) := by
 unfold linkC outK; simp
theorem outK_all {N m : Nat} {rows : List (Option Addr × Nat)} (h : rows.length = N) : outK N m rows = rows.flatMap (slcs m) := by
 unfold outK
 rw [h, Nat.sub_self]
 have : ∀ l : List (Option Addr × Nat), l.map (fun r => Value.slice r.1 m r.2) = l.flatMap (slcs m) := fun l => by
  induction l with
  | nil => rfl
  | cons x r ih => rw [List.map_cons, List.flatMap_cons, ih]; rfl
 rw [this]; simp
end
section
set_option autoImplicit false
open Go.RowKit
inductive Ins (x : Nat × Cont) : Boxes → Boxes → Prop
 | here {L : Boxes} : Ins x L (x :: L)
 | there {y : Nat × Cont} {L L' : Boxes} (h : Ins x L L') : Ins x (y :: L) (y :: L')
theorem Ins.perm {x : Nat × Cont} {L L' : Boxes} (h : Ins x L L') : L'.Perm (x :: L) := by
 induction h with
 | here => exact List.Perm.refl _
 | there h ih => exact (List.Perm.cons _ ih).trans (List.Perm.swap _ _ _)
inductive Pm : Boxes → Boxes → Prop
 | refl {L : Boxes} : Pm L L
 | cons {x : Nat × Cont} {M L L' : Boxes} (h : Ins x L L') (t : Pm M L) : Pm (x :: M) L'
theorem Pm.perm {M L : Boxes} (h : Pm M L) : L.Perm M := by
 induction h with
 | refl => exact List.Perm.refl _
 | cons h t ih => exact h.perm.trans (List.Perm.cons _ ih)
theorem Sta.pm {E : Cfg} {U : Snaps} {L M : Boxes} {w : World} (h : Sta E U L w) (hp : Pm M L) : Sta E U M w := h.perm hp.perm
section
variable {P : Program} {e0 : Cfg} {U : Snaps} {l : Slots} {L : Boxes} {ops : Array Oper} {Q : Exit → Act → World → Prop} {U0 : Snaps} {L0 : Boxes} {last fuel : Nat} {listed : Array Bool}
theorem ah_share {fuel' : Nat} {listed' : Array Bool} (K : (Slots → Boxes → Prop) → Prop) (h1 : K (fun l' L' => AH P ops Q U0 L0 last fuel' listed' e0 U l' L'))
  (h2 : K (fun l' L' => AH P ops Q U0 L0 last fuel' listed' e0 U l' L') → AH P ops Q U0 L0 last fuel listed e0 U l L) : AH P ops Q U0 L0 last fuel listed e0 U l L := h2 h1
theorem ah_to {fuel' : Nat} {listed' : Array Bool} {l' : Slots} {L' : Boxes} (h : AH P ops Q U0 L0 last fuel' listed' e0 U l' L') (hf : fuel' = fuel) (he : listed' = listed) (hl : AllLook l l') (hL : ∀ w, Sta e0 U L w → Sta e0 U L' w) : AH P ops Q U0 L0 last fuel listed e0 U l L := by
 subst hf; subst he
 exact fun hok hc => aq_sub (h hok hc) hl hL
end
end
section
open Go.RowKit Go.Shelf
def dot : List Int → List Int → Int
 | x :: xs, y :: ys => x * y + dot xs ys
 | _, _ => 0
theorem dot_flux (p : Int × Int) : ∀ (ws ls : List Int) (S : List Src), ws.length = S.length → ls.length = S.length → (∀ (k : Nat) (a b : Int) (s : Src), ws[k]? = some a → ls[k]? = some b → S[k]? = some s → a * b = infl p.1 p.2 s.1.1 s.1.2 * s.2) → dot ws ls = fluxP p S
 | [], [], [], _, _, _ => rfl
 | a :: ws, b :: ls, s :: S, h1, h2, h => by
  have e := h 0 a b s rfl rfl rfl
  have ih := dot_flux p ws ls S (by simpa using h1) (by simpa using h2) (fun k a b s ha hb hs => h (k + 1) a b s (by simpa using ha) (by simpa using hb) (by simpa using hs))
  simp only [dot, fluxP, e, ih]
 | [], _ :: _, [], _, h2, _ => by simp at h2
 | _ :: _, _, [], h1, _, _ => by simp at h1
 | [], _, _ :: _, h1, _, _ => by simp at h1
 | _ :: _, [], _ :: _, _, h2, _ => by simp at h2
theorem dot_drop {xs ys : List Int} {k : Nat} {a b : Int} (h1 : xs[k]? = some a) (h2 : ys[k]? = some b) : dot (xs.drop k) (ys.drop k) = a * b + dot (xs.drop (k + 1)) (ys.drop (k + 1)) := by
 obtain ⟨k1, e1⟩ := List.getElem?_eq_some_iff.1 h1
 obtain ⟨k2, e2⟩ := List.getElem?_eq_some_iff.1 h2
 rw [List.drop_eq_getElem_cons k1, List.drop_eq_getElem_cons k2, e1, e2]
 rfl
def allL (C : CurD) : List Int := C.coils ++ C.shells ++ C.plasma
theorem dot_src {M : MachD} {C : CurD} (hv : Fit2 M C) (p : Int × Int) : dot (fromL M p) (allL C) = fluxP p (srcM M C) := by
 have c1 := hv.coils.1
 have c2 := hv.shells.1
 have c3 := hv.plasma.1
 have l1 := from_length M p
 have l2 : (srcM M C).length = M.coils.length + (M.shells.length + C.plasma.length) := srcL_length c1 c2
 have l3 : (allL C).length = C.coils.length + C.shells.length + C.plasma.length := by simp [allL, Nat.add_assoc]
 refine dot_flux p _ _ _ om9 om9 (fun k a b s ha hb hs => ?_)
 have hk : k < (allL C).length := (List.getElem?_eq_some_iff.1 hb).1
 by_cases h1 : k < M.coils.length
 ·obtain ⟨c, hc⟩ : ∃ c, M.coils[k]? = some c := ⟨_, List.getElem?_eq_getElem h1⟩
  obtain ⟨x, hx⟩ : ∃ x, C.coils[k]? = some x := ⟨_, List.getElem?_eq_getElem om9⟩
  rw [from_coil hc] at ha
  have e : (allL C)[k]? = some x := by unfold allL; rw [List.getElem?_append_left (by simp; omega), List.getElem?_append_left om9, hx]
  rw [e] at hb
  have e2 : (srcM M C)[k]? = some ((c.r, c.z), c.turns * x) := srcL_coil c1 k c x hc hx
  rw [e2] at hs
  cases ha; cases hb; cases hs
  show c.turns * infl p.1 p.2 c.r c.z * b = infl p.1 p.2 c.r c.z * (c.turns * b)
  rw [Int.mul_comm c.turns, Int.mul_assoc]
 ·by_cases h2 : k < M.coils.length + M.shells.length
  ·obtain ⟨j, rfl⟩ : ∃ j, k = M.coils.length + j := ⟨k - M.coils.length, by omega⟩
   obtain ⟨c, hc⟩ : ∃ c, M.shells[j]? = some c := ⟨_, List.getElem?_eq_getElem om9⟩
   obtain ⟨x, hx⟩ : ∃ x, C.shells[j]? = some x := ⟨_, List.getElem?_eq_getElem om9⟩
   rw [from_shell hc] at ha
   have e : (allL C)[M.coils.length + j]? = some x := by unfold allL; rw [List.getElem?_append_left (by simp; omega), List.getElem?_append_right om9, show M.coils.length + j - C.coils.length = j by omega, hx]
   rw [e] at hb
   have e2 : (srcM M C)[M.coils.length + j]? = some ((c.r, c.z), x) := srcL_shell c1 c2 j c x hc hx
   rw [e2] at hs
   cases ha; cases hb; cases hs
   rfl
  ·obtain ⟨j, rfl⟩ : ∃ j, k = M.coils.length + (M.shells.length + j) := ⟨k - M.coils.length - M.shells.length, by omega⟩
   obtain ⟨x, hx⟩ : ∃ x, C.plasma[j]? = some x := ⟨_, List.getElem?_eq_getElem om9⟩
   rw [from_cell (M := M) (p := p) (k := j) (by have := (List.getElem?_eq_some_iff.1 hx).1; omega)] at ha
   have e : (allL C)[M.coils.length + (M.shells.length + j)]? = some x := by unfold allL; rw [List.getElem?_append_right (by simp; omega), show M.coils.length + (M.shells.length + j) - (C.coils ++ C.shells).length = j by simp; omega, hx]
   rw [e] at hb
   have e2 : (srcM M C)[M.coils.length + (M.shells.length + j)]? = some ((cellR M.grid (j : Int), cellZ M.grid (j : Int)), x) := srcL_cell c1 c2 j x hx
   rw [e2] at hs
   cases ha; cases hb; cases hs
   rfl
theorem from_bd {M : MachD} (hs : Sound M) (p : Int × Int) : ∀ x ∈ fromL M p, 0 ≤ x ∧ x ≤ 25000000 := by
 intro x hx
 unfold fromL at hx
 rcases List.mem_append.1 hx with h | h
 ·obtain ⟨c, hc, rfl⟩ := List.mem_map.1 h
  have t := (hs.coils.2 c hc).1
  have b := infl_bd p.1 p.2 c.r c.z
  have h1 := Int.mul_nonneg (a := c.turns) (b := infl p.1 p.2 c.r c.z) om9 b.1
  have h2 := Int.mul_le_mul t.2 b.2 b.1 om9
  omega
 ·rcases List.mem_append.1 h with h | h
  ·obtain ⟨c, hc, rfl⟩ := List.mem_map.1 h
   have b := infl_bd p.1 p.2 c.r c.z
   omega
  ·obtain ⟨c, hc, rfl⟩ := List.mem_map.1 h
   have b := infl_bd p.1 p.2 (cellR M.grid (c : Int)) (cellZ M.grid (c : Int))
   omega
theorem all_bd {M : MachD} {C : CurD} (hv : Fit2 M C) : ∀ x ∈ allL C, -1000000 ≤ x ∧ x ≤ 1000000 := by
 intro x hx
 unfold allL at hx
 rcases List.mem_append.1 hx with h | h
 ·rcases List.mem_append.1 h with h | h
  ·exact hv.coils.2 x h
  ·exact hv.shells.2 x h
 ·have := hv.plasma.2 x h
  omega
end
end Go.Proofs.YthggkidiidnaoaaGreat
