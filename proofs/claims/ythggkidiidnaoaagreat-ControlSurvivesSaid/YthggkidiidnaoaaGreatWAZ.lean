import Derived.Test.YthggkidiidnaoaaGreatWAA
import Derived.Test.YthggkidiidnaoaaGreatWAO
import Derived.Test.YthggkidiidnaoaaGreatWAX
import Derived.Test.YthggkidiidnaoaaGreatWAY
import Derived.Test.YthggkidiidnaoaaGreatRows
import Derived.KernelRfl
import Derived.Laws.StructEq
import Derived.Laws.Small
namespace Go.Proofs.YthggkidiidnaoaaGreat
set_option linter.unusedVariables false
set_option linter.unusedSimpArgs false
section
open Go.RowKit
theorem tdiv_nano (a : Int) : a.tdiv 1000000000 = (if a.tmod 1000000000 < 0 then a / 1000000000 + 1 else a / 1000000000) ∧ a.tmod 1000000000 = (if a.tmod 1000000000 < 0 then a % 1000000000 - 1000000000 else a % 1000000000) := by
 have e := Int.mul_tdiv_add_tmod a 1000000000
 rcases Int.le_total 0 a with h | h
 ·have h1 := Int.tmod_nonneg 1000000000 h
  have h2 := Int.tmod_lt_of_pos a (show (0 : Int) < 1000000000 by omega)
  rw [if_neg om9, if_neg om9]
  omega
 ·have h1 := Int.tmod_lt_of_pos (-a) (show (0 : Int) < 1000000000 by omega)
  have h2 := Int.tmod_nonneg 1000000000 (show 0 ≤ -a by omega)
  rw [Int.neg_tmod] at h1 h2
  split <;> omega
theorem mul_bdd {a b A B : Int} (a0 : -A ≤ a) (a1 : a ≤ A) (b0 : -B ≤ b) (b1 : b ≤ B) : -(A * B) ≤ a * b ∧ a * b ≤ A * B := by
 have hA : 0 ≤ A := by omega
 have hB : 0 ≤ B := by omega
 have h1 : (A - a) * (B + b) ≥ 0 := Int.mul_nonneg om9 om9
 have h2 : (A + a) * (B - b) ≥ 0 := Int.mul_nonneg om9 om9
 have h3 : (A - a) * (B - b) ≥ 0 := Int.mul_nonneg om9 om9
 have h4 : (A + a) * (B + b) ≥ 0 := Int.mul_nonneg om9 om9
 simp only [Int.sub_mul, Int.mul_sub, Int.add_mul, Int.mul_add] at h1 h2 h3 h4
 omega
set_option maxRecDepth 100000 in
theorem divide_any (a : Int) (w : World) (ha : -9000000000000000000 ≤ a) (hb : a ≤ 9000000000000000000) : Calls Tryz.prog 56 #[(.int .i64 a), (.int .i64 1000000000)] w (Ret (.tuple #[.int .i64 (a / 1000000000), .int .i64 (a % 1000000000)]) w) := by
 have ht := tdiv_nano a
 refine calls_ax (vs := [(.int .i64 a), (.int .i64 1000000000)]) Tryz.func56 rfl rfl ?_
 refine ac_seq (ac_region ?_)
 refine al_p (q_assign rfl) (al_p (q_assign rfl) (al_end (aq_then ?_)))
 refine ac_seq (ac_draw 7 kr9 kr9 ?_)
 refine ah_t 0 (fun w9 hs => hs) rfl rfl kr9 (q_move rfl) (ah_t 1 (fun w9 hs => hs) rfl rfl kr9 (q_move rfl) ?_)
 refine ah_t 2 (fun w9 hs => hs) rfl rfl kr9 (q_quo rfl rfl om9) (ah_t 3 (fun w9 hs => hs) rfl rfl kr9 (q_move rfl) (ah_t 4 (fun w9 hs => hs) rfl rfl kr9 (q_move rfl) ?_))
 refine ah_t 5 (fun w9 hs => hs) rfl rfl kr9 (q_rem rfl rfl om9) (ah_one 6 rfl kr9 (fun hok1 hcl1 => ?_))
 refine al_p (q_assign rfl) (al_end (ah_back hok1 hcl1 (fun w9 hs => hs) ?_))
 refine ah_one 7 rfl kr9 (fun hok2 hcl2 => ?_)
 refine al_p (q_assign rfl) (al_end (ah_last kr9 ?_))
 refine aq_then (ac_seq (ac_seq (ac_region ?_)))
 refine al_p (q_move rfl) (al_p (q_lss rfl rfl) (al_end (aq_then ?_)))
 refine ac_cond rfl (fun h1 => ?_) (fun h1 => ?_)
 ·have hn : a.tmod 1000000000 < 0 := by simpa using h1
  rw [if_pos hn, if_pos hn] at ht
  refine ac_seq (ac_region ?_)
  refine al_p (q_move rfl) ?_
  refine al_p (q_sub rfl rfl om9) (al_p (q_move rfl) (al_p (q_move rfl) ?_))
  refine al_p (q_add rfl rfl om9) (al_p (q_assign rfl) (al_p (q_assign rfl) (al_end (aq_then ?_))))
  refine ac_ret (aq_thenR (ret2 Tryz.results56 rfl rfl (fun w9 hs => ?_)))
  refine ⟨?_, hs.below⟩; rw [ht.1, ht.2] <;> (simp; try omega)
 ·have hn : ¬ a.tmod 1000000000 < 0 := by simpa using h1
  rw [if_neg hn, if_neg hn] at ht
  refine ac_skip (aq_then (ac_seq (ac_region ?_)))
  refine al_p (q_move rfl) (al_p (q_move rfl) (al_p (q_assign rfl) (al_p (q_assign rfl) (al_end (aq_then ?_)))))
  refine ac_ret (ret2 Tryz.results56 rfl rfl (fun w9 hs => ?_))
  refine ⟨?_, hs.below⟩; rw [ht.1, ht.2] <;> (simp; try omega)
def forceP (t f : Int) : Int := t * (f / 1000000000) + t * (f % 1000000000) / 1000000000
theorem forceP_eq (t f : Int) : forceP t f = t * f / 1000000000 := by
 unfold forceP
 have e := Int.mul_ediv_add_emod f 1000000000
 have h : t * f = t * (f % 1000000000) + 1000000000 * (t * (f / 1000000000)) := by
  rw [← Int.mul_assoc, Int.mul_comm 1000000000 t, Int.mul_assoc, ← Int.mul_add]
  congr 1; omega
 rw [h, Int.add_mul_ediv_left _ _ om9]
 omega
set_option maxRecDepth 100000 in
theorem force_any (t f : Int) (w : World) (t0 : -100000000 ≤ t) (t1 : t ≤ 100000000) (f0 : -1000000000000000000 ≤ f) (f1 : f ≤ 1000000000000000000) : Calls Tryz.prog 29 #[(.int .i64 t), (.int .i64 f)] w (Ret (.int .i64 (forceP t f)) w) := by
 have r0 := Int.emod_nonneg f (show (1000000000 : Int) ≠ 0 by omega)
 have r1 := Int.emod_lt_of_pos f (show (0 : Int) < 1000000000 by omega)
 have m1 := mul_bdd (a := t) (b := f % 1000000000) (A := 100000000) (B := 1000000000) t0 t1 om9 om9
 have m2 := mul_bdd (a := t) (b := f / 1000000000) (A := 100000000) (B := 1000000000) t0 t1 om9 om9
 refine calls_ax (vs := [(.int .i64 t), (.int .i64 f)]) Tryz.func29 rfl rfl ?_
 refine ac_seq (ac_region ?_)
 refine al_p (q_assign rfl) (al_end (aq_then ?_))
 refine ac_seq (ac_region ?_)
 refine al_p (q_move rfl) (al_call Tryz.call56 (.cons rfl (.cons rfl .nil)) rfl rfl (fun w1 hs1 => ?_))
 refine (divide_any f _ om9 om9).mono ?_
 rintro e u1 ⟨rfl, hb_1⟩
 refine ⟨_, rfl, hb_1, ?_⟩
 clear hs1
 refine al_p (q_move rfl) (al_p (q_extract rfl rfl) (al_p (q_extract rfl rfl) (al_p (q_assign rfl) (al_p (q_assign rfl) ?_))))
 refine al_end (aq_then ?_)
 refine ac_seq (ac_region ?_)
 refine al_p (q_move rfl) (al_p (q_move rfl) ?_)
 refine al_p (q_mul rfl rfl om9) (al_call Tryz.call56 (.cons rfl (.cons rfl .nil)) rfl rfl (fun w2 hs2 => ?_))
 refine (divide_any (t * (f % 1000000000)) _ om9 om9).mono ?_
 rintro e u2 ⟨rfl, hb_2⟩
 refine ⟨_, rfl, hb_2, ?_⟩
 clear hs2
 refine al_p (q_move rfl) (al_p (q_extract rfl rfl) (al_p (q_extract rfl rfl) (al_p (q_assign rfl) (al_p (q_assign rfl) ?_))))
 refine al_end (aq_then ?_)
 refine ac_seq (ac_region ?_)
 refine al_p (q_move rfl) (al_p (q_move rfl) ?_)
 refine al_p (q_mul rfl rfl om9) (al_p (q_move rfl) ?_)
 refine al_p (q_add rfl rfl om9) (al_p (q_assign rfl) (al_end (aq_then ?_)))
 refine ac_ret (ret1 Tryz.results29 rfl (fun w9 hs => ?_))
 exact ⟨rfl, hs.below⟩
def forceE (M : MachD) (C : CurD) (i : Int) : Int × Int × Int :=
 if validC M C = true then
  if wthn i 0 ((M.coils.length : Int) - 1) = true then
   match M.coils[i.toNat]?, C.coils[i.toNat]? with
   | some x, some c => (forceP (x.turns * c) (fieldP (x.r, x.z) (srcM M C)).2, forceP (-(x.turns * c)) (fieldP (x.r, x.z) (srcM M C)).1, 0)
   | _, _ => (0, 0, 0)
  else (0, 0, 7)
 else (0, 0, 1)
set_option maxRecDepth 100000 in
theorem mforce_bad (R : MachR) (M : MachD) (Q : CurR) (C : CurD) (i : Int) (w : World) (hM : IsM w R M) (hC : IsC w Q C) (i0 : -9223372036854775808 ≤ i) (i1 : i ≤ 9223372036854775807) (hb : validC M C = false ∨ wthn i 0 ((M.coils.length : Int) - 1) = false) : Calls Tryz.prog 11 #[(.agg (machCells R M)), Q.v, (.int .i64 i)] w (Ret (.tuple #[.int .i64 (forceE M C i).1, .int .i64 (forceE M C i).2.1, .int .i64 (forceE M C i).2.2]) w) := by
 have hl := hM.coils.1
 have hk := hM.ka
 rw [hl] at hb
 have hl2 : wthn i 0 ((M.coils.length : Int) - 1) = wthn i 0 ((R.la : Int) - 1) := by rw [hl]
 refine calls_ax (vs := [(.agg (machCells R M)), Q.v, (.int .i64 i)]) Tryz.func11 rfl rfl ?_
 refine ac_seq (ac_region ?_)
 refine al_nb (r_box rfl rfl) ?_
 intro b1
 refine al_nb (r_box rfl rfl) ?_
 intro b2
 refine al_p (q_assign rfl) (al_p (q_assign rfl) (al_p (q_assign rfl) (al_end (aq_then ?_))))
 refine ac_seq (ac_seq (ac_region ?_))
 refine al_p (q_loadAll (i := 1) rfl rfl Tryz.isAgg29 Tryz.sizeOf29 rfl) (al_p (q_loadAll (i := 0) rfl rfl Tryz.isAgg32 Tryz.sizeOf32 rfl) (al_call Tryz.call26 (.cons rfl (.cons rfl .nil)) rfl rfl (fun w1 hs1 => ?_)))
 refine (validCurrents_any R M Q C _ (hM.below hs1.below) (hC.below hs1.below)).mono ?_
 rintro e u1 ⟨rfl, hb_1⟩
 refine ⟨_, rfl, hb_1, ?_⟩
 clear hs1
 refine al_p (q_not rfl) (al_end (aq_then ?_))
 refine ac_cond rfl (fun h1 => ?_) (fun h1 => ?_)
 ·refine ac_seq (ac_region ?_)
  refine al_p (q_assign rfl) (al_p (q_assign rfl) (al_p (q_assign rfl) (al_end (aq_then ?_))))
  refine ac_ret (aq_thenR (retR Tryz.results11 (.tmp rfl (.tmp rfl (.tmp rfl .nil))) .two (fun w9 hs => ?_)))
  refine ⟨?_, hs.below⟩; simp_all [forceE]
 ·refine ac_skip (aq_then (ac_seq (ac_seq (ac_region ?_))))
  refine al_p (q_move rfl) ?_
  refine al_p (q_fieldAddr 1 rfl Tryz.runUnderlying29 rfl Tryz.sizeOf22 de9 rfl) (al_p (q_load (i := 1) rfl rfl rfl Tryz.isAgg22) (al_p (q_lenS rfl Tryz.runUnderlying22) ?_))
  refine al_p (q_sub rfl rfl om9) (al_call Tryz.call27 (.cons rfl (.cons rfl (.cons rfl .nil))) rfl rfl (fun w2 hs2 => ?_))
  refine (mwithin_any i 0 ((R.la : Int) - 1) _).mono ?_
  rintro e u2 ⟨rfl, rfl⟩
  refine ⟨_, rfl, (Below.refl _ _), ?_⟩
  clear hs2
  refine al_p (q_not rfl) (al_end (aq_then ?_))
  refine ac_cond rfl (fun h2 => ?_) (fun h2 => ?_)
  ·refine ac_seq (ac_region ?_)
   refine al_p (q_assign rfl) (al_p (q_assign rfl) (al_p (q_assign rfl) (al_end (aq_then ?_))))
   refine ac_ret (aq_thenR (retR Tryz.results11 (.tmp rfl (.tmp rfl (.tmp rfl .nil))) .two (fun w9 hs => ?_)))
   refine ⟨?_, hs.below⟩; simp_all [forceE]
  ·simp_all
theorem mcg_bl_apiPoint_0_1 (a0 a1 : Value) (ha0 : a0.oneCell' = true) (ha1 : a1.oneCell' = true) : ∀ w, (Instr.build 53 #[(0, a0), (1, a1)]).run Tryz.prog w = .ok (.agg #[a0, a1]) w := by
 have ea0 : a0.cells = #[a0] := cells_one ha0
 have ea1 : a1.cells = #[a1] := cells_one ha1
 intro w; simp [Instr.build, Instr.fill, cells_agg, Tryz.runUnderlying53, Tryz.zeroValue53, Tryz.sizeOf3, ea0, ea1]
set_option maxRecDepth 100000 in
theorem mforce_val (R : MachR) (M : MachD) (Q : CurR) (C : CurD) (i : Nat) (x : CoilD) (c : Int) (w : World) (hM : IsM w R M) (hC : IsC w Q C) (hv : Fit2 M C) (hx : M.coils[i]? = some x) (hc : C.coils[i]? = some c) : Calls Tryz.prog 11 #[(.agg (machCells R M)), Q.v, (.int .i64 (i : Int))] w (Ret (.tuple #[.int .i64 (forceP (x.turns * c) (fieldP (x.r, x.z) (srcM M C)).2), .int .i64 (forceP (-(x.turns * c)) (fieldP (x.r, x.z) (srcM M C)).1), .int .i64 0]) w) := by
 have hl := hM.coils.1
 have hk := hM.ka
 have hil := (List.getElem?_eq_some_iff.1 hx).1
 have hl2 := hC.coils.1
 have hil2 := (List.getElem?_eq_some_iff.1 hc).1
 obtain ⟨b1, o1, hA1, hlt1, hget1⟩ := hM.coils.2 om9
 obtain ⟨b2, o2, hA2, hlt2, hget2⟩ := hC.coils.2 om9
 have hs0 := sound_of hv.check
 have hx0 := hs0.coils.2 x (List.mem_of_getElem? hx)
 have hc0 := hv.coils.2 c (List.mem_of_getElem? hc)
 have hm := mul_bdd (a := x.turns) (b := c) (A := 100) (B := 1000000) om9 om9 hc0.1 hc0.2
 have hbd := fun p => (small_of hv).bd p
 have hb1 := hbd (x.r, x.z - 1)
 have hb2 := hbd (x.r, x.z + 1)
 have hb3 := hbd (x.r + 1, x.z)
 have hb4 := hbd (x.r - 1, x.z)
 refine calls_ax (vs := [(.agg (machCells R M)), Q.v, (.int .i64 (i : Int))]) Tryz.func11 rfl rfl ?_
 refine ac_seq (ac_region ?_)
 refine al_nb (r_box rfl rfl) ?_
 intro b1
 refine al_nb (r_box rfl rfl) ?_
 intro b2
 refine al_p (q_assign rfl) (al_p (q_assign rfl) (al_p (q_assign rfl) (al_end (aq_then ?_))))
 refine ac_seq (ac_seq (ac_region ?_))
 refine al_p (q_loadAll (i := 1) rfl rfl Tryz.isAgg29 Tryz.sizeOf29 rfl) (al_p (q_loadAll (i := 0) rfl rfl Tryz.isAgg32 Tryz.sizeOf32 rfl) (al_call Tryz.call26 (.cons rfl (.cons rfl .nil)) rfl rfl (fun w1 hs1 => ?_)))
 refine (validCurrents_any R M Q C _ (hM.below hs1.below) (hC.below hs1.below)).mono ?_
 rintro e u1 ⟨rfl, hb_1⟩
 refine ⟨_, rfl, hb_1, ?_⟩
 clear hs1
 refine al_p (q_not rfl) (al_end (aq_then ?_))
 refine ac_cond rfl (fun h1 => ?_) (fun h1 => ?_)
 ·simp [fit2_iff.2 hv] at h1
 ·refine ac_skip (aq_then (ac_seq (ac_seq (ac_region ?_))))
  refine al_p (q_move rfl) ?_
  refine al_p (q_fieldAddr 1 rfl Tryz.runUnderlying29 rfl Tryz.sizeOf22 de9 rfl) (al_p (q_load (i := 1) rfl rfl rfl Tryz.isAgg22) (al_p (q_lenS rfl Tryz.runUnderlying22) ?_))
  refine al_p (q_sub rfl rfl om9) (al_call Tryz.call27 (.cons rfl (.cons rfl (.cons rfl .nil))) rfl rfl (fun w2 hs2 => ?_))
  refine (mwithin_any (i : Int) 0 ((R.la : Int) - 1) _).mono ?_
  rintro e u2 ⟨rfl, rfl⟩
  refine ⟨_, rfl, (Below.refl _ _), ?_⟩
  clear hs2
  refine al_p (q_not rfl) (al_end (aq_then ?_))
  refine ac_cond rfl (fun h2 => ?_) (fun h2 => ?_)
  ·simp [wthn] at h2; omega
  ·refine ac_skip (aq_then (ac_seq (ac_region ?_)))
   refine al_p (q_fieldAddr 1 rfl Tryz.runUnderlying29 rfl Tryz.sizeOf22 de9 rfl) (al_p (q_load (i := 1) rfl rfl rfl Tryz.isAgg22) (al_p (q_move rfl) ?_))
   refine al_p (q_indexAddrA (i := i) (o1 + i * 8 + 0) hA1 rfl rfl rfl om9 Tryz.runUnderlying22 Tryz.sizeOf51 rfl) (al_p (q_loadXs (CoilD.cells x) rfl Tryz.isAgg51 Tryz.sizeOf51 (fun w9 hs j9 v9 h9 => by rw [addr_add]; exact (hs.below.cell (p := ⟨_, _, none⟩) hlt1).trans ((hget1 i x hx) j9 v9 h9)) rfl) (al_new (fun b => .pointer (some ⟨b, 0, none⟩)) (r_alloc Tryz.zeroValue51 rfl) rfl rfl rfl ?_))
   intro b3
   refine al_storeAll (i := 0) rfl rfl rfl rfl Tryz.sizeOf51 rfl rfl .k0 rfl (al_end (aq_then ?_))
   refine ac_seq (ac_region ?_)
   refine al_p (q_loadAll (i := 2) rfl rfl Tryz.isAgg29 Tryz.sizeOf29 rfl) (al_p (q_loadAll (i := 1) rfl rfl Tryz.isAgg32 Tryz.sizeOf32 rfl) ?_)
   refine al_p (q_fieldAddr 1 rfl Tryz.runUnderlying51 rfl Tryz.sizeOf3 de9 rfl) (al_p (q_load (i := 0) rfl rfl rfl Tryz.isAgg3) ?_)
   refine al_p (q_fieldAddr 2 rfl Tryz.runUnderlying51 rfl Tryz.sizeOf3 de9 rfl) (al_p (q_load (i := 0) rfl rfl rfl Tryz.isAgg3) (al_p (q_build (.cons rfl (.cons rfl .nil)) (mcg_bl_apiPoint_0_1 _ _ rfl rfl)) (al_call Tryz.call28 (.cons rfl (.cons rfl (.cons rfl .nil))) rfl rfl (fun w3 hs3 => ?_))))
   refine (fieldAt_any R M Q C x.r x.z _ (hM.below hs3.below) (hC.below hs3.below) hv om9 om9 om9 om9).mono ?_
   rintro e u3 ⟨rfl, hb_3⟩
   refine ⟨_, rfl, hb_3, ?_⟩
   clear hs3
   refine al_p (q_move rfl) (al_p (q_extract rfl rfl) (al_p (q_extract rfl rfl) (al_p (q_assign rfl) (al_p (q_assign rfl) ?_))))
   refine al_end (aq_then ?_)
   refine ac_seq (ac_draw 8 kr9 kr9 ?_)
   refine ah_t 0 (fun w9 hs => hs) rfl rfl kr9 (q_fieldAddr 3 rfl Tryz.runUnderlying51 rfl Tryz.sizeOf3 de9 rfl) (ah_t 1 (fun w9 hs => hs) rfl rfl kr9 (q_load (i := 0) rfl rfl rfl Tryz.isAgg3) ?_)
   refine ah_t 2 (fun w9 hs => hs) rfl rfl kr9 (q_fieldAddr 0 rfl Tryz.runUnderlying32 rfl Tryz.sizeOf30 de9 rfl) (ah_t 3 (fun w9 hs => hs) rfl rfl kr9 (q_load (i := 1) rfl rfl rfl Tryz.isAgg30) (ah_t 4 (fun w9 hs => hs) rfl rfl kr9 (q_move rfl) ?_))
   refine ah_t 5 (fun w9 hs => hs) rfl rfl kr9 (q_indexAddrA (i := i) (o2 + i * 1 + 0) hA2 rfl rfl rfl om9 Tryz.runUnderlying30 Tryz.sizeOf3 rfl) (ah_t 6 (fun w9 hs => hs) rfl rfl kr9 (q_loadX rfl Tryz.isAgg3 (fun w9 hs => (hs.below.cell (p := ⟨_, _, none⟩) hlt2).trans ((hget2 i c hc) 0 _ rfl))) ?_)
   refine ah_t 7 (fun w9 hs => hs) rfl rfl kr9 (q_mul rfl rfl om9) (ah_one 8 rfl kr9 (fun hok1 hcl1 => ?_))
   refine al_p (q_assign rfl) (al_end (ah_last kr9 ?_))
   refine aq_then (ac_seq (ac_region ?_))
   refine al_p (q_move rfl) (al_p (q_move rfl) (al_call Tryz.call29 (.cons rfl (.cons rfl .nil)) rfl rfl (fun w4 hs4 => ?_)))
   refine (force_any (x.turns * c) (fieldP (x.r, x.z) (srcM M C)).2 _ om9 om9 (by simp only [fieldP]; omega) (by simp only [fieldP]; omega)).mono ?_
   rintro e u4 ⟨rfl, hb_4⟩
   refine ⟨_, rfl, hb_4, ?_⟩
   clear hs4
   refine al_p (q_move rfl) ?_
   refine al_p (q_neg rfl om9) (al_p (q_move rfl) (al_call Tryz.call29 (.cons rfl (.cons rfl .nil)) rfl rfl (fun w5 hs5 => ?_)))
   refine (force_any (-(x.turns * c)) (fieldP (x.r, x.z) (srcM M C)).1 _ om9 om9 (by simp only [fieldP]; omega) (by simp only [fieldP]; omega)).mono ?_
   rintro e u5 ⟨rfl, hb_5⟩
   refine ⟨_, rfl, hb_5, ?_⟩
   clear hs5
   refine al_p (q_assign rfl) (al_p (q_assign rfl) (al_p (q_assign rfl) (al_end (aq_then ?_))))
   refine ac_ret (retR Tryz.results11 (.tmp rfl (.tmp rfl (.tmp rfl .nil))) .two (fun w9 hs => ?_))
   exact ⟨rfl, hs.below⟩
theorem mforce_any (R : MachR) (M : MachD) (Q : CurR) (C : CurD) (i : Int) (w : World) (hM : IsM w R M) (hC : IsC w Q C) (i0 : -9223372036854775808 ≤ i) (i1 : i ≤ 9223372036854775807) :
  Calls Tryz.prog 11 #[.agg (machCells R M), Q.v, .int .i64 i] w (Ret (.tuple #[.int .i64 (forceE M C i).1, .int .i64 (forceE M C i).2.1, .int .i64 (forceE M C i).2.2]) w) := by
 cases h1 : validC M C with
 | false => exact mforce_bad R M Q C i w hM hC i0 i1 (Or.inl h1)
 | true =>
  cases h2 : wthn i 0 ((M.coils.length : Int) - 1) with
  | false => exact mforce_bad R M Q C i w hM hC i0 i1 (Or.inr h2)
  | true =>
   have hw := wthn_iff.1 h2
   have hv := fit2_iff.1 h1
   have hn : i.toNat < M.coils.length := by omega
   have hn2 : i.toNat < C.coils.length := by rw [hv.coils.1]; exact hn
   have e : ((i.toNat : Nat) : Int) = i := by omega
   have h := mforce_val R M Q C i.toNat M.coils[i.toNat] C.coils[i.toNat] w hM hC hv (List.getElem?_eq_getElem hn) (List.getElem?_eq_getElem hn2)
   rw [e] at h
   simpa [forceE, h1, h2, List.getElem?_eq_getElem hn, List.getElem?_eq_getElem hn2] using h
end
section
open Go.RowKit Go.Shelf
end
section
open Go.RowKit Go.Shelf
end
section
set_option autoImplicit false
open Go.RowKit
def rowK (g : GridD) (n i : Nat) : List Int := (List.range n).map fun (j : Nat) => infl (cellR g i) (cellZ g i) (cellR g j) (cellZ g j)
theorem rowK_length (g : GridD) (n i : Nat) : (rowK g n i).length = n := by simp [rowK]
def slcs (n : Nat) (r : Option Addr × Nat) : List Value := [.slice r.1 n r.2]
def RowsIn (g : GridD) (n : Nat) (G : Boxes) (rows : List (Option Addr × Nat)) : Prop := ∀ (i : Nat) r, rows[i]? = some r → ∃ b sp, r.1 = some ⟨b, 0, none⟩ ∧ (b, Cont.cells ((rowK g n i).map (Value.int .i64) ++ sp)) ∈ G ∧ n ≤ r.2 ∧ r.2 ≤ 9223372036854775807
theorem RowsIn.snoc {g : GridD} {n : Nat} {G : Boxes} {rows : List (Option Addr × Nat)} (h : RowsIn g n G rows) {o : Gr} {cs : List Value} (hg : gok o n 1 cs) (hn : 0 < n) (hcs : cs = (rowK g n rows.length).map (Value.int .i64)) : RowsIn g n (gt o cs ++ G) (rows ++ [(gA o, gC o)]) := by
 intro i r hr
 rcases Nat.lt_or_ge i rows.length with g1 | g1
 ·rw [List.getElem?_append_left g1] at hr
  obtain ⟨b, sp, e, hm, h1⟩ := h i r hr
  exact ⟨b, sp, e, List.mem_append_right _ hm, h1⟩
 ·rw [List.getElem?_append_right g1] at hr
  have hi : i - rows.length = 0 := by
   have := (List.getElem?_eq_some_iff.1 hr).1
   simp only [List.length_cons, List.length_nil] at this; omega
  rw [hi] at hr
  obtain rfl : (gA o, gC o) = r := by simpa using hr
  obtain ⟨b, c, sp, rfl⟩ := hg.some hn
  obtain ⟨h1, h2, h3⟩ := hg.own b c sp rfl
  refine ⟨b, sp, rfl, List.mem_append_left _ ?_, h1, h2⟩
  rw [show i = rows.length by omega, ← hcs]; simp [gt]
theorem Sta.rowK {N : Nat} {D : List Deferred} {w0 w : World} {U : Snaps} {L G : Boxes} {g : GridD} {n : Nat} {rows : List (Option Addr × Nat)} (h : Sta ⟨N, D, w0, []⟩ U L w) (hG : ∀ x ∈ G, x ∈ L) (hr : RowsIn g n G rows) : ∀ (i : Nat) r, rows[i]? = some r → NewT 1 intCells w0.heap.size w r.1 n r.2 (rowK g n i) := by
 intro i r hi
 obtain ⟨b, sp, e, hm, h1, h2⟩ := hr i r hi
 obtain ⟨j, hj⟩ := List.getElem?_of_mem (hG _ hm)
 refine ⟨?_, fun b' off e' => ?_, h1, h2⟩
 ·rw [e]; exact isT_box (n := 1) (enc := intCells) (fun _ => rfl) (h.at j hj) (flat_int _) (rowK_length _ _ _)
 ·rw [e] at e'; cases e'
  rcases (h.box j _ _ hj).1 with g1 | g1
  ·exact g1
  ·cases g1
end
section
set_option autoImplicit false
open Go.RowKit
section
variable {P : Program} {e0 : Cfg} {U : Snaps} {l : Slots} {L : Boxes} {ops : Array Oper} {Q : Exit → Act → World → Prop} {rest : List Oper} {d : Nat} {v : Value}
variable {ty : TypeId} {pos : String} {af : Array Edge} {g : Option (Nat × Bool)} {dd : Option Nat}
theorem q_max {ox oy : Operand} {x y : Int} {ts : Array TypeId} (hx : E l ox = some (.int .i64 x)) (hy : E l oy = some (.int .i64 y)) : Q1 P e0 U l L ⟨dd, .call ⟨.builtin .max, #[ox, oy], ts⟩, ty, pos, af, g⟩ (.int .i64 (max x y)) := by
 intro a w hf hs
 have e : (if y > x then y else x) = max x y := by omega
 simp [execOp, resolve, invoke, hf.ev hx, hf.ev hy, builtin, run_max_int2, run_min_int2, Result.andThen, e]
theorem q_min {ox oy : Operand} {x y : Int} {ts : Array TypeId} (hx : E l ox = some (.int .i64 x)) (hy : E l oy = some (.int .i64 y)) : Q1 P e0 U l L ⟨dd, .call ⟨.builtin .min, #[ox, oy], ts⟩, ty, pos, af, g⟩ (.int .i64 (min x y)) := by
 intro a w hf hs
 have e : (if y < x then y else x) = min x y := by omega
 simp [execOp, resolve, invoke, hf.ev hx, hf.ev hy, builtin, run_max_int2, run_min_int2, Result.andThen, e]
end
theorem one_fact {w : World} {b : Nat} {u : Value} (h : w.cell? ⟨b, 0, none⟩ = some u) : ∀ (j : Nat) (v : Value), ([u] : List Value)[j]? = some v → w.cell? ⟨b, 0 + j, none⟩ = some v := fun j v hv => by
 rcases j with _ | j
 ·rw [← Option.some.inj hv]; exact h
 ·simp at hv
theorem Tl.app {L1 X G L : Boxes} (h : Tl L1 (X ++ G) L) : Tl (L1 ++ X) G L := by
 have := h.eq
 subst this
 clear h
 induction L1 with
 | nil => induction X with
  | nil => exact .z
  | cons x r ih => exact .s ih
 | cons x r ih => exact .s ih
theorem Tl.of {L1 G L : Boxes} (h : L = L1 ++ G) : Tl L1 G L := by
 subst h
 induction L1 with
 | nil => exact .z
 | cons x r ih => exact .s ih
section
variable {P : Program} {e0 : Cfg} {U : Snaps} {l : Slots} {L : Boxes} {ops : Array Oper} {Q : Exit → Act → World → Prop} {rest : List Oper} {d : Nat} {v : Value}
variable {ty : TypeId} {pos : String} {af : Array Edge} {g : Option (Nat × Bool)} {dd : Option Nat}
theorem al_storeG {t b k c : Nat} {o : Gr} {cs sp : List Value} {L1 G L' : Boxes} {ox oy : Operand} (ho : o = some (b, c, sp)) (hx : E l ox = some (.pointer (some ⟨b, k, none⟩))) (hy : E l oy = some v) (hone : v.oneCell' = true) (hT : Tl L1 (gt o cs ++ G) L) (hk : k < cs.length)
  (hz : ∀ w, (sizeOf t).run P w = .ok 1 w) (hT' : Tl L1 (gt o (cs.set k v) ++ G) L') (hw : want ops l g = some true)
  (kk : AL P ops Q e0 U l L' rest) : AL P ops Q e0 U l L (⟨none, .store t ox oy, ty, pos, af, g⟩ :: rest) := by
 subst ho
 have hL := hT.eq
 have hL' := hT'.eq
 simp only [gt, List.singleton_append] at hL hL'
 refine al_store1 (i := L1.length) (cs := cs ++ sp) (cs' := cs.set k v ++ sp) (b := b) (o := k) (L' := L') hx hy hone (by rw [hL]; simp) hz ?_ ?_ hw kk
 ·rw [← List.set_append_left _ _ hk]; exact SetAt.gen (by simp; omega)
 ·rw [hL, hL']
  have : L1 ++ (b, Cont.cells (cs.set k v ++ sp)) :: G = (L1 ++ (b, Cont.cells (cs ++ sp)) :: G).set L1.length (b, Cont.cells (cs.set k v ++ sp)) := by simp
  rw [this]
  exact SetAt.gen (by simp)
end
theorem Sta.giftF {E : Cfg} {U : Snaps} {L L1 G M L' : Boxes} {w w' : World} (h : Sta E U L w) (hT : Tl L1 G L) (g : Own w M w') (hT' : Tl L1 (M ++ G) L') : Sta E U L' w' := (h.gift g).perm (by
 rw [hT.eq, hT'.eq, ← List.append_assoc, ← List.append_assoc]
 exact List.Perm.append_right _ List.perm_append_comm)
theorem Sta.giftT {E : Cfg} {U : Snaps} {L M : Boxes} {w w' : World} (h : Sta E U L w) (g : Own w M w') : Sta E U (L ++ M) w' := (h.gift g).perm List.perm_append_comm
end
section
open Go.RowKit
set_option maxRecDepth 100000 in
theorem cwithin_any (n a b : Int) (w : World) : Calls Tryz.prog 47 #[(.int .i64 n), (.int .i64 a), (.int .i64 b)] w (Ret (.bool (wthn n a b)) w) := by
 refine calls_ax (vs := [(.int .i64 n), (.int .i64 a), (.int .i64 b)]) Tryz.func47 rfl rfl ?_
 refine ac_seq (ac_region ?_)
 refine al_p (q_assign rfl) (al_end (aq_then ?_))
 refine ac_seq (ac_region ?_)
 refine al_p (q_move rfl) (al_p (q_move rfl) (al_p (q_leq rfl rfl) (al_p (q_move rfl) ?_)))
 refine aq_split 10 rfl (fun hb1 => ?_) (fun hb1 => ?_)
 ·refine al_p (q_move rfl) (al_p (q_move rfl) (al_p (q_leq rfl rfl) (al_p (q_pickT rfl rfl) (al_p (q_assign rfl) ?_))))
  refine al_end (aq_then ?_)
  refine ac_ret (ret1 Tryz.results47 rfl (fun w9 hs => ?_))
  exact ⟨by first | (simp_all [wthn]; done) | (simp_all [wthn]; omega), hs.below⟩
 ·refine al_skip rfl rfl rfl (al_skip rfl rfl rfl (al_skip rfl rfl rfl (al_p (q_pickF rfl rfl) (al_p (q_assign rfl) ?_))))
  refine al_end (aq_then ?_)
  refine ac_ret (ret1 Tryz.results47 rfl (fun w9 hs => ?_))
  exact ⟨by first | (simp_all [wthn]; done) | (simp_all [wthn]; omega), hs.below⟩
set_option maxRecDepth 100000 in
theorem validList1_any (x a b : Int) (b6 b7 : Nat) (w : World) (h6 : w.cell? ⟨b6, 0, none⟩ = some (.int .i64 a)) (h7 : w.cell? ⟨b7, 0, none⟩ = some (.int .i64 b)) (k6 : b6 < w.heap.size) (k7 : b7 < w.heap.size) : Calls Tryz.prog 91 #[(.int .i64 x), (.pointer (some ⟨b6, 0 + 0, none⟩)), (.pointer (some ⟨b7, 0 + 0, none⟩))] w (Ret (.bool (!wthn x a b)) w) := by
 refine calls_ax (vs := [(.int .i64 x), (.pointer (some ⟨b6, 0 + 0, none⟩)), (.pointer (some ⟨b7, 0 + 0, none⟩))]) Tryz.func91 rfl rfl ?_
 refine ac_seq (ac_region ?_)
 refine al_p (q_assign rfl) (al_end (aq_then ?_))
 refine ac_seq (ac_region ?_)
 refine al_p (q_move rfl) (al_p (q_loadX rfl Tryz.isAgg3 (fun w9 hs => (hs.below.cell (p := ⟨_, _, none⟩) k6).trans ((one_fact h6) 0 _ rfl))) (al_p (q_loadX rfl Tryz.isAgg3 (fun w9 hs => (hs.below.cell (p := ⟨_, _, none⟩) k7).trans ((one_fact h7) 0 _ rfl))) (al_call Tryz.call47 (.cons rfl (.cons rfl (.cons rfl .nil))) rfl rfl (fun w1 hs1 => ?_))))
 refine (cwithin_any x a b _).mono ?_
 rintro e u1 ⟨rfl, hb_1⟩
 refine ⟨_, rfl, hb_1, ?_⟩
 clear hs1
 refine al_p (q_not rfl) (al_p (q_assign rfl) (al_end (aq_then ?_)))
 refine ac_ret (ret1 Tryz.results91 rfl (fun w9 hs => ?_))
 exact ⟨rfl, hs.below⟩
set_option maxRecDepth 100000 in
theorem validList_any (A : Option Addr) (len cap : Nat) (zs : List Int) (n : Nat) (a b : Int) (w : World) (hI : IsT 1 intCells w A len zs) (hl : n ≤ 1000000000000000) : Calls Tryz.prog 48 #[(.slice A len cap), (.int .i64 (n : Int)), (.int .i64 a), (.int .i64 b)] w (Ret (.bool (decide (zs.length = n) && allW zs a b)) w) := by
 refine calls_ax (vs := [(.slice A len cap), (.int .i64 (n : Int)), (.int .i64 a), (.int .i64 b)]) Tryz.func48 rfl rfl ?_
 refine ac_seq (ac_region ?_)
 refine al_nb (r_box rfl rfl) ?_
 intro b1
 refine al_nb (r_box rfl rfl) ?_
 intro b2
 refine al_p (q_assign rfl) (al_end (aq_then ?_))
 refine ac_seq (ac_region ?_)
 refine al_p (q_move rfl) (al_p (q_lenS rfl Tryz.runUnderlying30) (al_p (q_move rfl) (al_p (q_eql rfl rfl) (al_p (q_move rfl) ?_))))
 refine aq_split 13 rfl (fun hb1 => ?_) (fun hb1 => ?_)
 ·have hn : len = n := by have := of_decide_eq_true hb1; omega
  refine al_p (q_move rfl) (al_p (q_makeFunc _ _ .nil (.cons rfl (.cons rfl .nil))) (al_call Tryz.call66 (.cons rfl (.cons rfl .nil)) rfl rfl (fun w1 hs1 => ?_)))
  refine (containsint2 91 b1 b2 (fun x => !wthn x a b) A len cap zs _ (hI.below hs1.below) om9 Tryz.call91 (fun x W9 _ hB => validList1_any x a b b1 b2 W9 ((hB.cell (p := ⟨b1, 0, none⟩) (hs1.at 1 rfl).lt).trans (hs1.cell (i := 1) rfl (k := 0) rfl)) ((hB.cell (p := ⟨b2, 0, none⟩) (hs1.at 0 rfl).lt).trans (hs1.cell (i := 0) rfl (k := 0) rfl)) (Nat.lt_of_lt_of_le (hs1.at 1 rfl).lt hB.size) (Nat.lt_of_lt_of_le (hs1.at 0 rfl).lt hB.size))).mono ?_
  rintro e u1 ⟨rfl, hb_1⟩
  refine ⟨_, rfl, hb_1, ?_⟩
  clear hs1
  refine al_p (q_not rfl) (al_p (q_pickT rfl rfl) (al_p (q_assign rfl) (al_end (aq_then ?_))))
  refine ac_ret (ret1 Tryz.results48 rfl (fun w9 hs => ?_))
  exact ⟨by rw [← not_any_allW, hI.1, decide_eq_true hn]; rfl, hs.below⟩
 ·have hn : len ≠ n := by have := of_decide_eq_false hb1; omega
  refine al_skip rfl rfl rfl (al_skip rfl rfl rfl (al_skip rfl rfl rfl (al_skip rfl rfl rfl (al_p (q_pickF rfl rfl) ?_))))
  refine al_p (q_assign rfl) (al_end (aq_then ?_))
  refine ac_ret (ret1 Tryz.results48 rfl (fun w9 hs => ?_))
  exact ⟨by rw [hI.1, decide_eq_false hn]; rfl, hs.below⟩
set_option maxRecDepth 100000 in
theorem validState_any (R : MachR) (M : MachD) (RS : StR) (S : StD) (w : World) (hM : IsM w R M) (hS : IsS w RS S) : Calls Tryz.prog 24 #[(.agg (machCells R M)), (RS.v S.tick)] w (Ret (.bool (validS M S)) w) := by
 refine calls_ax (vs := [(.agg (machCells R M)), (RS.v S.tick)]) Tryz.func24 rfl rfl ?_
 refine ac_seq (ac_region ?_)
 refine al_nb (r_box rfl rfl) ?_
 intro b1
 refine al_nb (r_box rfl rfl) ?_
 intro b2
 refine al_p (q_assign rfl) (al_end (aq_then ?_))
 refine ac_seq (ac_region ?_)
 refine al_p (q_loadAll (i := 1) rfl rfl Tryz.isAgg29 Tryz.sizeOf29 rfl) ?_
 refine al_p (q_fieldAddr 1 rfl Tryz.runUnderlying35 rfl Tryz.sizeOf32 de9 rfl) (al_p (q_loadSub (i := 0) rfl rfl Tryz.isAgg32 Tryz.sizeOf32 .k1 .k3) (al_call Tryz.call26 (.cons rfl (.cons rfl .nil)) rfl rfl (fun w1 hs1 => ?_)))
 refine (validCurrents_any R M RS.Q S.C _ (hM.below hs1.below) (hS.cur.below hs1.below)).mono ?_
 rintro e u1 ⟨rfl, hb_1⟩
 refine ⟨_, rfl, hb_1, ?_⟩
 clear hs1
 refine al_p (q_move rfl) ?_
 refine aq_split 9 rfl (fun hb1 => ?_) (fun hb1 => ?_)
 ·refine al_p (q_fieldAddr 0 rfl Tryz.runUnderlying35 rfl Tryz.sizeOf3 de9 rfl) (al_p (q_load (i := 0) rfl rfl rfl Tryz.isAgg3) (al_call Tryz.call47 (.cons rfl (.cons rfl (.cons rfl .nil))) rfl rfl (fun w2 hs2 => ?_)))
  refine (cwithin_any S.tick 0 1000000000 _).mono ?_
  rintro e u2 ⟨rfl, hb_2⟩
  refine ⟨_, rfl, hb_2, ?_⟩
  clear hs2
  refine al_p (q_pickT rfl rfl) (al_p (q_move rfl) ?_)
  refine aq_split 14 rfl (fun hb2 => ?_) (fun hb2 => ?_)
  ·refine al_p (q_fieldAddr 4 rfl Tryz.runUnderlying35 rfl Tryz.sizeOf30 de9 rfl) (al_p (q_load (i := 0) rfl rfl rfl Tryz.isAgg30) ?_)
   refine al_p (q_fieldAddr 1 rfl Tryz.runUnderlying29 rfl Tryz.sizeOf22 de9 rfl) (al_p (q_load (i := 1) rfl rfl rfl Tryz.isAgg22) (al_p (q_lenS rfl Tryz.runUnderlying22) (al_call Tryz.call48 (.cons rfl (.cons rfl (.cons rfl (.cons rfl .nil)))) rfl rfl (fun w3 hs3 => ?_))))
   refine (validList_any RS.H RS.lh RS.ch S.heat R.la 0 1000000000000000 _ (hS.heat.below hs3.below) hM.ka).mono ?_
   rintro e u3 ⟨rfl, hb_3⟩
   refine ⟨_, rfl, hb_3, ?_⟩
   clear hs3
   refine al_p (q_pickT rfl rfl) (al_p (q_move rfl) ?_)
   refine aq_split 22 rfl (fun hb3 => ?_) (fun hb3 => ?_)
   ·refine al_p (q_fieldAddr 5 rfl Tryz.runUnderlying35 rfl Tryz.sizeOf33 de9 rfl) (al_p (q_load (i := 0) rfl rfl rfl Tryz.isAgg33) (al_p (q_lenS rfl Tryz.runUnderlying33) ?_))
    refine al_p (q_fieldAddr 1 rfl Tryz.runUnderlying29 rfl Tryz.sizeOf22 de9 rfl) (al_p (q_load (i := 1) rfl rfl rfl Tryz.isAgg22) (al_p (q_lenS rfl Tryz.runUnderlying22) (al_p (q_eql rfl rfl) (al_p (q_pickT rfl rfl) ?_))))
    refine al_p (q_assign rfl) (al_end (aq_then ?_))
    refine ac_ret (ret1 Tryz.results24 rfl (fun w9 hs => ?_))
    refine ⟨?_, hs.below⟩
    unfold validS
    rw [← hM.coils.1] at *
    first | (simp_all [hS.trip.1]; done) | (simp_all [hS.trip.1]; rw [Bool.eq_iff_iff]; simp only [beq_iff_eq, decide_eq_true_eq]; omega)
   ·refine al_skip rfl rfl rfl (al_skip rfl rfl rfl (al_skip rfl rfl rfl (al_skip rfl rfl rfl (al_skip rfl rfl rfl ?_))))
    refine al_skip rfl rfl rfl (al_skip rfl rfl rfl (al_p (q_pickF rfl rfl) (al_p (q_assign rfl) (al_end (aq_then ?_)))))
    refine ac_ret (ret1 Tryz.results24 rfl (fun w9 hs => ?_))
    refine ⟨?_, hs.below⟩
    unfold validS
    rw [← hM.coils.1] at *
    first | (simp_all [hS.trip.1]; done) | (simp_all [hS.trip.1]; rw [Bool.eq_iff_iff]; simp only [beq_iff_eq, decide_eq_true_eq]; omega)
  ·refine al_skip rfl rfl rfl (al_skip rfl rfl rfl (al_skip rfl rfl rfl (al_skip rfl rfl rfl (al_skip rfl rfl rfl ?_))))
   refine al_skip rfl rfl rfl (al_p (q_pickF rfl rfl) (al_p (q_move rfl) (al_skip rfl rfl rfl (al_skip rfl rfl rfl ?_))))
   refine al_skip rfl rfl rfl (al_skip rfl rfl rfl (al_skip rfl rfl rfl (al_skip rfl rfl rfl (al_skip rfl rfl rfl ?_))))
   refine al_p (q_pickF rfl rfl) (al_p (q_assign rfl) (al_end (aq_then ?_)))
   refine ac_ret (ret1 Tryz.results24 rfl (fun w9 hs => ?_))
   refine ⟨?_, hs.below⟩
   unfold validS
   rw [← hM.coils.1] at *
   first | (simp_all [hS.trip.1]; done) | (simp_all [hS.trip.1]; rw [Bool.eq_iff_iff]; simp only [beq_iff_eq, decide_eq_true_eq]; omega)
 ·refine al_skip rfl rfl rfl (al_skip rfl rfl rfl (al_skip rfl rfl rfl (al_p (q_pickF rfl rfl) (al_p (q_move rfl) ?_))))
  refine al_skip rfl rfl rfl (al_skip rfl rfl rfl (al_skip rfl rfl rfl (al_skip rfl rfl rfl (al_skip rfl rfl rfl ?_))))
  refine al_skip rfl rfl rfl (al_p (q_pickF rfl rfl) (al_p (q_move rfl) (al_skip rfl rfl rfl (al_skip rfl rfl rfl ?_))))
  refine al_skip rfl rfl rfl (al_skip rfl rfl rfl (al_skip rfl rfl rfl (al_skip rfl rfl rfl (al_skip rfl rfl rfl ?_))))
  refine al_p (q_pickF rfl rfl) (al_p (q_assign rfl) (al_end (aq_then ?_)))
  refine ac_ret (ret1 Tryz.results24 rfl (fun w9 hs => ?_))
  refine ⟨?_, hs.below⟩
  unfold validS
  rw [← hM.coils.1] at *
  first | (simp_all [hS.trip.1]; done) | (simp_all [hS.trip.1]; rw [Bool.eq_iff_iff]; simp only [beq_iff_eq, decide_eq_true_eq]; omega)
end
end Go.Proofs.YthggkidiidnaoaaGreat
