import Derived.Test.YthggkidiidnaoaaGreatWAA
import Derived.Test.YthggkidiidnaoaaGreatWBC
import Derived.Test.YthggkidiidnaoaaGreatRows
import Derived.KernelRfl
import Derived.Laws.StructEq
import Derived.Laws.IdiomCopy
namespace Go.Proofs.YthggkidiidnaoaaGreat
set_option linter.unusedVariables false
set_option linter.unusedSimpArgs false
section
open Go.RowKit
theorem concat2_any (A B : Option Addr) (la ca lb cb bb : Nat) (za zb : List Int) (w : World) (hB : BoxAt w bb (.cells [.slice A la ca, .slice B lb cb])) (h1 : IsT 1 intCells w A la za) (h2 : IsT 1 intCells w B lb zb) (k1 : la ≤ 1000) (k2 : lb ≤ 1000) :
  Calls Tryz.prog 167 #[.slice (some ⟨bb, 0, none⟩) 2 2] w (fun e w' => ∃ A' c, e = .returned (.slice A' (la + lb) c) ∧ NewT 1 intCells w.heap.size w' A' (la + lb) c (za ++ zb) ∧ Below w.heap.size w w') := by
 have e1 : [za, zb].flatten = za ++ zb := by simp
 have e2 : [za, zb].flatten.length = la + lb := by rw [e1, List.length_append, h1.1, h2.1]
 refine (concat_any (some ⟨bb, 0, none⟩) 2 2 [(A, la, ca), (B, lb, cb)] [za, zb] w (isT_box0 (n := 1) (enc := sl3) (fun _ => rfl) hB rfl rfl) rfl (fun i r z hr hz => ?_) (by rw [e2]; omega) om9).mono ?_
 ·rcases i with _ | _ | i
  ·obtain rfl := Option.some.inj hr; obtain rfl := Option.some.inj hz; exact h1
  ·obtain rfl := Option.some.inj hr; obtain rfl := Option.some.inj hz; exact h2
  ·simp at hr
 ·rintro e w' ⟨A', c, rfl, hN, hb⟩
  rw [e2, e1] at hN
  exact ⟨A', c, by rw [e2], hN, hb⟩
theorem kif_bs_LLint_2_0_1 (a0 a1 : Value) (ha0 : a0.oneCell' = true) (ha1 : a1.oneCell' = true) : ∀ w, (Instr.buildSlice 106 2 #[(0, a0), (1, a1)]).run Tryz.prog w = .ok (.slice (some ⟨w.heap.size, 0, none⟩) 2 2) (w.alloc (.cells [a0, a1].toArray 30)) := by
 have ea0 : a0.cells = #[a0] := cells_one ha0
 have ea1 : a1.cells = #[a1] := cells_one ha1
 intro w; (simp [Instr.buildSlice, Instr.fill, cells_agg, newRow, Tryz.runUnderlying106, Tryz.zeroValue30, Tryz.sizeOf30, ea0, ea1] <;> (rw [(by kernel_rfl : Array.range 2 = #[0, 1])]; simp [Value.cells]))
set_option maxRecDepth 100000 in
theorem induced_any (R : MachR) (M : MachD) (Lk : Option Addr) (cl : Nat) (rows : List (Option Addr × Nat)) (A B : Option Addr) (la ca lb cb : Nat) (co ce : List Int) (w : World) (hM : IsM w R M) (hc : checkC M = 0) (hK : IsK M w Lk R.lb rows) (i1 : IsT 1 intCells w A la co) (i2 : IsT 1 intCells w B lb ce) (l1 : la = R.la) (l2 : lb = cellN M) (d1 : ∀ y ∈ co ++ ce, -2000000 ≤ y ∧ y ≤ 2000000) : Calls Tryz.prog 162 #[(circV R M Lk cl), (.slice A la ca), (.slice B lb cb)] w (fun e w' => ∃ A' c, e = .returned (.slice A' R.lb c) ∧ NewT 1 intCells w.heap.size w' A' R.lb c (indL M co ce) ∧ Below w.heap.size w w') := by
 have n1 := hM.coils.1
 have n2 := hM.shells.1
 have n3 := cellN_bd hc
 have n4 := (sound_of hc).coils.1
 have n5 := (sound_of hc).shells.1
 refine calls_ax (vs := [(circV R M Lk cl), (.slice A la ca), (.slice B lb cb)]) Tryz.func162 rfl rfl ?_
 refine ac_seq (ac_region ?_)
 refine al_nb (r_box rfl rfl) ?_
 intro b1
 refine al_p (q_assign rfl) (al_end (aq_then ?_))
 refine ac_seq (ac_region ?_)
 refine al_p (q_move rfl) (al_p (q_move rfl) (al_new (fun b => .slice (some ⟨b, 0, none⟩) 2 2) (r_buildSlice (.cons rfl (.cons rfl .nil)) (kif_bs_LLint_2_0_1 _ _ rfl rfl)) rfl rfl rfl ?_))
 intro b2
 refine al_call Tryz.call167 (.cons rfl .nil) rfl rfl (fun w1 hs1 => ?_)
 refine (concat2_any A B la ca lb cb b2 co ce _ (hs1.at 0 rfl) (i1.below hs1.below) (i2.below hs1.below) om9 om9).mono ?_
 rintro e u1 ⟨C1, c1, rfl, N1, hb_1⟩
 refine ⟨_, rfl, hb_1, ?_⟩
 clear hs1
 refine al_p (q_assign rfl) (al_end (aq_then ?_))
 refine ac_seq (ac_region ?_)
 refine al_p (q_fieldAddr 0 rfl Tryz.runUnderlying108 rfl Tryz.sizeOf29 de9 rfl) ?_
 refine al_p (q_fieldAddr 2 rfl Tryz.runUnderlying29 rfl Tryz.sizeOf23 de9 rfl) (al_p (q_load (i := 1) rfl rfl rfl Tryz.isAgg23) (al_p (q_lenS rfl Tryz.runUnderlying23) ?_))
 refine al_makeInts (n := R.lb) (z := (.int .i64 0)) (bytes := 8) rfl rfl rfl Tryz.underlying30 kr9 rfl om9 de9 rfl rfl ?_
 intro b3
 refine al_p (q_assign rfl) (al_end (aq_then ?_))
 refine ac_seq (ac_seq (ac_region ?_))
 refine al_p (q_fieldAddr 0 rfl Tryz.runUnderlying108 rfl Tryz.sizeOf29 de9 rfl) ?_
 refine al_p (q_fieldAddr 2 rfl Tryz.runUnderlying29 rfl Tryz.sizeOf23 de9 rfl) (al_p (q_load (i := 2) rfl rfl rfl Tryz.isAgg23) (al_p (q_lenS rfl Tryz.runUnderlying23) (al_p (q_move rfl) (al_end (aq_then ?_)))))
 refine ac_block ?_
 refine ac_loop (β := Nat) (fun x => x ≤ R.lb) (fun x => [(3, (.pointer (some ⟨b1, 0, none⟩))), (6, (.slice none 0 0)), (7, (.slice C1 (la + lb) c1)), (8, (.slice (some ⟨b3, 0, none⟩) (R.lb) (R.lb))), (25, (.slice (R.B) R.lb R.cb)), (26, (.int .i64 (R.lb : Int))), (27, (.int .i64 (x : Int)))]) (fun _ => _) (fun x => [(b3, .cells (mixC R.lb x (fun i => .int .i64 (indA M co ce i)) (fun _ => .int .i64 0))), (b2, _), (b1, _)]) (fun x => R.lb - x) 0 om9 ⟨rfl, rfl, rfl, rfl, rfl, rfl, rfl, trivial⟩ (fun w9 hs => (by rw [mixC_zero, ← rep_lst]; exact hs)) (fun x hF1 => ?_)
 refine ac_seq (ac_region ?_)
 refine al_p (q_lss rfl rfl) (al_end (aq_then ?_))
 refine ac_seq ?_
 refine ac_cond rfl (fun h1 => ?_) (fun h1 => ?_)
 ·have hxl : x < R.lb := by have := of_decide_eq_true h1; omega
  obtain ⟨b31, o31, hA3, hlt3, hget3⟩ := hM.shells.2 om9
  have hx3 := sA_get (M := M) (k := x) om9
  obtain ⟨b41, o41, hA4, hlt4, hget4⟩ := hK.out.2 om9
  obtain ⟨r, hx4⟩ : ∃ r, rows[x]? = some r := ⟨_, List.getElem?_eq_getElem (by rw [hK.out.1]; exact hxl)⟩
  have hrow := hK.row x r hx4
  have hsh := (sA_ok hc (k := x) om9).self
  have htb : ∀ k, k < la + lb → -50000000000000 ≤ (termA M co ce (sA M x)) k ∧ (termA M co ce (sA M x)) k ≤ 50000000000000 := fun k hk => by
   have := mulP_bd (lk_bd hc (sA M x) k) (d1 _ (iA_mem (l := co ++ ce) (k := k) (by rw [List.length_append, i1.1, i2.1]; omega)))
   unfold termA; omega
  refine ac_skip (aq_then (ac_seq (ac_block (ac_seq (ac_region ?_)))))
  refine al_p (q_move rfl) ?_
  refine al_p (q_indexAddrA (i := x) (o31 + x * 4 + 0) hA3 rfl rfl rfl om9 Tryz.runUnderlying23 Tryz.sizeOf142 rfl) (al_p (q_loadXs (ShellD.cells (sA M x)) rfl Tryz.isAgg142 Tryz.sizeOf142 (fun w9 hs j9 v9 h9 => by rw [addr_add]; exact (hs.below.cell (p := ⟨_, _, none⟩) hlt3).trans ((hget3 x _ hx3) j9 v9 h9)) rfl) (al_new (fun b => .pointer (some ⟨b, 0, none⟩)) (r_alloc Tryz.zeroValue142 rfl) rfl rfl rfl ?_))
  intro b4
  refine al_p (q_assign rfl) (al_storeAll (i := 0) rfl rfl rfl rfl Tryz.sizeOf142 rfl rfl .k0 rfl (al_end (aq_then ?_)))
  refine ac_seq (ac_region ?_)
  refine al_p (q_assign rfl) (al_end (aq_then ?_))
  refine ac_seq (ac_seq (ac_region ?_))
  refine al_p (q_move rfl) (al_p (q_lenS rfl Tryz.runUnderlying30) (al_p (q_move rfl) (al_end (aq_then ?_))))
  refine ac_block ?_
  refine ac_loop (β := Nat) (fun y => y ≤ la + lb) (fun y => [(3, (.pointer (some ⟨b1, 0, none⟩))), (6, (.slice none 0 0)), (7, (.slice C1 (la + lb) c1)), (8, (.slice (some ⟨b3, 0, none⟩) (R.lb) (R.lb))), (9, (.int .i64 (x : Int))), (10, (.pointer (some ⟨b4, 0, none⟩))), (11, (.int .i64 (dotTo (termA M co ce (sA M x)) y))), (25, (.slice (R.B) R.lb R.cb)), (26, (.int .i64 (R.lb : Int))), (27, (.int .i64 (x : Int))), (29, (.int .i64 (x : Int))), (30, (.pointer (some ⟨b31, o31 + x * 4 + 0, none⟩))), (32, (.slice C1 (la + lb) c1)), (33, (.int .i64 ((la + lb) : Int))), (34, (.int .i64 (y : Int)))]) (fun _ => _) (fun y => [(b4, _), (b3, _), (b2, _), (b1, _)]) (fun y => la + lb - y) 0 om9 ⟨rfl, rfl, rfl, rfl, rfl, rfl, rfl, rfl, rfl, rfl, rfl, rfl, rfl, rfl, rfl, trivial⟩ (fun w9 hs => hs) (fun y hF2 => ?_)
  refine ac_seq (ac_region ?_)
  refine al_p (q_lss rfl rfl) (al_end (aq_then ?_))
  refine ac_seq ?_
  refine ac_cond rfl (fun h2 => ?_) (fun h2 => ?_)
  ·have hyl : y < la + lb := by have := of_decide_eq_true h2; omega
   obtain ⟨b61, o61, hA6, hlt6, hget6⟩ := N1.isT.2 om9
   have hx6 := iA_get (l := co ++ ce) (k := y) (by rw [List.length_append, i1.1, i2.1]; omega)
   obtain ⟨b51, o51, hA5, hlt5, hget5⟩ := hrow.2 (by unfold rowN; omega)
   have hx5 : (rowM M x)[y]? = some (lkA M (sA M x) y) := lst_get _ om9
   have e1 := htb y hyl
   unfold termA at e1
   have e2 := dotTo_bd (f := (termA M co ce (sA M x))) (B := 50000000000000) y (fun k hk => htb k om9)
   refine ac_skip (aq_then (ac_seq (ac_block (ac_seq (ac_region ?_)))))
   refine al_p (q_move rfl) ?_
   refine al_p (q_indexAddrA (i := y) (o61 + y * 1 + 0) hA6 rfl rfl rfl om9 Tryz.runUnderlying30 Tryz.sizeOf3 rfl) (al_p (q_loadX rfl Tryz.isAgg3 (fun w9 hs => (hs.cellOf (.head _) (N1.new _ _ hA6) hlt6 (hget6 y _ hx6 0 _ rfl)))) (al_p (q_assign rfl) (al_p (q_assign rfl) (al_end (aq_then ?_)))))
   refine ac_region (al_p (q_move rfl) ?_)
   refine al_p (q_fieldAddr 10 rfl Tryz.runUnderlying108 rfl Tryz.sizeOf106 de9 rfl) (al_p (q_load (i := 3) rfl rfl rfl Tryz.isAgg106) (al_p (q_move rfl) ?_))
   refine al_p (q_indexAddrA (i := x) (o41 + x * 1 + 0) hA4 rfl rfl rfl om9 Tryz.runUnderlying106 Tryz.sizeOf30 rfl) (al_p (q_loadX rfl Tryz.isAgg30 (fun w9 hs => (hs.below.cell (p := ⟨_, _, none⟩) hlt4).trans ((hget4 x _ hx4) 0 _ rfl))) (al_p (q_move rfl) ?_))
   refine al_p (q_indexAddrA (i := y) (o51 + y * 1 + 0) hA5 rfl rfl rfl (by unfold rowN; omega) Tryz.runUnderlying30 Tryz.sizeOf3 rfl) (al_p (q_loadX rfl Tryz.isAgg3 (fun w9 hs => (hs.below.cell (p := ⟨_, _, none⟩) hlt5).trans ((hget5 y _ hx5) 0 _ rfl))) (al_p (q_move rfl) ?_))
   refine al_p (q_mul rfl rfl om9) ?_
   refine al_p (q_add rfl rfl om9) (al_p (q_assign rfl) (al_end (aq_inN (aq_then ?_))))
   refine ac_region ?_
   refine al_p (q_add rfl rfl om9) (al_p (q_move rfl) (al_end (aq_then ?_)))
   skip
   refine aq_round (y + 1) om9 om9 ⟨rfl, rfl, rfl, rfl, rfl, rfl, rfl, rfl, rfl, rfl, rfl, rfl, rfl, rfl, rfl, trivial⟩ (fun w9 hs => hs)
  ·have hye : y = la + lb := by have := of_decide_eq_false h2; omega
   have e2 := dotTo_bd (f := (termA M co ce (sA M x))) (B := 50000000000000) y (fun k hk => htb k om9)
   have hval : (dotTo (termA M co ce (sA M x)) y).tdiv (sA M x).self = indA M co ce x := by unfold indA; rw [hye, l1, l2, n1]
   refine ac_exit (aq_thenE (aq_thenE (aq_hit (aq_then ?_))))
   refine ac_region (al_p (q_move rfl) (al_p (q_move rfl) (al_p (q_move rfl) ?_)))
   refine al_p (q_fieldAddr 2 rfl Tryz.runUnderlying142 rfl Tryz.sizeOf3 de9 rfl) (al_p (q_load (i := 0) rfl rfl rfl Tryz.isAgg3) ?_)
   refine al_p (q_quo rfl rfl om9) ?_
   refine al_p (q_indexAddr (i := x) (x) rfl rfl rfl hxl Tryz.runUnderlying30 Tryz.sizeOf3 om9) ?_
   refine al_store1 (i := 1) rfl rfl rfl rfl Tryz.sizeOf3 (SetAt.ofSet (by rw [mixC_len]; exact hxl)) .k1 rfl (al_end (aq_inN (aq_then (ac_region ?_))))
   refine al_p (q_add rfl rfl om9) (al_p (q_move rfl) (al_end (aq_then ?_)))
   skip
   refine aq_round (x + 1) om9 om9 ⟨rfl, rfl, rfl, rfl, rfl, rfl, rfl, trivial⟩ (fun w9 hs => (by have h9 := (hs.tail 1 rfl); rw [hval, mixC_set R.lb x _ _ hxl] at h9; exact h9))
 ·have hxe : x = R.lb := by have := of_decide_eq_false h1; omega
  refine ac_exit (aq_thenE (aq_thenE (aq_hit (aq_then ?_))))
  refine ac_seq (ac_region ?_)
  refine al_p (q_move rfl) (al_p (q_assign rfl) (al_end (aq_then ?_)))
  refine ac_ret (ret1 Tryz.results162 rfl (fun w9 hs => ?_))
  rw [hxe, mixC_all] at hs
  exact ⟨some ⟨b3, 0, none⟩, R.lb, rfl, by rw [indL, n2]; exact new_lst hs (i := 0) rfl om9, hs.below⟩
end
section
open Go.RowKit
set_option maxRecDepth 100000 in
theorem cloneI_nil (n c : Nat) (zs : List Int) (w : World) (hI : IsT 1 intCells w none n zs) : Calls Tryz.prog 139 #[(.slice none n c)] w (fun e w' => ∃ o, e = .returned (.slice (gA o) n (gC o)) ∧ gok o n 1 (zs.flatMap intCells) ∧ Own w (gt o (zs.flatMap intCells)) w') := by
 refine calls_ax (vs := [(.slice none n c)]) Tryz.func139 rfl rfl ?_
 refine ac_seq (ac_region ?_)
 refine al_p (q_assign rfl) (al_end (aq_then ?_))
 refine ac_seq (ac_seq (ac_region ?_))
 refine al_p (q_move rfl) (al_p (q_eqlNil0 rfl Tryz.underlying30) (al_end (aq_then ?_)))
 refine ac_condT rfl (ac_seq (ac_region ?_))
 refine al_p (q_assign rfl) (al_end (aq_then ?_))
 refine ac_ret (aq_thenR (ret1 Tryz.results139 rfl (fun w9 hs => ?_)))
 have h0 : n = 0 := by
  rcases Nat.eq_zero_or_pos n with h | h
  ·exact h
  ·obtain ⟨b, o, e, _⟩ := hI.2 h; cases e
 subst h0
 have hz : zs = [] := List.length_eq_zero_iff.1 hI.1
 subst hz
 exact ⟨none, rfl, gok.none 1, hs.defer 0⟩
theorem kig_bs_int_0_ : ∀ w, (Instr.buildSlice 30 0 #[]).run Tryz.prog w = .ok (.slice (some ⟨w.heap.size, 0, none⟩) 0 0) (w.alloc (.cells [].toArray 3)) := by
 intro w; (simp [Instr.buildSlice, Instr.fill, cells_agg, newRow, Tryz.runUnderlying30, Tryz.zeroValue3, Tryz.sizeOf3] <;> (rw [(by kernel_rfl : Array.range 0 = #[])]; simp [Value.cells]))
set_option maxRecDepth 100000 in
theorem cloneI_some (A : Addr) (n c : Nat) (zs : List Int) (w : World) (hI : IsT 1 intCells w (some A) n zs) (hn : n ≤ 1000000) : Calls Tryz.prog 139 #[(.slice (some A) n c)] w (fun e w' => ∃ o, e = .returned (.slice (gA o) n (gC o)) ∧ gok o n 1 (zs.flatMap intCells) ∧ Own w (gt o (zs.flatMap intCells)) w') := by
 refine calls_ax (vs := [(.slice (some A) n c)]) Tryz.func139 rfl rfl ?_
 refine ac_seq (ac_region ?_)
 refine al_p (q_assign rfl) (al_end (aq_then ?_))
 refine ac_seq (ac_seq (ac_region ?_))
 refine al_p (q_move rfl) (al_p (q_eqlNil1 rfl Tryz.underlying30) (al_end (aq_then ?_)))
 refine ac_condF rfl (ac_skip (aq_then (ac_seq (ac_region ?_))))
 refine al_new (fun b => .slice (some ⟨b, 0, none⟩) 0 0) (r_buildSlice .nil (kig_bs_int_0_)) rfl rfl rfl ?_
 intro b1
 refine al_p (q_move rfl) ?_
 refine al_appendS (i := 0) (z := 1) (bytes := 8) (zv := (.int .i64 0)) (xs := []) (sp := []) (vs := (zs.flatMap intCells)) rfl rfl rfl rfl om9 om9 rfl (Sor.list (enc := intCells) (zs := zs) (fun _ => rfl) (fun _ => rfl) hI.1 (fun w9 hs => hI.below hs.below)) Tryz.underlying30 kr9 rfl om9 de9 rfl rfl (fun b2 c_b2 sp_b2 hc_b2 hk_b2 hl_b2 => ?_)
 refine ⟨_, .k0, ?_⟩
 refine al_p (q_assign rfl) (al_end (aq_then ?_))
 refine ac_ret (ret1 Tryz.results139 rfl (fun w9 hs => ?_))
 refine ⟨some (b2, c_b2, sp_b2), by rw [Nat.zero_add]; rfl, ⟨by rw [flatMap_len (z := 1) _ (fun _ => rfl), hI.1], (fun e => by cases e), fun b c sp e => by cases e; rw [Nat.zero_add] at hc_b2 hl_b2; exact ⟨hc_b2, hk_b2, hl_b2⟩⟩, by simpa [gt] using hs.defer 0⟩
theorem cloneI_any (A : Option Addr) (n c : Nat) (zs : List Int) (w : World) (hI : IsT 1 intCells w A n zs) (hn : n ≤ 1000000) : Calls Tryz.prog 139 #[.slice A n c] w (fun e w' => ∃ o, e = .returned (.slice (gA o) n (gC o)) ∧ gok o n 1 (zs.flatMap intCells) ∧ Own w (gt o (zs.flatMap intCells)) w') := by
 cases A with
 | none => exact cloneI_nil n c zs w hI
 | some A => exact cloneI_some A n c zs w hI hn
set_option maxRecDepth 100000 in
theorem cloneB_nil (n c : Nat) (zs : List Bool) (w : World) (hI : IsT 1 boolCells w none n zs) : Calls Tryz.prog 140 #[(.slice none n c)] w (fun e w' => ∃ o, e = .returned (.slice (gA o) n (gC o)) ∧ gok o n 1 (zs.flatMap boolCells) ∧ Own w (gt o (zs.flatMap boolCells)) w') := by
 refine calls_ax (vs := [(.slice none n c)]) Tryz.func140 rfl rfl ?_
 refine ac_seq (ac_region ?_)
 refine al_p (q_assign rfl) (al_end (aq_then ?_))
 refine ac_seq (ac_seq (ac_region ?_))
 refine al_p (q_move rfl) (al_p (q_eqlNil0 rfl Tryz.underlying33) (al_end (aq_then ?_)))
 refine ac_condT rfl (ac_seq (ac_region ?_))
 refine al_p (q_assign rfl) (al_end (aq_then ?_))
 refine ac_ret (aq_thenR (ret1 Tryz.results140 rfl (fun w9 hs => ?_)))
 have h0 : n = 0 := by
  rcases Nat.eq_zero_or_pos n with h | h
  ·exact h
  ·obtain ⟨b, o, e, _⟩ := hI.2 h; cases e
 subst h0
 have hz : zs = [] := List.length_eq_zero_iff.1 hI.1
 subst hz
 exact ⟨none, rfl, gok.none 1, hs.defer 0⟩
theorem kig_bs_bool_0_ : ∀ w, (Instr.buildSlice 33 0 #[]).run Tryz.prog w = .ok (.slice (some ⟨w.heap.size, 0, none⟩) 0 0) (w.alloc (.cells [].toArray 4)) := by
 intro w; (simp [Instr.buildSlice, Instr.fill, cells_agg, newRow, Tryz.runUnderlying33, Tryz.zeroValue4, Tryz.sizeOf4] <;> (rw [(by kernel_rfl : Array.range 0 = #[])]; simp [Value.cells]))
set_option maxRecDepth 100000 in
theorem cloneB_some (A : Addr) (n c : Nat) (zs : List Bool) (w : World) (hI : IsT 1 boolCells w (some A) n zs) (hn : n ≤ 1000000) : Calls Tryz.prog 140 #[(.slice (some A) n c)] w (fun e w' => ∃ o, e = .returned (.slice (gA o) n (gC o)) ∧ gok o n 1 (zs.flatMap boolCells) ∧ Own w (gt o (zs.flatMap boolCells)) w') := by
 refine calls_ax (vs := [(.slice (some A) n c)]) Tryz.func140 rfl rfl ?_
 refine ac_seq (ac_region ?_)
 refine al_p (q_assign rfl) (al_end (aq_then ?_))
 refine ac_seq (ac_seq (ac_region ?_))
 refine al_p (q_move rfl) (al_p (q_eqlNil1 rfl Tryz.underlying33) (al_end (aq_then ?_)))
 refine ac_condF rfl (ac_skip (aq_then (ac_seq (ac_region ?_))))
 refine al_new (fun b => .slice (some ⟨b, 0, none⟩) 0 0) (r_buildSlice .nil (kig_bs_bool_0_)) rfl rfl rfl ?_
 intro b1
 refine al_p (q_move rfl) ?_
 refine al_appendS (i := 0) (z := 1) (bytes := 1) (zv := (.bool false)) (xs := []) (sp := []) (vs := (zs.flatMap boolCells)) rfl rfl rfl rfl om9 om9 rfl (Sor.list (enc := boolCells) (zs := zs) (fun _ => rfl) (fun _ => rfl) hI.1 (fun w9 hs => hI.below hs.below)) Tryz.underlying33 kr9 rfl om9 de9 rfl rfl (fun b2 c_b2 sp_b2 hc_b2 hk_b2 hl_b2 => ?_)
 refine ⟨_, .k0, ?_⟩
 refine al_p (q_assign rfl) (al_end (aq_then ?_))
 refine ac_ret (ret1 Tryz.results140 rfl (fun w9 hs => ?_))
 refine ⟨some (b2, c_b2, sp_b2), by rw [Nat.zero_add]; rfl, ⟨by rw [flatMap_len (z := 1) _ (fun _ => rfl), hI.1], (fun e => by cases e), fun b c sp e => by cases e; rw [Nat.zero_add] at hc_b2 hl_b2; exact ⟨hc_b2, hk_b2, hl_b2⟩⟩, by simpa [gt] using hs.defer 0⟩
theorem cloneB_any (A : Option Addr) (n c : Nat) (zs : List Bool) (w : World) (hI : IsT 1 boolCells w A n zs) (hn : n ≤ 1000000) : Calls Tryz.prog 140 #[.slice A n c] w (fun e w' => ∃ o, e = .returned (.slice (gA o) n (gC o)) ∧ gok o n 1 (zs.flatMap boolCells) ∧ Own w (gt o (zs.flatMap boolCells)) w') := by
 cases A with
 | none => exact cloneB_nil n c zs w hI
 | some A => exact cloneB_some A n c zs w hI hn
abbrev fiveT (o1 o2 o3 o4 o5 : Gr) (c1 c2 c3 c4 c5 : List Value) : Boxes := gt o5 c5 ++ (gt o4 c4 ++ (gt o3 c3 ++ (gt o2 c2 ++ (gt o1 c1 ++ []))))
abbrev fiveV (n : Int) (o1 o2 o3 o4 o5 : Gr) (n1 n2 n3 n4 n5 : Nat) : Value := .agg #[.int .i64 n, .slice (gA o1) n1 (gC o1), .slice (gA o2) n2 (gC o2), .slice (gA o3) n3 (gC o3), .slice (gA o4) n4 (gC o4), .slice (gA o5) n5 (gC o5)]
theorem kig_bl_apiCurrents_0_1_2 (a0 a1 a2 : Value) (ha0 : a0.oneCell' = true) (ha1 : a1.oneCell' = true) (ha2 : a2.oneCell' = true) : ∀ w, (Instr.build 32 #[(0, a0), (1, a1), (2, a2)]).run Tryz.prog w = .ok (.agg #[a0, a1, a2]) w := by
 have ea0 : a0.cells = #[a0] := cells_one ha0
 have ea1 : a1.cells = #[a1] := cells_one ha1
 have ea2 : a2.cells = #[a2] := cells_one ha2
 intro w; simp [Instr.build, Instr.fill, cells_agg, Tryz.runUnderlying32, Tryz.zeroValue32, Tryz.sizeOf30, ea0, ea1, ea2]
set_option maxRecDepth 100000 in
theorem cloneS_any (RS : StR) (S : StD) (w : World) (hS : IsS w RS S) (k1 : RS.Q.la ≤ 1000) (k2 : RS.Q.lb ≤ 1000) (k3 : RS.Q.lc ≤ 1000) (k4 : RS.lh ≤ 1000) (k5 : RS.lt ≤ 1000) : Calls Tryz.prog 98 #[(RS.v S.tick)] w (fun e w' => ∃ o_1 o_2 o_3 o_4 o_5, e = .returned (fiveV S.tick o_1 o_2 o_3 o_4 o_5 RS.Q.la RS.Q.lb RS.Q.lc RS.lh RS.lt) ∧ (gok o_1 RS.Q.la 1 (S.C.coils.flatMap intCells) ∧ gok o_2 RS.Q.lb 1 (S.C.shells.flatMap intCells) ∧ gok o_3 RS.Q.lc 1 (S.C.plasma.flatMap intCells) ∧ gok o_4 RS.lh 1 (S.heat.flatMap intCells) ∧ gok o_5 RS.lt 1 (S.trip.flatMap boolCells)) ∧ Own w (fiveT o_1 o_2 o_3 o_4 o_5 (S.C.coils.flatMap intCells) (S.C.shells.flatMap intCells) (S.C.plasma.flatMap intCells) (S.heat.flatMap intCells) (S.trip.flatMap boolCells)) w') := by
 refine calls_ax (vs := [(RS.v S.tick)]) Tryz.func98 rfl rfl ?_
 refine ac_seq (ac_region ?_)
 refine al_nb (r_box rfl rfl) ?_
 intro b1
 refine al_nb (r_alloc Tryz.zeroValue35 rfl) ?_
 intro b2
 refine al_end (aq_then ?_)
 refine ac_seq (ac_drawF 14 (.s (.s .z)) kr9 kr9 ?_)
 refine ah_t 0 (fun w9 hs => (hs.front (.s2 .z))) rfl rfl kr9 (q_fieldAddr 1 rfl Tryz.runUnderlying35 rfl Tryz.sizeOf32 de9 rfl) ?_
 refine ah_t 1 (fun w9 hs => (hs.front (.s2 .z))) rfl rfl kr9 (q_fieldAddr 1 rfl Tryz.runUnderlying32 rfl Tryz.sizeOf30 de9 rfl) (ah_t 2 (fun w9 hs => (hs.front (.s2 .z))) rfl rfl kr9 (q_load (i := 1) rfl rfl rfl Tryz.isAgg30) ?_)
 refine ah_t 4 (fun w9 hs => (hs.front (.s2 .z))) rfl rfl kr9 (q_fieldAddr 1 rfl Tryz.runUnderlying35 rfl Tryz.sizeOf32 de9 rfl) ?_
 refine ah_t 5 (fun w9 hs => (hs.front (.s2 .z))) rfl rfl kr9 (q_fieldAddr 2 rfl Tryz.runUnderlying32 rfl Tryz.sizeOf30 de9 rfl) (ah_t 6 (fun w9 hs => (hs.front (.s2 .z))) rfl rfl kr9 (q_load (i := 1) rfl rfl rfl Tryz.isAgg30) ?_)
 refine ah_t 8 (fun w9 hs => (hs.front (.s2 .z))) rfl rfl kr9 (q_fieldAddr 1 rfl Tryz.runUnderlying35 rfl Tryz.sizeOf32 de9 rfl) ?_
 refine ah_t 9 (fun w9 hs => (hs.front (.s2 .z))) rfl rfl kr9 (q_fieldAddr 3 rfl Tryz.runUnderlying32 rfl Tryz.sizeOf30 de9 rfl) (ah_t 10 (fun w9 hs => (hs.front (.s2 .z))) rfl rfl kr9 (q_load (i := 1) rfl rfl rfl Tryz.isAgg30) (ah_one 3 rfl kr9 (fun hok1 hcl1 => ?_)))
 refine al_callS Tryz.call139 (.cons rfl .nil) rfl rfl (fun w1 hs1 => ?_)
 refine (cloneI_any RS.Q.A RS.Q.la RS.Q.ca S.C.coils _ (hS.cur.coils.below hs1.below) om9).mono ?_
 rintro e u1 ⟨o_1, rfl, g_1, hb_1⟩
 refine ⟨_, _, _, rfl, hs1.giftF (.s2 .z) hb_1 (.s2 .z), ?_⟩
 refine al_end (ah_back hok1 hcl1 (fun w9 hs => (hs.front (.s2 .z))) ?_)
 refine ah_one 7 rfl kr9 (fun hok2 hcl2 => ?_)
 refine al_callS Tryz.call139 (.cons rfl .nil) rfl rfl (fun w2 hs2 => ?_)
 refine (cloneI_any RS.Q.B RS.Q.lb RS.Q.cb S.C.shells _ (hS.cur.shells.below hs2.below) om9).mono ?_
 rintro e u2 ⟨o_2, rfl, g_2, hb_2⟩
 refine ⟨_, _, _, rfl, hs2.giftF (.s2 .z) hb_2 (.s2 .z), ?_⟩
 refine al_end (ah_back hok2 hcl2 (fun w9 hs => (hs.front (.s2 .z))) ?_)
 refine ah_one 11 rfl kr9 (fun hok3 hcl3 => ?_)
 refine al_callS Tryz.call139 (.cons rfl .nil) rfl rfl (fun w3 hs3 => ?_)
 refine (cloneI_any RS.Q.C RS.Q.lc RS.Q.cc S.C.plasma _ (hS.cur.plasma.below hs3.below) om9).mono ?_
 rintro e u3 ⟨o_3, rfl, g_3, hb_3⟩
 refine ⟨_, _, _, rfl, hs3.giftF (.s2 .z) hb_3 (.s2 .z), ?_⟩
 refine al_end (ah_back hok3 hcl3 (fun w9 hs => (hs.front (.s2 .z))) ?_)
 refine ah_t 12 (fun w9 hs => (hs.front (.s2 .z))) rfl rfl kr9 (q_build (.cons rfl (.cons rfl (.cons rfl .nil))) (kig_bl_apiCurrents_0_1_2 _ _ _ rfl rfl rfl)) ?_
 refine ah_t 13 (fun w9 hs => (hs.front (.s2 .z))) rfl rfl kr9 (q_fieldAddr 1 rfl Tryz.runUnderlying35 rfl Tryz.sizeOf32 de9 rfl) (ah_one 14 rfl kr9 (fun hok4 hcl4 => ?_))
 refine al_storeSub (i := 1) rfl rfl rfl Tryz.sizeOf32 rfl (.s (.z (.s (.s (.s (.z)))))) rfl .k1 rfl (al_end (ah_last kr9 ?_))
 refine aq_then (ac_seq (ac_region ?_))
 refine al_p (q_fieldAddr 4 rfl Tryz.runUnderlying35 rfl Tryz.sizeOf30 de9 rfl) (al_p (q_load (i := 1) rfl rfl rfl Tryz.isAgg30) (al_callS Tryz.call139 (.cons rfl .nil) rfl rfl (fun w4 hs4 => ?_)))
 refine (cloneI_any RS.H RS.lh RS.ch S.heat _ (hS.heat.below hs4.below) om9).mono ?_
 rintro e u4 ⟨o_4, rfl, g_4, hb_4⟩
 refine ⟨_, _, _, rfl, hs4.giftF (.s2 .z) hb_4 (.s2 .z), ?_⟩
 refine al_p (q_fieldAddr 4 rfl Tryz.runUnderlying35 rfl Tryz.sizeOf30 de9 rfl) (al_store1 (i := 1) rfl rfl rfl rfl Tryz.sizeOf30 .k4 .k1 rfl (al_end (aq_then ?_)))
 refine ac_seq (ac_region ?_)
 refine al_p (q_fieldAddr 5 rfl Tryz.runUnderlying35 rfl Tryz.sizeOf33 de9 rfl) (al_p (q_load (i := 1) rfl rfl rfl Tryz.isAgg33) (al_callS Tryz.call140 (.cons rfl .nil) rfl rfl (fun w5 hs5 => ?_)))
 refine (cloneB_any RS.T RS.lt RS.ct S.trip _ (hS.trip.below hs5.below) om9).mono ?_
 rintro e u5 ⟨o_5, rfl, g_5, hb_5⟩
 refine ⟨_, _, _, rfl, hs5.giftF (.s2 .z) hb_5 (.s2 .z), ?_⟩
 refine al_p (q_fieldAddr 5 rfl Tryz.runUnderlying35 rfl Tryz.sizeOf33 de9 rfl) (al_store1 (i := 1) rfl rfl rfl rfl Tryz.sizeOf33 .k5 .k1 rfl (al_end (aq_then ?_)))
 refine ac_seq (ac_region ?_)
 refine al_p (q_loadAll (i := 1) rfl rfl Tryz.isAgg35 Tryz.sizeOf35 rfl) (al_storeAll (i := 0) rfl rfl rfl rfl Tryz.sizeOf35 rfl rfl .k0 rfl (al_end (aq_then ?_)))
 refine ac_ret (retR Tryz.results98 (.agg (i := 0) rfl rfl Tryz.isAgg35 Tryz.sizeOf35 rfl .nil) .one (fun w9 hs => ?_))
 exact ⟨o_1, o_2, o_3, o_4, o_5, rfl, ⟨g_1, g_2, g_3, g_4, g_5⟩, ((hs.tail 2 rfl).defer 0)⟩
abbrev boolsF (l : List Bool) (j : Nat) : Value := .bool (bA l j)
theorem ints_lst {l : List Int} {n : Nat} (h : l.length = n) : l.flatMap intCells = lst n (intsF l) := by
 subst h
 conv => lhs; rw [list_lst l]
 exact lst_ints _ _
theorem bools_lst {l : List Bool} {n : Nat} (h : l.length = n) : l.flatMap boolCells = lst n (boolsF l) := by
 subst h
 conv => lhs; rw [listB_lst l]
 exact lst_bools _ _
structure AfS where
 (b : Nat) (o1 o2 o3 o4 o5 : Gr)
structure AfF (RS : StR) (S : StD) (x : AfS) : Prop where
 g1 : gok x.o1 RS.Q.la 1 (lst RS.Q.la (intsF S.C.coils))
 g2 : gok x.o2 RS.Q.lb 1 (lst RS.Q.lb (intsF S.C.shells))
 g3 : gok x.o3 RS.Q.lc 1 (lst RS.Q.lc (intsF S.C.plasma))
 g4 : gok x.o4 RS.lh 1 (lst RS.lh (intsF S.heat))
 g5 : gok x.o5 RS.lt 1 (lst RS.lt (boolsF S.trip))
theorem cloneL_any (RS : StR) (S : StD) (w : World) (hS : IsS w RS S) (k1 : RS.Q.la ≤ 1000) (k2 : RS.Q.lb ≤ 1000) (k3 : RS.Q.lc ≤ 1000) (k4 : RS.lh ≤ 1000) (k5 : RS.lt ≤ 1000) : Calls Tryz.prog 98 #[RS.v S.tick] w (fun e w' => ∃ o_1 o_2 o_3 o_4 o_5, e = .returned (fiveV S.tick o_1 o_2 o_3 o_4 o_5 RS.Q.la RS.Q.lb RS.Q.lc RS.lh RS.lt) ∧ (∀ b, AfF RS S ⟨b, o_1, o_2, o_3, o_4, o_5⟩) ∧ Own w (fiveT o_1 o_2 o_3 o_4 o_5 (lst RS.Q.la (intsF S.C.coils)) (lst RS.Q.lb (intsF S.C.shells)) (lst RS.Q.lc (intsF S.C.plasma)) (lst RS.lh (intsF S.heat)) (lst RS.lt (boolsF S.trip))) w') := by
 refine (cloneS_any RS S w hS k1 k2 k3 k4 k5).mono ?_
 rintro e w' ⟨o1, o2, o3, o4, o5, rfl, ⟨g1, g2, g3, g4, g5⟩, hO⟩
 rw [ints_lst hS.cur.coils.1] at g1
 rw [ints_lst hS.cur.shells.1] at g2
 rw [ints_lst hS.cur.plasma.1] at g3
 rw [ints_lst hS.heat.1] at g4
 rw [bools_lst hS.trip.1] at g5
 rw [ints_lst hS.cur.coils.1, ints_lst hS.cur.shells.1, ints_lst hS.cur.plasma.1, ints_lst hS.heat.1, bools_lst hS.trip.1] at hO
 exact ⟨o1, o2, o3, o4, o5, rfl, fun b => ⟨g1, g2, g3, g4, g5⟩, hO⟩
end
section
set_option autoImplicit false
open Go.RowKit
theorem Sta.cellG {E : Cfg} {U : Snaps} {L L1 G : Boxes} {w : World} (h : Sta E U L w) {o : Gr} {cs sp : List Value} {b c k : Nat} {v : Value} (ho : o = some (b, c, sp)) (hT : Tl L1 (gt o cs ++ G) L) (hk : cs[k]? = some v) : w.cell? ⟨b, k, none⟩ = some v := by
 subst ho
 have hL := hT.eq
 simp only [gt, List.singleton_append] at hL
 refine h.cell (i := L1.length) (cs := cs ++ sp) (b := b) (by rw [hL]; simp) ?_
 rw [List.getElem?_append_left (List.getElem?_eq_some_iff.1 hk).1]; exact hk
theorem Sta.isG {α : Type} {z n : Nat} {enc : α → List Value} (hlen : ∀ x, (enc x).length = z) {E : Cfg} {U : Snaps} {L L1 G : Boxes} {w : World} {o : Gr} {cs : List Value} {zs : List α} (h : Sta E U L w) (hT : Tl L1 (gt o cs ++ G) L) (hg : gok o n z cs)
  (hz : zs.flatMap enc = cs) (hn : zs.length = n) : IsT z enc w (gA o) n zs := by
 rcases o with _ | ⟨b, c, sp⟩
 ·have := hg.nil rfl
  exact ⟨hn, fun h0 => by omega⟩
 ·have hL := hT.eq
  simp only [gt, List.singleton_append] at hL
  exact isT_box hlen (h.at L1.length (b := b) (c := .cells (cs ++ sp)) (by rw [hL]; simp)) hz hn
section
variable {P : Program} {e0 : Cfg} {U : Snaps} {l : Slots} {L : Boxes} {ops : Array Oper} {Q : Exit → Act → World → Prop} {rest : List Oper} {d : Nat} {v : Value}
variable {ty : TypeId} {pos : String} {af : Array Edge} {g : Option (Nat × Bool)} {dd : Option Nat}
theorem al_copyG {dT sT e n n2 c c2 b cap : Nat} {o : Gr} {cs sp vs : List Value} {A B : Option Addr} {a : Addr} {L1 G L' : Boxes} {ox oy : Operand} (ho : o = some (b, cap, sp)) (hB : B = some ⟨b, 0, none⟩) (hA : A = some a) (hx : E l ox = some (.slice B n c)) (hy : E l oy = some (.slice A n2 c2)) (hn3 : n2 = n) (hT : Tl L1 (gt o cs ++ G) L)
  (hn1 : cs.length = n) (hn2 : vs.length = n) (hone : ∀ v ∈ vs, v.oneCell' = true) (hsrc : ∀ w, Sta e0 U L w → ∀ j v, vs[j]? = some v → w.cell? (a.add j) = some v)
  (hu : P.underlying dT = some (.slice e)) (hs1 : (P.info? e).map (·.size) = some 1) (hT' : Tl L1 (gt o vs ++ G) L') (hn : Nat.blt d e0.n = true) (hw : want ops l g = some true)
  (k : AL P ops Q e0 U ((d, .int .i64 (n : Int)) :: l) L' rest) : AL P ops Q e0 U l L (⟨some d, .call ⟨.builtin .copy, #[ox, oy], #[dT, sT]⟩, ty, pos, af, g⟩ :: rest) :=
 al_run2 (K := True) hw rfl hn (fun a' w hf hs => by
  subst ho hB hA
  rw [hn3] at hy
  have hL := hT.eq
  have hL' := hT'.eq
  simp only [gt, List.singleton_append] at hL hL'
  have hl := run_loadCells_list (P := P) w a vs (hsrc w hs)
  obtain ⟨w', hr, hst⟩ := run_storeCells P e0 U L1.length b vs L (cs ++ sp) 0 0 w hs (by rw [hL]; simp) (by simp; omega) hone
  rw [show (⟨b, 0, none⟩ : Addr) = ⟨b, 0 + 0, none⟩ from rfl] at *
  refine ⟨_, w', U, L', ?_, ?_, k⟩
  ·cases hq : P.info? e with
   | none => simp [hq] at hs1
   | some i =>
    have hi : i.size = 1 := by simpa [hq] using hs1
    have hc : (Builtin.copy_ #[dT, sT] ty #[.slice (some ⟨b, 0 + 0, none⟩) n c, .slice (some a) n c2]).run P w = .ok (goInt n) w' := by
     have hr' : (storeCells ⟨b, 0, none⟩ vs).run P w = .ok () w' := by simpa [storeCells] using hr
     simp [Builtin.copy_, run_underlying hu, Builtin.lenOf, Builtin.firstCells, sizeOf, typeInfo, hq, hi, ← hn2, hl, hr']
    have ex : a'.eval ox = _ := hf.ev hx
    have ey : a'.eval oy = _ := hf.ev hy
    simp only [execOp, resolve, invoke, builtin, Sem.run_bind, Sem.run_pure, Result.andThen_ok, List.map_toArray, List.map_cons, List.map_nil, ex, ey, hc]
    rfl
  ·have e1 : L.set L1.length (b, Cont.cells ((cs ++ sp).take (0 + 0) ++ vs ++ (cs ++ sp).drop (0 + 0 + vs.length))) = L' := by
    rw [hL', hL]
    simp only [Nat.zero_add, List.take_zero, List.nil_append]
    rw [show (cs ++ sp).drop vs.length = sp by rw [hn2, ← hn1]; simp]
    simp
   rw [← e1]; exact hst)
end
end
end Go.Proofs.YthggkidiidnaoaaGreat
