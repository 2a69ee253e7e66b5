import Derived.Test.YtogcjgjhmlifgaaGreatKAA
import Derived.Test.YtogcjgjhmlifgaaGreatKBA
import Derived.Test.YtogcjgjhmlifgaaGreatKBB
import Derived.Test.YtogcjgjhmlifgaaGreatRows
import Derived.KernelRfl
import Derived.Laws.StructEq
namespace Go.Proofs.YtogcjgjhmlifgaaGreat
set_option linter.unusedVariables false
set_option linter.unusedSimpArgs false
section
open Go.RowKit
theorem flat_setE {α : Type} {enc : α → List Value} {z : Nat} (hl : ∀ x, (enc x).length = z) (i : Nat) (hi : i < z) (v : Value) (x y : α) (e : enc y = (enc x).set i v) : ∀ (zs : List α) (k : Nat), zs[k]? = some x → (zs.flatMap enc).set (k * z + i) v = (zs.set k y).flatMap enc
  | [], k, h => by simp at h
  | a :: r, 0, h => by
    obtain rfl : a = x := by simpa using h
    rw [List.flatMap_cons, Nat.zero_mul, Nat.zero_add, List.set_append_left _ _ (by rw [hl]; exact hi), List.set_cons_zero, List.flatMap_cons, e]
  | a :: r, k + 1, h => by
    rw [List.flatMap_cons, List.set_append_right _ _ (by rw [hl, Nat.add_mul]; omega), hl, List.set_cons_succ, List.flatMap_cons]
    rw [show (k + 1) * z + i - z = k * z + i by rw [Nat.add_mul]; omega, flat_setE hl i hi v x y e r k (by simpa using h)]
theorem flat_spl : ∀ zs : List SpanD, (zs.flatMap SpanD.cells).length = zs.length * 2
  | [] => rfl
  | x :: r => by rw [List.flatMap_cons, List.length_append, flat_spl r, List.length_cons]; show 2 + _ = _; omega
theorem set_new {B b n c i f : Nat} {w : World} {zs : List SpanD} {sp : List Value} {v : Int} {y : SpanD} (h : BoxAt w b (.cells ((zs.flatMap SpanD.cells ++ sp).set (0 + i * 2 + f) (.int .i64 v)))) (hB : B ≤ b) (hi : i < zs.length) (hf : f < 2) (he : SpanD.cells y = (SpanD.cells (spA zs i)).set f (.int .i64 v)) (hn : zs.length = n) (hc : n ≤ c) (hk : c ≤ 9223372036854775807) : NewT 2 SpanD.cells B w (some ⟨b, 0, none⟩) n c (zs.set i y) := by
  rw [Nat.zero_add, List.set_append_left _ _ (by rw [flat_spl]; omega), flat_setE (z := 2) (fun _ => rfl) f hf _ _ y he zs i (spA_get hi)] at h
  exact ⟨isT_box (n := 2) (enc := SpanD.cells) (fun _ => rfl) h rfl (by rw [List.length_set, hn]), fun b' o e => (by cases e; exact hB), hc, hk⟩
def chkM (M : MachD) (t : Int) (xs ys : List SpanD) : Int := chkE (boxB M t xs && boxB M t ys) (wthn t 1 1000000)
def mtE (M : MachD) (t : Int) (xs ys : List SpanD) : Int := if chkM M t xs ys = 0 then cbE meetF xs ys xs.length else chkM M t xs ys
def mtR (M : MachD) (t : Int) (xs ys : List SpanD) : List SpanD := if chkM M t xs ys = 0 then cbR meetF xs ys xs.length else []
theorem chk_iff {v r : Bool} : chkE v r = 0 ↔ v = true ∧ r = true := by
  unfold chkE; cases v <;> cases r <;> simp
theorem mt_bad {M : MachD} {t : Int} {xs ys : List SpanD} {e : Int} (he : chkM M t xs ys = e) (h : e ≠ 0) : mtE M t xs ys = e ∧ mtR M t xs ys = [] := by
  subst he; exact ⟨if_neg h, if_neg h⟩
theorem mt_ok {M : MachD} {t : Int} {xs ys : List SpanD} (h : chkM M t xs ys = 0) : FitX M t xs ∧ FitX M t ys ∧ mtE M t xs ys = cbE meetF xs ys xs.length ∧ mtR M t xs ys = cbR meetF xs ys xs.length := by
  have h1 := (chk_iff.1 h).1
  rw [Bool.and_eq_true] at h1
  exact ⟨boxB_iff.1 h1.1, boxB_iff.1 h1.2, if_pos h, if_pos h⟩
theorem box_at {M : MachD} {t : Int} {xs : List SpanD} {k : Nat} (h : FitX M t xs) (hk : k < xs.length) : 0 ≤ (spA xs k).lo ∧ (spA xs k).lo ≤ (spA xs k).hi ∧ (spA xs k).hi ≤ t := h.each _ (spA_mem hk)
theorem meet_of {a b : SpanD} (h1 : vld a.lo a.hi = true) (h2 : vld b.lo b.hi = true) : meetF a b = if max a.lo b.lo ≤ min a.hi b.hi then (⟨max a.lo b.lo, min a.hi b.hi⟩, 0) else (⟨0, 0⟩, 8) := by
  unfold meetF meetL
  rw [if_pos (by rw [h1, h2]; rfl)]
  split <;> rfl
theorem meet_box {M : MachD} {t : Int} {xs ys : List SpanD} {k : Nat} (ht : t ≤ 1000000) (hx : FitX M t xs) (hy : FitX M t ys) (h1 : k < xs.length) (h2 : k < ys.length) : meetF (spA xs k) (spA ys k) = if max (spA xs k).lo (spA ys k).lo ≤ min (spA xs k).hi (spA ys k).hi then (⟨max (spA xs k).lo (spA ys k).lo, min (spA xs k).hi (spA ys k).hi⟩, 0) else (⟨0, 0⟩, 8) :=
  meet_of (vld_iff.2 (by have := box_at hx h1; omega)) (vld_iff.2 (by have := box_at hy h2; omega))
theorem chk_t {M : MachD} {t : Int} {xs ys : List SpanD} (h : chkM M t xs ys = 0) : t ≤ 1000000 := by
  have := (wthn_iff.1 (chk_iff.1 h).2); omega
theorem comb5_any (X Y : Option Addr) (nx cx ny cy : Nat) (xs ys : List SpanD) (M : MachD) (t : Int) (w : World) (hS : IsT 2 SpanD.cells w X nx xs) (hT : IsT 2 SpanD.cells w Y ny ys) (h : chkM M t xs ys = 0) : Calls Tryz.prog 52 #[.slice X nx cx, .slice Y ny cy, .func (.func 53) #[] #[]] w (OutT 2 SpanD.cells w (mtE M t xs ys) (mtR M t xs ys)) := by
  obtain ⟨h1, h2, h3, h4⟩ := mt_ok h
  have n1 := hS.1
  have n2 := hT.1
  have n3 := h1.len
  have n4 := h2.len
  have n5 := cellN_eq h1.check
  have ht := chk_t h
  rw [h3, h4, n1]
  exact combine_any meetF 53 X Y nx cx ny cy xs ys w Tryz.call53 (fun a b W => meet9_any a.lo a.hi b.lo b.hi W) hS hT (by omega) (by omega) (fun k hk => by rw [meet_box ht h1 h2 (by omega) (by omega)]; split <;> simp)
set_option maxRecDepth 100000 in
theorem meet5_any (R : MachR) (M : MachD) (X Y : Option Addr) (nx cx ny cy : Nat) (xs ys : List SpanD) (t : Int) (w : World) (hM : IsM w R M) (hS : IsT 2 SpanD.cells w X nx xs) (hT : IsT 2 SpanD.cells w Y ny ys) : Calls Tryz.prog 16 #[(.agg (mCs R M).toArray), (.int .i64 t), (.slice X nx cx), (.slice Y ny cy)] w (OutT 2 SpanD.cells w (mtE M t xs ys) (mtR M t xs ys)) := by
  refine calls_ax (vs := [(.agg (mCs R M).toArray), (.int .i64 t), (.slice X nx cx), (.slice Y ny cy)]) Tryz.func16 rfl rfl ?_
  refine ac_seq (ac_region ?_)
  refine al_new (fun b => .pointer (some ⟨b, 0, none⟩)) (r_box rfl rfl) rfl rfl rfl ?_
  intro b1
  refine al_p (q_assign rfl) (al_p (q_assign rfl) (al_end (aq_then ?_)))
  refine ac_seq (ac_seq (ac_region ?_))
  refine al_p (q_loadAll (i := 0) rfl rfl Tryz.isAgg29 Tryz.sizeOf29 rfl) (al_p (q_move rfl) (al_p (q_move rfl) (al_call Tryz.call51 (.cons rfl (.cons rfl (.cons rfl .nil))) rfl rfl (fun w1 hs1 => ?_))))
  refine (validBox_any R M X nx cx xs t _ (hM.below hs1.below) (hS.below hs1.below)).mono ?_
  rintro e u1 ⟨rfl, hb_1⟩
  refine ⟨_, rfl, hb_1, ?_⟩
  clear hs1
  refine al_p (q_move rfl) ?_
  refine aq_split 15 rfl (fun hb1 => ?_) (fun hb1 => ?_)
  · have hx : boxB M t xs = true := hb1
    refine al_p (q_loadAll (i := 0) rfl rfl Tryz.isAgg29 Tryz.sizeOf29 rfl) (al_p (q_move rfl) (al_p (q_move rfl) (al_call Tryz.call51 (.cons rfl (.cons rfl (.cons rfl .nil))) rfl rfl (fun w2 hs2 => ?_))))
    refine (validBox_any R M Y ny cy ys t _ (hM.below hs2.below) (hT.below hs2.below)).mono ?_
    rintro e u2 ⟨rfl, hb_2⟩
    refine ⟨_, rfl, hb_2, ?_⟩
    clear hs2
    refine al_p (q_pickT rfl rfl) (al_p (q_move rfl) (al_call Tryz.call47 (.cons rfl .nil) rfl rfl (fun w3 hs3 => ?_)))
    refine (total5_any t _).mono ?_
    rintro e u3 ⟨rfl, hb_3⟩
    refine ⟨_, rfl, hb_3, ?_⟩
    clear hs3
    refine al_call Tryz.call50 (.cons rfl (.cons rfl .nil)) rfl rfl (fun w4 hs4 => ?_)
    refine (chk5_any ((boxB M t ys)) ((wthn t 1 1000000)) _).mono ?_
    rintro e u4 ⟨rfl, hb_4⟩
    refine ⟨_, rfl, hb_4, ?_⟩
    clear hs4
    refine al_p (q_assign rfl) (al_end (aq_then ?_))
    refine ac_seq (ac_region ?_)
    refine al_p (q_move rfl) (al_p (q_neq rfl rfl) (al_end (aq_then ?_)))
    refine ac_cond rfl (fun h1 => ?_) (fun h1 => ?_)
    · have hne := bne_iff_ne.1 h1
      refine ac_seq (ac_region ?_)
      refine al_p (q_move rfl) (al_p (q_assign rfl) (al_p (q_assign rfl) (al_end (aq_then ?_))))
      refine ac_ret (aq_thenR (ret2 Tryz.results16 rfl rfl (fun w9 hs => ?_)))
      obtain ⟨e1, e2⟩ := mt_bad (M := M) (t := t) (xs := xs) (ys := ys) (by unfold chkM; rw [hx]; rfl) hne
      rw [e1, e2]; exact OutT.nil hs.below
    · have hk : chkM M t xs ys = 0 := by unfold chkM; rw [hx]; simpa using h1
      refine ac_skip (aq_then (ac_seq (ac_region ?_)))
      refine al_p (q_move rfl) (al_p (q_move rfl) (al_call Tryz.call52 (.cons rfl (.cons rfl (.cons rfl .nil))) rfl rfl (fun w5 hs5 => ?_)))
      refine (comb5_any X Y nx cx ny cy xs ys M t _ (hS.below hs5.below) (hT.below hs5.below) hk).mono ?_
      rintro e u5 ⟨A1, n1, c1, rfl, N1, hb_5⟩
      refine ⟨_, rfl, hb_5, ?_⟩
      clear hs5
      refine al_p (q_extract rfl rfl) (al_p (q_extract rfl rfl) (al_p (q_assign rfl) (al_p (q_assign rfl) (al_end (aq_then ?_)))))
      refine ac_ret (ret2 Tryz.results16 rfl rfl (fun w9 hs => ?_))
      exact OutT.ok (hs.newT2 (.head _) N1) hs.below
  · have hx : boxB M t xs = false := hb1
    refine al_skip rfl rfl rfl (al_skip rfl rfl rfl (al_skip rfl rfl rfl (al_skip rfl rfl rfl (al_p (q_pickF rfl rfl) ?_))))
    refine al_p (q_move rfl) (al_call Tryz.call47 (.cons rfl .nil) rfl rfl (fun w6 hs6 => ?_))
    refine (total5_any t _).mono ?_
    rintro e u6 ⟨rfl, hb_6⟩
    refine ⟨_, rfl, hb_6, ?_⟩
    clear hs6
    refine al_call Tryz.call50 (.cons rfl (.cons rfl .nil)) rfl rfl (fun w7 hs7 => ?_)
    refine (chk5_any (false) ((wthn t 1 1000000)) _).mono ?_
    rintro e u7 ⟨rfl, hb_7⟩
    refine ⟨_, rfl, hb_7, ?_⟩
    clear hs7
    refine al_p (q_assign rfl) (al_end (aq_then ?_))
    refine ac_seq (ac_region ?_)
    refine al_p (q_move rfl) (al_p (q_neq rfl rfl) (al_end (aq_then ?_)))
    refine ac_cond rfl (fun h2 => ?_) (fun h2 => ?_)
    · have hne := bne_iff_ne.1 h2
      refine ac_seq (ac_region ?_)
      refine al_p (q_move rfl) (al_p (q_assign rfl) (al_p (q_assign rfl) (al_end (aq_then ?_))))
      refine ac_ret (aq_thenR (ret2 Tryz.results16 rfl rfl (fun w9 hs => ?_)))
      obtain ⟨e1, e2⟩ := mt_bad (M := M) (t := t) (xs := xs) (ys := ys) (by unfold chkM; rw [hx]; rfl) hne
      rw [e1, e2]; exact OutT.nil hs.below
    · have hk : chkM M t xs ys = 0 := by unfold chkM; rw [hx]; simpa using h2
      refine ac_skip (aq_then (ac_seq (ac_region ?_)))
      refine al_p (q_move rfl) (al_p (q_move rfl) (al_call Tryz.call52 (.cons rfl (.cons rfl (.cons rfl .nil))) rfl rfl (fun w8 hs8 => ?_)))
      refine (comb5_any X Y nx cx ny cy xs ys M t _ (hS.below hs8.below) (hT.below hs8.below) hk).mono ?_
      rintro e u8 ⟨A1, n1, c1, rfl, N1, hb_8⟩
      refine ⟨_, rfl, hb_8, ?_⟩
      clear hs8
      refine al_p (q_extract rfl rfl) (al_p (q_extract rfl rfl) (al_p (q_assign rfl) (al_p (q_assign rfl) (al_end (aq_then ?_)))))
      refine ac_ret (ret2 Tryz.results16 rfl rfl (fun w9 hs => ?_))
      exact OutT.ok (hs.newT2 (.head _) N1) hs.below
section
variable {P : Program} {e0 : Cfg} {U : Snaps} {l : Slots} {L : Boxes} {ops : Array Oper} {Q : Exit → Act → World → Prop} {rest : List Oper} {d : Nat} {v : Value}
variable {ty : TypeId} {pos : String} {af : Array Edge} {g : Option (Nat × Bool)} {dd : Option Nat}
theorem al_makeRoomS {t e bytes n z : Nat} (zs : List Value) {zv : Value} {x : Int} {ol oc : Operand} (hl : E l ol = some (.int .i64 0)) (hc : E l oc = some (.int .i64 x)) (hx : x = (n : Int)) (hu : P.underlying t = some (.slice e)) (hinfo : (P.info? e).map (fun i => (i.zero, i.size, i.bytes)) = some (some zv, z, bytes)) (hz1 : zv.cells = zs.toArray) (hz : zs.length = z) (h0 : Nat.blt 0 z = true) (hm : n ≤ 1000000) (hb : bytes ≤ 10000)
    (hn : Nat.blt d e0.n = true) (hw : want ops l g = some true)
    (k : ∀ b, AL P ops Q e0 U ((d, .slice (some ⟨b, 0, none⟩) 0 n) :: l) ((b, .cells ((List.range n).flatMap fun _ => zs)) :: L) rest) :
    AL P ops Q e0 U l L (⟨some d, .makeSlice t ol oc, ty, pos, af, g⟩ :: rest) :=
  al_run2 (K := True) hw rfl hn (fun a w hf hs => by
    subst hx
    obtain ⟨i, hi, hzz, h1, rfl⟩ := info_split hinfo
    have hnb : i.bytes * n ≤ 10000 * 1000000 := Nat.mul_le_mul hb hm
    have hb' : (i.bytes : Int) * (n : Int) ≤ 281474976710656 := by
      have h : ((i.bytes * n : Nat) : Int) ≤ 281474976710656 := by omega
      rwa [Int.natCast_mul] at h
    have hr := run_make (P := P) w t e i zv hu hi hzz .i64 .i64 0 (n : Int) (Int.le_refl _) (by omega) hb' (by omega)
    simp only [Int.toNat_zero, Int.toNat_natCast, h1, hz1] at hr
    have hq := made_flat zs n (by rw [hz]; simpa [Nat.blt_eq] using h0)
    rw [hz] at hq
    have hA : madeCells zs.toArray (n * z) = ((List.range n).flatMap fun _ => zs).toArray := Array.ext' (by simpa using hq)
    rw [hA] at hr
    exact ⟨_, _, U, _, by simp [execOp, hf.ev hl, hf.ev hc, hr], hs.alloc _ e, k _⟩)
end
def turnX (g : GridD) (l : List SpanD) : List SpanD := lst l.length (fun k => spA l (sigma g k))
theorem turnX_chunk (g : GridD) (c d k : Nat) (hc : g.nr = c) (hd : g.nz = d) (hk : k < d) (l : List SpanD) (hl : l.length = d * c) : (turnX g l).take (k * c + c) = (turnX g l).take (k * c) ++ (l.drop ((d - 1 - k) * c)).take c := by
  have h1 : k * c + c ≤ d * c := by rw [← Nat.succ_mul]; exact Nat.mul_le_mul_right c (by omega)
  have h2 : (d - 1 - k) * c + c ≤ d * c := by rw [← Nat.succ_mul]; exact Nat.mul_le_mul_right c (by omega)
  have hlen : (turnX g l).length = d * c := by rw [turnX, lst_length, hl]
  apply List.ext_getElem
  · simp only [List.length_append, List.length_take, List.length_drop]; omega
  · intro j j1 j2
    have hj : j < k * c + c := by simp only [List.length_take] at j1; omega
    have e1 : ((turnX g l).take (k * c + c))[j] = (turnX g l)[j]'(by omega) := by rw [List.getElem_take]
    rw [e1]
    rcases Nat.lt_or_ge j (k * c) with h | h
    · rw [List.getElem_append_left (by simp only [List.length_take]; omega), List.getElem_take]
    · rw [List.getElem_append_right (by simp only [List.length_take]; omega)]
      simp only [List.length_take, List.getElem_take, List.getElem_drop]
      have hs : sigma g j = (d - 1 - k) * c + (j - k * c) := by
        have := sigma_at g k (j - k * c) c d hc hd hk (by omega)
        rw [show k * c + (j - k * c) = j by omega] at this; exact this
      have h3 : (turnX g l)[j]? = some (spA l (sigma g j)) := lst_get _ (by omega)
      have h4 := spA_get (x := l) (k := sigma g j) (by rw [hs]; omega)
      have e2 : (turnX g l)[j]'(by omega) = l[sigma g j]'(by rw [hs]; omega) := Option.some.inj ((List.getElem?_eq_getElem _).symm.trans (h3.trans (h4.symm.trans (List.getElem?_eq_getElem _))))
      rw [e2]
      congr 1
      rw [hs]; omega
def chkS (M : MachD) (t i : Int) (xs : List SpanD) : Int := chkE (boxB M t xs) (wthn t 1 1000000 && wthn i 0 ((xs.length : Int) - 1))
def midX (xs : List SpanD) (i : Nat) : Int := middleL (spA xs i).lo (spA xs i).hi
def loX (xs : List SpanD) (i : Nat) : List SpanD := xs.set i ⟨(spA xs i).lo, midX xs i⟩
def upX (xs : List SpanD) (i : Nat) : List SpanD := xs.set i ⟨midX xs i, (spA xs i).hi⟩
def spR (M : MachD) (t i : Int) (xs ys : List SpanD) : List SpanD := if chkS M t i xs = 0 then ys else []
def OutD (w : World) (E : Int) (zs ys : List SpanD) (e : Ending) (w' : World) : Prop := ∃ A n c B m d, e = .returned (.tuple #[.slice A n c, .slice B m d, .int .i64 E]) ∧ NewT 2 SpanD.cells w.heap.size w' A n c zs ∧ NewT 2 SpanD.cells w.heap.size w' B m d ys ∧ Below w.heap.size w w'
theorem newT_nil {α : Type} {z B : Nat} {enc : α → List Value} {w : World} : NewT z enc B w none 0 0 ([] : List α) := ⟨IsT.nil _ _ _ _, fun b o e => (by cases e), Nat.le_refl _, by omega⟩
def hdP (xs : List SpanD) (js : List Int) (n : Nat) : Prop := ∀ k, k < n → wthn (iA js k) (spA xs k).lo (spA xs k).hi = true
instance (xs : List SpanD) (js : List Int) (n : Nat) : Decidable (hdP xs js n) := Nat.decidableBallLT n (fun k _ => wthn (iA js k) (spA xs k).lo (spA xs k).hi = true)
def mrE (M : MachD) (xs : List SpanD) : Int := if boxB M 1000000 xs = true then 0 else 1
def mrR (M : MachD) (xs : List SpanD) : List SpanD := if boxB M 1000000 xs = true then turnX M.grid xs else []
structure MirT where
  (k n b cap : Nat) (cs sp : List Value)
theorem vbox_yes (R : MachR) (M : MachD) (X : Option Addr) (nx cx : Nat) (xs : List SpanD) (t : Int) (w : World) (hM : IsM w R M) (hS : IsT 2 SpanD.cells w X nx xs) (h : boxB M t xs = true) : Calls Tryz.prog 51 #[.agg (mCs R M).toArray, .int .i64 t, .slice X nx cx] w (Ret (.bool true) w) := by
  have h9 := validBox_any R M X nx cx xs t w hM hS
  rwa [h] at h9
theorem vbox_no (R : MachR) (M : MachD) (X : Option Addr) (nx cx : Nat) (xs : List SpanD) (t : Int) (w : World) (hM : IsM w R M) (hS : IsT 2 SpanD.cells w X nx xs) (h : boxB M t xs = false) : Calls Tryz.prog 51 #[.agg (mCs R M).toArray, .int .i64 t, .slice X nx cx] w (Ret (.bool false) w) := by
  have h9 := validBox_any R M X nx cx xs t w hM hS
  rwa [h] at h9
theorem chk_yes (w : World) : Calls Tryz.prog 50 #[.bool true, .bool true] w (Ret (.int .i64 0) w) := chk5_any true true w
theorem eqd_bs_apiSpan_0_ : ∀ w, (Instr.buildSlice 45 0 #[]).run Tryz.prog w = .ok (.slice (some ⟨w.heap.size, 0, none⟩) 0 0) (w.alloc (.cells [].toArray 52)) := by
  intro w; (simp [Instr.buildSlice, Instr.fill, cells_agg, newRow, Tryz.runUnderlying45, Tryz.zeroValue52, Tryz.sizeOf52] <;> (rw [(by kernel_rfl : Array.range 0 = #[])]; simp [Value.cells]))
set_option maxRecDepth 100000 in
theorem split_ok (R : MachR) (M : MachD) (A : Addr) (nx cx : Nat) (xs : List SpanD) (t : Int) (i : Nat) (w : World) (hM : IsM w R M) (hS : IsT 2 SpanD.cells w (some A) nx xs) (hi : i < nx) (hv : boxB M t xs = true) (t0 : 1 ≤ t) (t1 : t ≤ 1000000) : Calls Tryz.prog 19 #[(.agg (mCs R M).toArray), (.int .i64 t), (.slice (some A) nx cx), (.int .i64 (i : Int))] w (OutD w 0 (loX xs i) (upX xs i)) := by
  have n1 := hS.1
  have n5 := cellN_eq (boxB_iff.1 hv).check
  have n3 := (boxB_iff.1 hv).len
  obtain ⟨b11, o11, hA1, hlt1, hget1⟩ := hS.2 (by omega)
  have hx1 := spA_get (x := xs) (k := i) (by omega)
  refine calls_ax (vs := [(.agg (mCs R M).toArray), (.int .i64 t), (.slice (some A) nx cx), (.int .i64 (i : Int))]) Tryz.func19 rfl rfl ?_
  refine ac_seq (ac_region ?_)
  refine al_new (fun b => .pointer (some ⟨b, 0, none⟩)) (r_box rfl rfl) rfl rfl rfl ?_
  intro b1
  refine al_p (q_assign rfl) (al_p (q_assign rfl) (al_p (q_assign rfl) (al_end (aq_then ?_))))
  refine ac_seq (ac_seq (ac_region ?_))
  refine al_p (q_loadAll (i := 0) rfl rfl Tryz.isAgg29 Tryz.sizeOf29 rfl) (al_p (q_move rfl) (al_p (q_move rfl) (al_call Tryz.call51 (.cons rfl (.cons rfl (.cons rfl .nil))) rfl rfl (fun w1 hs1 => ?_))))
  refine (vbox_yes R M (some A) nx cx xs t _ (hM.below hs1.below) (hS.below hs1.below) hv).mono ?_
  rintro e u1 ⟨rfl, hb_1⟩
  refine ⟨_, rfl, hb_1, ?_⟩
  clear hs1
  refine al_p (q_move rfl) (al_call Tryz.call47 (.cons rfl .nil) rfl rfl (fun w2 hs2 => ?_))
  refine (tot_yes t _ t0 t1).mono ?_
  rintro e u2 ⟨rfl, hb_2⟩
  refine ⟨_, rfl, hb_2, ?_⟩
  clear hs2
  refine al_p (q_move rfl) (al_p (q_move rfl) (al_p (q_move rfl) (al_p (q_lenS rfl Tryz.runUnderlying45) ?_)))
  refine al_p (q_sub rfl rfl (by omega)) (al_call Tryz.call46 (.cons rfl (.cons rfl (.cons rfl .nil))) rfl rfl (fun w3 hs3 => ?_))
  refine (wth_yes (i : Int) 0 ((nx : Int) - 1) _ (by omega) (by omega)).mono ?_
  rintro e u3 ⟨rfl, hb_3⟩
  refine ⟨_, rfl, hb_3, ?_⟩
  clear hs3
  refine al_p (q_pickT rfl rfl) (al_call Tryz.call50 (.cons rfl (.cons rfl .nil)) rfl rfl (fun w4 hs4 => ?_))
  refine (chk_yes _).mono ?_
  rintro e u4 ⟨rfl, hb_4⟩
  refine ⟨_, rfl, hb_4, ?_⟩
  clear hs4
  refine al_p (q_assign rfl) (al_end (aq_then ?_))
  refine ac_seq (ac_region ?_)
  refine al_p (q_move rfl) ?_
  refine al_p (q_same (v' := .bool false) (q_neq rfl rfl) (by simp)) (al_end (aq_then ?_))
  refine ac_condF rfl (ac_skip (aq_then (ac_seq (ac_region ?_))))
  refine al_p (q_move rfl) (al_inl Tryz.call56 (.cons rfl .nil) rfl rfl Tryz.func56 rfl rfl ?_)
  refine ac_seq (ac_region ?_)
  refine al_p (q_assign rfl) (al_end (aq_then ?_))
  refine ac_seq (ac_seq (ac_region ?_))
  refine al_p (q_move rfl) (al_p (q_eqlNil1 rfl Tryz.underlying45) (al_end (aq_then ?_)))
  refine ac_condF rfl (ac_skip (aq_then (ac_seq (ac_region ?_))))
  refine al_new (fun b => .slice (some ⟨b, 0, none⟩) 0 0) (r_buildSlice .nil (eqd_bs_apiSpan_0_)) rfl rfl rfl ?_
  intro b2
  refine al_p (q_move rfl) ?_
  refine al_appendS (i := 0) (z := 2) (bytes := 16) (zv := (.agg #[.int .i64 0, .int .i64 0])) (xs := []) (sp := []) (vs := (xs.flatMap SpanD.cells)) rfl rfl (by simp) (by simp) (by omega) (by omega) rfl (Sor.list (enc := SpanD.cells) (zs := xs) (fun _ => rfl) (fun _ => rfl) hS.1 (fun w9 hs => hS.below hs.below)) Tryz.underlying45 (by kernel_rfl) rfl (by omega) (by decide) rfl rfl (fun b3 c_b3 sp_b3 hc_b3 hk_b3 hl_b3 => ?_)
  refine ⟨_, .k0, ?_⟩
  refine al_p (q_assign rfl) (al_end (aq_then ?_))
  refine ac_ret (retI Tryz.results56 (.tmp rfl .nil) .one ?_)
  refine al_p (q_move rfl) (al_inl Tryz.call56 (.cons rfl .nil) rfl rfl Tryz.func56 rfl rfl ?_)
  refine ac_seq (ac_region ?_)
  refine al_p (q_assign rfl) (al_end (aq_then ?_))
  refine ac_seq (ac_seq (ac_region ?_))
  refine al_p (q_move rfl) (al_p (q_eqlNil1 rfl Tryz.underlying45) (al_end (aq_then ?_)))
  refine ac_condF rfl (ac_skip (aq_then (ac_seq (ac_region ?_))))
  refine al_new (fun b => .slice (some ⟨b, 0, none⟩) 0 0) (r_buildSlice .nil (eqd_bs_apiSpan_0_)) rfl rfl rfl ?_
  intro b4
  refine al_p (q_move rfl) ?_
  refine al_appendS (i := 0) (z := 2) (bytes := 16) (zv := (.agg #[.int .i64 0, .int .i64 0])) (xs := []) (sp := []) (vs := (xs.flatMap SpanD.cells)) rfl rfl (by simp) (by simp) (by omega) (by omega) rfl (Sor.list (enc := SpanD.cells) (zs := xs) (fun _ => rfl) (fun _ => rfl) hS.1 (fun w9 hs => hS.below hs.below)) Tryz.underlying45 (by kernel_rfl) rfl (by omega) (by decide) rfl rfl (fun b5 c_b5 sp_b5 hc_b5 hk_b5 hl_b5 => ?_)
  refine ⟨_, .k0, ?_⟩
  refine al_p (q_assign rfl) (al_end (aq_then ?_))
  refine ac_ret (retI Tryz.results56 (.tmp rfl .nil) .one ?_)
  refine al_p (q_assign rfl) (al_p (q_assign rfl) (al_end (aq_then ?_)))
  refine ac_seq (ac_region ?_)
  refine al_p (q_move rfl) (al_p (q_move rfl) ?_)
  refine al_p (q_indexAddrA (i := i) (o11 + i * 2 + 0) hA1 rfl rfl rfl (by omega) Tryz.runUnderlying45 Tryz.sizeOf52 rfl) (al_p (q_loadXs (SpanD.cells (spA xs i)) rfl Tryz.isAgg52 Tryz.sizeOf52 (fun w9 hs j9 v9 h9 => by rw [addr_add]; exact (hs.below.cell (p := ⟨_, _, none⟩) hlt1).trans ((hget1 i _ hx1) j9 v9 h9)) rfl) (al_call Tryz.call57 (.cons rfl .nil) rfl rfl (fun w5 hs5 => ?_)))
  refine (middle_any (spA xs i).lo (spA xs i).hi _).mono ?_
  rintro e u5 ⟨rfl, hb_5⟩
  refine ⟨_, rfl, hb_5, ?_⟩
  clear hs5
  refine al_p (q_assign rfl) (al_end (aq_then ?_))
  refine ac_seq (ac_region ?_)
  refine al_p (q_move rfl) (al_p (q_move rfl) (al_p (q_move rfl) (al_p (q_move rfl) (al_p (q_move rfl) ?_))))
  refine al_p (q_move rfl) ?_
  refine al_p (q_indexAddr (i := i) (0 + i * 2) rfl rfl rfl (by omega) Tryz.runUnderlying45 Tryz.sizeOf52 rfl) ?_
  refine al_p (q_fieldAddr (0 + i * 2 + 1) rfl Tryz.runUnderlying52 rfl Tryz.sizeOf3 (by decide) rfl) ?_
  refine al_store1 (i := 1) rfl rfl rfl rfl Tryz.sizeOf3 (SetAt.ofSet (by simp only [List.length_append, List.nil_append, flat_spl]; omega)) .k1 rfl ?_
  refine al_p (q_indexAddr (i := i) (0 + i * 2) rfl rfl rfl (by omega) Tryz.runUnderlying45 Tryz.sizeOf52 rfl) ?_
  refine al_p (q_fieldAddr (0 + i * 2) rfl Tryz.runUnderlying52 rfl Tryz.sizeOf3 (by decide) rfl) ?_
  refine al_store1 (i := 0) rfl rfl rfl rfl Tryz.sizeOf3 (SetAt.ofSet (by simp only [List.length_append, List.nil_append, flat_spl]; omega)) .k0 rfl (al_end (aq_then ?_))
  refine ac_seq (ac_region ?_)
  refine al_p (q_move rfl) (al_p (q_move rfl) (al_p (q_assign rfl) (al_p (q_assign rfl) (al_p (q_assign rfl) ?_))))
  refine al_end (aq_then ?_)
  refine ac_ret (retR Tryz.results19 (.tmp rfl (.tmp rfl (.tmp rfl .nil))) .two (fun w9 hs => ?_))
  exact ⟨_, _, _, _, _, _, rfl, set_new (f := 1) (y := ⟨(spA xs i).lo, midX xs i⟩) (hs.at 1 rfl) (hs.new 1 rfl _ _ rfl) (by omega) (by decide) rfl (by omega) hc_b3 hk_b3, set_new (f := 0) (y := ⟨midX xs i, (spA xs i).hi⟩) (hs.at 0 rfl) (hs.new 0 rfl _ _ rfl) (by omega) (by decide) rfl (by omega) hc_b5 hk_b5, hs.below⟩
set_option maxRecDepth 100000 in
theorem split_bad (R : MachR) (M : MachD) (X : Option Addr) (nx cx : Nat) (xs : List SpanD) (t i : Int) (w : World) (hM : IsM w R M) (hS : IsT 2 SpanD.cells w X nx xs) (hlen : nx ≤ 1000000000000000) (h : chkS M t i xs ≠ 0) : Calls Tryz.prog 19 #[(.agg (mCs R M).toArray), (.int .i64 t), (.slice X nx cx), (.int .i64 i)] w (Ret (.tuple #[.slice none 0 0, .slice none 0 0, .int .i64 (chkS M t i xs)]) w) := by
  have n1 := hS.1
  refine calls_ax (vs := [(.agg (mCs R M).toArray), (.int .i64 t), (.slice X nx cx), (.int .i64 i)]) Tryz.func19 rfl rfl ?_
  refine ac_seq (ac_region ?_)
  refine al_new (fun b => .pointer (some ⟨b, 0, none⟩)) (r_box rfl rfl) rfl rfl rfl ?_
  intro b1
  refine al_p (q_assign rfl) (al_p (q_assign rfl) (al_p (q_assign rfl) (al_end (aq_then ?_))))
  refine ac_seq (ac_seq (ac_region ?_))
  refine al_p (q_loadAll (i := 0) rfl rfl Tryz.isAgg29 Tryz.sizeOf29 rfl) (al_p (q_move rfl) (al_p (q_move rfl) (al_call Tryz.call51 (.cons rfl (.cons rfl (.cons rfl .nil))) rfl rfl (fun w1 hs1 => ?_))))
  refine (validBox_any R M X nx cx xs t _ (hM.below hs1.below) (hS.below hs1.below)).mono ?_
  rintro e u1 ⟨rfl, hb_1⟩
  refine ⟨_, rfl, hb_1, ?_⟩
  clear hs1
  refine al_p (q_move rfl) (al_call Tryz.call47 (.cons rfl .nil) rfl rfl (fun w2 hs2 => ?_))
  refine (total5_any t _).mono ?_
  rintro e u2 ⟨rfl, hb_2⟩
  refine ⟨_, rfl, hb_2, ?_⟩
  clear hs2
  refine al_p (q_move rfl) ?_
  refine aq_split 19 rfl (fun hb1 => ?_) (fun hb1 => ?_)
  · have hw : wthn t 1 1000000 = true := hb1
    refine al_p (q_move rfl) (al_p (q_move rfl) (al_p (q_lenS rfl Tryz.runUnderlying45) ?_))
    refine al_p (q_sub rfl rfl (by omega)) (al_call Tryz.call46 (.cons rfl (.cons rfl (.cons rfl .nil))) rfl rfl (fun w3 hs3 => ?_))
    refine (within5_any i 0 ((nx : Int) - 1) _).mono ?_
    rintro e u3 ⟨rfl, hb_3⟩
    refine ⟨_, rfl, hb_3, ?_⟩
    clear hs3
    refine al_p (q_pickT rfl rfl) (al_call Tryz.call50 (.cons rfl (.cons rfl .nil)) rfl rfl (fun w4 hs4 => ?_))
    refine (chk5_any ((boxB M t xs)) ((wthn i 0 ((nx : Int) - 1))) _).mono ?_
    rintro e u4 ⟨rfl, hb_4⟩
    refine ⟨_, rfl, hb_4, ?_⟩
    clear hs4
    refine al_p (q_assign rfl) (al_end (aq_then ?_))
    refine ac_seq (ac_region ?_)
    refine al_p (q_move rfl) (al_p (q_neq rfl rfl) (al_end (aq_then ?_)))
    refine ac_cond rfl (fun h1 => ?_) (fun h1 => ?_)
    · skip
      refine ac_seq (ac_region ?_)
      refine al_p (q_move rfl) (al_p (q_assign rfl) (al_p (q_assign rfl) (al_p (q_assign rfl) (al_end (aq_then ?_)))))
      refine ac_ret (aq_thenR (retR Tryz.results19 (.tmp rfl (.tmp rfl (.tmp rfl .nil))) .two (fun w9 hs => ?_)))
      unfold chkS; rw [hw, n1]; exact ⟨rfl, hs.below⟩
    · exfalso; refine h ?_; unfold chkS; rw [hw, n1]; simpa using h1
  · have hw : wthn t 1 1000000 = false := hb1
    refine al_skip rfl rfl rfl (al_skip rfl rfl rfl (al_skip rfl rfl rfl (al_skip rfl rfl rfl (al_skip rfl rfl rfl ?_))))
    refine al_p (q_pickF rfl rfl) (al_call Tryz.call50 (.cons rfl (.cons rfl .nil)) rfl rfl (fun w5 hs5 => ?_))
    refine (chk5_any ((boxB M t xs)) (false) _).mono ?_
    rintro e u5 ⟨rfl, hb_5⟩
    refine ⟨_, rfl, hb_5, ?_⟩
    clear hs5
    refine al_p (q_assign rfl) (al_end (aq_then ?_))
    refine ac_seq (ac_region ?_)
    refine al_p (q_move rfl) (al_p (q_neq rfl rfl) (al_end (aq_then ?_)))
    refine ac_cond rfl (fun h2 => ?_) (fun h2 => ?_)
    · skip
      refine ac_seq (ac_region ?_)
      refine al_p (q_move rfl) (al_p (q_assign rfl) (al_p (q_assign rfl) (al_p (q_assign rfl) (al_end (aq_then ?_)))))
      refine ac_ret (aq_thenR (retR Tryz.results19 (.tmp rfl (.tmp rfl (.tmp rfl .nil))) .two (fun w9 hs => ?_)))
      unfold chkS; rw [hw, n1]; exact ⟨rfl, hs.below⟩
    · exfalso; refine h ?_; unfold chkS; rw [hw, n1]; simpa using h2
theorem split_any (R : MachR) (M : MachD) (X : Option Addr) (nx cx : Nat) (xs : List SpanD) (t i : Int) (w : World) (hM : IsM w R M) (hS : IsT 2 SpanD.cells w X nx xs) (hlen : nx ≤ 1000000000000000) : Calls Tryz.prog 19 #[.agg (mCs R M).toArray, .int .i64 t, .slice X nx cx, .int .i64 i] w (OutD w (chkS M t i xs) (spR M t i xs (loX xs i.toNat)) (spR M t i xs (upX xs i.toNat))) := by
  by_cases h : chkS M t i xs = 0
  · obtain ⟨h1, h2⟩ := chk_iff.1 h
    rw [Bool.and_eq_true, wthn_iff, wthn_iff, hS.1] at h2
    obtain ⟨j, rfl⟩ := Int.eq_ofNat_of_zero_le h2.2.1
    obtain ⟨b, o, e, -⟩ := hS.2 (by omega)
    subst e
    have h9 := split_ok R M ⟨b, o, none⟩ nx cx xs t j w hM hS (by omega) h1 (by omega) (by omega)
    unfold spR
    rw [if_pos h, if_pos h, h]
    exact h9
  · unfold spR
    rw [if_neg h, if_neg h]
    exact (split_bad R M X nx cx xs t i w hM hS hlen h).mono fun e w' h9 => ⟨none, 0, 0, none, 0, 0, h9.1, newT_nil, newT_nil, h9.2⟩
set_option maxRecDepth 100000 in
theorem holds5_any (X : Option Addr) (nx cx : Nat) (xs : List SpanD) (J : Option Addr) (nj cj : Nat) (js : List Int) (w : World) (hS : IsT 2 SpanD.cells w X nx xs) (hJ : IsT 1 intCells w J nj js) (hlen : nx ≤ 1000000000000000) : Calls Tryz.prog 23 #[(.slice X nx cx), (.slice J nj cj)] w (Ret (.bool (decide (nx = nj ∧ hdP xs js nx))) w) := by
  have n1 := hS.1
  have n2 := hJ.1
  refine calls_ax (vs := [(.slice X nx cx), (.slice J nj cj)]) Tryz.func23 rfl rfl ?_
  refine ac_seq (ac_region ?_)
  refine al_p (q_assign rfl) (al_end (aq_then ?_))
  refine ac_seq (ac_seq (ac_region ?_))
  refine al_p (q_move rfl) (al_p (q_lenS rfl Tryz.runUnderlying45) (al_p (q_move rfl) (al_p (q_lenS rfl Tryz.runUnderlying30) (al_p (q_neq rfl rfl) ?_))))
  refine al_end (aq_then ?_)
  refine ac_cond rfl (fun h1 => ?_) (fun h1 => ?_)
  · have hne : ¬ (nx = nj ∧ hdP xs js nx) := fun h => by have := h.1; simp at h1; omega
    refine ac_seq (ac_region ?_)
    refine al_p (q_assign rfl) (al_end (aq_then ?_))
    refine ac_ret (aq_thenR (ret1 Tryz.results23 rfl (fun w9 hs => ?_)))
    rw [decide_eq_false hne]; exact ⟨rfl, hs.below⟩
  · have hxy : nx = nj := by simp at h1; omega
    refine ac_skip (aq_then (ac_seq (ac_seq (ac_region ?_))))
    refine al_p (q_move rfl) (al_p (q_lenS rfl Tryz.runUnderlying45) (al_p (q_move rfl) (al_end (aq_then ?_))))
    refine ac_block (ac_loop (β := Nat) (fun k => k ≤ nx ∧ hdP xs js k) (fun k => [(1, (.slice J nj cj)), (4, (.bool false)), (12, (.slice X nx cx)), (13, (.int .i64 (nx : Int))), (14, (.int .i64 (k : Int)))]) (fun _ => _) (fun k => []) (fun k => nx - k) 0 ⟨by omega, fun j h => by omega⟩ ⟨rfl, rfl, rfl, rfl, rfl, trivial⟩ (fun w9 hs => hs) (fun k hF1 => ?_))
    refine ac_seq (ac_region ?_)
    refine al_p (q_lss rfl rfl) (al_end (aq_then ?_))
    refine ac_seq ?_
    refine ac_cond rfl (fun h2 => ?_) (fun h2 => ?_)
    · have hkn : k < nx := by have := of_decide_eq_true h2; omega
      obtain ⟨b11, o11, hA1, hlt1, hget1⟩ := hS.2 (by omega)
      have hx1 := spA_get (x := xs) (k := k) (by omega)
      obtain ⟨b21, o21, hA2, hlt2, hget2⟩ := hJ.2 (by omega)
      have hx2 := iA_get (l := js) (k := k) (by omega)
      refine ac_skip (aq_then (ac_seq (ac_block (ac_seq (ac_region ?_)))))
      refine al_p (q_move rfl) ?_
      refine al_p (q_indexAddrA (i := k) (o11 + k * 2 + 0) hA1 rfl rfl rfl (by omega) Tryz.runUnderlying45 Tryz.sizeOf52 rfl) (al_p (q_loadXs (SpanD.cells (spA xs k)) rfl Tryz.isAgg52 Tryz.sizeOf52 (fun w9 hs j9 v9 h9 => by rw [addr_add]; exact (hs.below.cell (p := ⟨_, _, none⟩) hlt1).trans ((hget1 k _ hx1) j9 v9 h9)) rfl) (al_new (fun b => .pointer (some ⟨b, 0, none⟩)) (r_alloc Tryz.zeroValue52 rfl) rfl rfl rfl ?_))
      intro b1
      refine al_p (q_assign rfl) (al_storeAll (i := 0) rfl rfl rfl rfl Tryz.sizeOf52 rfl rfl .k0 rfl (al_end (aq_then ?_)))
      refine ac_seq (ac_draw 9 (by kernel_rfl) (by kernel_rfl) ?_)
      refine ah_t 0 (fun w9 hs => hs) rfl rfl (by kernel_rfl) (q_move rfl) (ah_t 1 (fun w9 hs => hs) rfl rfl (by kernel_rfl) (q_move rfl) ?_)
      refine ah_t 2 (fun w9 hs => hs) rfl rfl (by kernel_rfl) (q_indexAddrA (i := k) (o21 + k * 1 + 0) hA2 rfl rfl rfl (by omega) Tryz.runUnderlying30 Tryz.sizeOf3 rfl) (ah_t 3 (fun w9 hs => hs) rfl rfl (by kernel_rfl) (q_loadX rfl Tryz.isAgg3 (fun w9 hs => (hs.below.cell (p := ⟨_, _, none⟩) hlt2).trans ((hget2 k _ hx2) 0 _ rfl))) ?_)
      refine ah_t 4 (fun w9 hs => hs) rfl rfl (by kernel_rfl) (q_fieldAddr 0 rfl Tryz.runUnderlying52 rfl Tryz.sizeOf3 (by decide) rfl) (ah_t 5 (fun w9 hs => hs) rfl rfl (by kernel_rfl) (q_load (i := 0) rfl rfl rfl Tryz.isAgg3) ?_)
      refine ah_t 6 (fun w9 hs => hs) rfl rfl (by kernel_rfl) (q_fieldAddr 1 rfl Tryz.runUnderlying52 rfl Tryz.sizeOf3 (by decide) rfl) (ah_t 7 (fun w9 hs => hs) rfl rfl (by kernel_rfl) (q_load (i := 0) rfl rfl rfl Tryz.isAgg3) (ah_one 8 rfl (by kernel_rfl) (fun hok1 hcl1 => ?_)))
      refine al_call Tryz.call46 (.cons rfl (.cons rfl (.cons rfl .nil))) rfl rfl (fun w1 hs1 => ?_)
      refine (within5_any (iA js k) (spA xs k).lo (spA xs k).hi _).mono ?_
      rintro e u1 ⟨rfl, hb_1⟩
      refine ⟨_, rfl, hb_1, ?_⟩
      clear hs1
      refine al_end (ah_back hok1 hcl1 (fun w9 hs => (hs.fewer 1 rfl)) ?_)
      refine ah_t 9 (fun w9 hs => (hs.fewer 1 rfl)) rfl rfl (by kernel_rfl) (q_not rfl) (ah_done (by kernel_rfl) ?_)
      refine aq_then ?_
      refine ac_cond rfl (fun h3 => ?_) (fun h3 => ?_)
      · have hne : ¬ (nx = nj ∧ hdP xs js nx) := fun h => by have h9 := h.2 k hkn; rw [h9] at h3; cases h3
        refine ac_seq (ac_region ?_)
        refine al_p (q_assign rfl) (al_end (aq_then ?_))
        refine ac_ret (aq_inR (aq_thenR (aq_thenR (aq_inR ?_))))
        refine aq_thenR (ret1 Tryz.results23 rfl (fun w9 hs => ?_))
        rw [decide_eq_false hne]; exact ⟨rfl, hs.below⟩
      · have hok : (wthn (iA js k) (spA xs k).lo (spA xs k).hi) = true := by simpa using h3
        refine ac_skip (aq_inN (aq_then (ac_region ?_)))
        refine al_p (q_add rfl rfl (by omega)) (al_p (q_move rfl) (al_end (aq_then ?_)))
        skip
        refine aq_round (k + 1) (by omega) ⟨by omega, fun j h1 => (Nat.lt_or_ge j k).elim (fun g => hF1.2 j g) (fun g => by (have e : j = k := by omega); rw [e]; exact hok)⟩ ⟨rfl, rfl, rfl, rfl, rfl, trivial⟩ (fun w9 hs => ((hs.fewer 1 rfl).tail 1 rfl))
    · have hke : k = nx := by have := of_decide_eq_false h2; omega
      refine ac_exit (aq_thenE (aq_thenE (aq_hit (aq_then ?_))))
      refine ac_seq (ac_region ?_)
      refine al_p (q_assign rfl) (al_end (aq_then ?_))
      refine ac_ret (ret1 Tryz.results23 rfl (fun w9 hs => ?_))
      rw [decide_eq_true (show nx = nj ∧ hdP xs js nx from ⟨hxy, by rw [← hke]; exact hF1.2⟩)]; exact ⟨rfl, hs.below⟩
set_option maxRecDepth 100000 in
theorem mbox_ok (R : MachR) (M : MachD) (X : Option Addr) (nx cx : Nat) (xs : List SpanD) (w : World) (hM : IsM w R M) (hS : IsT 2 SpanD.cells w X nx xs) (hcx : nx ≤ cx) (hcm : cx ≤ 9223372036854775807) (hv : boxB M 1000000 xs = true) : Calls Tryz.prog 21 #[(.agg (mCs R M).toArray), (.slice X nx cx)] w (OutT 2 SpanD.cells w (mrE M xs) (mrR M xs)) := by
  have hB := boxB_iff.1 hv
  have hg := (sound_of hB.check).grid
  obtain ⟨c, d, hc, hd, hn⟩ := fine_nat hg
  have hcf := cells_fine hg
  have hn0 := hg.n0
  have hn1 := hg.n1
  have hk0 := hg.k0
  have hk1 := hg.k1
  have n1 := hS.1
  have n2 := hB.len
  have n3 := cellN_eq hB.check
  have hln : xs.length = d * c := by omega
  obtain ⟨b3, o3, hA3, hlt3, hget3⟩ := hS.2 (by omega)
  refine calls_ax (vs := [(.agg (mCs R M).toArray), (.slice X nx cx)]) Tryz.func21 rfl rfl ?_
  refine ac_seq (ac_region ?_)
  refine al_new (fun b => .pointer (some ⟨b, 0, none⟩)) (r_box rfl rfl) rfl rfl rfl ?_
  intro b1
  refine al_p (q_assign rfl) (al_p (q_assign rfl) (al_end (aq_then ?_)))
  refine ac_seq (ac_seq (ac_region ?_))
  refine al_p (q_loadAll (i := 0) rfl rfl Tryz.isAgg29 Tryz.sizeOf29 rfl) (al_p (q_move rfl) (al_call Tryz.call51 (.cons rfl (.cons rfl (.cons rfl .nil))) rfl rfl (fun w1 hs1 => ?_)))
  refine (vbox_yes R M X nx cx xs 1000000 _ (hM.below hs1.below) (hS.below hs1.below) hv).mono ?_
  rintro e u1 ⟨rfl, hb_1⟩
  refine ⟨_, rfl, hb_1, ?_⟩
  clear hs1
  refine al_p (q_not rfl) (al_end (aq_then ?_))
  refine ac_condF rfl (ac_skip (aq_then (ac_seq (ac_region ?_))))
  refine al_p (q_move rfl) (al_p (q_lenS rfl Tryz.runUnderlying45) ?_)
  refine al_makeRoomS (n := nx) (bytes := 16) (zv := (.agg #[.int .i64 0, .int .i64 0])) [(.int .i64 0), (.int .i64 0)] rfl rfl rfl Tryz.underlying45 (by kernel_rfl) rfl rfl rfl (by omega) (by decide) rfl rfl ?_
  intro b2
  refine al_p (q_assign rfl) (al_end (aq_then ?_))
  refine ac_seq (ac_seq (ac_region ?_))
  refine al_p (q_fieldAddr 4 rfl Tryz.runUnderlying29 rfl Tryz.sizeOf26 (by decide) rfl) ?_
  refine al_p (q_fieldAddr 7 rfl Tryz.runUnderlying26 rfl Tryz.sizeOf3 (by decide) rfl) (al_p (q_load (i := 1) rfl rfl rfl Tryz.isAgg3) ?_)
  refine al_p (q_sub rfl rfl (by omega)) (al_p (q_assign rfl) (al_end (aq_then ?_)))
  refine ac_block ?_
  refine ac_loop (β := MirT) (fun x => (x.k ≤ d ∧ x.n = x.k * c) ∧ (x.n ≤ x.cap ∧ x.cap ≤ 9223372036854775807) ∧ x.cs.length = x.n * 2 ∧ x.sp.length = (x.cap - x.n) * 2 ∧ x.cs = ((turnX M.grid xs).take x.n).flatMap SpanD.cells) (fun x => [(1, (.slice X nx cx)), (2, (.pointer (some ⟨b1, 0, none⟩))), (4, (.slice none 0 0)), (5, (.int .i64 0)), (6, (.slice (some ⟨x.b, 0, none⟩) x.n x.cap)), (7, (.int .i64 (M.grid.nz - 1 - (x.k : Int))))]) (fun _ => _) (fun x => [(x.b, .cells (x.cs ++ x.sp)), (b1, _)]) (fun x => d - x.k) ⟨0, 0, b2, nx, [], (List.range nx).flatMap fun _ => [.int .i64 0, .int .i64 0]⟩ ⟨⟨by simp, by simp⟩, ⟨by simp, by simp only; omega⟩, by simp, by rw [flatMap_len (z := 2) _ (fun _ => rfl), List.length_range]; simp, by simp⟩ ⟨rfl, rfl, rfl, rfl, rfl, (by simp; rfl), trivial⟩ (fun w9 hs => hs) (fun x hF1 => ?_)
  obtain ⟨hxk, hxc, hxl, hxs, hcs⟩ := hF1
  have hxk2 := hxk.2
  refine ac_seq (ac_seq (ac_region ?_))
  refine al_p (q_move rfl) (al_p (q_geq rfl rfl) (al_end (aq_then ?_)))
  refine ac_cond rfl (fun h1 => ?_) (fun h1 => ?_)
  · have hk : x.k < d := by have := of_decide_eq_true h1; omega
    have e0 : M.grid.nz - 1 - (x.k : Int) = ((d - 1 - x.k : Nat) : Int) := by omega
    have hfr : (M.grid.nz - 1 - (x.k : Int)) * M.grid.nr = (((d - 1 - x.k) * c : Nat) : Int) := by rw [e0, hc, Int.natCast_mul]
    have hto : (M.grid.nz - 1 - (x.k : Int) + 1) * M.grid.nr = (((d - 1 - x.k) * c + c : Nat) : Int) := by rw [Int.add_mul, hfr, hc]; omega
    have hup : (d - 1 - x.k) * c + c ≤ d * c := by rw [← Nat.succ_mul]; exact Nat.mul_le_mul_right c (by omega)
    have hnx : x.k * c + c ≤ d * c := by rw [← Nat.succ_mul]; exact Nat.mul_le_mul_right c (by omega)
    refine ac_skip (aq_then (ac_seq (ac_block (ac_region ?_))))
    refine al_p (q_move rfl) (al_p (q_move rfl) (al_p (q_move rfl) ?_))
    refine al_p (q_fieldAddr 4 rfl Tryz.runUnderlying29 rfl Tryz.sizeOf26 (by decide) rfl) ?_
    refine al_p (q_fieldAddr 6 rfl Tryz.runUnderlying26 rfl Tryz.sizeOf3 (by decide) rfl) (al_p (q_load (i := 1) rfl rfl rfl Tryz.isAgg3) ?_)
    refine al_p (q_mul rfl rfl (by omega)) (al_p (q_move rfl) ?_)
    refine al_p (q_add rfl rfl (by omega)) ?_
    refine al_p (q_fieldAddr 4 rfl Tryz.runUnderlying29 rfl Tryz.sizeOf26 (by decide) rfl) ?_
    refine al_p (q_fieldAddr 6 rfl Tryz.runUnderlying26 rfl Tryz.sizeOf3 (by decide) rfl) (al_p (q_load (i := 1) rfl rfl rfl Tryz.isAgg3) ?_)
    refine al_p (q_mul rfl rfl (by omega)) ?_
    refine al_p (q_piece (lo := (d - 1 - x.k) * c) (hi := (d - 1 - x.k) * c + c) (n := c) (o3 + (d - 1 - x.k) * c * 2) hA3 rfl rfl rfl hfr hto (by omega) (by omega) (by omega) (by omega) Tryz.underlying45 Tryz.sizeOf52 rfl) ?_
    refine al_appendS (i := 0) (z := 2) (bytes := 16) (zv := (.agg #[.int .i64 0, .int .i64 0])) (xs := x.cs) (sp := x.sp) (vs := (((xs.drop ((d - 1 - x.k) * c)).take c).flatMap SpanD.cells)) rfl rfl (by omega) (by omega) (by omega) (by omega) rfl (Sor.list (enc := SpanD.cells) (zs := (xs.drop ((d - 1 - x.k) * c)).take c) (fun _ => rfl) (fun _ => rfl) (by rw [List.length_take, List.length_drop]; omega) (fun w9 hs => by have h9 := hS.below hs.below; rw [hA3] at h9; exact IsT.piece h9 (by omega))) Tryz.underlying45 (by kernel_rfl) rfl (by omega) (by decide) rfl rfl (fun b3 c_b3 sp_b3 hc_b3 hk_b3 hl_b3 => ?_)
    refine ⟨_, .k0, ?_⟩
    refine al_p (q_assign rfl) (al_end (aq_inN (aq_then (ac_region ?_))))
    refine al_p (q_move rfl) ?_
    refine al_p (q_sub rfl rfl (by omega)) (al_p (q_assign rfl) (al_end (aq_then ?_)))
    skip
    refine aq_round (⟨x.k + 1, x.n + c, b3, c_b3, x.cs ++ (((xs.drop ((d - 1 - x.k) * c)).take c).flatMap SpanD.cells), sp_b3⟩) (by simp only; omega) ⟨⟨by simp only; omega, by simp only; rw [Nat.add_mul, Nat.one_mul]; omega⟩, ⟨hc_b3, hk_b3⟩, by simp only; rw [List.length_append, flat_spl, List.length_take, List.length_drop]; omega, by simp only; omega, by simp only; rw [hcs, hxk.2, turnX_chunk M.grid c d x.k hc hd hk _ hln, List.flatMap_append]⟩ ⟨rfl, rfl, rfl, rfl, rfl, (by show some (Value.int .i64 _) = some (Value.int .i64 _); rw [show M.grid.nz - 1 - (x.k : Int) - 1 = M.grid.nz - 1 - ((x.k + 1 : Nat) : Int) by omega]), trivial⟩ (fun w9 hs => hs)
  · have hkd : x.k = d := by have := of_decide_eq_false h1; omega
    refine ac_exit (aq_thenE (aq_thenE (aq_hit (aq_then ?_))))
    refine ac_seq (ac_region ?_)
    refine al_p (q_move rfl) (al_p (q_assign rfl) (al_p (q_assign rfl) (al_end (aq_then ?_))))
    refine ac_ret (ret2 Tryz.results21 rfl rfl (fun w9 hs => ?_))
    have hxn : x.n = nx := by rw [hxk.2, hkd]; omega
    unfold mrE mrR
    rw [if_pos hv, if_pos hv]
    exact OutT.ok ⟨isT_box (n := 2) (enc := SpanD.cells) (zs := turnX M.grid xs) (fun _ => rfl) (hs.at 0 rfl) (by rw [hcs, List.take_of_length_le (by rw [turnX, lst_length]; omega)]) (by rw [turnX, lst_length]; omega), fun b off e => hs.new 0 rfl b off e, (show x.n ≤ x.cap by omega), (show x.cap ≤ 9223372036854775807 by omega)⟩ hs.below
set_option maxRecDepth 100000 in
theorem mbox_bad (R : MachR) (M : MachD) (X : Option Addr) (nx cx : Nat) (xs : List SpanD) (w : World) (hM : IsM w R M) (hS : IsT 2 SpanD.cells w X nx xs) (hv : boxB M 1000000 xs = false) : Calls Tryz.prog 21 #[(.agg (mCs R M).toArray), (.slice X nx cx)] w (Ret (.tuple #[.slice none 0 0, .int .i64 1]) w) := by
  refine calls_ax (vs := [(.agg (mCs R M).toArray), (.slice X nx cx)]) Tryz.func21 rfl rfl ?_
  refine ac_seq (ac_region ?_)
  refine al_new (fun b => .pointer (some ⟨b, 0, none⟩)) (r_box rfl rfl) rfl rfl rfl ?_
  intro b1
  refine al_p (q_assign rfl) (al_p (q_assign rfl) (al_end (aq_then ?_)))
  refine ac_seq (ac_seq (ac_region ?_))
  refine al_p (q_loadAll (i := 0) rfl rfl Tryz.isAgg29 Tryz.sizeOf29 rfl) (al_p (q_move rfl) (al_call Tryz.call51 (.cons rfl (.cons rfl (.cons rfl .nil))) rfl rfl (fun w1 hs1 => ?_)))
  refine (vbox_no R M X nx cx xs 1000000 _ (hM.below hs1.below) (hS.below hs1.below) hv).mono ?_
  rintro e u1 ⟨rfl, hb_1⟩
  refine ⟨_, rfl, hb_1, ?_⟩
  clear hs1
  refine al_p (q_not rfl) (al_end (aq_then ?_))
  refine ac_condT rfl (ac_seq (ac_region ?_))
  refine al_p (q_assign rfl) (al_p (q_assign rfl) (al_end (aq_then ?_)))
  refine ac_ret (aq_thenR (ret2 Tryz.results21 rfl rfl (fun w9 hs => ?_)))
  exact ⟨rfl, hs.below⟩
theorem mbox_any (R : MachR) (M : MachD) (X : Option Addr) (nx cx : Nat) (xs : List SpanD) (w : World) (hM : IsM w R M) (hS : IsT 2 SpanD.cells w X nx xs) (hcx : nx ≤ cx) (hcm : cx ≤ 9223372036854775807) : Calls Tryz.prog 21 #[.agg (mCs R M).toArray, .slice X nx cx] w (OutT 2 SpanD.cells w (mrE M xs) (mrR M xs)) := by
  by_cases hv : boxB M 1000000 xs = true
  · exact mbox_ok R M X nx cx xs w hM hS hcx hcm hv
  · rw [show mrE M xs = 1 from if_neg hv, show mrR M xs = [] from if_neg hv]
    exact (mbox_bad R M X nx cx xs w hM hS (by simpa using hv)).mono fun e w' h9 => ⟨none, 0, 0, h9.1, newT_nil, h9.2⟩
end
end Go.Proofs.YtogcjgjhmlifgaaGreat
