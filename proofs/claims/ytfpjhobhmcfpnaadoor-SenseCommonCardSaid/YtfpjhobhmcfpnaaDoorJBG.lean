import Derived.Test.YtfpjhobhmcfpnaaDoorJAU
import Derived.Test.YtfpjhobhmcfpnaaDoorJAX
import Derived.Test.YtfpjhobhmcfpnaaDoorJBF
import Derived.LoopIn
section
/- Package sense: the sensors that agree with a current, by their iterator, over this seat's translation. -/
namespace Go.Proofs.YtfpjhobhmcfpnaaDoor
set_option linter.unusedVariables false
set_option linter.unusedSimpArgs false
open Go.RowKit Go.Shelf
attribute [local go_sem] Oper.semAt_some

/-- A sensor, if its claim holds a current. -/
def agF (zs : List SpanD) (cur : Int) (k : Nat) : Option Int := if cont (zs.getD k ⟨0, 0⟩).lo (zs.getD k ⟨0, 0⟩).hi cur = true then some (k : Int) else none
/-- The sensors that agree. -/
def agL (zs : List SpanD) (cur : Int) : List Int := (List.range zs.length).filterMap (agF zs cur)
theorem agUp_len (f : Nat → Option Int) : ∀ k, ((List.range k).filterMap f).length ≤ k
  | 0 => by simp
  | k + 1 => by
    rw [filter_snoc, List.length_append]
    have := agUp_len f k
    cases f k <;> simp <;> omega
theorem agUp_mono (f : Nat → Option Int) {j k : Nat} (h : j ≤ k) : ((List.range j).filterMap f).length ≤ ((List.range k).filterMap f).length := by
  induction k with
  | zero => obtain rfl : j = 0 := by omega
            exact Nat.le_refl _
  | succ k ih =>
    by_cases e : j = k + 1
    · rw [e]; exact Nat.le_refl _
    · rw [filter_snoc, List.length_append]
      have := ih (by omega)
      omega

set_option maxRecDepth 100000 in
set_option maxHeartbeats 4000000 in
theorem agreeing1_any (l b1 b2 n cf : Nat) (F : Option Addr) (zs : List SpanD) (cur : Int) (hn : n ≤ 1000) (J Jx : List Int → World → Prop) (w : World)
    (hJ : ∀ pre W W', J pre W → Below W.heap.size W W' → J pre W')
    (hY : ∀ pre x W, J pre W → pre.length < (agL zs cur).length → YieldAt Fence.wide (7 - 1) Tryd.prog l #[.int .i64 x] W fun e W' =>
      (e = .returned (.bool true) ∧ J (pre ++ [x]) W' ∧ Below w.heap.size W W') ∨ (e = .returned (.bool false) ∧ Jx (pre ++ [x]) W'))
    (W : World) (hw : Below w.heap.size w W) (hF : IsT 2 SpanD.cells w F n zs) (h1 : w.cell? ⟨b1, 0, none⟩ = some (.slice F n cf)) (h2 : w.cell? ⟨b2, 0, none⟩ = some (.int .i64 cur)) (l1 : b1 < w.heap.size) (l2 : b2 < w.heap.size) (h0 : J [] W) :
    CallsIn Fence.wide 7 Tryd.prog 87 #[.func (.yield l) #[] #[], .pointer (some ⟨b1, 0, none⟩), .pointer (some ⟨b2, 0, none⟩)] W fun e W' => (∃ v, e = .returned v) ∧
      ((∃ ys, ys = agL zs cur ∧ J ys W') ∨ (∃ pre, True ∧ Jx pre W')) := by
  have HJ := Lib.hid hJ
  have HI := Lib.hid hF
  have hzl := hF.1
  have HYY := Lib.hid hY
  have HA : Hid (agL zs cur = (List.range n).filterMap (agF zs cur)) := Lib.hid (by unfold agL; rw [hzl])
  have HM : Hid (∀ k, k < n → agF zs cur k = some (k : Int) → ((List.range k).filterMap (agF zs cur)).length < (agL zs cur).length) := Lib.hid (fun k hk e => by
    have h1 := agUp_mono (agF zs cur) (j := k + 1) (k := n) hk
    rw [filter_snoc, e, List.length_append] at h1
    unfold agL
    rw [hzl]
    simp at h1
    omega)
  generalize agL zs cur = SL at *
  clear hJ hF hY
  have h88 : Fence.wide.fn 88 := trivial
  have c1 := (hw.cell (p := ⟨b1, 0, none⟩) l1).trans h1
  refine callsIn_of_wp Tryd.func87 rfl trivial ?_ rfl
  simp only [Tryd.ntmps87, List.size_toArray, List.length_cons, List.length_nil, Nat.reduceAdd, Nat.reduceSub, Array.replicate_succ, Array.replicate_zero, List.push_toArray, List.append_toArray, List.nil_append, List.cons_append]
  gi_wp2
  gi_loopw [8] (fun i wx => ∃ k : Nat, k ≤ n ∧ i = .int .i64 k ∧ J ((List.range k).filterMap (agF zs cur)) wx ∧ Below w.heap.size w wx) (fun i _ => n - (intOf i).toNat)
  case atStart => exact ⟨0, Nat.zero_le _, rfl, h0, hw⟩
  case round =>
    obtain ⟨k, hk, rfl, hJs, hB⟩ := hrel
    have sB := hB.size
    by_cases hlt : k < n
    · obtain ⟨-, hcf⟩ := HI.out.below hB
      obtain ⟨bf, of, rfl, hbf, hcg⟩ := hcf (by omega)
      obtain ⟨s, hs⟩ : ∃ s, zs[k]? = some s := ⟨_, List.getElem?_eq_getElem (by omega)⟩
      have e0 : wr.cell? ⟨bf, of + k * 2, none⟩ = some (.int .i64 s.lo) := by have h := hcg k s hs 0 _ rfl; simpa using h
      have e1 : wr.cell? ⟨bf, of + k * 2 + 1, none⟩ = some (.int .i64 s.hi) := by have h := hcg k s hs 1 _ rfl; simpa using h
      have l2' : b2 < wr.heap.size := by omega
      have d2 := (hB.cell (p := ⟨b2, 0, none⟩) l2).trans h2
      have HX := Lib.hid (filter_snoc (agF zs cur) k)
      have HF : Hid (agF zs cur k = if cont s.lo s.hi cur = true then some (k : Int) else none) := Lib.hid (by unfold agF; rw [List.getD_eq_getElem?_getD, hs, Option.getD_some])
      have HC := Lib.hid (fun W => contains_any s.lo s.hi cur W)
      have HMk := Lib.hid (HM.out k hlt)
      obtain ⟨xl, xh⟩ := s
      dsimp only at e0 e1 HF HC
      clear hcf hcg hs c1 h1 h2
      cases hc : cont xl xh cur
      · rw [hc] at HC
        have HN : Hid ((List.range (k + 1)).filterMap (agF zs cur) = (List.range k).filterMap (agF zs cur)) := Lib.hid (by rw [HX.out, HF.out, hc]; simp)
        clear hc HX HF HMk
        gi_wp2_with (gi_at_call 88; refine (callsIn_wide.2 (HC.out _)).mono ?_; rintro e w1 ⟨rfl, hb⟩; have hb' : Below wr.heap.size wr w1 := Below.trans (by (with_reducible repeat first | exact Below.refl _ _ | assumption | ((first | refine Below.setCell ?_ ?_ _ | refine Below.alloc ?_ ?_ _); rotate_left; exact (by first | omega | (simp; done) | (simp; omega))) | refine Below.drew ?_ | refine Below_drewN ?_ _)) (hb.mono (by first | omega | ((try simp only [World.size_alloc, World.size_setCell, size_drew, size_drewN]); omega) | (simp; done) | (simp; omega))); have hJ1 := HJ.out _ _ _ hJs hb'; have hs1 := hb'.size; clear hb)
        refine ⟨fun _ h => (by cases h), ?_⟩
        gi_wp2
        go_roundw
        case rel => exact ⟨k + 1, by omega, by go_num, by rw [HN.out]; exact hJ1, hB.trans (hb'.mono hB.size)⟩
        case measure => simp [intOf]; omega
      · rw [hc] at HC
        have HN : Hid ((List.range (k + 1)).filterMap (agF zs cur) = (List.range k).filterMap (agF zs cur) ++ [(k : Int)]) := Lib.hid (by rw [HX.out, HF.out, hc]; simp)
        have hm := HMk.out (by rw [HF.out, hc]; rfl)
        have HYk := Lib.hid (fun W1 (hJ1 : J ((List.range k).filterMap (agF zs cur)) W1) => HYY.out _ (k : Int) W1 hJ1 hm)
        clear hc HX HF HMk hm
        gi_wp2_with (gi_at_call 88; refine (callsIn_wide.2 (HC.out _)).mono ?_; rintro e w1 ⟨rfl, hb⟩; have hb' : Below wr.heap.size wr w1 := Below.trans (by (with_reducible repeat first | exact Below.refl _ _ | assumption | ((first | refine Below.setCell ?_ ?_ _ | refine Below.alloc ?_ ?_ _); rotate_left; exact (by first | omega | (simp; done) | (simp; omega))) | refine Below.drew ?_ | refine Below_drewN ?_ _)) (hb.mono (by first | omega | ((try simp only [World.size_alloc, World.size_setCell, size_drew, size_drewN]); omega) | (simp; done) | (simp; omega))); have hJ1 := HJ.out _ _ _ hJs hb'; have hs1 := hb'.size; clear hb; obtain ⟨fn, tmps, assign, body, hy, hR⟩ := HYk.out w1 hJ1)
        refine hR.mono ?_
        clear hR hy
        rintro e W3 (⟨rfl, hJ3, hk3⟩ | ⟨rfl, hJx3⟩)
        · gi_wp2
          go_roundw
          case rel => exact ⟨k + 1, by omega, by go_num, by rw [HN.out]; exact hJ3, (hB.trans (hb'.mono hB.size)).trans hk3⟩
          case measure => simp [intOf]; omega
        · gi_wp2
          refine bodyPost_ret (results_none rfl _ _ _) rfl ?_
          exact ⟨⟨_, rfl⟩, .inr ⟨_, trivial, hJx3⟩⟩
    · obtain rfl : k = n := by omega
      gi_wp2
      go_end0
      exact ⟨⟨_, rfl⟩, .inl ⟨_, HA.out.symm, hJs⟩⟩

end Go.Proofs.YtfpjhobhmcfpnaaDoor
end
section
/- Package sense: Agreeing, over this seat's translation (written by mk_agg.py). -/
namespace Go.Proofs.YtfpjhobhmcfpnaaDoor
set_option linter.unusedVariables false
set_option linter.unusedSimpArgs false
open Go.RowKit Go.Shelf

set_option maxRecDepth 100000 in
set_option maxHeartbeats 8000000 in
theorem agreeing_any (F : Option Addr) (n cf : Nat) (cur : Int) (w : World) :
    Calls Tryd.prog 49 #[.slice F n cf, .int .i64 cur] w fun e w' => e = .returned (.func (.func 87) #[] #[.pointer (some ⟨w.heap.size, 0, none⟩), .pointer (some ⟨w.heap.size + 1, 0, none⟩)]) ∧
      w' = (w.alloc (.cells #[.slice F n cf] 98)).alloc (.cells #[.int .i64 cur] 3) := by
  go_enter Tryd.func49, Tryd.ntmps49
  go_wp2
  go_ret
  exact ⟨rfl, rfl⟩

/-- What the iterator's value is, in whatever world, as long as its boxes and the claims lie there. -/
def AgIt (b1 b2 n cf : Nat) (F : Option Addr) (zs : List SpanD) (cur : Int) (w : World) : Prop :=
  IsT 2 SpanD.cells w F n zs ∧ w.cell? ⟨b1, 0, none⟩ = some (.slice F n cf) ∧ w.cell? ⟨b2, 0, none⟩ = some (.int .i64 cur) ∧ b1 < w.heap.size ∧ b2 < w.heap.size
theorem AgIt.below {b1 b2 n cf : Nat} {F : Option Addr} {zs : List SpanD} {cur : Int} {w w' : World} (h : AgIt b1 b2 n cf F zs cur w) (hb : Below w.heap.size w w') : AgIt b1 b2 n cf F zs cur w' :=
  ⟨h.1.below hb, (hb.cell (p := ⟨b1, 0, none⟩) h.2.2.2.1).trans h.2.1, (hb.cell (p := ⟨b2, 0, none⟩) h.2.2.2.2).trans h.2.2.1, Nat.lt_of_lt_of_le h.2.2.2.1 hb.size, Nat.lt_of_lt_of_le h.2.2.2.2 hb.size⟩
theorem AgIt.collect {b1 b2 n cf : Nat} {F : Option Addr} {zs : List SpanD} {cur : Int} {w : World} (h : AgIt b1 b2 n cf F zs cur w) (hn : n ≤ 1000) :
    Calls Tryd.prog 46 #[.func (.func 87) #[] #[.pointer (some ⟨b1, 0, none⟩), .pointer (some ⟨b2, 0, none⟩)]] w
      fun e w' => ∃ (A : Option Addr) (cap : Nat), e = .returned (.slice A (agL zs cur).length cap) ∧ NewI w.heap.size w' A (agL zs cur).length cap (agL zs cur) ∧ Below w.heap.size w w' :=
  collect_any 87 _ (enters_of Tryd.func87 (by kernel_rfl) rfl) (agL zs cur) (fun _ => True) (by have := agUp_len (agF zs cur) zs.length; have := h.1.1; unfold agL; omega) w
    (fun l J Jx W hW hJa _ hY h0 => agreeing1_any l b1 b2 n cf F zs cur hn J Jx w (fun pre X Y hj hb => hJa pre X Y none hj (grown_of_below hb) (fun r e => by cases e)) hY W hW h.1 h.2.1 h.2.2.1 h.2.2.2.1 h.2.2.2.2 h0)

theorem below_two {w w' : World} {a b : Obj} (h : w' = (w.alloc a).alloc b) : Below w.heap.size w w' := by
  rw [h]
  exact ((Below.refl _ w).alloc (Nat.le_refl _) a).alloc (by simp) b
theorem agit_new {w w' : World} {F : Option Addr} {n cf : Nat} {cur : Int} {t1 t2 : TypeId} {zs : List SpanD} (h : w' = (w.alloc (.cells #[.slice F n cf] t1)).alloc (.cells #[.int .i64 cur] t2)) (hF : IsT 2 SpanD.cells w F n zs) : AgIt w.heap.size (w.heap.size + 1) n cf F zs cur w' := by
  have hb := below_two h
  subst h
  refine ⟨hF.below hb, ?_, ?_, by simp only [World.size_alloc]; omega, by simp only [World.size_alloc]; omega⟩
  · exact (((RowL.new w #[.slice F n cf] t1).alloc _).cell 0 _ rfl)
  · have h2 := RowL.new (w.alloc (.cells #[.slice F n cf] t1)) #[.int .i64 cur] t2
    rw [World.size_alloc] at h2
    exact h2.cell 0 _ rfl

def agE (M : MachD) (C : CurD) (zs : List SpanD) (cell cur : Int) : Int := if explB M C zs = true then if inB C cell cur = true then 0 else 7 else 1
def agZ (M : MachD) (C : CurD) (zs : List SpanD) (cell cur : Int) : List Int := if explB M C zs = true then if inB C cell cur = true then agL (clL M (bgL M C) zs cell) cur else [] else []

set_option maxRecDepth 100000 in
set_option maxHeartbeats 8000000 in
theorem agreeingX_any (R : MachR) (M : MachD) (Qr : CurR) (Cd : CurD) (F : Option Addr) (nf cf : Nat) (zs : List SpanD) (cell cur : Int) (w : World) (hM : IsM w R M) (hC : IsC w Qr Cd) (hF : IsT 2 SpanD.cells w F nf zs) (hn : nf ≤ 1000000000000000) :
    Calls Tryd.prog 20 #[.agg (machCells R M), Qr.v, .slice F nf cf, .int .i64 cell, .int .i64 cur] w (ListAt 1 intCells (agZ M Cd zs cell cur) (agE M Cd zs cell cur) w) := by
  have HE0 := Lib.hid (fun W (hb : Below w.heap.size w W) => explainable_any R M Qr Cd F nf cf zs W (hM.below hb) (hC.below hb) (hF.below hb) hn)
  have hl := hC.plasma.1
  have hkc := hC.kc
  have v1 : IntKind.i64.wrap ((Qr.lc : Int) - 1) = (Qr.lc : Int) - 1 := IntWalk.i64_in _ (by omega)
  unfold agZ agE
  cases he : explB M Cd zs
  · rw [he] at HE0
    rw [if_neg (by decide), if_neg (by decide)]
    clear hM hC hF he hl hkc v1
    obtain ⟨A, B, Cl, D, la, ca, lb, cb, lc, cl, ld, cd⟩ := R
    obtain ⟨name, coils, shells, limits, ⟨r, z, nr, nz, step⟩, sensors⟩ := M
    obtain ⟨A1, B1, C1, na, qa, nb, qb, nc, qc⟩ := Qr
    dsimp only [CurR.v] at *
    have HE := Lib.hid (show ∀ W, Below w.heap.size w W → Calls Tryd.prog 43 #[.agg #[.string name, .slice A la ca, .slice B lb cb, .slice Cl lc cl, .int .i64 r, .int .i64 z, .int .i64 nr, .int .i64 nz, .int .i64 step, .slice D ld cd], .agg #[.slice A1 na qa, .slice B1 nb qb, .slice C1 nc qc], .slice F nf cf] W (Ret (.bool false) W) from HE0.out)
    clear HE0
    show Calls Tryd.prog 20 #[.agg #[.string name, .slice A la ca, .slice B lb cb, .slice Cl lc cl, .int .i64 r, .int .i64 z, .int .i64 nr, .int .i64 nz, .int .i64 step, .slice D ld cd], .agg #[.slice A1 na qa, .slice B1 nb qb, .slice C1 nc qc], .slice F nf cf, .int .i64 cell, .int .i64 cur] w _
    go_enter Tryd.func20, Tryd.ntmps20
    go_upto_region 1 with (fail)
    have Fm : Hid (RowL (w.heap.size) [.string name, .slice A la ca, .slice B lb cb, .slice Cl lc cl, .int .i64 r, .int .i64 z, .int .i64 nr, .int .i64 nz, .int .i64 step, .slice D ld cd] ((w.alloc (.cells #[.string name, .slice A la ca, .slice B lb cb, .slice Cl lc cl, .int .i64 r, .int .i64 z, .int .i64 nr, .int .i64 nz, .int .i64 step, .slice D ld cd] 29)).alloc (.cells #[.slice A1 na qa, .slice B1 nb qb, .slice C1 nc qc] 32))) := Lib.hid (by have h := RowL.new w #[.string name, .slice A la ca, .slice B lb cb, .slice Cl lc cl, .int .i64 r, .int .i64 z, .int .i64 nr, .int .i64 nz, .int .i64 step, .slice D ld cd] 29; (try simp only [World.size_alloc] at h); exact (h.alloc _))
    have Fc : Hid (RowL (w.heap.size + 1) [.slice A1 na qa, .slice B1 nb qb, .slice C1 nc qc] ((w.alloc (.cells #[.string name, .slice A la ca, .slice B lb cb, .slice Cl lc cl, .int .i64 r, .int .i64 z, .int .i64 nr, .int .i64 nz, .int .i64 step, .slice D ld cd] 29)).alloc (.cells #[.slice A1 na qa, .slice B1 nb qb, .slice C1 nc qc] 32))) := Lib.hid (by have h := RowL.new (w.alloc (.cells #[.string name, .slice A la ca, .slice B lb cb, .slice Cl lc cl, .int .i64 r, .int .i64 z, .int .i64 nr, .int .i64 nz, .int .i64 step, .slice D ld cd] 29)) #[.slice A1 na qa, .slice B1 nb qb, .slice C1 nc qc] 32; (try simp only [World.size_alloc] at h); exact h)
    have hB0 : Below w.heap.size w ((w.alloc (.cells #[.string name, .slice A la ca, .slice B lb cb, .slice Cl lc cl, .int .i64 r, .int .i64 z, .int .i64 nr, .int .i64 nz, .int .i64 step, .slice D ld cd] 29)).alloc (.cells #[.slice A1 na qa, .slice B1 nb qb, .slice C1 nc qc] 32)) := by (with_reducible repeat first | exact Below.refl _ _ | assumption | ((first | refine Below.setCell ?_ ?_ _ | refine Below.alloc ?_ ?_ _); rotate_left; exact (by first | omega | (simp; done) | (simp; omega))) | refine Below.drew ?_ | refine Below_drewN ?_ _)
    have sW0 : w.heap.size + 1 < ((w.alloc (.cells #[.string name, .slice A la ca, .slice B lb cb, .slice Cl lc cl, .int .i64 r, .int .i64 z, .int .i64 nr, .int .i64 nz, .int .i64 step, .slice D ld cd] 29)).alloc (.cells #[.slice A1 na qa, .slice B1 nb qb, .slice C1 nc qc] 32)).heap.size := by simp only [World.size_alloc]; omega
    obtain ⟨W0, hW0⟩ : ∃ W, ((w.alloc (.cells #[.string name, .slice A la ca, .slice B lb cb, .slice Cl lc cl, .int .i64 r, .int .i64 z, .int .i64 nr, .int .i64 nz, .int .i64 step, .slice D ld cd] 29)).alloc (.cells #[.slice A1 na qa, .slice B1 nb qb, .slice C1 nc qc] 32)) = W := ⟨_, rfl⟩
    rw [hW0] at Fm Fc hB0 sW0 ⊢
    clear hW0
    have m0 := Fm.out.cell 0 (.string name) rfl
    have m1 := Fm.out.cell 1 (.slice A la ca) rfl
    have m2 := Fm.out.cell 2 (.slice B lb cb) rfl
    have m3 := Fm.out.cell 3 (.slice Cl lc cl) rfl
    have m4 := Fm.out.cell 4 (.int .i64 r) rfl
    have m5 := Fm.out.cell 5 (.int .i64 z) rfl
    have m6 := Fm.out.cell 6 (.int .i64 nr) rfl
    have m7 := Fm.out.cell 7 (.int .i64 nz) rfl
    have m8 := Fm.out.cell 8 (.int .i64 step) rfl
    have m9 := Fm.out.cell 9 (.slice D ld cd) rfl
    have c0 := Fc.out.cell 0 (.slice A1 na qa) rfl
    have c1 := Fc.out.cell 1 (.slice B1 nb qb) rfl
    have c2 := Fc.out.cell 2 (.slice C1 nc qc) rfl
    go_wp2_with fail
    refine (HE.out _ hB0).mono ?_
    rintro e w1 ⟨rfl, hb⟩
    clear m0 m1 m2 m3 m4 m5 m6 m7 m8 m9 c0 c1 c2
    have Gm := Lib.hid (Fm.out.below hb)
    clear Fm
    have Fm := Lib.hid Gm.out
    clear Gm
    have Gc := Lib.hid (Fc.out.below hb)
    clear Fc
    have Fc := Lib.hid Gc.out
    clear Gc
    have m0 := Fm.out.cell 0 (.string name) rfl
    have m1 := Fm.out.cell 1 (.slice A la ca) rfl
    have m2 := Fm.out.cell 2 (.slice B lb cb) rfl
    have m3 := Fm.out.cell 3 (.slice Cl lc cl) rfl
    have m4 := Fm.out.cell 4 (.int .i64 r) rfl
    have m5 := Fm.out.cell 5 (.int .i64 z) rfl
    have m6 := Fm.out.cell 6 (.int .i64 nr) rfl
    have m7 := Fm.out.cell 7 (.int .i64 nz) rfl
    have m8 := Fm.out.cell 8 (.int .i64 step) rfl
    have m9 := Fm.out.cell 9 (.slice D ld cd) rfl
    have c0 := Fc.out.cell 0 (.slice A1 na qa) rfl
    have c1 := Fc.out.cell 1 (.slice B1 nb qb) rfl
    have c2 := Fc.out.cell 2 (.slice C1 nc qc) rfl
    have hB1 := hB0.trans (hb.mono hB0.size)
    have hz1 : w.heap.size + 1 < w1.heap.size := Nat.lt_of_lt_of_le sW0 hb.size
    have hy1 : w.heap.size < w1.heap.size := by omega
    clear hb HE hB0 sW0
    go_wp2_with fail
    go_ret2
    exact ⟨none, 0, rfl, ⟨rfl, fun h => absurd h (by simp)⟩, Nat.le_refl _, Nat.zero_le _, by (with_reducible repeat first | exact Below.refl _ _ | assumption | ((first | refine Below.setCell ?_ ?_ _ | refine Below.alloc ?_ ?_ _); rotate_left; exact (by first | omega | (simp; done) | (simp; omega))) | refine Below.drew ?_ | refine Below_drewN ?_ _)⟩
  rw [he] at HE0
  rw [if_pos rfl, if_pos rfl]
  unfold inB
  rw [hl]
  have HW1 := Lib.hid (fun U => seWithin_any cell 0 ((Qr.lc : Int) - 1) U)
  have HW2 := Lib.hid (fun U => seWithin_any cur 0 1000000 U)
  cases h1 : wthn cell 0 ((Qr.lc : Int) - 1)
  · rw [h1] at HW1
    rw [Bool.false_and, if_neg (by decide), if_neg (by decide)]
    clear hM hC hF he hl hkc h1 HW2
    obtain ⟨A, B, Cl, D, la, ca, lb, cb, lc, cl, ld, cd⟩ := R
    obtain ⟨name, coils, shells, limits, ⟨r, z, nr, nz, step⟩, sensors⟩ := M
    obtain ⟨A1, B1, C1, na, qa, nb, qb, nc, qc⟩ := Qr
    dsimp only [CurR.v] at *
    have HE := Lib.hid (show ∀ W, Below w.heap.size w W → Calls Tryd.prog 43 #[.agg #[.string name, .slice A la ca, .slice B lb cb, .slice Cl lc cl, .int .i64 r, .int .i64 z, .int .i64 nr, .int .i64 nz, .int .i64 step, .slice D ld cd], .agg #[.slice A1 na qa, .slice B1 nb qb, .slice C1 nc qc], .slice F nf cf] W (Ret (.bool true) W) from HE0.out)
    clear HE0
    show Calls Tryd.prog 20 #[.agg #[.string name, .slice A la ca, .slice B lb cb, .slice Cl lc cl, .int .i64 r, .int .i64 z, .int .i64 nr, .int .i64 nz, .int .i64 step, .slice D ld cd], .agg #[.slice A1 na qa, .slice B1 nb qb, .slice C1 nc qc], .slice F nf cf, .int .i64 cell, .int .i64 cur] w _
    go_enter Tryd.func20, Tryd.ntmps20
    go_upto_region 1 with (fail)
    have Fm : Hid (RowL (w.heap.size) [.string name, .slice A la ca, .slice B lb cb, .slice Cl lc cl, .int .i64 r, .int .i64 z, .int .i64 nr, .int .i64 nz, .int .i64 step, .slice D ld cd] ((w.alloc (.cells #[.string name, .slice A la ca, .slice B lb cb, .slice Cl lc cl, .int .i64 r, .int .i64 z, .int .i64 nr, .int .i64 nz, .int .i64 step, .slice D ld cd] 29)).alloc (.cells #[.slice A1 na qa, .slice B1 nb qb, .slice C1 nc qc] 32))) := Lib.hid (by have h := RowL.new w #[.string name, .slice A la ca, .slice B lb cb, .slice Cl lc cl, .int .i64 r, .int .i64 z, .int .i64 nr, .int .i64 nz, .int .i64 step, .slice D ld cd] 29; (try simp only [World.size_alloc] at h); exact (h.alloc _))
    have Fc : Hid (RowL (w.heap.size + 1) [.slice A1 na qa, .slice B1 nb qb, .slice C1 nc qc] ((w.alloc (.cells #[.string name, .slice A la ca, .slice B lb cb, .slice Cl lc cl, .int .i64 r, .int .i64 z, .int .i64 nr, .int .i64 nz, .int .i64 step, .slice D ld cd] 29)).alloc (.cells #[.slice A1 na qa, .slice B1 nb qb, .slice C1 nc qc] 32))) := Lib.hid (by have h := RowL.new (w.alloc (.cells #[.string name, .slice A la ca, .slice B lb cb, .slice Cl lc cl, .int .i64 r, .int .i64 z, .int .i64 nr, .int .i64 nz, .int .i64 step, .slice D ld cd] 29)) #[.slice A1 na qa, .slice B1 nb qb, .slice C1 nc qc] 32; (try simp only [World.size_alloc] at h); exact h)
    have hB0 : Below w.heap.size w ((w.alloc (.cells #[.string name, .slice A la ca, .slice B lb cb, .slice Cl lc cl, .int .i64 r, .int .i64 z, .int .i64 nr, .int .i64 nz, .int .i64 step, .slice D ld cd] 29)).alloc (.cells #[.slice A1 na qa, .slice B1 nb qb, .slice C1 nc qc] 32)) := by (with_reducible repeat first | exact Below.refl _ _ | assumption | ((first | refine Below.setCell ?_ ?_ _ | refine Below.alloc ?_ ?_ _); rotate_left; exact (by first | omega | (simp; done) | (simp; omega))) | refine Below.drew ?_ | refine Below_drewN ?_ _)
    have sW0 : w.heap.size + 1 < ((w.alloc (.cells #[.string name, .slice A la ca, .slice B lb cb, .slice Cl lc cl, .int .i64 r, .int .i64 z, .int .i64 nr, .int .i64 nz, .int .i64 step, .slice D ld cd] 29)).alloc (.cells #[.slice A1 na qa, .slice B1 nb qb, .slice C1 nc qc] 32)).heap.size := by simp only [World.size_alloc]; omega
    obtain ⟨W0, hW0⟩ : ∃ W, ((w.alloc (.cells #[.string name, .slice A la ca, .slice B lb cb, .slice Cl lc cl, .int .i64 r, .int .i64 z, .int .i64 nr, .int .i64 nz, .int .i64 step, .slice D ld cd] 29)).alloc (.cells #[.slice A1 na qa, .slice B1 nb qb, .slice C1 nc qc] 32)) = W := ⟨_, rfl⟩
    rw [hW0] at Fm Fc hB0 sW0 ⊢
    clear hW0
    have m0 := Fm.out.cell 0 (.string name) rfl
    have m1 := Fm.out.cell 1 (.slice A la ca) rfl
    have m2 := Fm.out.cell 2 (.slice B lb cb) rfl
    have m3 := Fm.out.cell 3 (.slice Cl lc cl) rfl
    have m4 := Fm.out.cell 4 (.int .i64 r) rfl
    have m5 := Fm.out.cell 5 (.int .i64 z) rfl
    have m6 := Fm.out.cell 6 (.int .i64 nr) rfl
    have m7 := Fm.out.cell 7 (.int .i64 nz) rfl
    have m8 := Fm.out.cell 8 (.int .i64 step) rfl
    have m9 := Fm.out.cell 9 (.slice D ld cd) rfl
    have c0 := Fc.out.cell 0 (.slice A1 na qa) rfl
    have c1 := Fc.out.cell 1 (.slice B1 nb qb) rfl
    have c2 := Fc.out.cell 2 (.slice C1 nc qc) rfl
    go_wp2_with fail
    refine (HE.out _ hB0).mono ?_
    rintro e w1 ⟨rfl, hb⟩
    clear m0 m1 m2 m3 m4 m5 m6 m7 m8 m9 c0 c1 c2
    have Gm := Lib.hid (Fm.out.below hb)
    clear Fm
    have Fm := Lib.hid Gm.out
    clear Gm
    have Gc := Lib.hid (Fc.out.below hb)
    clear Fc
    have Fc := Lib.hid Gc.out
    clear Gc
    have m0 := Fm.out.cell 0 (.string name) rfl
    have m1 := Fm.out.cell 1 (.slice A la ca) rfl
    have m2 := Fm.out.cell 2 (.slice B lb cb) rfl
    have m3 := Fm.out.cell 3 (.slice Cl lc cl) rfl
    have m4 := Fm.out.cell 4 (.int .i64 r) rfl
    have m5 := Fm.out.cell 5 (.int .i64 z) rfl
    have m6 := Fm.out.cell 6 (.int .i64 nr) rfl
    have m7 := Fm.out.cell 7 (.int .i64 nz) rfl
    have m8 := Fm.out.cell 8 (.int .i64 step) rfl
    have m9 := Fm.out.cell 9 (.slice D ld cd) rfl
    have c0 := Fc.out.cell 0 (.slice A1 na qa) rfl
    have c1 := Fc.out.cell 1 (.slice B1 nb qb) rfl
    have c2 := Fc.out.cell 2 (.slice C1 nc qc) rfl
    have hB1 := hB0.trans (hb.mono hB0.size)
    have hz1 : w.heap.size + 1 < w1.heap.size := Nat.lt_of_lt_of_le sW0 hb.size
    have hy1 : w.heap.size < w1.heap.size := by omega
    clear hb HE hB0 sW0
    go_wp2_with (go_at_call 31; refine (HW1.out _).mono ?_; rintro e w7 ⟨rfl, rfl⟩)
    go_ret2
    exact ⟨none, 0, rfl, ⟨rfl, fun h => absurd h (by simp)⟩, Nat.le_refl _, Nat.zero_le _, by (with_reducible repeat first | exact Below.refl _ _ | assumption | ((first | refine Below.setCell ?_ ?_ _ | refine Below.alloc ?_ ?_ _); rotate_left; exact (by first | omega | (simp; done) | (simp; omega))) | refine Below.drew ?_ | refine Below_drewN ?_ _)⟩
  rw [h1] at HW1
  rw [Bool.true_and]
  cases h2 : wthn cur 0 1000000
  · rw [h2] at HW2
    rw [if_neg (by decide), if_neg (by decide)]
    clear hM hC hF he hl hkc h1 h2
    obtain ⟨A, B, Cl, D, la, ca, lb, cb, lc, cl, ld, cd⟩ := R
    obtain ⟨name, coils, shells, limits, ⟨r, z, nr, nz, step⟩, sensors⟩ := M
    obtain ⟨A1, B1, C1, na, qa, nb, qb, nc, qc⟩ := Qr
    dsimp only [CurR.v] at *
    have HE := Lib.hid (show ∀ W, Below w.heap.size w W → Calls Tryd.prog 43 #[.agg #[.string name, .slice A la ca, .slice B lb cb, .slice Cl lc cl, .int .i64 r, .int .i64 z, .int .i64 nr, .int .i64 nz, .int .i64 step, .slice D ld cd], .agg #[.slice A1 na qa, .slice B1 nb qb, .slice C1 nc qc], .slice F nf cf] W (Ret (.bool true) W) from HE0.out)
    clear HE0
    show Calls Tryd.prog 20 #[.agg #[.string name, .slice A la ca, .slice B lb cb, .slice Cl lc cl, .int .i64 r, .int .i64 z, .int .i64 nr, .int .i64 nz, .int .i64 step, .slice D ld cd], .agg #[.slice A1 na qa, .slice B1 nb qb, .slice C1 nc qc], .slice F nf cf, .int .i64 cell, .int .i64 cur] w _
    go_enter Tryd.func20, Tryd.ntmps20
    go_upto_region 1 with (fail)
    have Fm : Hid (RowL (w.heap.size) [.string name, .slice A la ca, .slice B lb cb, .slice Cl lc cl, .int .i64 r, .int .i64 z, .int .i64 nr, .int .i64 nz, .int .i64 step, .slice D ld cd] ((w.alloc (.cells #[.string name, .slice A la ca, .slice B lb cb, .slice Cl lc cl, .int .i64 r, .int .i64 z, .int .i64 nr, .int .i64 nz, .int .i64 step, .slice D ld cd] 29)).alloc (.cells #[.slice A1 na qa, .slice B1 nb qb, .slice C1 nc qc] 32))) := Lib.hid (by have h := RowL.new w #[.string name, .slice A la ca, .slice B lb cb, .slice Cl lc cl, .int .i64 r, .int .i64 z, .int .i64 nr, .int .i64 nz, .int .i64 step, .slice D ld cd] 29; (try simp only [World.size_alloc] at h); exact (h.alloc _))
    have Fc : Hid (RowL (w.heap.size + 1) [.slice A1 na qa, .slice B1 nb qb, .slice C1 nc qc] ((w.alloc (.cells #[.string name, .slice A la ca, .slice B lb cb, .slice Cl lc cl, .int .i64 r, .int .i64 z, .int .i64 nr, .int .i64 nz, .int .i64 step, .slice D ld cd] 29)).alloc (.cells #[.slice A1 na qa, .slice B1 nb qb, .slice C1 nc qc] 32))) := Lib.hid (by have h := RowL.new (w.alloc (.cells #[.string name, .slice A la ca, .slice B lb cb, .slice Cl lc cl, .int .i64 r, .int .i64 z, .int .i64 nr, .int .i64 nz, .int .i64 step, .slice D ld cd] 29)) #[.slice A1 na qa, .slice B1 nb qb, .slice C1 nc qc] 32; (try simp only [World.size_alloc] at h); exact h)
    have hB0 : Below w.heap.size w ((w.alloc (.cells #[.string name, .slice A la ca, .slice B lb cb, .slice Cl lc cl, .int .i64 r, .int .i64 z, .int .i64 nr, .int .i64 nz, .int .i64 step, .slice D ld cd] 29)).alloc (.cells #[.slice A1 na qa, .slice B1 nb qb, .slice C1 nc qc] 32)) := by (with_reducible repeat first | exact Below.refl _ _ | assumption | ((first | refine Below.setCell ?_ ?_ _ | refine Below.alloc ?_ ?_ _); rotate_left; exact (by first | omega | (simp; done) | (simp; omega))) | refine Below.drew ?_ | refine Below_drewN ?_ _)
    have sW0 : w.heap.size + 1 < ((w.alloc (.cells #[.string name, .slice A la ca, .slice B lb cb, .slice Cl lc cl, .int .i64 r, .int .i64 z, .int .i64 nr, .int .i64 nz, .int .i64 step, .slice D ld cd] 29)).alloc (.cells #[.slice A1 na qa, .slice B1 nb qb, .slice C1 nc qc] 32)).heap.size := by simp only [World.size_alloc]; omega
    obtain ⟨W0, hW0⟩ : ∃ W, ((w.alloc (.cells #[.string name, .slice A la ca, .slice B lb cb, .slice Cl lc cl, .int .i64 r, .int .i64 z, .int .i64 nr, .int .i64 nz, .int .i64 step, .slice D ld cd] 29)).alloc (.cells #[.slice A1 na qa, .slice B1 nb qb, .slice C1 nc qc] 32)) = W := ⟨_, rfl⟩
    rw [hW0] at Fm Fc hB0 sW0 ⊢
    clear hW0
    have m0 := Fm.out.cell 0 (.string name) rfl
    have m1 := Fm.out.cell 1 (.slice A la ca) rfl
    have m2 := Fm.out.cell 2 (.slice B lb cb) rfl
    have m3 := Fm.out.cell 3 (.slice Cl lc cl) rfl
    have m4 := Fm.out.cell 4 (.int .i64 r) rfl
    have m5 := Fm.out.cell 5 (.int .i64 z) rfl
    have m6 := Fm.out.cell 6 (.int .i64 nr) rfl
    have m7 := Fm.out.cell 7 (.int .i64 nz) rfl
    have m8 := Fm.out.cell 8 (.int .i64 step) rfl
    have m9 := Fm.out.cell 9 (.slice D ld cd) rfl
    have c0 := Fc.out.cell 0 (.slice A1 na qa) rfl
    have c1 := Fc.out.cell 1 (.slice B1 nb qb) rfl
    have c2 := Fc.out.cell 2 (.slice C1 nc qc) rfl
    go_wp2_with fail
    refine (HE.out _ hB0).mono ?_
    rintro e w1 ⟨rfl, hb⟩
    clear m0 m1 m2 m3 m4 m5 m6 m7 m8 m9 c0 c1 c2
    have Gm := Lib.hid (Fm.out.below hb)
    clear Fm
    have Fm := Lib.hid Gm.out
    clear Gm
    have Gc := Lib.hid (Fc.out.below hb)
    clear Fc
    have Fc := Lib.hid Gc.out
    clear Gc
    have m0 := Fm.out.cell 0 (.string name) rfl
    have m1 := Fm.out.cell 1 (.slice A la ca) rfl
    have m2 := Fm.out.cell 2 (.slice B lb cb) rfl
    have m3 := Fm.out.cell 3 (.slice Cl lc cl) rfl
    have m4 := Fm.out.cell 4 (.int .i64 r) rfl
    have m5 := Fm.out.cell 5 (.int .i64 z) rfl
    have m6 := Fm.out.cell 6 (.int .i64 nr) rfl
    have m7 := Fm.out.cell 7 (.int .i64 nz) rfl
    have m8 := Fm.out.cell 8 (.int .i64 step) rfl
    have m9 := Fm.out.cell 9 (.slice D ld cd) rfl
    have c0 := Fc.out.cell 0 (.slice A1 na qa) rfl
    have c1 := Fc.out.cell 1 (.slice B1 nb qb) rfl
    have c2 := Fc.out.cell 2 (.slice C1 nc qc) rfl
    have hB1 := hB0.trans (hb.mono hB0.size)
    have hz1 : w.heap.size + 1 < w1.heap.size := Nat.lt_of_lt_of_le sW0 hb.size
    have hy1 : w.heap.size < w1.heap.size := by omega
    clear hb HE hB0 sW0
    go_wp2_with (go_at_call 31; first | ((with_reducible refine (HW1.out _).mono ?_); rintro e w7 ⟨rfl, rfl⟩) | ((with_reducible refine (HW2.out _).mono ?_); rintro e w7 ⟨rfl, rfl⟩))
    go_ret2
    exact ⟨none, 0, rfl, ⟨rfl, fun h => absurd h (by simp)⟩, Nat.le_refl _, Nat.zero_le _, by (with_reducible repeat first | exact Below.refl _ _ | assumption | ((first | refine Below.setCell ?_ ?_ _ | refine Below.alloc ?_ ?_ _); rotate_left; exact (by first | omega | (simp; done) | (simp; omega))) | refine Below.drew ?_ | refine Below_drewN ?_ _)⟩
  · rw [h2] at HW2
    rw [if_pos rfl, if_pos rfl]
    have he' := he
    unfold explB at he'
    rw [Bool.and_eq_true] at he'
    have hr := he'.2
    unfold readsB at hr
    rw [Bool.and_eq_true, Bool.and_eq_true, decide_eq_true_iff, decide_eq_true_iff] at hr
    have hv := fit2_iff.1 he'.1
    have hld0 := (sound_of hv.check).sensors.1
    have hsl := hM.sensors.1
    have hld : R.ld ≤ 1000 := by omega
    have hf1 := hF.1
    have hp2 := hv.plasma.1
    have hnf : nf = R.ld := by omega
    subst hnf
    have hcell := wthn_iff.1 h1
    have HBS0 := Lib.hid (fun W (hb : Below w.heap.size w W) => backgrounds_any R M Qr Cd W (hM.below hb) (hC.below hb) hld)
    have HCI0 := Lib.hid (fun (pb : Nat) W (hb : Below w.heap.size w W) (hR : RowL pb ((bgL M Cd).map (Value.int .i64)) W) => claimsIn_any R M (some ⟨pb, 0, none⟩) F R.ld R.ld R.ld cf (bgL M Cd) zs cell W (hM.below hb) (hR.isI (by unfold bgL; rw [List.length_map, List.length_range, hsl])) (hF.below hb) hv.check (wthn_iff.2 (by omega)) rfl rfl
      (fun b hb => by unfold bgL at hb; obtain ⟨k, -, rfl⟩ := List.mem_map.1 hb; exact backL_bd M Cd _) (fun s hs => by have := List.all_eq_true.1 hr.2.2 s hs; exact this))
    have HLn : Hid ((clL M (bgL M Cd) zs cell).length = R.ld) := Lib.hid (by rw [clL_len, hsl])
    clear hM hC hF he he' hr hv hld0 hsl hf1 hp2 hl hkc h1 h2 hcell
    generalize clL M (bgL M Cd) zs cell = CL at *
    generalize (bgL M Cd).map (Value.int .i64) = TB at *
    obtain ⟨A, B, Cl, D, la, ca, lb, cb, lc, cl, ld, cd⟩ := R
    obtain ⟨name, coils, shells, limits, ⟨r, z, nr, nz, step⟩, sensors⟩ := M
    obtain ⟨A1, B1, C1, na, qa, nb, qb, nc, qc⟩ := Qr
    dsimp only [CurR.v] at *
    have HE := Lib.hid (show ∀ W, Below w.heap.size w W → Calls Tryd.prog 43 #[.agg #[.string name, .slice A la ca, .slice B lb cb, .slice Cl lc cl, .int .i64 r, .int .i64 z, .int .i64 nr, .int .i64 nz, .int .i64 step, .slice D ld cd], .agg #[.slice A1 na qa, .slice B1 nb qb, .slice C1 nc qc], .slice F ld cf] W (Ret (.bool true) W) from HE0.out)
    clear HE0
    have HBS := Lib.hid (show ∀ W, Below w.heap.size w W → Calls Tryd.prog 48 #[.agg #[.string name, .slice A la ca, .slice B lb cb, .slice Cl lc cl, .int .i64 r, .int .i64 z, .int .i64 nr, .int .i64 nz, .int .i64 step, .slice D ld cd], .agg #[.slice A1 na qa, .slice B1 nb qb, .slice C1 nc qc]] W (MadeAt ld TB W) from HBS0.out)
    have HCI := Lib.hid (show ∀ pb : Nat, ∀ W, Below w.heap.size w W → RowL pb TB W → Calls Tryd.prog 47 #[.agg #[.string name, .slice A la ca, .slice B lb cb, .slice Cl lc cl, .int .i64 r, .int .i64 z, .int .i64 nr, .int .i64 nz, .int .i64 step, .slice D ld cd], .slice (some ⟨pb, 0, none⟩) ld ld, .slice F ld cf, .int .i64 cell] W (MadeAt ld (CL.flatMap SpanD.cells) W) from HCI0.out)
    clear HBS0 HCI0
    show Calls Tryd.prog 20 #[.agg #[.string name, .slice A la ca, .slice B lb cb, .slice Cl lc cl, .int .i64 r, .int .i64 z, .int .i64 nr, .int .i64 nz, .int .i64 step, .slice D ld cd], .agg #[.slice A1 na qa, .slice B1 nb qb, .slice C1 nc qc], .slice F ld cf, .int .i64 cell, .int .i64 cur] w _
    go_enter Tryd.func20, Tryd.ntmps20
    go_upto_region 1 with (fail)
    have Fm : Hid (RowL (w.heap.size) [.string name, .slice A la ca, .slice B lb cb, .slice Cl lc cl, .int .i64 r, .int .i64 z, .int .i64 nr, .int .i64 nz, .int .i64 step, .slice D ld cd] ((w.alloc (.cells #[.string name, .slice A la ca, .slice B lb cb, .slice Cl lc cl, .int .i64 r, .int .i64 z, .int .i64 nr, .int .i64 nz, .int .i64 step, .slice D ld cd] 29)).alloc (.cells #[.slice A1 na qa, .slice B1 nb qb, .slice C1 nc qc] 32))) := Lib.hid (by have h := RowL.new w #[.string name, .slice A la ca, .slice B lb cb, .slice Cl lc cl, .int .i64 r, .int .i64 z, .int .i64 nr, .int .i64 nz, .int .i64 step, .slice D ld cd] 29; (try simp only [World.size_alloc] at h); exact (h.alloc _))
    have Fc : Hid (RowL (w.heap.size + 1) [.slice A1 na qa, .slice B1 nb qb, .slice C1 nc qc] ((w.alloc (.cells #[.string name, .slice A la ca, .slice B lb cb, .slice Cl lc cl, .int .i64 r, .int .i64 z, .int .i64 nr, .int .i64 nz, .int .i64 step, .slice D ld cd] 29)).alloc (.cells #[.slice A1 na qa, .slice B1 nb qb, .slice C1 nc qc] 32))) := Lib.hid (by have h := RowL.new (w.alloc (.cells #[.string name, .slice A la ca, .slice B lb cb, .slice Cl lc cl, .int .i64 r, .int .i64 z, .int .i64 nr, .int .i64 nz, .int .i64 step, .slice D ld cd] 29)) #[.slice A1 na qa, .slice B1 nb qb, .slice C1 nc qc] 32; (try simp only [World.size_alloc] at h); exact h)
    have hB0 : Below w.heap.size w ((w.alloc (.cells #[.string name, .slice A la ca, .slice B lb cb, .slice Cl lc cl, .int .i64 r, .int .i64 z, .int .i64 nr, .int .i64 nz, .int .i64 step, .slice D ld cd] 29)).alloc (.cells #[.slice A1 na qa, .slice B1 nb qb, .slice C1 nc qc] 32)) := by (with_reducible repeat first | exact Below.refl _ _ | assumption | ((first | refine Below.setCell ?_ ?_ _ | refine Below.alloc ?_ ?_ _); rotate_left; exact (by first | omega | (simp; done) | (simp; omega))) | refine Below.drew ?_ | refine Below_drewN ?_ _)
    have sW0 : w.heap.size + 1 < ((w.alloc (.cells #[.string name, .slice A la ca, .slice B lb cb, .slice Cl lc cl, .int .i64 r, .int .i64 z, .int .i64 nr, .int .i64 nz, .int .i64 step, .slice D ld cd] 29)).alloc (.cells #[.slice A1 na qa, .slice B1 nb qb, .slice C1 nc qc] 32)).heap.size := by simp only [World.size_alloc]; omega
    obtain ⟨W0, hW0⟩ : ∃ W, ((w.alloc (.cells #[.string name, .slice A la ca, .slice B lb cb, .slice Cl lc cl, .int .i64 r, .int .i64 z, .int .i64 nr, .int .i64 nz, .int .i64 step, .slice D ld cd] 29)).alloc (.cells #[.slice A1 na qa, .slice B1 nb qb, .slice C1 nc qc] 32)) = W := ⟨_, rfl⟩
    rw [hW0] at Fm Fc hB0 sW0 ⊢
    clear hW0
    have m0 := Fm.out.cell 0 (.string name) rfl
    have m1 := Fm.out.cell 1 (.slice A la ca) rfl
    have m2 := Fm.out.cell 2 (.slice B lb cb) rfl
    have m3 := Fm.out.cell 3 (.slice Cl lc cl) rfl
    have m4 := Fm.out.cell 4 (.int .i64 r) rfl
    have m5 := Fm.out.cell 5 (.int .i64 z) rfl
    have m6 := Fm.out.cell 6 (.int .i64 nr) rfl
    have m7 := Fm.out.cell 7 (.int .i64 nz) rfl
    have m8 := Fm.out.cell 8 (.int .i64 step) rfl
    have m9 := Fm.out.cell 9 (.slice D ld cd) rfl
    have c0 := Fc.out.cell 0 (.slice A1 na qa) rfl
    have c1 := Fc.out.cell 1 (.slice B1 nb qb) rfl
    have c2 := Fc.out.cell 2 (.slice C1 nc qc) rfl
    go_wp2_with fail
    refine (HE.out _ hB0).mono ?_
    rintro e w1 ⟨rfl, hb⟩
    clear m0 m1 m2 m3 m4 m5 m6 m7 m8 m9 c0 c1 c2
    have Gm := Lib.hid (Fm.out.below hb)
    clear Fm
    have Fm := Lib.hid Gm.out
    clear Gm
    have Gc := Lib.hid (Fc.out.below hb)
    clear Fc
    have Fc := Lib.hid Gc.out
    clear Gc
    have m0 := Fm.out.cell 0 (.string name) rfl
    have m1 := Fm.out.cell 1 (.slice A la ca) rfl
    have m2 := Fm.out.cell 2 (.slice B lb cb) rfl
    have m3 := Fm.out.cell 3 (.slice Cl lc cl) rfl
    have m4 := Fm.out.cell 4 (.int .i64 r) rfl
    have m5 := Fm.out.cell 5 (.int .i64 z) rfl
    have m6 := Fm.out.cell 6 (.int .i64 nr) rfl
    have m7 := Fm.out.cell 7 (.int .i64 nz) rfl
    have m8 := Fm.out.cell 8 (.int .i64 step) rfl
    have m9 := Fm.out.cell 9 (.slice D ld cd) rfl
    have c0 := Fc.out.cell 0 (.slice A1 na qa) rfl
    have c1 := Fc.out.cell 1 (.slice B1 nb qb) rfl
    have c2 := Fc.out.cell 2 (.slice C1 nc qc) rfl
    have hB1 := hB0.trans (hb.mono hB0.size)
    have hz1 : w.heap.size + 1 < w1.heap.size := Nat.lt_of_lt_of_le sW0 hb.size
    have hy1 : w.heap.size < w1.heap.size := by omega
    clear hb HE hB0 sW0
    go_wp2_with (go_at_call 31; first | ((with_reducible refine (HW1.out _).mono ?_); rintro e w7 ⟨rfl, rfl⟩) | ((with_reducible refine (HW2.out _).mono ?_); rintro e w7 ⟨rfl, rfl⟩))
    have HS : Hid (∀ w' : World, Reg (w1.heap.size) (w1) w' → (Reg (w1.heap.size) (w1) w' ∧ w'.cell? ⟨w.heap.size, 0, none⟩ = some (.string name) ∧ w'.cell? ⟨w.heap.size, 1, none⟩ = some (.slice A la ca) ∧ w'.cell? ⟨w.heap.size, 2, none⟩ = some (.slice B lb cb) ∧ w'.cell? ⟨w.heap.size, 3, none⟩ = some (.slice Cl lc cl) ∧ w'.cell? ⟨w.heap.size, 4, none⟩ = some (.int .i64 r) ∧ w'.cell? ⟨w.heap.size, 5, none⟩ = some (.int .i64 z) ∧ w'.cell? ⟨w.heap.size, 6, none⟩ = some (.int .i64 nr) ∧ w'.cell? ⟨w.heap.size, 7, none⟩ = some (.int .i64 nz) ∧ w'.cell? ⟨w.heap.size, 8, none⟩ = some (.int .i64 step) ∧ w'.cell? ⟨w.heap.size, 9, none⟩ = some (.slice D ld cd) ∧ w'.cell? ⟨w.heap.size + 1, 0, none⟩ = some (.slice A1 na qa) ∧ w'.cell? ⟨w.heap.size + 1, 1, none⟩ = some (.slice B1 nb qb) ∧ w'.cell? ⟨w.heap.size + 1, 2, none⟩ = some (.slice C1 nc qc))) := (fun w' h => by (have hc := h.cells; have hs := h.some; have hf := h.frozen; refine ⟨h, ?_⟩; (try simp only [World.size_alloc, World.size_setCell, size_drew, size_drewN] at hc hs hf); first | (simp (disch := omega) only [hc, hs, hf, cur_iff]; (try go_simp); done) | (simp (disch := first | omega | (simp; done)) only [hc, hs, hf, cur_iff]; (try go_simp); done) | (simp (maxDischargeDepth := 4) [hc, hs, hf, cur_iff, go_sem]; done) | (go_simp; done) | (simp (maxDischargeDepth := 4) [hc, hs, hf, cur_iff, go_sem]; go_simp))); go_region_held3 (fun w' => Reg (w1.heap.size) (w1) w' ∧ w'.cell? ⟨w.heap.size, 0, none⟩ = some (.string name) ∧ w'.cell? ⟨w.heap.size, 1, none⟩ = some (.slice A la ca) ∧ w'.cell? ⟨w.heap.size, 2, none⟩ = some (.slice B lb cb) ∧ w'.cell? ⟨w.heap.size, 3, none⟩ = some (.slice Cl lc cl) ∧ w'.cell? ⟨w.heap.size, 4, none⟩ = some (.int .i64 r) ∧ w'.cell? ⟨w.heap.size, 5, none⟩ = some (.int .i64 z) ∧ w'.cell? ⟨w.heap.size, 6, none⟩ = some (.int .i64 nr) ∧ w'.cell? ⟨w.heap.size, 7, none⟩ = some (.int .i64 nz) ∧ w'.cell? ⟨w.heap.size, 8, none⟩ = some (.int .i64 step) ∧ w'.cell? ⟨w.heap.size, 9, none⟩ = some (.slice D ld cd) ∧ w'.cell? ⟨w.heap.size + 1, 0, none⟩ = some (.slice A1 na qa) ∧ w'.cell? ⟨w.heap.size + 1, 1, none⟩ = some (.slice B1 nb qb) ∧ w'.cell? ⟨w.heap.size + 1, 2, none⟩ = some (.slice C1 nc qc)) (exact HS.out _ (by (repeat first | with_reducible exact Reg.refl _ _ | with_reducible exact Reg.drewN2 _ _ _ _ | with_reducible exact (‹Reg _ _ _ ∧ _›).1 | (with_reducible refine Reg.setCell ?_ ?_ _; rotate_left; exact (by first | omega | ((try simp only [World.size_alloc, World.size_setCell, size_drew, size_drewN]); omega) | (simp; done) | (simp; omega))) | with_reducible refine Reg.alloc ?_ _ | with_reducible refine Reg.drew ?_ | with_reducible refine Reg.drewN ?_ _ | (with_reducible apply Reg.call; rotate_left; with_reducible assumption)))) (first | (go_at_call 48; (with_reducible refine (HBS.out _ (Reg.out (‹Reg _ _ _ ∧ _›).1 (by (with_reducible repeat first | exact Below.refl _ _ | assumption | ((first | refine Below.setCell ?_ ?_ _ | refine Below.alloc ?_ ?_ _); rotate_left; exact (by first | omega | (simp; done) | (simp; omega))) | refine Below.drew ?_ | refine Below_drewN ?_ _)) (by first | omega | (simp; done) | (simp; omega)))).mono ?_); rintro e w8 ⟨pb, rfl, -, hrb, hb8⟩; have hb := hb8; (first | (with_reducible have hk := Nat.lt_of_lt_of_le (size_alloc_lt _ _) hb.size) | (with_reducible have hk := Nat.lt_of_lt_of_le (size_alloc_drew_lt _ _) hb.size) | (with_reducible have hk := Nat.lt_of_lt_of_le hk hb.size) | skip); (try simp only [World.size_alloc, World.size_setCell, size_drew, size_drewN] at hk); obtain ⟨hc, hf⟩ := bcell hb; have hs := hb.size; (try simp only [World.size_alloc, World.size_setCell, size_drew, size_drewN] at hs); clear hb) | (go_at_call 47; (with_reducible refine (HCI.out pb _ (Reg.out (‹Reg _ _ _ ∧ _›).1 (by (with_reducible repeat first | exact Below.refl _ _ | assumption | ((first | refine Below.setCell ?_ ?_ _ | refine Below.alloc ?_ ?_ _); rotate_left; exact (by first | omega | (simp; done) | (simp; omega))) | refine Below.drew ?_ | refine Below_drewN ?_ _)) (by first | omega | (simp; done) | (simp; omega))) (by first | exact hrb | exact hrb.drew)).mono ?_); rintro e w9 ⟨pc, rfl, -, hrc, hb9⟩; have hb := hb9; (first | (with_reducible have hk := Nat.lt_of_lt_of_le (size_alloc_lt _ _) hb.size) | (with_reducible have hk := Nat.lt_of_lt_of_le (size_alloc_drew_lt _ _) hb.size) | (with_reducible have hk := Nat.lt_of_lt_of_le hk hb.size) | skip); (try simp only [World.size_alloc, World.size_setCell, size_drew, size_drewN] at hk); obtain ⟨hc, hf⟩ := bcell hb; have hs := hb.size; (try simp only [World.size_alloc, World.size_setCell, size_drew, size_drewN] at hs); clear hb) | (go_at_call 49; (with_reducible refine (agreeing_any _ _ _ _ _).mono ?_); rintro e w10 ⟨rfl, hw10⟩; have hb10 := below_two hw10; have hit := agit_new hw10 (by first | exact hrc.isS HLn.out | exact hrc.drew.isS HLn.out); have hb := hb10; (first | (with_reducible have hk := Nat.lt_of_lt_of_le (size_alloc_lt _ _) hb.size) | (with_reducible have hk := Nat.lt_of_lt_of_le (size_alloc_drew_lt _ _) hb.size) | (with_reducible have hk := Nat.lt_of_lt_of_le hk hb.size) | skip); (try simp only [World.size_alloc, World.size_setCell, size_drew, size_drewN] at hk); obtain ⟨hc, hf⟩ := bcell hb; have hs := hb.size; (try simp only [World.size_alloc, World.size_setCell, size_drew, size_drewN] at hs); clear hb hw10) | (go_at_call 46; refine ((show AgIt _ _ _ _ _ _ _ _ from by first | exact hit | exact hit.below ((Below.refl _ _).drew)).collect (by omega)).mono ?_; rintro e w11 ⟨A9, c9, rfl, hN, hb11⟩; have hb := hb11; (first | (with_reducible have hk := Nat.lt_of_lt_of_le (size_alloc_lt _ _) hb.size) | (with_reducible have hk := Nat.lt_of_lt_of_le (size_alloc_drew_lt _ _) hb.size) | (with_reducible have hk := Nat.lt_of_lt_of_le hk hb.size) | skip); (try simp only [World.size_alloc, World.size_setCell, size_drew, size_drewN] at hk); obtain ⟨hc, hf⟩ := bcell hb; have hs := hb.size; (try simp only [World.size_alloc, World.size_setCell, size_drew, size_drewN] at hs); clear hb))
    all_goals go_wp2_with fail
    all_goals go_ret2
    all_goals (have hN1 := hN.isT; have hN2 := hN.le; have hN3 := hN.cap)
    all_goals exact ⟨A9, c9, rfl, by first | exact hN1 | exact hN1.below ((Below.refl _ _).drew), hN2, hN3, (Reg.out (‹Reg _ _ _ ∧ _›).1 (by (with_reducible repeat first | exact Below.refl _ _ | assumption | ((first | refine Below.setCell ?_ ?_ _ | refine Below.alloc ?_ ?_ _); rotate_left; exact (by first | omega | (simp; done) | (simp; omega))) | refine Below.drew ?_ | refine Below_drewN ?_ _)) (by first | omega | (simp; done) | (simp; omega)))⟩

end Go.Proofs.YtfpjhobhmcfpnaaDoor
end
