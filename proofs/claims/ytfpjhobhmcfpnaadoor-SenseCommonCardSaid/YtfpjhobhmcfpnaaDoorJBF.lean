import Derived.Test.YtfpjhobhmcfpnaaDoorJAB
import Derived.Test.YtfpjhobhmcfpnaaDoorJAU
import Derived.Test.YtfpjhobhmcfpnaaDoorJBA
import Derived.Test.YtfpjhobhmcfpnaaDoorJBD
import Derived.Test.YtfpjhobhmcfpnaaDoorJBE
section
/- Package sense: common, over this seat's translation (written by mk_com.py). -/
namespace Go.Proofs.YtfpjhobhmcfpnaaDoor
set_option linter.unusedVariables false
set_option linter.unusedSimpArgs false
open Go.RowKit Go.Shelf

/-- The meet of spans, and whether there is one. -/
def commGo : Int → Int → List SpanD → Int × Int × Bool
  | lo, hi, [] => (lo, hi, true)
  | lo, hi, a :: r => if (meetL lo hi a.lo a.hi).2.2 = 0 then commGo (meetL lo hi a.lo a.hi).1 (meetL lo hi a.lo a.hi).2.1 r else (0, 0, false)
def commL (l : List SpanD) : Int × Int × Bool := commGo 0 1000000 l
theorem commGo_drop {l : List SpanD} {k : Nat} {x : SpanD} (h : l[k]? = some x) (lo hi : Int) : commGo lo hi (l.drop k) = if (meetL lo hi x.lo x.hi).2.2 = 0 then commGo (meetL lo hi x.lo x.hi).1 (meetL lo hi x.lo x.hi).2.1 (l.drop (k + 1)) else (0, 0, false) := by
  obtain ⟨hk, rfl⟩ := List.getElem?_eq_some_iff.1 h
  rw [List.drop_eq_getElem_cons hk]; rfl

set_option maxRecDepth 100000 in
set_option maxHeartbeats 8000000 in
theorem common_any (F : Option Addr) (n cf : Nat) (zs : List SpanD) (w : World) (hF : IsT 2 SpanD.cells w F n zs) (hn : n ≤ 100000) :
    Calls Tryd.prog 45 #[.slice F n cf] w (Ret (.tuple #[.agg #[.int .i64 (commL zs).1, .int .i64 (commL zs).2.1], .bool (commL zs).2.2]) w) := by
  have HI := Lib.hid hF
  have hl := hF.1
  have HG : Hid (commGo 0 1000000 (zs.drop 0) = commL zs) := Lib.hid rfl
  clear hF
  generalize commL zs = G at *
  obtain ⟨g1, g2, g3⟩ := G
  dsimp only
  go_enter Tryd.func45, Tryd.ntmps45
  go_upto_region 1 with (fail)
  have Ft : Hid (RowL (w.heap.size) [.int .i64 0, .int .i64 0] (w.alloc (.cells #[.int .i64 0, .int .i64 0] 66))) := Lib.hid (by have h := RowL.new w #[.int .i64 0, .int .i64 0] 66; (try simp only [World.size_alloc] at h); exact h)
  have hB0 : Below w.heap.size w (w.alloc (.cells #[.int .i64 0, .int .i64 0] 66)) := by (with_reducible repeat first | exact Below.refl _ _ | assumption | ((first | refine Below.setCell ?_ ?_ _ | refine Below.alloc ?_ ?_ _); rotate_left; exact (by first | omega | (simp; done) | (simp; omega))) | refine Below.drew ?_ | refine Below_drewN ?_ _)
  have sW0 : w.heap.size < (w.alloc (.cells #[.int .i64 0, .int .i64 0] 66)).heap.size := by simp only [World.size_alloc]; omega
  obtain ⟨W0, hW0⟩ : ∃ W, (w.alloc (.cells #[.int .i64 0, .int .i64 0] 66)) = W := ⟨_, rfl⟩
  rw [hW0] at Ft hB0 sW0 ⊢
  clear hW0
  have t0 := Ft.out.cell 0 (.int .i64 0) rfl
  have tf0 := Ft.out.mark 0 (by simp)
  have t1 := Ft.out.cell 1 (.int .i64 0) rfl
  have tf1 := Ft.out.mark 1 (by simp)
  go_wp2_with fail
  refine (possible_any _ _ _).mono ?_
  rintro e w1 ⟨rfl, hb⟩
  clear t0 tf0 t1 tf1
  have Gt := Lib.hid (Ft.out.below hb)
  clear Ft
  have Ft := Lib.hid Gt.out
  clear Gt
  have t0 := Ft.out.cell 0 (.int .i64 0) rfl
  have tf0 := Ft.out.mark 0 (by simp)
  have t1 := Ft.out.cell 1 (.int .i64 0) rfl
  have tf1 := Ft.out.mark 1 (by simp)
  have hB1 := hB0.trans (hb.mono hB0.size)
  have hz1 : w.heap.size < w1.heap.size := Nat.lt_of_lt_of_le sW0 hb.size
  clear hb hB0 sW0
  rw [show possL 0 1000000 = (0, 1000000) from rfl]
  go_upto_region 2 with (fail)
  have Fa : Hid (RowL (w1.heap.size) [.int .i64 0, .int .i64 1000000] (w1.alloc (.cells #[.int .i64 0, .int .i64 1000000] 66))) := Lib.hid (by have h := RowL.new w1 #[.int .i64 0, .int .i64 1000000] 66; (try simp only [World.size_alloc] at h); exact h)
  have hb2 : Below w1.heap.size w1 (w1.alloc (.cells #[.int .i64 0, .int .i64 1000000] 66)) := by (with_reducible repeat first | exact Below.refl _ _ | assumption | ((first | refine Below.setCell ?_ ?_ _ | refine Below.alloc ?_ ?_ _); rotate_left; exact (by first | omega | (simp; done) | (simp; omega))) | refine Below.drew ?_ | refine Below_drewN ?_ _)
  have sW2 : w1.heap.size < (w1.alloc (.cells #[.int .i64 0, .int .i64 1000000] 66)).heap.size := by simp only [World.size_alloc]; omega
  obtain ⟨W2, hW2⟩ : ∃ W, (w1.alloc (.cells #[.int .i64 0, .int .i64 1000000] 66)) = W := ⟨_, rfl⟩
  rw [hW2] at Fa hb2 sW2 ⊢
  clear hW2
  clear t0 tf0 t1 tf1
  have Gt := Lib.hid (Ft.out.below hb2)
  clear Ft
  have Ft := Lib.hid Gt.out
  clear Gt
  have t0 := Ft.out.cell 0 (.int .i64 0) rfl
  have tf0 := Ft.out.mark 0 (by simp)
  have t1 := Ft.out.cell 1 (.int .i64 0) rfl
  have tf1 := Ft.out.mark 1 (by simp)
  clear t0 tf0 t1 tf1
  have hB2 := hB1.trans (hb2.mono hB1.size)
  clear hb2
  go_wp2_with fail
  go_loopw [12] (fun i wr => ∃ (j : Nat) (lo hi : Int), j ≤ n ∧ i = .int .i64 j ∧ Hid (commGo lo hi (zs.drop j) = (g1, g2, g3)) ∧ RowL w.heap.size [.int .i64 0, .int .i64 0] wr ∧ RowL w1.heap.size [.int .i64 lo, .int .i64 hi] wr ∧ Below w.heap.size w wr) (fun i _ => n - (intOf i).toNat)
  case atStart => exact ⟨0, 0, 1000000, Nat.zero_le _, rfl, HG, Ft.out, Fa.out, hB2⟩
  case round =>
    obtain ⟨j, lo, hi, hj, rfl, hG, hRt, hRa, hB⟩ := hrel
    have sz := hB.size
    have a0 := hRa.cell 0 (.int .i64 lo) rfl
    have a1 := hRa.cell 1 (.int .i64 hi) rfl
    have t0 := hRt.cell 0 (.int .i64 0) rfl
    have t1 := hRt.cell 1 (.int .i64 0) rfl
    have af0 := hRa.mark 0 (by simp)
    have af1 := hRa.mark 1 (by simp)
    have tf0 := hRt.mark 0 (by simp)
    have tf1 := hRt.mark 1 (by simp)
    have al := hRa.lt
    have hzr : w.heap.size < wr.heap.size := by omega
    have HRt := Lib.hid hRt
    have HRa := Lib.hid hRa
    clear hRt hRa
    by_cases hlt : j < n
    · obtain ⟨-, hcf⟩ := HI.out.below hB
      obtain ⟨bf, of, rfl, hbf, hcf⟩ := hcf (by omega)
      obtain ⟨s, hs⟩ : ∃ s, zs[j]? = some s := ⟨_, List.getElem?_eq_getElem (by omega)⟩
      have e0 : wr.cell? ⟨bf, of + j * 2, none⟩ = some (.int .i64 s.lo) := by have h := hcf j s hs 0 _ rfl; simpa using h
      have e1 : wr.cell? ⟨bf, of + j * 2 + 1, none⟩ = some (.int .i64 s.hi) := by have h := hcf j s hs 1 _ rfl; simpa using h
      have HS := Lib.hid ((commGo_drop hs lo hi).symm.trans hG.out)
      have HM := Lib.hid (fun W => meet_any lo hi s.lo s.hi W)
      obtain ⟨xl, xh⟩ := s
      dsimp only at e0 e1 HS HM
      generalize meetL lo hi xl xh = T at *
      obtain ⟨m1, m2, m3⟩ := T
      dsimp only at HS HM
      have jn : ((j : Int)).toNat = j := by omega
      have j0 : (0 : Int) ≤ j := by omega
      clear hcf hs hG
      go_wp2_with fail
      refine (HM.out _).mono ?_
      rintro e w2 ⟨rfl, hb⟩
      have hbr : Below wr.heap.size wr w2 := Below.trans (by (with_reducible repeat first | exact Below.refl _ _ | assumption | ((first | refine Below.setCell ?_ ?_ _ | refine Below.alloc ?_ ?_ _); rotate_left; exact (by first | omega | (simp; done) | (simp; omega))) | refine Below.drew ?_ | refine Below_drewN ?_ _)) (hb.mono (by first | omega | ((try simp only [World.size_alloc, World.size_setCell, size_drew, size_drewN]); omega) | (simp; done) | (simp; omega)))
      have hB2 := hB.trans (hbr.mono hB.size)
      have hRt2 := HRt.out.below hbr
      have hRa2 := HRa.out.below hbr
      clear a0 a1 t0 t1 af0 af1 tf0 tf1 e0 e1
      have a0 := hRa2.cell 0 (.int .i64 lo) rfl
      have a1 := hRa2.cell 1 (.int .i64 hi) rfl
      have t0 := hRt2.cell 0 (.int .i64 0) rfl
      have t1 := hRt2.cell 1 (.int .i64 0) rfl
      have af0 := hRa2.mark 0 (by simp)
      have af1 := hRa2.mark 1 (by simp)
      have tf0 := hRt2.mark 0 (by simp)
      have tf1 := hRt2.mark 1 (by simp)
      have al2 := hRa2.lt
      have sz2 := hB2.size
      have hz2 : w.heap.size < w2.heap.size := by omega
      have HRt2 := Lib.hid hRt2
      have HRa2 := Lib.hid hRa2
      clear hRt2 hRa2 hb hbr HRt HRa HM
      by_cases hm : m3 = 0
      · subst hm
        have HN := Lib.hid (HS.out)
        rw [if_pos rfl] at HN
        clear HS
        go_wp2_with fail
        go_roundw
        case rel => exact ⟨j + 1, m1, m2, by omega, by go_num, HN, by first | exact (((HRt2.out.alloc _).far (by dsimp only; omega) _).far (by dsimp only; omega) _) | exact (((HRt2.out.far (by dsimp only; omega) _).far (by dsimp only; omega) _).alloc _), by first | exact ((HRa2.out.alloc _).put 0 _ (by simp)).put 1 _ (by simp) | exact ((HRa2.out.put 0 _ (by simp)).put 1 _ (by simp)).alloc _, by (with_reducible repeat first | exact Below.refl _ _ | assumption | ((first | refine Below.setCell ?_ ?_ _ | refine Below.alloc ?_ ?_ _); rotate_left; exact (by first | omega | (simp; done) | (simp; omega))) | refine Below.drew ?_ | refine Below_drewN ?_ _)⟩
        case measure => simp [intOf]; omega
      · have hmb : (m3 != 0) = true := by rw [bne_iff_ne]; exact hm
        have HN := Lib.hid HS.out
        rw [if_neg hm] at HN
        have hN := HN.out
        obtain ⟨rfl, h2⟩ := Prod.mk.inj hN
        obtain ⟨rfl, rfl⟩ := Prod.mk.inj h2
        clear HS HN hN h2 hm
        go_wp2_with fail
        exact bodyPost_ret (res3p Tryd.results45 _ _ _ _ _ _ rfl rfl (by go_simp) (by go_simp)) rfl ⟨rfl, by (with_reducible repeat first | exact Below.refl _ _ | assumption | ((first | refine Below.setCell ?_ ?_ _ | refine Below.alloc ?_ ?_ _); rotate_left; exact (by first | omega | (simp; done) | (simp; omega))) | refine Below.drew ?_ | refine Below_drewN ?_ _)⟩
    · have hN := hG.out
      rw [List.drop_of_length_le (by omega)] at hN
      obtain ⟨rfl, h2⟩ := Prod.mk.inj hN
      obtain ⟨rfl, rfl⟩ := Prod.mk.inj h2
      clear hN h2 hG
      go_wp2_with fail
      exact bodyPost_ret (res3 Tryd.results45 _ _ _ _ _ _ rfl rfl (by (try simp only [isSome_setCell]); first | assumption | go_simp) (by (try simp only [isSome_setCell]); first | assumption | go_simp)) rfl ⟨rfl, by (with_reducible repeat first | exact Below.refl _ _ | assumption | ((first | refine Below.setCell ?_ ?_ _ | refine Below.alloc ?_ ?_ _); rotate_left; exact (by first | omega | (simp; done) | (simp; omega))) | refine Below.drew ?_ | refine Below_drewN ?_ _)⟩

end Go.Proofs.YtfpjhobhmcfpnaaDoor
end
section
/- The specification of layer 4: dark, over this seat's translation (written by mk_rdk.py). -/
namespace Go.Proofs.YtfpjhobhmcfpnaaDoor
set_option linter.unusedVariables false
set_option linter.unusedSimpArgs false
open Go.RowKit Go.Shelf

theorem blk_new {w : World} {g : Nat} {o : Obj} (h : g = w.heap.size) : (w.alloc o).heap[g]? = some o := by
  rw [h]; exact heap_alloc_new w o
end Go.Proofs.YtfpjhobhmcfpnaaDoor
end
section
/- Package sense: Candidates, over this seat's translation (written by mk_can.py). -/
namespace Go.Proofs.YtfpjhobhmcfpnaaDoor
set_option linter.unusedVariables false
set_option linter.unusedSimpArgs false
open Go.RowKit Go.Shelf

/-- The candidate that a cell gives. -/
def candF (M : MachD) (C : CurD) (zs : List SpanD) (k : Nat) : Option (Int × Int × Int) :=
  if (commL (clL M (bgL M C) zs (k : Int))).2.2 = true then some ((k : Int), (commL (clL M (bgL M C) zs (k : Int))).1, (commL (clL M (bgL M C) zs (k : Int))).2.1) else none
def candL (M : MachD) (C : CurD) (zs : List SpanD) : List (Int × Int × Int) := (List.range C.plasma.length).filterMap (candF M C zs)
def candZ (M : MachD) (C : CurD) (zs : List SpanD) : List (Int × Int × Int) := if explB M C zs = true then candL M C zs else []
def candE (M : MachD) (C : CurD) (zs : List SpanD) : Int := if explB M C zs = true then 0 else 1
/-- A list in new memory and an error. -/
def ListAt {α : Type} (n : Nat) (enc : α → List Value) (zs : List α) (E : Int) (w : World) (e : Ending) (w' : World) : Prop :=
  ∃ (A : Option Addr) (cap : Nat), e = .returned (.tuple #[.slice A zs.length cap, .int .i64 E]) ∧ IsT n enc w' A zs.length zs ∧ zs.length ≤ cap ∧ cap ≤ maxLen ∧ Below w.heap.size w w'
theorem infoCd : (Tryd.prog.info? 68).map (fun i => (i.zero, i.size, i.bytes)) = some (some (.agg #[.int .i64 0, .int .i64 0, .int .i64 0]), 3, 24) := by kernel_rfl
theorem filter_snoc {β : Type} (f : Nat → Option β) (j : Nat) : (List.range (j + 1)).filterMap f = (List.range j).filterMap f ++ (match f j with | some x => [x] | none => []) := by
  rw [List.range_succ, List.filterMap_append]
  cases h : f j <;> simp [h]

set_option maxRecDepth 100000 in
set_option maxHeartbeats 8000000 in
theorem candidates_any (R : MachR) (M : MachD) (Qr : CurR) (Cd : CurD) (F : Option Addr) (nf cf : Nat) (zs : List SpanD) (w : World) (hM : IsM w R M) (hC : IsC w Qr Cd) (hF : IsT 2 SpanD.cells w F nf zs) (hn : nf ≤ 1000000000000000) :
    Calls Tryd.prog 19 #[.agg (machCells R M), Qr.v, .slice F nf cf] w (ListAt 3 pairCells (candZ M Cd zs) (candE M Cd zs) w) := by
  have HE0 := Lib.hid (fun W (hb : Below w.heap.size w W) => explainable_any R M Qr Cd F nf cf zs W (hM.below hb) (hC.below hb) (hF.below hb) hn)
  unfold candZ candE
  cases he : explB M Cd zs
  · rw [he] at HE0
    rw [if_neg (by decide), if_neg (by decide)]
    clear hM hC hF he
    obtain ⟨A, B, Cl, D, la, ca, lb, cb, lc, cl, ld, cd⟩ := R
    obtain ⟨name, coils, shells, limits, ⟨r, z, nr, nz, step⟩, sensors⟩ := M
    obtain ⟨A1, B1, C1, na, qa, nb, qb, nc, qc⟩ := Qr
    dsimp only [CurR.v] at *
    have HE := Lib.hid (show ∀ W, Below w.heap.size w W → Calls Tryd.prog 43 #[.agg #[.string name, .slice A la ca, .slice B lb cb, .slice Cl lc cl, .int .i64 r, .int .i64 z, .int .i64 nr, .int .i64 nz, .int .i64 step, .slice D ld cd], .agg #[.slice A1 na qa, .slice B1 nb qb, .slice C1 nc qc], .slice F nf cf] W (Ret (.bool false) W) from HE0.out)
    clear HE0
    show Calls Tryd.prog 19 #[.agg #[.string name, .slice A la ca, .slice B lb cb, .slice Cl lc cl, .int .i64 r, .int .i64 z, .int .i64 nr, .int .i64 nz, .int .i64 step, .slice D ld cd], .agg #[.slice A1 na qa, .slice B1 nb qb, .slice C1 nc qc], .slice F nf cf] w _
    go_enter Tryd.func19, Tryd.ntmps19
    go_upto_region 1 with (fail)
    have Fm : Hid (RowL (w.heap.size) [.string name, .slice A la ca, .slice B lb cb, .slice Cl lc cl, .int .i64 r, .int .i64 z, .int .i64 nr, .int .i64 nz, .int .i64 step, .slice D ld cd] ((w.alloc (.cells #[.string name, .slice A la ca, .slice B lb cb, .slice Cl lc cl, .int .i64 r, .int .i64 z, .int .i64 nr, .int .i64 nz, .int .i64 step, .slice D ld cd] 29)).alloc (.cells #[.slice A1 na qa, .slice B1 nb qb, .slice C1 nc qc] 32))) := Lib.hid (by have h := RowL.new w #[.string name, .slice A la ca, .slice B lb cb, .slice Cl lc cl, .int .i64 r, .int .i64 z, .int .i64 nr, .int .i64 nz, .int .i64 step, .slice D ld cd] 29; (try simp only [World.size_alloc] at h); exact (h.alloc _))
    have Fc : Hid (RowL (w.heap.size + 1) [.slice A1 na qa, .slice B1 nb qb, .slice C1 nc qc] ((w.alloc (.cells #[.string name, .slice A la ca, .slice B lb cb, .slice Cl lc cl, .int .i64 r, .int .i64 z, .int .i64 nr, .int .i64 nz, .int .i64 step, .slice D ld cd] 29)).alloc (.cells #[.slice A1 na qa, .slice B1 nb qb, .slice C1 nc qc] 32))) := Lib.hid (by have h := RowL.new (w.alloc (.cells #[.string name, .slice A la ca, .slice B lb cb, .slice Cl lc cl, .int .i64 r, .int .i64 z, .int .i64 nr, .int .i64 nz, .int .i64 step, .slice D ld cd] 29)) #[.slice A1 na qa, .slice B1 nb qb, .slice C1 nc qc] 32; (try simp only [World.size_alloc] at h); exact h)
    have hB0 : Below w.heap.size w ((w.alloc (.cells #[.string name, .slice A la ca, .slice B lb cb, .slice Cl lc cl, .int .i64 r, .int .i64 z, .int .i64 nr, .int .i64 nz, .int .i64 step, .slice D ld cd] 29)).alloc (.cells #[.slice A1 na qa, .slice B1 nb qb, .slice C1 nc qc] 32)) := by (with_reducible repeat first | exact Below.refl _ _ | assumption | ((first | refine Below.setCell ?_ ?_ _ | refine Below.alloc ?_ ?_ _); rotate_left; exact (by first | omega | (simp; done) | (simp; omega))) | refine Below.drew ?_ | refine Below_drewN ?_ _)
    have sW0 : w.heap.size + 1 < ((w.alloc (.cells #[.string name, .slice A la ca, .slice B lb cb, .slice Cl lc cl, .int .i64 r, .int .i64 z, .int .i64 nr, .int .i64 nz, .int .i64 step, .slice D ld cd] 29)).alloc (.cells #[.slice A1 na qa, .slice B1 nb qb, .slice C1 nc qc] 32)).heap.size := by simp only [World.size_alloc]; omega
    obtain ⟨W0, hW0⟩ : ∃ W, ((w.alloc (.cells #[.string name, .slice A la ca, .slice B lb cb, .slice Cl lc cl, .int .i64 r, .int .i64 z, .int .i64 nr, .int .i64 nz, .int .i64 step, .slice D ld cd] 29)).alloc (.cells #[.slice A1 na qa, .slice B1 nb qb, .slice C1 nc qc] 32)) = W := ⟨_, rfl⟩
    rw [hW0] at Fm Fc hB0 sW0 ⊢
    clear hW0
    have m0 := Fm.out.cell 0 (.string name) rfl
    have m1 := Fm.out.cell 1 (.slice A la ca) rfl
    have m2 := Fm.out.cell 2 (.slice B lb cb) rfl
    have m3 := Fm.out.cell 3 (.slice Cl lc cl) rfl
    have m4 := Fm.out.cell 4 (.int .i64 r) rfl
    have m5 := Fm.out.cell 5 (.int .i64 z) rfl
    have m6 := Fm.out.cell 6 (.int .i64 nr) rfl
    have m7 := Fm.out.cell 7 (.int .i64 nz) rfl
    have m8 := Fm.out.cell 8 (.int .i64 step) rfl
    have m9 := Fm.out.cell 9 (.slice D ld cd) rfl
    have c0 := Fc.out.cell 0 (.slice A1 na qa) rfl
    have c1 := Fc.out.cell 1 (.slice B1 nb qb) rfl
    have c2 := Fc.out.cell 2 (.slice C1 nc qc) rfl
    go_wp2_with fail
    refine (HE.out _ hB0).mono ?_
    rintro e w1 ⟨rfl, hb⟩
    have hB1 := hB0.trans (hb.mono hB0.size)
    clear hb
    go_wp2_with fail
    go_ret2
    exact ⟨none, 0, rfl, ⟨rfl, fun h => absurd h (by simp)⟩, Nat.le_refl _, Nat.zero_le _, by (with_reducible repeat first | exact Below.refl _ _ | assumption | ((first | refine Below.setCell ?_ ?_ _ | refine Below.alloc ?_ ?_ _); rotate_left; exact (by first | omega | (simp; done) | (simp; omega))) | refine Below.drew ?_ | refine Below_drewN ?_ _)⟩
  · have he' := he
    unfold explB at he'
    rw [Bool.and_eq_true] at he'
    have hv := fit2_iff.1 he'.1
    have hl := hM.sensors.1
    have hp := hC.plasma.1
    have hp2 := hv.plasma.1
    have hs := sound_of hv.check
    have hg := cells_fine hs.grid
    have hld : R.ld ≤ 1000 := by have := hs.sensors.1; omega
    have hlc : Qr.lc ≤ 1000 := by omega
    have HC0 := Lib.hid (fun W (hb : Below w.heap.size w W) => claimsOf_any R M Qr Cd F nf cf zs W (hM.below hb) (hC.below hb) (hF.below hb) he)
    obtain ⟨G, hG⟩ : ∃ G : Nat → List SpanD, ∀ k : Nat, clL M (bgL M Cd) zs (k : Int) = G k := ⟨fun k => clL M (bgL M Cd) zs (k : Int), fun _ => rfl⟩
    have hGl : ∀ k, (G k).length = R.ld := fun k => by rw [← hG, clL_len, hl]
    have HGl := Lib.hid hGl
    rw [if_pos rfl, if_pos rfl]
    unfold candL
    rw [hp]
    have hcf : candF M Cd zs = fun k : Nat => if (commL (G k)).2.2 = true then some ((k : Int), (commL (G k)).1, (commL (G k)).2.1) else none := by
      funext k
      unfold candF
      rw [hG]
    rw [hcf]
    rw [show (fun k : Nat => (clL M (bgL M Cd) zs (k : Int)).flatMap SpanD.cells) = fun k => (G k).flatMap SpanD.cells from funext (fun k => by rw [hG])] at HC0
    rw [he] at HE0
    clear hM hC hF he he' hv hl hp hp2 hs hg hG hcf hGl
    obtain ⟨f, hf⟩ : ∃ f : Nat → Option (Int × Int × Int), (fun k : Nat => if (commL (G k)).2.2 = true then some ((k : Int), (commL (G k)).1, (commL (G k)).2.1) else none) = f := ⟨_, rfl⟩
    have HF : Hid (∀ k, f k = if (commL (G k)).2.2 = true then some ((k : Int), (commL (G k)).1, (commL (G k)).2.1) else none) := Lib.hid (fun k => by rw [← hf])
    rw [hf]
    clear hf
    obtain ⟨A, B, Cl, D, la, ca, lb, cb, lc, cl, ld, cd⟩ := R
    obtain ⟨name, coils, shells, limits, ⟨r, z, nr, nz, step⟩, sensors⟩ := M
    obtain ⟨A1, B1, C1, na, qa, nb, qb, nc, qc⟩ := Qr
    dsimp only [CurR.v] at *
    have HE := Lib.hid (show ∀ W, Below w.heap.size w W → Calls Tryd.prog 43 #[.agg #[.string name, .slice A la ca, .slice B lb cb, .slice Cl lc cl, .int .i64 r, .int .i64 z, .int .i64 nr, .int .i64 nz, .int .i64 step, .slice D ld cd], .agg #[.slice A1 na qa, .slice B1 nb qb, .slice C1 nc qc], .slice F nf cf] W (Ret (.bool true) W) from HE0.out)
    have HC := Lib.hid (show ∀ W, Below w.heap.size w W → Calls Tryd.prog 44 #[.agg #[.string name, .slice A la ca, .slice B lb cb, .slice Cl lc cl, .int .i64 r, .int .i64 z, .int .i64 nr, .int .i64 nz, .int .i64 step, .slice D ld cd], .agg #[.slice A1 na qa, .slice B1 nb qb, .slice C1 nc qc], .slice F nf cf] W (CofAt nc ld (fun k => (G k).flatMap SpanD.cells) W) from HC0.out)
    clear HE0 HC0
    show Calls Tryd.prog 19 #[.agg #[.string name, .slice A la ca, .slice B lb cb, .slice Cl lc cl, .int .i64 r, .int .i64 z, .int .i64 nr, .int .i64 nz, .int .i64 step, .slice D ld cd], .agg #[.slice A1 na qa, .slice B1 nb qb, .slice C1 nc qc], .slice F nf cf] w _
    go_enter Tryd.func19, Tryd.ntmps19
    go_upto_region 1 with (fail)
    have Fm : Hid (RowL (w.heap.size) [.string name, .slice A la ca, .slice B lb cb, .slice Cl lc cl, .int .i64 r, .int .i64 z, .int .i64 nr, .int .i64 nz, .int .i64 step, .slice D ld cd] ((w.alloc (.cells #[.string name, .slice A la ca, .slice B lb cb, .slice Cl lc cl, .int .i64 r, .int .i64 z, .int .i64 nr, .int .i64 nz, .int .i64 step, .slice D ld cd] 29)).alloc (.cells #[.slice A1 na qa, .slice B1 nb qb, .slice C1 nc qc] 32))) := Lib.hid (by have h := RowL.new w #[.string name, .slice A la ca, .slice B lb cb, .slice Cl lc cl, .int .i64 r, .int .i64 z, .int .i64 nr, .int .i64 nz, .int .i64 step, .slice D ld cd] 29; (try simp only [World.size_alloc] at h); exact (h.alloc _))
    have Fc : Hid (RowL (w.heap.size + 1) [.slice A1 na qa, .slice B1 nb qb, .slice C1 nc qc] ((w.alloc (.cells #[.string name, .slice A la ca, .slice B lb cb, .slice Cl lc cl, .int .i64 r, .int .i64 z, .int .i64 nr, .int .i64 nz, .int .i64 step, .slice D ld cd] 29)).alloc (.cells #[.slice A1 na qa, .slice B1 nb qb, .slice C1 nc qc] 32))) := Lib.hid (by have h := RowL.new (w.alloc (.cells #[.string name, .slice A la ca, .slice B lb cb, .slice Cl lc cl, .int .i64 r, .int .i64 z, .int .i64 nr, .int .i64 nz, .int .i64 step, .slice D ld cd] 29)) #[.slice A1 na qa, .slice B1 nb qb, .slice C1 nc qc] 32; (try simp only [World.size_alloc] at h); exact h)
    have hB0 : Below w.heap.size w ((w.alloc (.cells #[.string name, .slice A la ca, .slice B lb cb, .slice Cl lc cl, .int .i64 r, .int .i64 z, .int .i64 nr, .int .i64 nz, .int .i64 step, .slice D ld cd] 29)).alloc (.cells #[.slice A1 na qa, .slice B1 nb qb, .slice C1 nc qc] 32)) := by (with_reducible repeat first | exact Below.refl _ _ | assumption | ((first | refine Below.setCell ?_ ?_ _ | refine Below.alloc ?_ ?_ _); rotate_left; exact (by first | omega | (simp; done) | (simp; omega))) | refine Below.drew ?_ | refine Below_drewN ?_ _)
    have sW0 : w.heap.size + 1 < ((w.alloc (.cells #[.string name, .slice A la ca, .slice B lb cb, .slice Cl lc cl, .int .i64 r, .int .i64 z, .int .i64 nr, .int .i64 nz, .int .i64 step, .slice D ld cd] 29)).alloc (.cells #[.slice A1 na qa, .slice B1 nb qb, .slice C1 nc qc] 32)).heap.size := by simp only [World.size_alloc]; omega
    obtain ⟨W0, hW0⟩ : ∃ W, ((w.alloc (.cells #[.string name, .slice A la ca, .slice B lb cb, .slice Cl lc cl, .int .i64 r, .int .i64 z, .int .i64 nr, .int .i64 nz, .int .i64 step, .slice D ld cd] 29)).alloc (.cells #[.slice A1 na qa, .slice B1 nb qb, .slice C1 nc qc] 32)) = W := ⟨_, rfl⟩
    rw [hW0] at Fm Fc hB0 sW0 ⊢
    clear hW0
    have m0 := Fm.out.cell 0 (.string name) rfl
    have m1 := Fm.out.cell 1 (.slice A la ca) rfl
    have m2 := Fm.out.cell 2 (.slice B lb cb) rfl
    have m3 := Fm.out.cell 3 (.slice Cl lc cl) rfl
    have m4 := Fm.out.cell 4 (.int .i64 r) rfl
    have m5 := Fm.out.cell 5 (.int .i64 z) rfl
    have m6 := Fm.out.cell 6 (.int .i64 nr) rfl
    have m7 := Fm.out.cell 7 (.int .i64 nz) rfl
    have m8 := Fm.out.cell 8 (.int .i64 step) rfl
    have m9 := Fm.out.cell 9 (.slice D ld cd) rfl
    have c0 := Fc.out.cell 0 (.slice A1 na qa) rfl
    have c1 := Fc.out.cell 1 (.slice B1 nb qb) rfl
    have c2 := Fc.out.cell 2 (.slice C1 nc qc) rfl
    go_wp2_with fail
    refine (HE.out _ hB0).mono ?_
    rintro e w1 ⟨rfl, hb⟩
    clear m0 m1 m2 m3 m4 m5 m6 m7 m8 m9 c0 c1 c2
    have Gm := Lib.hid (Fm.out.below hb)
    clear Fm
    have Fm := Lib.hid Gm.out
    clear Gm
    have Gc := Lib.hid (Fc.out.below hb)
    clear Fc
    have Fc := Lib.hid Gc.out
    clear Gc
    have m0 := Fm.out.cell 0 (.string name) rfl
    have m1 := Fm.out.cell 1 (.slice A la ca) rfl
    have m2 := Fm.out.cell 2 (.slice B lb cb) rfl
    have m3 := Fm.out.cell 3 (.slice Cl lc cl) rfl
    have m4 := Fm.out.cell 4 (.int .i64 r) rfl
    have m5 := Fm.out.cell 5 (.int .i64 z) rfl
    have m6 := Fm.out.cell 6 (.int .i64 nr) rfl
    have m7 := Fm.out.cell 7 (.int .i64 nz) rfl
    have m8 := Fm.out.cell 8 (.int .i64 step) rfl
    have m9 := Fm.out.cell 9 (.slice D ld cd) rfl
    have c0 := Fc.out.cell 0 (.slice A1 na qa) rfl
    have c1 := Fc.out.cell 1 (.slice B1 nb qb) rfl
    have c2 := Fc.out.cell 2 (.slice C1 nc qc) rfl
    have hB1 := hB0.trans (hb.mono hB0.size)
    clear hb hB0 sW0 HE
    go_wp2_with fail
    refine (HC.out _ hB1).mono ?_
    rintro e w2 ⟨p, L, rfl, hL, hRp, hRk, hb⟩
    have hB2 := hB1.trans (hb.mono hB1.size)
    have hpl := hRp.lt
    have HP := Lib.hid hRp
    have HK := Lib.hid hRk
    have HLn := Lib.hid hL
    clear hb hRp hRk hL HC m0 m1 m2 m3 m4 m5 m6 m7 m8 m9 c0 c1 c2 Fm Fc
    go_wp2_with fail
    go_loopw [8, 23] (fun s8 i wr => ∃ (j : Nat) (A : Option Addr) (k cap : Nat), j ≤ nc ∧ i = .int .i64 j ∧ s8 = .slice A k cap ∧ Hid (k = ((List.range j).filterMap f).length ∧ k ≤ j ∧ wr.ownsRow w2.heap.size 68 3 (.slice A k cap) k (((List.range j).filterMap f).flatMap pairCells)) ∧ Below w2.heap.size w2 wr) (fun _ i _ => nc - (intOf i).toNat)
    case atStart => exact ⟨0, none, 0, 0, Nat.zero_le _, rfl, rfl, Lib.hid ⟨rfl, Nat.le_refl _, ⟨rfl, Or.inl ⟨rfl, rfl⟩⟩⟩, by (with_reducible repeat first | exact Below.refl _ _ | assumption | ((first | refine Below.setCell ?_ ?_ _ | refine Below.alloc ?_ ?_ _); rotate_left; exact (by first | omega | (simp; done) | (simp; omega))) | refine Below.drew ?_ | refine Below_drewN ?_ _)⟩
    case round =>
      obtain ⟨j, A, k, cap, hj, rfl, rfl, hR, hB⟩ := hrel
      have sz := hB.size
      have hBw := hB2.trans (hB.mono hB2.size)
      by_cases hlt : j < nc
      · obtain ⟨b, hb⟩ : ∃ b, L[j]? = some b := ⟨_, List.getElem?_eq_getElem (by rw [HLn.out]; exact hlt)⟩
        have hrow := (HK.out j b hb).below hB
        have p0 : wr.cell? ⟨p, j, none⟩ = some (.slice (some ⟨b, 0, none⟩) ld ld) := (HP.out.below hB).cell j _ (by rw [List.getElem?_map, hb]; rfl)
        have HCo := Lib.hid (common_any (some ⟨b, 0, none⟩) ld ld (G j) wr (hrow.isS (HGl.out j)) (by omega))
        have HS := Lib.hid (filter_snoc f j)
        have HFj := Lib.hid (HF.out j)
        generalize commL (G j) = Y at *
        obtain ⟨y1, y2, y3⟩ := Y
        dsimp only at HCo HFj
        have jn : ((j : Int)).toNat = j := by omega
        have j0 : (0 : Int) ≤ j := by omega
        clear hrow hb
        go_wp2_with fail
        refine HCo.out.mono ?_
        rintro e w3 ⟨rfl, hb⟩
        have hb3 := hB.trans (hb.mono hB.size)
        have hR3 := ownK_below hR.out.2.2 hb
        have HR3 := Lib.hid hR3
        have sz3 := hb.size
        clear hb hR3 p0
        cases y3
        · have HN : Hid (((List.range (j + 1)).filterMap f) = ((List.range j).filterMap f)) := Lib.hid (by rw [HS.out, HFj.out]; simp)
          clear HS HFj HCo
          go_wp2_with fail
          go_roundw
          case rel => exact ⟨j + 1, A, k, cap, by omega, by go_num, rfl, Lib.hid (by rw [HN.out]; exact ⟨hR.out.1, by have := hR.out.2.1; omega, ownK_below HR3.out (by (with_reducible repeat first | exact Below.refl _ _ | assumption | ((first | refine Below.setCell ?_ ?_ _ | refine Below.alloc ?_ ?_ _); rotate_left; exact (by first | omega | (simp; done) | (simp; omega))) | refine Below.drew ?_ | refine Below_drewN ?_ _))⟩), by (with_reducible repeat first | exact Below.refl _ _ | assumption | ((first | refine Below.setCell ?_ ?_ _ | refine Below.alloc ?_ ?_ _); rotate_left; exact (by first | omega | (simp; done) | (simp; omega))) | refine Below.drew ?_ | refine Below_drewN ?_ _)⟩
          case measure => simp [intOf]; omega
        · have HN : Hid (((List.range (j + 1)).filterMap f) = ((List.range j).filterMap f) ++ [((j : Int), y1, y2)]) := Lib.hid (by rw [HS.out, HFj.out]; simp)
          have hkj := hR.out.2.1
          clear HS HFj HCo
          go_wp2_with (at_builtin; refine list_push1 w2.heap.size w2 rfl (Operand.tmp 34) (Operand.tmp 38) 60 68 3 24 _ Tryd.underlying60 infoCd rfl (by decide) rfl (.slice A k cap) k (((List.range j).filterMap f).flatMap pairCells) rfl (ownK_below HR3.out (by (with_reducible repeat first | exact Below.refl _ _ | assumption | ((first | refine Below.setCell ?_ ?_ _ | refine Below.alloc ?_ ?_ _); rotate_left; exact (by first | omega | (simp; done) | (simp; omega))) | refine Below.drew ?_ | refine Below_drewN ?_ _))) _ #[.int .i64 j, .int .i64 y1, .int .i64 y2] rfl (blk_new (by first | omega | ((try simp only [World.size_alloc, World.size_setCell, size_drew, size_drewN]); omega) | (simp; done) | (simp; omega))) rfl (by simp [Value.oneCell']) (by omega) (by decide) (by first | omega | ((try simp only [World.size_alloc, World.size_setCell, size_drew, size_drewN]); omega) | (simp; done) | (simp; omega)) (by (with_reducible repeat first | exact Below.refl _ _ | assumption | ((first | refine Below.setCell ?_ ?_ _ | refine Below.alloc ?_ ?_ _); rotate_left; exact (by first | omega | (simp; done) | (simp; omega))) | refine Below.drew ?_ | refine Below_drewN ?_ _)) ?_; intro A2 cap2 w4 hown4 hB4 hs4; have HO := Lib.hid hown4; clear hown4)
          go_roundw
          case rel => exact ⟨j + 1, A2, k + 1, cap2, by omega, by go_num, rfl, Lib.hid (by
            rw [HN.out]
            refine ⟨by rw [List.length_append, ← hR.out.1]; rfl, by omega, ?_⟩
            rw [List.flatMap_append]
            exact HO.out), by (with_reducible repeat first | exact Below.refl _ _ | assumption | ((first | refine Below.setCell ?_ ?_ _ | refine Below.alloc ?_ ?_ _); rotate_left; exact (by first | omega | (simp; done) | (simp; omega))) | refine Below.drew ?_ | refine Below_drewN ?_ _)⟩
          case measure => simp [intOf]; omega
      · obtain rfl : j = nc := by omega
        go_wp2_with fail
        go_ret2
        obtain ⟨h1, h2, h3⟩ := hR.out
        subst h1
        obtain ⟨h4, h5, h6⟩ := own_isT (enc := pairCells) (fun x => rfl) (by decide) h3 rfl
        exact ⟨A, cap, rfl, h4, h5, h6, hBw⟩

end Go.Proofs.YtfpjhobhmcfpnaaDoor
end
