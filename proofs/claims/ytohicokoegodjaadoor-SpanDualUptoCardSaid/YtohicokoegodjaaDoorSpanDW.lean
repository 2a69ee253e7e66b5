/- The walk of the law SpanDual over this seat's translation. -/
import Derived.Test.YtohicokoegodjaaDoorSpanKU
import Derived.Test.YtohicokoegodjaaDoorSpanD
namespace Go.Proofs.YtohicokoegodjaaDoor.lawSpanDual
set_option linter.unusedVariables false
set_option linter.unusedSimpArgs false
open Go.RowKit

set_option maxRecDepth 100000 in
set_option maxHeartbeats 8000000 in
theorem walk_nil (x : Option Addr) (cap : Nat) (vl vk : Value) (zl zk : List Int) (w : World) (hvl : vl = (.slice x 0 cap)) (hz0 : zl = []) (hIl : IsTr w vl zl) (hSl : Src w vl zl) (hIk : IsTr w vk zk) (hSk : Src w vk zk) (hT : Tabs w) (hlen : zl.length + zk.length ≤ 1048576) :
    Calls Tryd.prog 4 #[(.slice x 0 cap), vk] w (Ret (.bool true) w) := by
  have HT := Lib.hid (fun W (hb : Below w.heap.size w W) => hT.below hb)
  have HIl := Lib.hid (fun W (hb : Below w.heap.size w W) => hIl.below hb)
  have HIk := Lib.hid (fun W (hb : Below w.heap.size w W) => hIk.below hb)
  have HSl := Lib.hid (fun W (hb : Below w.heap.size w W) => hSl.below hb)
  have HSk := Lib.hid (fun W (hb : Below w.heap.size w W) => hSk.below hb)
  have HD := Lib.hid (dual zl)
  have HCA := Lib.hid (cut_and zl zk)
  have HCO := Lib.hid (cut_or zl zk)
  subst hvl
  clear hT hIl hIk hSl hSk
  go_enter Tryd.func4, Tryd.ntmps4
  go_wp2_with fail
  subst hz0
  go_loopw [5, 6] (fun s i wr => s = .slice none 0 0 ∧ i = .int .i64 0 ∧ Below w.heap.size w wr) (fun _ _ _ => 0)
  case atStart => exact ⟨rfl, rfl, Below.refl _ _⟩
  case round =>
    obtain ⟨rfl, rfl, hB⟩ := hrel
    have hown : wr.ownsRow w.heap.size 25 1 (.slice none 0 0) 0 ((([] : List Int).map notL).map (Value.int .i64)) := ⟨rfl, .inl ⟨rfl, rfl⟩⟩
    have hsz := hB.size
    have HX := Lib.hid hown
    clear hown
    go_upto_region 6 with fail
    go_cut [7] (fun s7 wx => IsTr wx s7 (([] : List Int) ++ zk) ∧ IsTr wx (.slice none 0 0) (([] : List Int).map notL) ∧ Below w.heap.size w wx)
    case first =>
      go_wp2_with (first | (at_builtin; refine append_tr rfl (Operand.tmp 22) (Operand.tmp 23) rfl wr.heap.size _ 0 [] rfl (own_empty _ _ (Nat.le_refl _)) (.slice x 0 cap) ([] : List Int) rfl (HSl.out _ (hB.alloc hsz _)) (by omega) (by simp) ?_; intro v1 w1 hown1 hg1; have hB1 : Below wr.heap.size wr w1 := below_grown ((Below.refl _ _).alloc (Nat.le_refl _) _) (own_empty _ _ (Nat.le_refl _)) hg1 (by simp); have hsz1 := hB1.size) | (at_builtin; refine append_tr rfl (Operand.tmp 24) (Operand.tmp 25) rfl wr.heap.size _ _ _ rfl hown1 vk zk rfl (HSk.out _ (hB.trans (hB1.mono hsz))) (by omega) hsz1 ?_; intro v2 w2 hown2 hg2; have hB2 : Below wr.heap.size wr w2 := below_grown hB1 hown1 hg2 hsz1; have hI2 : IsTr w2 v2 (([] : List Int) ++ zk) := isTr_of_own (base := wr.heap.size) (e := 25) (by simpa using hown2)))
      go_meet
      exact ⟨hI2, (isTr_of_own HX.out).below hB2, hB.trans (hB2.mono hsz)⟩
    case rest =>
      obtain ⟨hIa, hIn, hBc⟩ := hcut
      obtain ⟨wo, rfl⟩ : ∃ wo : World, wo = wc := ⟨_, rfl⟩
      have hso0 := hBc.size
      have up : ∀ W, Below wo.heap.size wo W → Below w.heap.size w W := fun W hb => hBc.trans (hb.mono hso0)
      have HTo := Lib.hid (fun W (hb : Below wo.heap.size wo W) => HT.out W (up W hb))
      have CAl := Lib.hid (fun W (hb : Below wo.heap.size wo W) => and_any (.slice x 0 cap) ([] : List Int) W (HIl.out W (up W hb)) (HTo.out W hb))
      have CAk := Lib.hid (fun W (hb : Below wo.heap.size wo W) => and_any vk zk W (HIk.out W (up W hb)) (HTo.out W hb))
      have COl := Lib.hid (fun W (hb : Below wo.heap.size wo W) => or_any (.slice x 0 cap) ([] : List Int) W (HIl.out W (up W hb)) (HTo.out W hb))
      have COk := Lib.hid (fun W (hb : Below wo.heap.size wo W) => or_any vk zk W (HIk.out W (up W hb)) (HTo.out W hb))
      have COn := Lib.hid (fun W (hb : Below wo.heap.size wo W) => (show Calls Tryd.prog 12 #[(.slice none 0 0)] W (Ret (.int .i64 (notL (andC ([] : List Int)))) W) by rw [HD.out]; exact or_any (.slice none 0 0) _ W (hIn.below hb) (HTo.out W hb)))
      have CAa0 := fun (al : Value) (hIa : IsTr wo al (([] : List Int) ++ zk)) W (hb : Below wo.heap.size wo W) => (show Calls Tryd.prog 10 #[al] W (Ret (.int .i64 (andC [andC ([] : List Int), andC zk])) W) by rw [← HCA.out]; exact and_any al _ W (hIa.below hb) (HTo.out W hb))
      have COa0 := fun (al : Value) (hIa : IsTr wo al (([] : List Int) ++ zk)) W (hb : Below wo.heap.size wo W) => (show Calls Tryd.prog 12 #[al] W (Ret (.int .i64 (orC [orC ([] : List Int), orC zk])) W) by rw [← HCO.out]; exact or_any al _ W (hIa.below hb) (HTo.out W hb))
      have CAa := Lib.hid (CAa0 _ hIa)
      have COa := Lib.hid (COa0 _ hIa)
      clear CAa0 COa0 hIa hIn up HSl HSk HIl HIk HT HD HCA HCO HX
      generalize andC ([] : List Int) = A at *
      generalize andC zk = K at *
      generalize orC ([] : List Int) = O at *
      generalize orC zk = P at *
      go_wp2_with (first | (go_at_call 10; (first | (with_reducible show Calls _ _ #[(.slice x 0 cap)] _ _; refine (CAl.out _ (by (repeat first | with_reducible exact Below.refl _ _ | with_reducible assumption | (with_reducible refine Below.setCell ?_ ?_ _; rotate_left; exact (by first | omega | (simp; done) | (simp; omega))) | (with_reducible refine Below.alloc ?_ ?_ _; rotate_left; exact (by first | omega | (simp; done) | (simp; omega))) | with_reducible refine Below.drew ?_ | with_reducible refine Below_drewN ?_ _))).mono ?_) | (with_reducible show Calls _ _ #[vk] _ _; refine (CAk.out _ (by (repeat first | with_reducible exact Below.refl _ _ | with_reducible assumption | (with_reducible refine Below.setCell ?_ ?_ _; rotate_left; exact (by first | omega | (simp; done) | (simp; omega))) | (with_reducible refine Below.alloc ?_ ?_ _; rotate_left; exact (by first | omega | (simp; done) | (simp; omega))) | with_reducible refine Below.drew ?_ | with_reducible refine Below_drewN ?_ _))).mono ?_) | (with_reducible show Calls _ _ #[.slice (some ⟨_, 0, none⟩) 2 2] _ _; refine (and_any _ [A, K] _ (isTr_two (by simp) (by go_simp) (by go_simp)) (HTo.out _ (by (repeat first | with_reducible exact Below.refl _ _ | with_reducible assumption | (with_reducible refine Below.setCell ?_ ?_ _; rotate_left; exact (by first | omega | (simp; done) | (simp; omega))) | (with_reducible refine Below.alloc ?_ ?_ _; rotate_left; exact (by first | omega | (simp; done) | (simp; omega))) | with_reducible refine Below.drew ?_ | with_reducible refine Below_drewN ?_ _)))).mono ?_) | refine (CAa.out _ (by (repeat first | with_reducible exact Below.refl _ _ | with_reducible assumption | (with_reducible refine Below.setCell ?_ ?_ _; rotate_left; exact (by first | omega | (simp; done) | (simp; omega))) | (with_reducible refine Below.alloc ?_ ?_ _; rotate_left; exact (by first | omega | (simp; done) | (simp; omega))) | with_reducible refine Below.drew ?_ | with_reducible refine Below_drewN ?_ _))).mono ?_); rintro e w1 ⟨rfl, hb⟩; have hO : Below wo.heap.size wo w1 := Below.trans (by (repeat first | with_reducible exact Below.refl _ _ | with_reducible assumption | (with_reducible refine Below.setCell ?_ ?_ _; rotate_left; exact (by first | omega | (simp; done) | (simp; omega))) | (with_reducible refine Below.alloc ?_ ?_ _; rotate_left; exact (by first | omega | (simp; done) | (simp; omega))) | with_reducible refine Below.drew ?_ | with_reducible refine Below_drewN ?_ _)) (hb.mono (by first | omega | ((try simp only [World.size_alloc, World.size_setCell, size_drew, size_drewN]); omega) | (simp; done) | (simp; omega))); have hso := hO.size; clear hb) | (go_at_call 12; (first | (with_reducible show Calls _ _ #[(.slice none 0 0)] _ _; refine (COn.out _ (by (repeat first | with_reducible exact Below.refl _ _ | with_reducible assumption | (with_reducible refine Below.setCell ?_ ?_ _; rotate_left; exact (by first | omega | (simp; done) | (simp; omega))) | (with_reducible refine Below.alloc ?_ ?_ _; rotate_left; exact (by first | omega | (simp; done) | (simp; omega))) | with_reducible refine Below.drew ?_ | with_reducible refine Below_drewN ?_ _))).mono ?_) | (with_reducible show Calls _ _ #[(.slice x 0 cap)] _ _; refine (COl.out _ (by (repeat first | with_reducible exact Below.refl _ _ | with_reducible assumption | (with_reducible refine Below.setCell ?_ ?_ _; rotate_left; exact (by first | omega | (simp; done) | (simp; omega))) | (with_reducible refine Below.alloc ?_ ?_ _; rotate_left; exact (by first | omega | (simp; done) | (simp; omega))) | with_reducible refine Below.drew ?_ | with_reducible refine Below_drewN ?_ _))).mono ?_) | (with_reducible show Calls _ _ #[vk] _ _; refine (COk.out _ (by (repeat first | with_reducible exact Below.refl _ _ | with_reducible assumption | (with_reducible refine Below.setCell ?_ ?_ _; rotate_left; exact (by first | omega | (simp; done) | (simp; omega))) | (with_reducible refine Below.alloc ?_ ?_ _; rotate_left; exact (by first | omega | (simp; done) | (simp; omega))) | with_reducible refine Below.drew ?_ | with_reducible refine Below_drewN ?_ _))).mono ?_) | (with_reducible show Calls _ _ #[.slice (some ⟨_, 0, none⟩) 2 2] _ _; refine (or_any _ [O, P] _ (isTr_two (by simp) (by go_simp) (by go_simp)) (HTo.out _ (by (repeat first | with_reducible exact Below.refl _ _ | with_reducible assumption | (with_reducible refine Below.setCell ?_ ?_ _; rotate_left; exact (by first | omega | (simp; done) | (simp; omega))) | (with_reducible refine Below.alloc ?_ ?_ _; rotate_left; exact (by first | omega | (simp; done) | (simp; omega))) | with_reducible refine Below.drew ?_ | with_reducible refine Below_drewN ?_ _)))).mono ?_) | refine (COa.out _ (by (repeat first | with_reducible exact Below.refl _ _ | with_reducible assumption | (with_reducible refine Below.setCell ?_ ?_ _; rotate_left; exact (by first | omega | (simp; done) | (simp; omega))) | (with_reducible refine Below.alloc ?_ ?_ _; rotate_left; exact (by first | omega | (simp; done) | (simp; omega))) | with_reducible refine Below.drew ?_ | with_reducible refine Below_drewN ?_ _))).mono ?_); rintro e w1 ⟨rfl, hb⟩; have hO : Below wo.heap.size wo w1 := Below.trans (by (repeat first | with_reducible exact Below.refl _ _ | with_reducible assumption | (with_reducible refine Below.setCell ?_ ?_ _; rotate_left; exact (by first | omega | (simp; done) | (simp; omega))) | (with_reducible refine Below.alloc ?_ ?_ _; rotate_left; exact (by first | omega | (simp; done) | (simp; omega))) | with_reducible refine Below.drew ?_ | with_reducible refine Below_drewN ?_ _)) (hb.mono (by first | omega | ((try simp only [World.size_alloc, World.size_setCell, size_drew, size_drewN]); omega) | (simp; done) | (simp; omega))); have hso := hO.size; clear hb) | (go_at_call 14; refine (not_any _ _ (HTo.out _ (by (repeat first | with_reducible exact Below.refl _ _ | with_reducible assumption | (with_reducible refine Below.setCell ?_ ?_ _; rotate_left; exact (by first | omega | (simp; done) | (simp; omega))) | (with_reducible refine Below.alloc ?_ ?_ _; rotate_left; exact (by first | omega | (simp; done) | (simp; omega))) | with_reducible refine Below.drew ?_ | with_reducible refine Below_drewN ?_ _)))).mono ?_; rintro e w1 ⟨rfl, rfl⟩) | (go_at_call 16; (first | refine (awake_any _).mono ?_); rintro e w1 ⟨rfl, hb⟩; have hO : Below wo.heap.size wo w1 := Below.trans (by (repeat first | with_reducible exact Below.refl _ _ | with_reducible assumption | (with_reducible refine Below.setCell ?_ ?_ _; rotate_left; exact (by first | omega | (simp; done) | (simp; omega))) | (with_reducible refine Below.alloc ?_ ?_ _; rotate_left; exact (by first | omega | (simp; done) | (simp; omega))) | with_reducible refine Below.drew ?_ | with_reducible refine Below_drewN ?_ _)) (hb.mono (by first | omega | ((try simp only [World.size_alloc, World.size_setCell, size_drew, size_drewN]); omega) | (simp; done) | (simp; omega))); have hso := hO.size; clear hb))
      go_ret
      exact ⟨rfl, hBc.trans (Below.mono (by (repeat first | with_reducible exact Below.refl _ _ | with_reducible assumption | (with_reducible refine Below.setCell ?_ ?_ _; rotate_left; exact (by first | omega | (simp; done) | (simp; omega))) | (with_reducible refine Below.alloc ?_ ?_ _; rotate_left; exact (by first | omega | (simp; done) | (simp; omega))) | with_reducible refine Below.drew ?_ | with_reducible refine Below_drewN ?_ _)) hso0)⟩

set_option maxRecDepth 100000 in
set_option maxHeartbeats 8000000 in
theorem walk_some (ab ao len cap : Nat) (vl vk : Value) (zl zk : List Int) (w : World) (hvl : vl = (.slice (some ⟨ab, ao, none⟩) len cap)) (hab : ab < w.heap.size) (hln : zl.length = len) (HZ : Hid (TrCells w ab ao len zl)) (hIl : IsTr w vl zl) (hSl : Src w vl zl) (hIk : IsTr w vk zk) (hSk : Src w vk zk) (hT : Tabs w) (hlen : zl.length + zk.length ≤ 1048576) :
    Calls Tryd.prog 4 #[(.slice (some ⟨ab, ao, none⟩) len cap), vk] w (Ret (.bool true) w) := by
  have HT := Lib.hid (fun W (hb : Below w.heap.size w W) => hT.below hb)
  have HIl := Lib.hid (fun W (hb : Below w.heap.size w W) => hIl.below hb)
  have HIk := Lib.hid (fun W (hb : Below w.heap.size w W) => hIk.below hb)
  have HSl := Lib.hid (fun W (hb : Below w.heap.size w W) => hSl.below hb)
  have HSk := Lib.hid (fun W (hb : Below w.heap.size w W) => hSk.below hb)
  have HD := Lib.hid (dual zl)
  have HCA := Lib.hid (cut_and zl zk)
  have HCO := Lib.hid (cut_or zl zk)
  subst hvl
  clear hT hIl hIk hSl hSk
  go_enter Tryd.func4, Tryd.ntmps4
  go_wp2_with fail
  go_loopw [5, 6] (fun s i wr => ∃ j : Nat, j ≤ len ∧ i = .int .i64 j ∧ wr.ownsRow w.heap.size 25 1 s j (((zl.take j).map notL).map (Value.int .i64)) ∧ Below w.heap.size w wr) (fun _ i _ => len - (intOf i).toNat)
  case atStart => exact ⟨0, Nat.zero_le _, rfl, ⟨by simp, .inl ⟨rfl, rfl⟩⟩, Below.refl _ _⟩
  case round =>
    obtain ⟨j, hj, rfl, hown, hB⟩ := hrel
    have hsz := hB.size
    by_cases hlt : j < len
    · have hc0 := (hB.cell (p := ⟨ab, ao + j, none⟩) hab).trans (HZ.out j hlt)
      have hsn : ((zl.take (j + 1)).map notL).map (Value.int .i64) = ((zl.take j).map notL).map (Value.int .i64) ++ [notL (zl.getD j 0)].map (Value.int .i64) := by
        have hjl : j < zl.length := by omega
        rw [List.take_succ_eq_append_getElem hjl, List.getD_eq_getElem?_getD, List.getElem?_eq_getElem hjl]
        simp only [List.map_append, List.map_cons, List.map_nil, Option.getD_some]
      have HSN := Lib.hid hsn
      have HO := Lib.hid hown
      clear hsn hown
      generalize zl.getD j 0 = x at *
      generalize ((zl.take j).map notL).map (Value.int .i64) = row at *
      have i0 : (0 : Int) ≤ j := by omega
      have i1 : (j : Int) < len := by omega
      go_wp2_with (first | (go_at_call 14; refine (not_any _ _ (HT.out _ hB)).mono ?_; rintro e w1 ⟨rfl, rfl⟩) | (at_builtin; refine append_tr rfl (Operand.tmp 14) (Operand.tmp 20) rfl w.heap.size _ j row rfl (HO.out.alloc _) _ [notL x] rfl (src_one _ _) (by simp; omega) (by simp; omega) ?_; intro v1 w1 hown1 hg1; have hB1 : Below w.heap.size w w1 := below_grown (by (repeat first | with_reducible exact Below.refl _ _ | with_reducible assumption | (with_reducible refine Below.setCell ?_ ?_ _; rotate_left; exact (by first | omega | (simp; done) | (simp; omega))) | (with_reducible refine Below.alloc ?_ ?_ _; rotate_left; exact (by first | omega | (simp; done) | (simp; omega))) | with_reducible refine Below.drew ?_ | with_reducible refine Below_drewN ?_ _)) (HO.out.alloc _) hg1 (by simp; omega)))
      go_roundw
      case rel => exact ⟨j + 1, by omega, by go_num, by rw [HSN.out]; exact hown1, hB1⟩
      case measure => simp [intOf]; omega
    · have hjl : j = len := by omega
      have e : zl.take j = zl := by rw [hjl, ← hln]; exact List.take_length
      rw [e, hjl, ← hln] at hown
      clear e hjl
      have hsz := hB.size
      have HX := Lib.hid hown
      clear hown
      go_upto_region 6 with fail
      go_cut [7] (fun s7 wx => IsTr wx s7 (zl ++ zk) ∧ IsTr wx u5 (zl.map notL) ∧ Below w.heap.size w wx)
      case first =>
        go_wp2_with (first | (at_builtin; refine append_tr rfl (Operand.tmp 22) (Operand.tmp 23) rfl wr.heap.size _ 0 [] rfl (own_empty _ _ (Nat.le_refl _)) (.slice (some ⟨ab, ao, none⟩) len cap) zl rfl (HSl.out _ (hB.alloc hsz _)) (by omega) (by simp) ?_; intro v1 w1 hown1 hg1; have hB1 : Below wr.heap.size wr w1 := below_grown ((Below.refl _ _).alloc (Nat.le_refl _) _) (own_empty _ _ (Nat.le_refl _)) hg1 (by simp); have hsz1 := hB1.size) | (at_builtin; refine append_tr rfl (Operand.tmp 24) (Operand.tmp 25) rfl wr.heap.size _ _ _ rfl hown1 vk zk rfl (HSk.out _ (hB.trans (hB1.mono hsz))) (by omega) hsz1 ?_; intro v2 w2 hown2 hg2; have hB2 : Below wr.heap.size wr w2 := below_grown hB1 hown1 hg2 hsz1; have hI2 : IsTr w2 v2 (zl ++ zk) := isTr_of_own (base := wr.heap.size) (e := 25) (by simpa using hown2)))
        go_meet
        exact ⟨hI2, (isTr_of_own HX.out).below hB2, hB.trans (hB2.mono hsz)⟩
      case rest =>
        obtain ⟨hIa, hIn, hBc⟩ := hcut
        obtain ⟨wo, rfl⟩ : ∃ wo : World, wo = wc := ⟨_, rfl⟩
        have hso0 := hBc.size
        have up : ∀ W, Below wo.heap.size wo W → Below w.heap.size w W := fun W hb => hBc.trans (hb.mono hso0)
        have HTo := Lib.hid (fun W (hb : Below wo.heap.size wo W) => HT.out W (up W hb))
        have CAl := Lib.hid (fun W (hb : Below wo.heap.size wo W) => and_any (.slice (some ⟨ab, ao, none⟩) len cap) zl W (HIl.out W (up W hb)) (HTo.out W hb))
        have CAk := Lib.hid (fun W (hb : Below wo.heap.size wo W) => and_any vk zk W (HIk.out W (up W hb)) (HTo.out W hb))
        have COl := Lib.hid (fun W (hb : Below wo.heap.size wo W) => or_any (.slice (some ⟨ab, ao, none⟩) len cap) zl W (HIl.out W (up W hb)) (HTo.out W hb))
        have COk := Lib.hid (fun W (hb : Below wo.heap.size wo W) => or_any vk zk W (HIk.out W (up W hb)) (HTo.out W hb))
        have COn := Lib.hid (fun W (hb : Below wo.heap.size wo W) => (show Calls Tryd.prog 12 #[u5] W (Ret (.int .i64 (notL (andC zl))) W) by rw [HD.out]; exact or_any u5 _ W (hIn.below hb) (HTo.out W hb)))
        have CAa0 := fun (al : Value) (hIa : IsTr wo al (zl ++ zk)) W (hb : Below wo.heap.size wo W) => (show Calls Tryd.prog 10 #[al] W (Ret (.int .i64 (andC [andC zl, andC zk])) W) by rw [← HCA.out]; exact and_any al _ W (hIa.below hb) (HTo.out W hb))
        have COa0 := fun (al : Value) (hIa : IsTr wo al (zl ++ zk)) W (hb : Below wo.heap.size wo W) => (show Calls Tryd.prog 12 #[al] W (Ret (.int .i64 (orC [orC zl, orC zk])) W) by rw [← HCO.out]; exact or_any al _ W (hIa.below hb) (HTo.out W hb))
        have CAa := Lib.hid (CAa0 _ hIa)
        have COa := Lib.hid (COa0 _ hIa)
        clear CAa0 COa0 hIa hIn up HSl HSk HIl HIk HT HD HCA HCO HX
        generalize andC zl = A at *
        generalize andC zk = K at *
        generalize orC zl = O at *
        generalize orC zk = P at *
        go_wp2_with (first | (go_at_call 10; (first | (with_reducible show Calls _ _ #[(.slice (some ⟨ab, ao, none⟩) len cap)] _ _; refine (CAl.out _ (by (repeat first | with_reducible exact Below.refl _ _ | with_reducible assumption | (with_reducible refine Below.setCell ?_ ?_ _; rotate_left; exact (by first | omega | (simp; done) | (simp; omega))) | (with_reducible refine Below.alloc ?_ ?_ _; rotate_left; exact (by first | omega | (simp; done) | (simp; omega))) | with_reducible refine Below.drew ?_ | with_reducible refine Below_drewN ?_ _))).mono ?_) | (with_reducible show Calls _ _ #[vk] _ _; refine (CAk.out _ (by (repeat first | with_reducible exact Below.refl _ _ | with_reducible assumption | (with_reducible refine Below.setCell ?_ ?_ _; rotate_left; exact (by first | omega | (simp; done) | (simp; omega))) | (with_reducible refine Below.alloc ?_ ?_ _; rotate_left; exact (by first | omega | (simp; done) | (simp; omega))) | with_reducible refine Below.drew ?_ | with_reducible refine Below_drewN ?_ _))).mono ?_) | (with_reducible show Calls _ _ #[.slice (some ⟨_, 0, none⟩) 2 2] _ _; refine (and_any _ [A, K] _ (isTr_two (by simp) (by go_simp) (by go_simp)) (HTo.out _ (by (repeat first | with_reducible exact Below.refl _ _ | with_reducible assumption | (with_reducible refine Below.setCell ?_ ?_ _; rotate_left; exact (by first | omega | (simp; done) | (simp; omega))) | (with_reducible refine Below.alloc ?_ ?_ _; rotate_left; exact (by first | omega | (simp; done) | (simp; omega))) | with_reducible refine Below.drew ?_ | with_reducible refine Below_drewN ?_ _)))).mono ?_) | refine (CAa.out _ (by (repeat first | with_reducible exact Below.refl _ _ | with_reducible assumption | (with_reducible refine Below.setCell ?_ ?_ _; rotate_left; exact (by first | omega | (simp; done) | (simp; omega))) | (with_reducible refine Below.alloc ?_ ?_ _; rotate_left; exact (by first | omega | (simp; done) | (simp; omega))) | with_reducible refine Below.drew ?_ | with_reducible refine Below_drewN ?_ _))).mono ?_); rintro e w1 ⟨rfl, hb⟩; have hO : Below wo.heap.size wo w1 := Below.trans (by (repeat first | with_reducible exact Below.refl _ _ | with_reducible assumption | (with_reducible refine Below.setCell ?_ ?_ _; rotate_left; exact (by first | omega | (simp; done) | (simp; omega))) | (with_reducible refine Below.alloc ?_ ?_ _; rotate_left; exact (by first | omega | (simp; done) | (simp; omega))) | with_reducible refine Below.drew ?_ | with_reducible refine Below_drewN ?_ _)) (hb.mono (by first | omega | ((try simp only [World.size_alloc, World.size_setCell, size_drew, size_drewN]); omega) | (simp; done) | (simp; omega))); have hso := hO.size; clear hb) | (go_at_call 12; (first | (with_reducible show Calls _ _ #[u5] _ _; refine (COn.out _ (by (repeat first | with_reducible exact Below.refl _ _ | with_reducible assumption | (with_reducible refine Below.setCell ?_ ?_ _; rotate_left; exact (by first | omega | (simp; done) | (simp; omega))) | (with_reducible refine Below.alloc ?_ ?_ _; rotate_left; exact (by first | omega | (simp; done) | (simp; omega))) | with_reducible refine Below.drew ?_ | with_reducible refine Below_drewN ?_ _))).mono ?_) | (with_reducible show Calls _ _ #[(.slice (some ⟨ab, ao, none⟩) len cap)] _ _; refine (COl.out _ (by (repeat first | with_reducible exact Below.refl _ _ | with_reducible assumption | (with_reducible refine Below.setCell ?_ ?_ _; rotate_left; exact (by first | omega | (simp; done) | (simp; omega))) | (with_reducible refine Below.alloc ?_ ?_ _; rotate_left; exact (by first | omega | (simp; done) | (simp; omega))) | with_reducible refine Below.drew ?_ | with_reducible refine Below_drewN ?_ _))).mono ?_) | (with_reducible show Calls _ _ #[vk] _ _; refine (COk.out _ (by (repeat first | with_reducible exact Below.refl _ _ | with_reducible assumption | (with_reducible refine Below.setCell ?_ ?_ _; rotate_left; exact (by first | omega | (simp; done) | (simp; omega))) | (with_reducible refine Below.alloc ?_ ?_ _; rotate_left; exact (by first | omega | (simp; done) | (simp; omega))) | with_reducible refine Below.drew ?_ | with_reducible refine Below_drewN ?_ _))).mono ?_) | (with_reducible show Calls _ _ #[.slice (some ⟨_, 0, none⟩) 2 2] _ _; refine (or_any _ [O, P] _ (isTr_two (by simp) (by go_simp) (by go_simp)) (HTo.out _ (by (repeat first | with_reducible exact Below.refl _ _ | with_reducible assumption | (with_reducible refine Below.setCell ?_ ?_ _; rotate_left; exact (by first | omega | (simp; done) | (simp; omega))) | (with_reducible refine Below.alloc ?_ ?_ _; rotate_left; exact (by first | omega | (simp; done) | (simp; omega))) | with_reducible refine Below.drew ?_ | with_reducible refine Below_drewN ?_ _)))).mono ?_) | refine (COa.out _ (by (repeat first | with_reducible exact Below.refl _ _ | with_reducible assumption | (with_reducible refine Below.setCell ?_ ?_ _; rotate_left; exact (by first | omega | (simp; done) | (simp; omega))) | (with_reducible refine Below.alloc ?_ ?_ _; rotate_left; exact (by first | omega | (simp; done) | (simp; omega))) | with_reducible refine Below.drew ?_ | with_reducible refine Below_drewN ?_ _))).mono ?_); rintro e w1 ⟨rfl, hb⟩; have hO : Below wo.heap.size wo w1 := Below.trans (by (repeat first | with_reducible exact Below.refl _ _ | with_reducible assumption | (with_reducible refine Below.setCell ?_ ?_ _; rotate_left; exact (by first | omega | (simp; done) | (simp; omega))) | (with_reducible refine Below.alloc ?_ ?_ _; rotate_left; exact (by first | omega | (simp; done) | (simp; omega))) | with_reducible refine Below.drew ?_ | with_reducible refine Below_drewN ?_ _)) (hb.mono (by first | omega | ((try simp only [World.size_alloc, World.size_setCell, size_drew, size_drewN]); omega) | (simp; done) | (simp; omega))); have hso := hO.size; clear hb) | (go_at_call 14; refine (not_any _ _ (HTo.out _ (by (repeat first | with_reducible exact Below.refl _ _ | with_reducible assumption | (with_reducible refine Below.setCell ?_ ?_ _; rotate_left; exact (by first | omega | (simp; done) | (simp; omega))) | (with_reducible refine Below.alloc ?_ ?_ _; rotate_left; exact (by first | omega | (simp; done) | (simp; omega))) | with_reducible refine Below.drew ?_ | with_reducible refine Below_drewN ?_ _)))).mono ?_; rintro e w1 ⟨rfl, rfl⟩) | (go_at_call 16; (first | refine (awake_any _).mono ?_); rintro e w1 ⟨rfl, hb⟩; have hO : Below wo.heap.size wo w1 := Below.trans (by (repeat first | with_reducible exact Below.refl _ _ | with_reducible assumption | (with_reducible refine Below.setCell ?_ ?_ _; rotate_left; exact (by first | omega | (simp; done) | (simp; omega))) | (with_reducible refine Below.alloc ?_ ?_ _; rotate_left; exact (by first | omega | (simp; done) | (simp; omega))) | with_reducible refine Below.drew ?_ | with_reducible refine Below_drewN ?_ _)) (hb.mono (by first | omega | ((try simp only [World.size_alloc, World.size_setCell, size_drew, size_drewN]); omega) | (simp; done) | (simp; omega))); have hso := hO.size; clear hb))
        go_ret
        exact ⟨rfl, hBc.trans (Below.mono (by (repeat first | with_reducible exact Below.refl _ _ | with_reducible assumption | (with_reducible refine Below.setCell ?_ ?_ _; rotate_left; exact (by first | omega | (simp; done) | (simp; omega))) | (with_reducible refine Below.alloc ?_ ?_ _; rotate_left; exact (by first | omega | (simp; done) | (simp; omega))) | with_reducible refine Below.drew ?_ | with_reducible refine Below_drewN ?_ _)) hso0)⟩


end Go.Proofs.YtohicokoegodjaaDoor.lawSpanDual
