import Derived.Test.YtogcjgjhmlifgaaGreatOAE
import Derived.Test.YtogcjgjhmlifgaaGreatOAF
import Derived.Test.YtogcjgjhmlifgaaGreatOAM
namespace Go.Proofs.YtogcjgjhmlifgaaGreat
set_option linter.unusedVariables false
set_option linter.unusedSimpArgs false
section
set_option autoImplicit false
open Go.RowKit
section
variable {P : Program} {e0 : Cfg} {U : Snaps} {l : Slots} {L : Boxes} {ops : Array Oper} {Q : Exit → Act → World → Prop} {rest : List Oper} {d : Nat} {v : Value}
variable {ty : TypeId} {pos : String} {af : Array Edge} {g : Option (Nat × Bool)} {dd : Option Nat}
theorem ac_drawK {L0 : Boxes} {id : Nat} {os : List Oper} (k last : Nat) (hL : L.drop k = L0) (hm : P.follows .mixedOrders = true) (hok : lastOk os.toArray last = true) (h : AH P os.toArray Q U L0 last os.toArray.size (Array.replicate os.toArray.size false) e0 U l L) : AC P e0 U l L (.region id os.toArray true) Q :=
  fun a w hf hs => wp_region_any hm (wpAny_of_G _ _ _ _ (h hok (DrawnTo.start _ _) a _ hf hs.drew))
theorem run_equalIn_nilS (d : Nat) {t e n c : Nat} (h : P.underlying t = some (.slice e)) (w : World) : (Op.equalIn (d + 1) t (.slice none n c) (.slice none 0 0)).run P w = .ok true w := by simp [Op.equalIn, run_underlying h]
theorem run_equalIn_someS (d : Nat) {t e n c : Nat} {A : Addr} (h : P.underlying t = some (.slice e)) (w : World) : (Op.equalIn (d + 1) t (.slice (some A) n c) (.slice none 0 0)).run P w = .ok false w := by simp [Op.equalIn, run_underlying h]
theorem run_equal_nilS {t e n c : Nat} (h : P.underlying t = some (.slice e)) (w : World) : (Op.equal t (.slice none n c) (.slice none 0 0)).run P w = .ok true w := run_equalIn_nilS 9999 h w
theorem run_equal_someS {t e n c : Nat} {A : Addr} (h : P.underlying t = some (.slice e)) (w : World) : (Op.equal t (.slice (some A) n c) (.slice none 0 0)).run P w = .ok false w := run_equalIn_someS 9999 h w
theorem bin_eql_S (t : TypeId) (A : Option Addr) (n c : Nat) : binOp .eql t (.slice A n c) (.slice none 0 0) = (do pure (.bool (← Op.equal t (.slice A n c) (.slice none 0 0))) : Sem Value) := rfl
theorem q_eqlNil0 {xt yt e n c : Nat} {ox : Operand} (hx : E l ox = some (.slice none n c)) (hu : P.underlying xt = some (.slice e)) : Q1 P e0 U l L ⟨dd, .binOp .eql xt ox (.const (.slice none 0 0)) yt, ty, pos, af, g⟩ (.bool true) :=
  q_bin hx rfl (fun w => by simp [eqGuard]) (fun w => by rw [bin_eql_S]; simp [run_equal_nilS hu])
theorem q_eqlNil1 {xt yt e n c : Nat} {A : Addr} {ox : Operand} (hx : E l ox = some (.slice (some A) n c)) (hu : P.underlying xt = some (.slice e)) : Q1 P e0 U l L ⟨dd, .binOp .eql xt ox (.const (.slice none 0 0)) yt, ty, pos, af, g⟩ (.bool false) :=
  q_bin hx rfl (fun w => by simp [eqGuard]) (fun w => by rw [bin_eql_S]; simp [run_equal_someS hu])
theorem q_piece {t e z b o lo hi len cap : Nat} {li hii : Int} {k k' : IntKind} {A : Option Addr} {ox oi oj : Operand} (o' : Nat) (hA : A = some ⟨b, o, none⟩) (hx : E l ox = some (.slice A len cap)) (hi1 : E l oi = some (.int k li)) (hi2 : E l oj = some (.int k' hii)) (h1 : li = (lo : Int)) (h2 : hii = (hi : Int)) {n : Nat} (hnn : hi - lo = n) (hlo : lo ≤ hi) (hcap : hi ≤ cap) (hlt : lo < cap) (hu : P.underlying t = some (.slice e)) (hz : ∀ w, (sizeOf e).run P w = .ok z w) (ho : o + lo * z = o') :
    Q1 P e0 U l L ⟨dd, .slice t ox (some oi) (some oj) none, ty, pos, af, g⟩ (.slice (some ⟨b, o', none⟩) n (cap - lo)) := by
  intro a w hf hs
  subst h1 h2 hA ho hnn
  have hel : P.elem t = e := by simp [Program.elem, hu]
  have hu' : P.underlying t = some (.slice (P.elem t)) := by rw [hel]; exact hu
  have hz' : (sizeOf (P.elem t)).run P w = .ok z w := by rw [hel]; exact hz w
  have hne : ¬ cap = lo := by omega
  have hr : (Instr.sliceAt t (.slice (some ⟨b, o, none⟩) len cap) (some (.int k (lo : Int))) (some (.int k' (hi : Int))) none).run P w = .ok (.slice (some ⟨b, o + lo * z, none⟩) (hi - lo) (cap - lo)) w := by
    rw [run_sliceAt_slice w t _ _ _ _ hu', run_slice_lh w t _ len cap hu' k k' (lo : Int) (hi : Int) (by omega) (by omega) (by omega), hz']
    simp [Result.andThen, sliced, hne, addr_add]
  simp [execOp, hf.ev hx, hf.ev hi1, hf.ev hi2, hr]
theorem IsT.piece {α : Type} {z : Nat} {enc : α → List Value} {w : World} {len b o : Nat} {zs : List α} (h : IsT z enc w (some ⟨b, o, none⟩) len zs) {lo n : Nat} (hl : lo + n ≤ len) : IsT z enc w (some ⟨b, o + lo * z, none⟩) n ((zs.drop lo).take n) := by
  refine ⟨by rw [List.length_take, List.length_drop, h.1]; omega, fun h0 => ?_⟩
  obtain ⟨b', o', e, h1, h2⟩ := h.2 (by omega)
  cases e
  refine ⟨_, _, rfl, h1, fun j x hx i v hv => ?_⟩
  have hj : j < n := by
    have := (List.getElem?_eq_some_iff.1 hx).1
    rw [List.length_take] at this; omega
  rw [List.getElem?_take_of_lt hj, List.getElem?_drop] at hx
  have := h2 (lo + j) x hx i v hv
  rw [Nat.add_mul] at this
  rw [← this]; congr 2; omega
theorem SetAt.ofSet {α : Type} : ∀ {n : Nat} {x : α} {l : List α}, n < l.length → SetAt n x l (l.set n x)
  | 0, x, y :: l, _ => .z
  | n + 1, x, y :: l, h => .s (SetAt.ofSet (by simpa using h))
end
theorem Sta.newT2 {α : Type} {z n c N : Nat} {D : List Deferred} {enc : α → List Value} {U : Snaps} {L : Boxes} {w0 w u : World} {lo : Nat} {A : Option Addr} {zs : List α} (h : Sta ⟨N, D, w0, []⟩ U L w) (hu : (lo, u) ∈ U) (hN : NewT z enc lo u A n c zs) : NewT z enc w0.heap.size w A n c zs :=
  ⟨h.newT hu hN, fun b off e => Nat.le_trans (h.snap lo u hu).1 (hN.new b off e), hN.le⟩
end
section
open Go.RowKit
theorem IsT.get {α : Type} {n : Nat} {enc : α → List Value} {w : World} {b o len : Nat} {zs : List α} (h : IsT n enc w (some ⟨b, o, none⟩) len zs) {j : Nat} {x : α} (hx : zs[j]? = some x) {i : Nat} {v : Value} (hv : (enc x)[i]? = some v) : w.cell? ⟨b, o + j * n + i, none⟩ = some v := by
  have hj := (List.getElem?_eq_some_iff.1 hx).1
  obtain ⟨b', o', e, _, hc⟩ := h.2 (by rw [← h.1]; omega)
  injection e with e
  injection e with e1 e2
  subst e1 e2
  exact hc j x hx i v hv
set_option maxHeartbeats 400000 in
theorem rwithin2_any (n a b : Int) (w : World) :
    Calls Tryz.prog 70 #[.int .i64 n, .int .i64 a, .int .i64 b] w fun e w' => e = .returned (.bool (wthn n a b)) ∧ w = w' := by
  go_enter Tryz.func70, Tryz.ntmps70
  go_wp2
  all_goals go_ret
  all_goals (simp [wthn]; try omega)
set_option maxHeartbeats 400000 in
theorem rplaced_any (r z : Int) (w : World) :
    Calls Tryz.prog 108 #[.int .i64 r, .int .i64 z] w fun e w' => e = .returned (.bool (nearB r z 60)) ∧ w = w' := by
  have HE : Hid (nearB r z 60 = (wthn r (-60) 60 && wthn z (-60) 60)) := Lib.hid rfl
  cases h : wthn r (-60) 60
  all_goals go_enter Tryz.func108, Tryz.ntmps108
  all_goals go_wp2_with (go_at_call 70; refine (rwithin2_any _ _ _ _).mono ?_; rintro e w1 ⟨rfl, rfl⟩)
  all_goals go_ret
  all_goals exact ⟨by rw [HE.out, h]; rfl, rfl⟩
theorem nameByte_ways {x : Int} (h0 : 0 ≤ x) (h1 : x < 256) :
    (x < 48 ∧ nameByte x = false) ∨ (48 ≤ x ∧ x ≤ 57 ∧ nameByte x = true) ∨ (57 < x ∧ x < 95 ∧ nameByte x = false) ∨ (x = 95 ∧ nameByte x = true) ∨ (95 < x ∧ x < 97 ∧ nameByte x = false) ∨ (97 ≤ x ∧ x ≤ 122 ∧ nameByte x = true) ∨ (122 < x ∧ nameByte x = false) := by
  have e : nameByte x = true ↔ (97 ≤ x ∧ x ≤ 122) ∨ x = 95 ∨ (48 ≤ x ∧ x ≤ 57) := by simp [nameByte, smallB]
  have f : nameByte x = false ↔ ¬((97 ≤ x ∧ x ≤ 122) ∨ x = 95 ∨ (48 ≤ x ∧ x ≤ 57)) := by rw [← e]; simp
  rw [e, f]
  omega
set_option maxHeartbeats 4000000 in
theorem rname_any (s : ByteArray) (w : World) :
    Calls Tryz.prog 104 #[.string s] w fun e w' => e = .returned (.bool (nameB s.data.toList)) ∧ w = w' := by
  have hz : s.data.toList.length = s.size := Array.length_toList
  cases hL : s.data.toList with
  | nil =>
    rw [hL] at hz
    have h1 : s.size = 0 := hz.symm
    clear hz hL
    go_enter Tryz.func104, Tryz.ntmps104
    go_wp2
    go_ret
    exact ⟨rfl, rfl⟩
  | cons c r =>
    rw [hL] at hz
    have hz1 : s.size = r.length + 1 := by rw [← hz]; rfl
    have ix0 : ∀ W : World, (Instr.index 9 (.string s) (.int .i64 0)).run Tryz.prog W = .ok (.int .u8 (c.toNat : Int)) W := fun W => indexS_any s (c :: r) hL 0 (by simp) W
    have HG : Hid (nameB (c :: r) = (decide (r.length < 16) && (smallB c.toNat && (c :: r).all fun b => nameByte b.toNat))) := Lib.hid rfl
    generalize nameB (c :: r) = G at *
    have hs1 : 1 ≤ s.size := by omega
    have hs0 : ¬((s.size : Int) < 1) := by omega
    by_cases h16 : r.length < 16
    · have hs2 : s.size ≤ 16 := by omega
      have c0 : (0 : Int) ≤ c.toNat := by omega
      by_cases hsm : smallB c.toNat = true
      · have HN : Hid (G = (c :: r).all fun b => nameByte b.toNat) := Lib.hid (by rw [HG.out, decide_eq_true h16, hsm]; simp)
        obtain ⟨s1, s2⟩ : (97 : Int) ≤ c.toNat ∧ (c.toNat : Int) ≤ 122 := by simpa [smallB] using hsm
        obtain ⟨l, hl⟩ : ∃ l, c :: r = l := ⟨_, rfl⟩
        rw [hl] at HN hL hz
        clear HG hl hz1 hsm
        generalize (c.toNat : Int) = ci at *
        have HL := Lib.hid hL
        have HZ := Lib.hid hz
        clear hL hz
        go_enter Tryz.func104, Tryz.ntmps104
        go_wp2_with fail
        clear ix0 s1 s2
        go_loop [3, 4] (fun i _ => ∃ k : Nat, k ≤ s.size ∧ i = .int .i64 k ∧ Hid (((l.drop k).all fun b => nameByte b.toNat) = G)) (fun i _ => s.size - (intOf i).toNat)
        case atStart => exact ⟨0, Nat.zero_le _, rfl, Lib.hid (by rw [HN.out]; rfl)⟩
        case round =>
          obtain ⟨k, hk, rfl, hG⟩ := hrel
          by_cases hlt : k < s.size
          · have hkl : k < l.length := by rw [HZ.out]; exact hlt
            have ix := indexS_any s l HL.out k hkl
            have HS := Lib.hid (show (nameByte l[k].toNat && ((l.drop (k + 1)).all fun b => nameByte b.toNat)) = G from by rw [← hG.out, List.drop_eq_getElem_cons hkl]; rfl)
            have c255 : l[k].toNat < 256 := l[k].toNat_lt
            obtain ⟨x, hxe⟩ : ∃ x : Int, (l[k].toNat : Int) = x := ⟨_, rfl⟩
            rw [hxe] at ix HS
            have hx0 : 0 ≤ x := by omega
            have hx1 : x < 256 := by omega
            clear hkl hxe c255
            rcases nameByte_ways hx0 hx1 with ⟨h1, hnb⟩ | ⟨h1, h2, hnb⟩ | ⟨h1, h2, hnb⟩ | ⟨rfl, hnb⟩ | ⟨h1, h2, hnb⟩ | ⟨h1, h2, hnb⟩ | ⟨h1, hnb⟩
            · rw [hnb] at HS; clear hnb
              have h95 : (x == 95) = false := by rw [beq_eq_false_iff_ne]; omega
              go_wp2_with fail
              go_ret
              exact ⟨by rw [← HS.out]; rfl, rfl⟩
            · rw [hnb] at HS; clear hnb
              have HT : Hid (((l.drop (k + 1)).all fun b => nameByte b.toNat) = G) := Lib.hid (by have h := HS.out; rwa [Bool.true_and] at h)
              have h95 : (x == 95) = false := by rw [beq_eq_false_iff_ne]; omega
              go_wp2_with fail
              all_goals go_round
              all_goals first | exact ⟨k + 1, by omega, by go_num, HT⟩ | (simp [intOf]; omega)
            · rw [hnb] at HS; clear hnb
              have d57 : decide (x ≤ 57) = false := decide_eq_false (by omega)
              have h95 : (x == 95) = false := by rw [beq_eq_false_iff_ne]; omega
              go_wp2_with fail
              go_ret
              exact ⟨by rw [← HS.out]; rfl, rfl⟩
            · rw [hnb] at HS; clear hnb
              have HT : Hid (((l.drop (k + 1)).all fun b => nameByte b.toNat) = G) := Lib.hid (by have h := HS.out; rwa [Bool.true_and] at h)
              go_wp2_with fail
              all_goals go_round
              all_goals first | exact ⟨k + 1, by omega, by go_num, HT⟩ | (simp [intOf]; omega)
            · rw [hnb] at HS; clear hnb
              have d57 : decide (x ≤ 57) = false := decide_eq_false (by omega)
              have h95 : (x == 95) = false := by rw [beq_eq_false_iff_ne]; omega
              go_wp2_with fail
              go_ret
              exact ⟨by rw [← HS.out]; rfl, rfl⟩
            · rw [hnb] at HS; clear hnb
              have HT : Hid (((l.drop (k + 1)).all fun b => nameByte b.toNat) = G) := Lib.hid (by have h := HS.out; rwa [Bool.true_and] at h)
              have h95 : (x == 95) = false := by rw [beq_eq_false_iff_ne]; omega
              go_wp2_with fail
              all_goals go_round
              all_goals first | exact ⟨k + 1, by omega, by go_num, HT⟩ | (simp [intOf]; omega)
            · rw [hnb] at HS; clear hnb
              have d57 : decide (x ≤ 57) = false := decide_eq_false (by omega)
              have d122 : decide (x ≤ 122) = false := decide_eq_false (by omega)
              have h95 : (x == 95) = false := by rw [beq_eq_false_iff_ne]; omega
              go_wp2_with fail
              go_ret
              exact ⟨by rw [← HS.out]; rfl, rfl⟩
          · have HT : Hid (G = true) := Lib.hid (by rw [← hG.out, List.drop_of_length_le (by rw [HZ.out]; omega)]; rfl)
            go_wp2
            go_ret
            exact ⟨by rw [HT.out]; rfl, rfl⟩
      · have hsf : smallB c.toNat = false := by simpa using hsm
        have HN : Hid (G = false) := Lib.hid (by rw [HG.out, hsf]; simp)
        have hw : (c.toNat : Int) < 97 ∨ ((97 : Int) ≤ c.toNat ∧ 122 < (c.toNat : Int)) := by
          simp [smallB] at hsf; omega
        clear hz hz1 hL HG hsm hsf
        generalize (c.toNat : Int) = ci at *
        rcases hw with hw | ⟨hw1, hw2⟩
        all_goals go_enter Tryz.func104, Tryz.ntmps104
        all_goals go_wp2_with fail
        all_goals go_ret
        all_goals exact ⟨by rw [HN.out]; rfl, rfl⟩
    · have hs2 : 16 < s.size := by omega
      have HN : Hid (G = false) := Lib.hid (by rw [HG.out, decide_eq_false h16]; rfl)
      clear hz hz1 hL HG h16
      go_enter Tryz.func104, Tryz.ntmps104
      go_wp2_with fail
      go_ret
      exact ⟨by rw [HN.out]; rfl, rfl⟩
end
section
open Go.RowKit Go.Shelf
set_option maxRecDepth 100000 in
set_option maxHeartbeats 16000000 in
theorem rcoils_any (name : ByteArray) (A B C D : Option Addr) (la ca lb cb lc cc ld cd : Nat) (r z nr nz step : Int) (zs : List CoilD) (w : World) (hI : IsT 8 CoilD.cells w A la zs) :
    Calls Tryz.prog 105 #[.agg #[.string name, .slice A la ca, .slice B lb cb, .slice C lc cc, .int .i64 r, .int .i64 z, .int .i64 nr, .int .i64 nz, .int .i64 step, .slice D ld cd]] w (Ret (.int .i64 (eachC coilC 12 zs)) w) := by
  have HI := Lib.hid hI
  have hz := hI.1
  by_cases hm : 12 < la
  · have HG : Hid (eachC coilC 12 zs = 4) := Lib.hid (by unfold eachC; rw [if_pos (by omega)])
    clear hI hz
    generalize eachC coilC 12 zs = G at *
    go_enter Tryz.func105, Tryz.ntmps105
    go_wp2_with fail
    go_ret
    exact ⟨by rw [HG.out]; rfl, by (repeat first | with_reducible exact Below.refl _ _ | (with_reducible refine Below.alloc ?_ ?_ _; rotate_left; exact (by omega)))⟩
  have hl : la ≤ 1000000000000000 := by omega
  have HG : Hid (eachC coilC 12 zs = eachGo coilC [] zs) := Lib.hid (by unfold eachC; rw [if_neg (by omega)])
  generalize eachC coilC 12 zs = G at *
  clear hI hz
  go_enter Tryz.func105, Tryz.ntmps105
  go_wp2_with fail
  go_loopw [3, 4, 5] (fun i _ _ wr => ∃ j : Nat, j ≤ la ∧ i = .int .i64 j ∧ Hid (eachGo coilC (zs.take j) (zs.drop j) = G) ∧ Below w.heap.size w wr ∧ w.heap.size < wr.heap.size ∧ wr.cell? ⟨w.heap.size, 1, none⟩ = some (.slice A la ca)) (fun i _ _ _ => la - (intOf i).toNat)
  case atStart => exact ⟨0, Nat.zero_le _, rfl, Lib.hid HG.out.symm, by (repeat first | with_reducible exact Below.refl _ _ | (with_reducible refine Below.alloc ?_ ?_ _; rotate_left; exact (by omega))), by simp, by go_simp⟩
  case round =>
    obtain ⟨j, hj, rfl, hG, hB, hq, q1⟩ := hrel
    by_cases hlt : j < la
    · obtain ⟨hzl, hcl⟩ := HI.out.below hB
      obtain ⟨b, o, rfl, hb0, hcl⟩ := hcl (by omega)
      obtain ⟨x, hx⟩ : ∃ x, zs[j]? = some x := ⟨_, List.getElem?_eq_getElem (by omega)⟩
      have HS := Lib.hid (hG.out.symm.trans (eachGo_step coilC hx))
      have x0 : wr.cell? ⟨b, o + j * 8, none⟩ = some (.string x.name) := by have h := hcl j x hx 0 _ rfl; simpa using h
      have x1 : wr.cell? ⟨b, o + j * 8 + 1, none⟩ = some (.int .i64 x.r) := by have h := hcl j x hx 1 _ rfl; simpa using h
      have x2 : wr.cell? ⟨b, o + j * 8 + 2, none⟩ = some (.int .i64 x.z) := by have h := hcl j x hx 2 _ rfl; simpa using h
      have x3 : wr.cell? ⟨b, o + j * 8 + 3, none⟩ = some (.int .i64 x.turns) := by have h := hcl j x hx 3 _ rfl; simpa using h
      have x4 : wr.cell? ⟨b, o + j * 8 + 4, none⟩ = some (.int .i64 x.cur) := by have h := hcl j x hx 4 _ rfl; simpa using h
      have x5 : wr.cell? ⟨b, o + j * 8 + 5, none⟩ = some (.int .i64 x.step) := by have h := hcl j x hx 5 _ rfl; simpa using h
      have x6 : wr.cell? ⟨b, o + j * 8 + 6, none⟩ = some (.int .i64 x.heat) := by have h := hcl j x hx 6 _ rfl; simpa using h
      have x7 : wr.cell? ⟨b, o + j * 8 + 7, none⟩ = some (.int .i64 x.cool) := by have h := hcl j x hx 7 _ rfl; simpa using h
      have hsz := hB.size
      clear hcl hx hzl hG
      have jc : (0 : Int) ≤ j := by omega
      have jn : ((j : Int)).toNat = j := by omega
      cases hnm : nameB x.name.data.toList
      · have HF : Hid ((1 : Int) = G) := Lib.hid (by rw [HS.out]; unfold coilC; rw [hnm]; simp)
        clear HS
        go_wp2_with (go_at_call 104; refine (rname_any _ _).mono ?_; rintro e w1 ⟨rfl, rfl⟩)
        go_ret
        exact ⟨by rw [← HF.out]; rfl, by (repeat first | with_reducible assumption | (with_reducible refine Below.alloc ?_ ?_ _; rotate_left; exact (by omega)))⟩
      · have HK0 : Hid (coilC x (zs.take j) = if (zs.take j).any (fun y => decide (y.name = x.name)) = true then 6 else rng (nearB x.r x.z 60 && (wthn x.turns 1 100 && (wthn x.cur 1 1000000 && (wthn x.step 1 1000000 && (wthn x.heat 1 1000000000000 && wthn x.cool 0 1000000000)))))) := Lib.hid (by unfold coilC; rw [hnm]; rfl)
        go_wp2_with (go_at_call 104; refine (rname_any _ _).mono ?_; rintro e w1 ⟨rfl, rfl⟩)
        clear hnm x0
        obtain ⟨wo, hwo⟩ : ∃ wo, wo = wr := ⟨_, rfl⟩
        subst hwo
        go_loopw [5] (fun k wr => ∃ t : Nat, t ≤ j ∧ k = .int .i64 t ∧ Hid (∀ y ∈ zs.take t, y.name ≠ x.name) ∧ Below w.heap.size w wr ∧ wo.heap.size < wr.heap.size ∧ wr.cell? ⟨w.heap.size, 1, none⟩ = some (.slice (some ⟨b, o, none⟩) la ca) ∧ wr.cell? ⟨wo.heap.size, 0, none⟩ = some (.string x.name) ∧ wr.cell? ⟨wo.heap.size, 1, none⟩ = some (.int .i64 x.r) ∧ wr.cell? ⟨wo.heap.size, 2, none⟩ = some (.int .i64 x.z) ∧ wr.cell? ⟨wo.heap.size, 3, none⟩ = some (.int .i64 x.turns) ∧ wr.cell? ⟨wo.heap.size, 4, none⟩ = some (.int .i64 x.cur) ∧ wr.cell? ⟨wo.heap.size, 5, none⟩ = some (.int .i64 x.step) ∧ wr.cell? ⟨wo.heap.size, 6, none⟩ = some (.int .i64 x.heat) ∧ wr.cell? ⟨wo.heap.size, 7, none⟩ = some (.int .i64 x.cool)) (fun k _ => j - (intOf k).toNat)
        case atStart => exact ⟨0, Nat.zero_le _, rfl, Lib.hid (fun y hy => by simp at hy), by (repeat first | with_reducible assumption | (with_reducible refine Below.alloc ?_ ?_ _; rotate_left; exact (by omega))), by simp, by go_simp, by go_simp, by go_simp, by go_simp, by go_simp, by go_simp, by go_simp, by go_simp, by go_simp⟩
        case round =>
          obtain ⟨t, ht, rfl, hU, hBx, hwx, q2, c0, c1, c2, c3, c4, c5, c6, c7⟩ := hrel
          have hqx : w.heap.size < wr.heap.size := by omega
          by_cases htj : t < j
          · obtain ⟨y, hy⟩ : ∃ y, zs[t]? = some y := ⟨_, List.getElem?_eq_getElem (by rw [HI.out.1]; omega)⟩
            have y0 : wr.cell? ⟨b, o + t * 8, none⟩ = some (.string y.name) := by have h := (HI.out.below hBx).get hy (i := 0) rfl; simpa using h
            have hyt : zs.take (t + 1) = zs.take t ++ [y] := by
              obtain ⟨hk, rfl⟩ := List.getElem?_eq_some_iff.1 hy
              exact List.take_succ_eq_append_getElem hk
            have hym : y ∈ zs.take j := List.mem_take_iff_getElem.2 ⟨t, by rw [HI.out.1]; omega, by
              obtain ⟨hk, rfl⟩ := List.getElem?_eq_some_iff.1 hy
              rfl⟩
            have HYT := Lib.hid hyt
            clear hy hyt
            have hsb := str_beq y.name x.name
            have tc : (0 : Int) ≤ t := by omega
            have tn : ((t : Int)).toNat = t := by omega
            by_cases e : y.name = x.name
            · have HF : Hid ((6 : Int) = G) := Lib.hid (by
                rw [HS.out, HK0.out, if_pos (List.any_eq_true.2 ⟨y, hym, decide_eq_true e⟩)]; rfl)
              rw [decide_eq_true e] at hsb
              clear e HS HK0 HYT hym
              obtain ⟨yn, hyn⟩ : ∃ yn, y.name = yn := ⟨_, rfl⟩
              rw [hyn] at y0 hsb
              obtain ⟨xn, hxn⟩ : ∃ xn, x.name = xn := ⟨_, rfl⟩
              rw [hxn] at c0 hsb
              clear hyn hxn
              go_wp2_with fail
              go_quiet (fail)
              go_wp2_with fail
              go_ret
              exact ⟨by rw [← HF.out]; rfl, by (repeat first | with_reducible assumption | with_reducible refine Below_drewN ?_ _)⟩
            · have HU2 : Hid (∀ u ∈ zs.take (t + 1), u.name ≠ x.name) := Lib.hid (by
                rw [HYT.out]; intro u hu
                rcases List.mem_append.1 hu with hu | hu
                · exact hU.out u hu
                · obtain rfl : u = y := by simpa using hu
                  exact e)
              rw [decide_eq_false e] at hsb
              clear e HYT hym
              go_wp2_with fail
              go_quiet (fail)
              go_wp2_with fail
              go_roundw
              case rel => exact ⟨t + 1, by omega, by go_num, HU2, by (repeat first | with_reducible assumption | with_reducible refine Below_drewN ?_ _), by simpa using hwx, by go_simp, by go_simp, by go_simp, by go_simp, by go_simp, by go_simp, by go_simp, by go_simp, by go_simp⟩
              case measure => simp [intOf]; omega
          · obtain rfl : t = j := by omega
            have HK : Hid (coilC x (zs.take t) = rng (nearB x.r x.z 60 && (wthn x.turns 1 100 && (wthn x.cur 1 1000000 && (wthn x.step 1 1000000 && (wthn x.heat 1 1000000000000 && wthn x.cool 0 1000000000)))))) := Lib.hid (by
              rw [HK0.out, if_neg (by
                intro h
                obtain ⟨u, hu, hd⟩ := List.any_eq_true.1 h
                exact hU.out u hu (of_decide_eq_true hd))])
            clear HK0
            cases p1 : nearB x.r x.z 60
            · have HF : Hid ((7 : Int) = G) := Lib.hid (by rw [HS.out, HK.out, p1]; simp [rng])
              clear HS HK
              go_wp2_with (go_at_call 108; refine (rplaced_any _ _ _).mono ?_; rintro e w1 ⟨rfl, rfl⟩)
              go_ret
              exact ⟨by rw [← HF.out]; rfl, by (repeat with_reducible assumption)⟩
            cases p2 : wthn x.turns 1 100
            · have HF : Hid ((7 : Int) = G) := Lib.hid (by rw [HS.out, HK.out, p1, p2]; simp [rng])
              clear HS HK
              go_wp2_with (first | (go_at_call 70; refine (rwithin2_any _ _ _ _).mono ?_; rintro e w1 ⟨rfl, rfl⟩) | (go_at_call 108; refine (rplaced_any _ _ _).mono ?_; rintro e w1 ⟨rfl, rfl⟩))
              go_ret
              exact ⟨by rw [← HF.out]; rfl, by (repeat with_reducible assumption)⟩
            cases p3 : wthn x.cur 1 1000000
            · have HF : Hid ((7 : Int) = G) := Lib.hid (by rw [HS.out, HK.out, p1, p2, p3]; simp [rng])
              clear HS HK
              go_wp2_with (first | (go_at_call 70; refine (rwithin2_any _ _ _ _).mono ?_; rintro e w1 ⟨rfl, rfl⟩) | (go_at_call 108; refine (rplaced_any _ _ _).mono ?_; rintro e w1 ⟨rfl, rfl⟩))
              go_ret
              exact ⟨by rw [← HF.out]; rfl, by (repeat with_reducible assumption)⟩
            cases p4 : wthn x.step 1 1000000
            · have HF : Hid ((7 : Int) = G) := Lib.hid (by rw [HS.out, HK.out, p1, p2, p3, p4]; simp [rng])
              clear HS HK
              go_wp2_with (first | (go_at_call 70; refine (rwithin2_any _ _ _ _).mono ?_; rintro e w1 ⟨rfl, rfl⟩) | (go_at_call 108; refine (rplaced_any _ _ _).mono ?_; rintro e w1 ⟨rfl, rfl⟩))
              go_ret
              exact ⟨by rw [← HF.out]; rfl, by (repeat with_reducible assumption)⟩
            cases p5 : wthn x.heat 1 1000000000000
            · have HF : Hid ((7 : Int) = G) := Lib.hid (by rw [HS.out, HK.out, p1, p2, p3, p4, p5]; simp [rng])
              clear HS HK
              go_wp2_with (first | (go_at_call 70; refine (rwithin2_any _ _ _ _).mono ?_; rintro e w1 ⟨rfl, rfl⟩) | (go_at_call 108; refine (rplaced_any _ _ _).mono ?_; rintro e w1 ⟨rfl, rfl⟩))
              go_ret
              exact ⟨by rw [← HF.out]; rfl, by (repeat with_reducible assumption)⟩
            cases p6 : wthn x.cool 0 1000000000
            · have HF : Hid ((7 : Int) = G) := Lib.hid (by rw [HS.out, HK.out, p1, p2, p3, p4, p5, p6]; simp [rng])
              clear HS HK
              go_wp2_with (first | (go_at_call 70; refine (rwithin2_any _ _ _ _).mono ?_; rintro e w1 ⟨rfl, rfl⟩) | (go_at_call 108; refine (rplaced_any _ _ _).mono ?_; rintro e w1 ⟨rfl, rfl⟩))
              go_ret
              exact ⟨by rw [← HF.out]; rfl, by (repeat with_reducible assumption)⟩
            have HN : Hid (eachGo coilC (zs.take (t + 1)) (zs.drop (t + 1)) = G) := Lib.hid (by rw [HS.out, HK.out, p1, p2, p3, p4, p5, p6]; simp [rng])
            clear HS HK
            go_wp2_with (first | (go_at_call 70; refine (rwithin2_any _ _ _ _).mono ?_; rintro e w1 ⟨rfl, rfl⟩) | (go_at_call 108; refine (rplaced_any _ _ _).mono ?_; rintro e w1 ⟨rfl, rfl⟩))
            go_roundw
            case rel => exact ⟨t + 1, by omega, by go_num, HN, by (repeat with_reducible assumption), hqx, by go_simp⟩
            case measure => simp [intOf]; omega
    · have HN : Hid ((0 : Int) = G) := Lib.hid (by rw [← hG.out, List.drop_of_length_le (by rw [HI.out.1]; omega)]; rfl)
      go_wp2
      go_ret
      exact ⟨by rw [← HN.out]; rfl, by (repeat with_reducible assumption)⟩
end
section
open Go.RowKit Go.Shelf
set_option maxRecDepth 100000 in
set_option maxHeartbeats 16000000 in
theorem rsensors_any (name : ByteArray) (A B C D : Option Addr) (la ca lb cb lc cc ld cd : Nat) (r z nr nz step : Int) (zs : List SensorD) (w : World) (hI : IsT 5 SensorD.cells w D ld zs) :
    Calls Tryz.prog 109 #[.agg #[.string name, .slice A la ca, .slice B lb cb, .slice C lc cc, .int .i64 r, .int .i64 z, .int .i64 nr, .int .i64 nz, .int .i64 step, .slice D ld cd]] w (Ret (.int .i64 (eachC sensorC 24 zs)) w) := by
  have HI := Lib.hid hI
  have hz := hI.1
  by_cases hm : 24 < ld
  · have HG : Hid (eachC sensorC 24 zs = 4) := Lib.hid (by unfold eachC; rw [if_pos (by omega)])
    clear hI hz
    generalize eachC sensorC 24 zs = G at *
    go_enter Tryz.func109, Tryz.ntmps109
    go_wp2_with fail
    go_ret
    exact ⟨by rw [HG.out]; rfl, by (repeat first | with_reducible exact Below.refl _ _ | (with_reducible refine Below.alloc ?_ ?_ _; rotate_left; exact (by omega)))⟩
  have hl : ld ≤ 1000000000000000 := by omega
  have HG : Hid (eachC sensorC 24 zs = eachGo sensorC [] zs) := Lib.hid (by unfold eachC; rw [if_neg (by omega)])
  generalize eachC sensorC 24 zs = G at *
  clear hI hz
  go_enter Tryz.func109, Tryz.ntmps109
  go_wp2_with fail
  go_loopw [3, 4, 5] (fun i _ _ wr => ∃ j : Nat, j ≤ ld ∧ i = .int .i64 j ∧ Hid (eachGo sensorC (zs.take j) (zs.drop j) = G) ∧ Below w.heap.size w wr ∧ w.heap.size < wr.heap.size ∧ wr.cell? ⟨w.heap.size, 9, none⟩ = some (.slice D ld cd)) (fun i _ _ _ => ld - (intOf i).toNat)
  case atStart => exact ⟨0, Nat.zero_le _, rfl, Lib.hid HG.out.symm, by (repeat first | with_reducible exact Below.refl _ _ | (with_reducible refine Below.alloc ?_ ?_ _; rotate_left; exact (by omega))), by simp, by go_simp⟩
  case round =>
    obtain ⟨j, hj, rfl, hG, hB, hq, q1⟩ := hrel
    by_cases hlt : j < ld
    · obtain ⟨hzl, hcl⟩ := HI.out.below hB
      obtain ⟨b, o, rfl, hb0, hcl⟩ := hcl (by omega)
      obtain ⟨x, hx⟩ : ∃ x, zs[j]? = some x := ⟨_, List.getElem?_eq_getElem (by omega)⟩
      have HS := Lib.hid (hG.out.symm.trans (eachGo_step sensorC hx))
      have x0 : wr.cell? ⟨b, o + j * 5, none⟩ = some (.string x.name) := by have h := hcl j x hx 0 _ rfl; simpa using h
      have x1 : wr.cell? ⟨b, o + j * 5 + 1, none⟩ = some (.int .i64 x.kind) := by have h := hcl j x hx 1 _ rfl; simpa using h
      have x2 : wr.cell? ⟨b, o + j * 5 + 2, none⟩ = some (.int .i64 x.r) := by have h := hcl j x hx 2 _ rfl; simpa using h
      have x3 : wr.cell? ⟨b, o + j * 5 + 3, none⟩ = some (.int .i64 x.z) := by have h := hcl j x hx 3 _ rfl; simpa using h
      have x4 : wr.cell? ⟨b, o + j * 5 + 4, none⟩ = some (.int .i64 x.error) := by have h := hcl j x hx 4 _ rfl; simpa using h
      have hsz := hB.size
      clear hcl hx hzl hG
      have jc : (0 : Int) ≤ j := by omega
      have jn : ((j : Int)).toNat = j := by omega
      cases hnm : nameB x.name.data.toList
      · have HF : Hid ((1 : Int) = G) := Lib.hid (by rw [HS.out]; unfold sensorC; rw [hnm]; simp)
        clear HS
        go_wp2_with (go_at_call 104; refine (rname_any _ _).mono ?_; rintro e w1 ⟨rfl, rfl⟩)
        go_ret
        exact ⟨by rw [← HF.out]; rfl, by (repeat first | with_reducible assumption | (with_reducible refine Below.alloc ?_ ?_ _; rotate_left; exact (by omega)))⟩
      · have HK0 : Hid (sensorC x (zs.take j) = if (zs.take j).any (fun y => decide (y.name = x.name)) = true then 6 else rng (wthn x.kind 1 3 && (nearB x.r x.z 60 && wthn x.error 0 1000000000))) := Lib.hid (by unfold sensorC; rw [hnm]; rfl)
        go_wp2_with (go_at_call 104; refine (rname_any _ _).mono ?_; rintro e w1 ⟨rfl, rfl⟩)
        clear hnm x0
        obtain ⟨wo, hwo⟩ : ∃ wo, wo = wr := ⟨_, rfl⟩
        subst hwo
        go_loopw [5] (fun k wr => ∃ t : Nat, t ≤ j ∧ k = .int .i64 t ∧ Hid (∀ y ∈ zs.take t, y.name ≠ x.name) ∧ Below w.heap.size w wr ∧ wo.heap.size < wr.heap.size ∧ wr.cell? ⟨w.heap.size, 9, none⟩ = some (.slice (some ⟨b, o, none⟩) ld cd) ∧ wr.cell? ⟨wo.heap.size, 0, none⟩ = some (.string x.name) ∧ wr.cell? ⟨wo.heap.size, 1, none⟩ = some (.int .i64 x.kind) ∧ wr.cell? ⟨wo.heap.size, 2, none⟩ = some (.int .i64 x.r) ∧ wr.cell? ⟨wo.heap.size, 3, none⟩ = some (.int .i64 x.z) ∧ wr.cell? ⟨wo.heap.size, 4, none⟩ = some (.int .i64 x.error)) (fun k _ => j - (intOf k).toNat)
        case atStart => exact ⟨0, Nat.zero_le _, rfl, Lib.hid (fun y hy => by simp at hy), by (repeat first | with_reducible assumption | (with_reducible refine Below.alloc ?_ ?_ _; rotate_left; exact (by omega))), by simp, by go_simp, by go_simp, by go_simp, by go_simp, by go_simp, by go_simp⟩
        case round =>
          obtain ⟨t, ht, rfl, hU, hBx, hwx, q2, c0, c1, c2, c3, c4⟩ := hrel
          have hqx : w.heap.size < wr.heap.size := by omega
          by_cases htj : t < j
          · obtain ⟨y, hy⟩ : ∃ y, zs[t]? = some y := ⟨_, List.getElem?_eq_getElem (by rw [HI.out.1]; omega)⟩
            have y0 : wr.cell? ⟨b, o + t * 5, none⟩ = some (.string y.name) := by have h := (HI.out.below hBx).get hy (i := 0) rfl; simpa using h
            have hyt : zs.take (t + 1) = zs.take t ++ [y] := by
              obtain ⟨hk, rfl⟩ := List.getElem?_eq_some_iff.1 hy
              exact List.take_succ_eq_append_getElem hk
            have hym : y ∈ zs.take j := List.mem_take_iff_getElem.2 ⟨t, by rw [HI.out.1]; omega, by
              obtain ⟨hk, rfl⟩ := List.getElem?_eq_some_iff.1 hy
              rfl⟩
            have HYT := Lib.hid hyt
            clear hy hyt
            have hsb := str_beq y.name x.name
            have tc : (0 : Int) ≤ t := by omega
            have tn : ((t : Int)).toNat = t := by omega
            by_cases e : y.name = x.name
            · have HF : Hid ((6 : Int) = G) := Lib.hid (by
                rw [HS.out, HK0.out, if_pos (List.any_eq_true.2 ⟨y, hym, decide_eq_true e⟩)]; rfl)
              rw [decide_eq_true e] at hsb
              clear e HS HK0 HYT hym
              obtain ⟨yn, hyn⟩ : ∃ yn, y.name = yn := ⟨_, rfl⟩
              rw [hyn] at y0 hsb
              obtain ⟨xn, hxn⟩ : ∃ xn, x.name = xn := ⟨_, rfl⟩
              rw [hxn] at c0 hsb
              clear hyn hxn
              go_wp2_with fail
              go_quiet (fail)
              go_wp2_with fail
              go_ret
              exact ⟨by rw [← HF.out]; rfl, by (repeat first | with_reducible assumption | with_reducible refine Below_drewN ?_ _)⟩
            · have HU2 : Hid (∀ u ∈ zs.take (t + 1), u.name ≠ x.name) := Lib.hid (by
                rw [HYT.out]; intro u hu
                rcases List.mem_append.1 hu with hu | hu
                · exact hU.out u hu
                · obtain rfl : u = y := by simpa using hu
                  exact e)
              rw [decide_eq_false e] at hsb
              clear e HYT hym
              go_wp2_with fail
              go_quiet (fail)
              go_wp2_with fail
              go_roundw
              case rel => exact ⟨t + 1, by omega, by go_num, HU2, by (repeat first | with_reducible assumption | with_reducible refine Below_drewN ?_ _), by simpa using hwx, by go_simp, by go_simp, by go_simp, by go_simp, by go_simp, by go_simp⟩
              case measure => simp [intOf]; omega
          · obtain rfl : t = j := by omega
            have HK : Hid (sensorC x (zs.take t) = rng (wthn x.kind 1 3 && (nearB x.r x.z 60 && wthn x.error 0 1000000000))) := Lib.hid (by
              rw [HK0.out, if_neg (by
                intro h
                obtain ⟨u, hu, hd⟩ := List.any_eq_true.1 h
                exact hU.out u hu (of_decide_eq_true hd))])
            clear HK0
            cases p1 : wthn x.kind 1 3
            · have HF : Hid ((7 : Int) = G) := Lib.hid (by rw [HS.out, HK.out, p1]; simp [rng])
              clear HS HK
              go_wp2_with (go_at_call 70; refine (rwithin2_any _ _ _ _).mono ?_; rintro e w1 ⟨rfl, rfl⟩)
              go_ret
              exact ⟨by rw [← HF.out]; rfl, by (repeat with_reducible assumption)⟩
            cases p2 : nearB x.r x.z 60
            · have HF : Hid ((7 : Int) = G) := Lib.hid (by rw [HS.out, HK.out, p1, p2]; simp [rng])
              clear HS HK
              go_wp2_with (first | (go_at_call 70; refine (rwithin2_any _ _ _ _).mono ?_; rintro e w1 ⟨rfl, rfl⟩) | (go_at_call 108; refine (rplaced_any _ _ _).mono ?_; rintro e w1 ⟨rfl, rfl⟩))
              go_ret
              exact ⟨by rw [← HF.out]; rfl, by (repeat with_reducible assumption)⟩
            cases p3 : wthn x.error 0 1000000000
            · have HF : Hid ((7 : Int) = G) := Lib.hid (by rw [HS.out, HK.out, p1, p2, p3]; simp [rng])
              clear HS HK
              go_wp2_with (first | (go_at_call 70; refine (rwithin2_any _ _ _ _).mono ?_; rintro e w1 ⟨rfl, rfl⟩) | (go_at_call 108; refine (rplaced_any _ _ _).mono ?_; rintro e w1 ⟨rfl, rfl⟩))
              go_ret
              exact ⟨by rw [← HF.out]; rfl, by (repeat with_reducible assumption)⟩
            have HN : Hid (eachGo sensorC (zs.take (t + 1)) (zs.drop (t + 1)) = G) := Lib.hid (by rw [HS.out, HK.out, p1, p2, p3]; simp [rng])
            clear HS HK
            go_wp2_with (first | (go_at_call 70; refine (rwithin2_any _ _ _ _).mono ?_; rintro e w1 ⟨rfl, rfl⟩) | (go_at_call 108; refine (rplaced_any _ _ _).mono ?_; rintro e w1 ⟨rfl, rfl⟩))
            go_roundw
            case rel => exact ⟨t + 1, by omega, by go_num, HN, by (repeat with_reducible assumption), hqx, by go_simp⟩
            case measure => simp [intOf]; omega
    · have HN : Hid ((0 : Int) = G) := Lib.hid (by rw [← hG.out, List.drop_of_length_le (by rw [HI.out.1]; omega)]; rfl)
      go_wp2
      go_ret
      exact ⟨by rw [← HN.out]; rfl, by (repeat with_reducible assumption)⟩
end
section
open Go.RowKit Go.Shelf
set_option maxRecDepth 100000 in
set_option maxHeartbeats 16000000 in
theorem rshells_any (name : ByteArray) (A B C D : Option Addr) (la ca lb cb lc cc ld cd : Nat) (r z nr nz step : Int) (zs : List ShellD) (w : World) (hI : IsT 4 ShellD.cells w B lb zs) :
    Calls Tryz.prog 106 #[.agg #[.string name, .slice A la ca, .slice B lb cb, .slice C lc cc, .int .i64 r, .int .i64 z, .int .i64 nr, .int .i64 nz, .int .i64 step, .slice D ld cd]] w (Ret (.int .i64 (eachC shellC 16 zs)) w) := by
  have HI := Lib.hid hI
  have hz := hI.1
  by_cases hm : 16 < lb
  · have HG : Hid (eachC shellC 16 zs = 4) := Lib.hid (by unfold eachC; rw [if_pos (by omega)])
    clear hI hz
    generalize eachC shellC 16 zs = G at *
    go_enter Tryz.func106, Tryz.ntmps106
    go_wp2_with fail
    go_ret
    exact ⟨by rw [HG.out]; rfl, by (repeat first | with_reducible exact Below.refl _ _ | (with_reducible refine Below.alloc ?_ ?_ _; rotate_left; exact (by omega)))⟩
  have hl : lb ≤ 1000000000000000 := by omega
  have HG : Hid (eachC shellC 16 zs = eachGo shellC [] zs) := Lib.hid (by unfold eachC; rw [if_neg (by omega)])
  generalize eachC shellC 16 zs = G at *
  clear hI hz
  go_enter Tryz.func106, Tryz.ntmps106
  go_wp2_with fail
  go_loopw [3, 4] (fun i _ wr => ∃ j : Nat, j ≤ lb ∧ i = .int .i64 j ∧ Hid (eachGo shellC (zs.take j) (zs.drop j) = G) ∧ Below w.heap.size w wr ∧ w.heap.size < wr.heap.size ∧ wr.cell? ⟨w.heap.size, 2, none⟩ = some (.slice B lb cb)) (fun i _ _ => lb - (intOf i).toNat)
  case atStart => exact ⟨0, Nat.zero_le _, rfl, Lib.hid HG.out.symm, by (repeat first | with_reducible exact Below.refl _ _ | (with_reducible refine Below.alloc ?_ ?_ _; rotate_left; exact (by omega))), by simp, by go_simp⟩
  case round =>
    obtain ⟨j, hj, rfl, hG, hB, hq, q1⟩ := hrel
    by_cases hlt : j < lb
    · obtain ⟨hzl, hcl⟩ := HI.out.below hB
      obtain ⟨b, o, rfl, hb0, hcl⟩ := hcl (by omega)
      obtain ⟨x, hx⟩ : ∃ x, zs[j]? = some x := ⟨_, List.getElem?_eq_getElem (by omega)⟩
      have HS := Lib.hid (hG.out.symm.trans (eachGo_step shellC hx))
      have x0 : wr.cell? ⟨b, o + j * 4, none⟩ = some (.int .i64 x.r) := by have h := hcl j x hx 0 _ rfl; simpa using h
      have x1 : wr.cell? ⟨b, o + j * 4 + 1, none⟩ = some (.int .i64 x.z) := by have h := hcl j x hx 1 _ rfl; simpa using h
      have x2 : wr.cell? ⟨b, o + j * 4 + 2, none⟩ = some (.int .i64 x.self) := by have h := hcl j x hx 2 _ rfl; simpa using h
      have x3 : wr.cell? ⟨b, o + j * 4 + 3, none⟩ = some (.int .i64 x.loss) := by have h := hcl j x hx 3 _ rfl; simpa using h
      have hsz := hB.size
      clear hcl hx hzl hG
      have jc : (0 : Int) ≤ j := by omega
      have jn : ((j : Int)).toNat = j := by omega
      have HK : Hid (shellC x (zs.take j) = rng (nearB x.r x.z 60 && (wthn x.self 1 1000000000 && wthn x.loss 1 1000))) := Lib.hid rfl
      cases p1 : nearB x.r x.z 60
      · have HF : Hid ((7 : Int) = G) := Lib.hid (by rw [HS.out, HK.out, p1]; simp [rng])
        clear HS HK
        go_wp2_with (go_at_call 108; refine (rplaced_any _ _ _).mono ?_; rintro e w1 ⟨rfl, rfl⟩)
        go_ret
        exact ⟨by rw [← HF.out]; rfl, by (repeat first | with_reducible assumption | (with_reducible refine Below.alloc ?_ ?_ _; rotate_left; exact (by omega)))⟩
      cases p2 : wthn x.self 1 1000000000
      · have HF : Hid ((7 : Int) = G) := Lib.hid (by rw [HS.out, HK.out, p1, p2]; simp [rng])
        clear HS HK
        go_wp2_with (first | (go_at_call 70; refine (rwithin2_any _ _ _ _).mono ?_; rintro e w1 ⟨rfl, rfl⟩) | (go_at_call 108; refine (rplaced_any _ _ _).mono ?_; rintro e w1 ⟨rfl, rfl⟩))
        go_ret
        exact ⟨by rw [← HF.out]; rfl, by (repeat first | with_reducible assumption | (with_reducible refine Below.alloc ?_ ?_ _; rotate_left; exact (by omega)))⟩
      cases p3 : wthn x.loss 1 1000
      · have HF : Hid ((7 : Int) = G) := Lib.hid (by rw [HS.out, HK.out, p1, p2, p3]; simp [rng])
        clear HS HK
        go_wp2_with (first | (go_at_call 70; refine (rwithin2_any _ _ _ _).mono ?_; rintro e w1 ⟨rfl, rfl⟩) | (go_at_call 108; refine (rplaced_any _ _ _).mono ?_; rintro e w1 ⟨rfl, rfl⟩))
        go_ret
        exact ⟨by rw [← HF.out]; rfl, by (repeat first | with_reducible assumption | (with_reducible refine Below.alloc ?_ ?_ _; rotate_left; exact (by omega)))⟩
      have HN : Hid (eachGo shellC (zs.take (j + 1)) (zs.drop (j + 1)) = G) := Lib.hid (by rw [HS.out, HK.out, p1, p2, p3]; simp [rng])
      clear HS HK
      go_wp2_with (first | (go_at_call 70; refine (rwithin2_any _ _ _ _).mono ?_; rintro e w1 ⟨rfl, rfl⟩) | (go_at_call 108; refine (rplaced_any _ _ _).mono ?_; rintro e w1 ⟨rfl, rfl⟩))
      go_roundw
      case rel => exact ⟨j + 1, by omega, by go_num, HN, by (repeat first | with_reducible assumption | (with_reducible refine Below.alloc ?_ ?_ _; rotate_left; exact (by omega))), by simp; omega, by go_simp⟩
      case measure => simp [intOf]; omega
    · have HN : Hid ((0 : Int) = G) := Lib.hid (by rw [← hG.out, List.drop_of_length_le (by rw [HI.out.1]; omega)]; rfl)
      go_wp2
      go_ret
      exact ⟨by rw [← HN.out]; rfl, by (repeat with_reducible assumption)⟩
end
section
open Go.RowKit Go.Shelf
theorem rplaced_q (r z : Int) (w : World) (n : Nat) :
    Calls Tryz.prog 108 #[.int .i64 r, .int .i64 z] (w.drewN n) fun e w' => e = .returned (.bool (nearB r z 60)) ∧ ∃ m, w' = w.drewN m :=
  (rplaced_any r z _).mono fun _ _ ⟨he, hw⟩ => ⟨he, n, hw.symm⟩
set_option maxRecDepth 100000 in
set_option maxHeartbeats 16000000 in
theorem rlimits_any (name : ByteArray) (A B C D : Option Addr) (la ca lb cb lc cc ld cd : Nat) (r z nr nz step : Int) (zs : List PointD) (w : World) (hI : IsT 2 PointD.cells w C lc zs) :
    Calls Tryz.prog 107 #[.agg #[.string name, .slice A la ca, .slice B lb cb, .slice C lc cc, .int .i64 r, .int .i64 z, .int .i64 nr, .int .i64 nz, .int .i64 step, .slice D ld cd]] w (Ret (.int .i64 (limitsC zs)) w) := by
  have HI := Lib.hid hI
  have hz := hI.1
  by_cases h0 : lc = 0
  · have HG : Hid (limitsC zs = 8) := Lib.hid (by unfold limitsC; rw [if_pos (by omega)])
    clear hI hz
    generalize limitsC zs = G at *
    subst h0
    go_enter Tryz.func107, Tryz.ntmps107
    go_wp2_with fail
    go_ret
    exact ⟨by rw [HG.out]; rfl, by (repeat first | with_reducible exact Below.refl _ _ | (with_reducible refine Below.alloc ?_ ?_ _; rotate_left; exact (by omega)))⟩
  have hz0 : ((lc : Int) == 0) = false := by rw [beq_eq_false_iff_ne]; omega
  by_cases hm : 16 < lc
  · have HG : Hid (limitsC zs = 4) := Lib.hid (by unfold limitsC eachC; rw [if_neg (by omega), if_pos (by omega)])
    clear hI hz h0
    generalize limitsC zs = G at *
    go_enter Tryz.func107, Tryz.ntmps107
    go_wp2_with fail
    go_ret
    exact ⟨by rw [HG.out]; rfl, by (repeat first | with_reducible exact Below.refl _ _ | (with_reducible refine Below.alloc ?_ ?_ _; rotate_left; exact (by omega)))⟩
  have hl : lc ≤ 1000000000000000 := by omega
  have HG : Hid (limitsC zs = eachGo limitC [] zs) := Lib.hid (by unfold limitsC eachC; rw [if_neg (by omega), if_neg (by omega)])
  generalize limitsC zs = G at *
  clear hI hz h0
  go_enter Tryz.func107, Tryz.ntmps107
  go_wp2_with fail
  go_loopw [3, 4] (fun i _ wr => ∃ j : Nat, j ≤ lc ∧ i = .int .i64 j ∧ Hid (eachGo limitC (zs.take j) (zs.drop j) = G) ∧ Below w.heap.size w wr ∧ w.heap.size < wr.heap.size ∧ wr.cell? ⟨w.heap.size, 3, none⟩ = some (.slice C lc cc)) (fun i _ _ => lc - (intOf i).toNat)
  case atStart => exact ⟨0, Nat.zero_le _, rfl, Lib.hid HG.out.symm, by (repeat first | with_reducible exact Below.refl _ _ | (with_reducible refine Below.alloc ?_ ?_ _; rotate_left; exact (by omega))), by simp, by go_simp⟩
  case round =>
    obtain ⟨j, hj, rfl, hG, hB, hq, q1⟩ := hrel
    by_cases hlt : j < lc
    · obtain ⟨hzl, hcl⟩ := HI.out.below hB
      obtain ⟨b, o, rfl, hb0, hcl⟩ := hcl (by omega)
      obtain ⟨x, hx⟩ : ∃ x, zs[j]? = some x := ⟨_, List.getElem?_eq_getElem (by omega)⟩
      have HS := Lib.hid (hG.out.symm.trans (eachGo_step limitC hx))
      have x0 : wr.cell? ⟨b, o + j * 2, none⟩ = some (.int .i64 x.r) := by have h := hcl j x hx 0 _ rfl; simpa using h
      have x1 : wr.cell? ⟨b, o + j * 2 + 1, none⟩ = some (.int .i64 x.z) := by have h := hcl j x hx 1 _ rfl; simpa using h
      have HX := Lib.hid hx
      have hsz := hB.size
      clear hcl hx hzl hG
      have jc : (0 : Int) ≤ j := by omega
      have jn : ((j : Int)).toNat = j := by omega
      cases hp : nearB x.r x.z 60
      · have HF : Hid ((7 : Int) = G) := Lib.hid (by rw [HS.out]; unfold limitC; rw [hp]; simp)
        clear HS
        go_wp2_with fail
        go_quiet ((go_at_call 108; exact rplaced_q _ _ _ _))
        go_wp2_with fail
        go_ret
        exact ⟨by rw [← HF.out]; rfl, by (repeat first | with_reducible assumption | with_reducible refine Below_drewN ?_ _)⟩
      · have HK0 : Hid (limitC x (zs.take j) = if (zs.take j).any (fun y => decide (y.r = x.r) && decide (y.z = x.z)) = true then 6 else 0) := Lib.hid (by unfold limitC; rw [hp]; rfl)
        go_wp2_with fail
        go_quiet ((go_at_call 108; exact rplaced_q _ _ _ _))
        go_wp2_with fail
        clear hp x0 x1
        obtain ⟨wo, hwo⟩ : ∃ wo, wo = wr := ⟨_, rfl⟩
        subst hwo
        go_loopw [4] (fun k wr => ∃ t : Nat, t ≤ j ∧ k = .int .i64 t ∧ Hid (∀ y ∈ zs.take t, ¬(y.r = x.r ∧ y.z = x.z)) ∧ Below w.heap.size w wr ∧ w.heap.size < wr.heap.size ∧ wr.cell? ⟨w.heap.size, 3, none⟩ = some (.slice (some ⟨b, o, none⟩) lc cc)) (fun k _ => j - (intOf k).toNat)
        case atStart => exact ⟨0, Nat.zero_le _, rfl, Lib.hid (fun y hy => by simp at hy), by (repeat first | with_reducible assumption | with_reducible refine Below_drewN ?_ _), by simpa using hq, by go_simp⟩
        case round =>
          obtain ⟨t, ht, rfl, hU, hBx, hqx, q2⟩ := hrel
          by_cases htj : t < j
          · obtain ⟨y, hy⟩ : ∃ y, zs[t]? = some y := ⟨_, List.getElem?_eq_getElem (by rw [HI.out.1]; omega)⟩
            have y0 : wr.cell? ⟨b, o + t * 2, none⟩ = some (.int .i64 y.r) := by have h := (HI.out.below hBx).get hy (i := 0) rfl; simpa using h
            have y1 : wr.cell? ⟨b, o + t * 2 + 1, none⟩ = some (.int .i64 y.z) := by have h := (HI.out.below hBx).get hy (i := 1) rfl; simpa using h
            have x0 : wr.cell? ⟨b, o + j * 2, none⟩ = some (.int .i64 x.r) := by have h := (HI.out.below hBx).get HX.out (i := 0) rfl; simpa using h
            have x1 : wr.cell? ⟨b, o + j * 2 + 1, none⟩ = some (.int .i64 x.z) := by have h := (HI.out.below hBx).get HX.out (i := 1) rfl; simpa using h
            have hyt : zs.take (t + 1) = zs.take t ++ [y] := by
              obtain ⟨hk, rfl⟩ := List.getElem?_eq_some_iff.1 hy
              exact List.take_succ_eq_append_getElem hk
            have hym : y ∈ zs.take j := List.mem_take_iff_getElem.2 ⟨t, by rw [HI.out.1]; omega, by
              obtain ⟨hk, rfl⟩ := List.getElem?_eq_some_iff.1 hy
              rfl⟩
            have HYT := Lib.hid hyt
            clear hy hyt
            have tc : (0 : Int) ≤ t := by omega
            have tn : ((t : Int)).toNat = t := by omega
            by_cases e : y.r = x.r ∧ y.z = x.z
            · have HF : Hid ((6 : Int) = G) := Lib.hid (by
                rw [HS.out, HK0.out, if_pos (List.any_eq_true.2 ⟨y, hym, by rw [decide_eq_true e.1, decide_eq_true e.2]; rfl⟩)]; rfl)
              rw [e.1] at y0
              rw [e.2] at y1
              clear e HS HK0 HYT hym
              go_wp2_with fail
              go_quiet (fail)
              go_wp2_with fail
              go_ret
              exact ⟨by rw [← HF.out]; rfl, by (repeat first | with_reducible assumption | with_reducible refine Below_drewN ?_ _)⟩
            · have HU2 : Hid (∀ u ∈ zs.take (t + 1), ¬(u.r = x.r ∧ u.z = x.z)) := Lib.hid (by
                rw [HYT.out]; intro u hu
                rcases List.mem_append.1 hu with hu | hu
                · exact hU.out u hu
                · obtain rfl : u = y := by simpa using hu
                  exact e)
              have hne : (y.r == x.r) = false ∨ ((y.r == x.r) = true ∧ (y.z == x.z) = false) := by
                by_cases e1 : y.r = x.r
                · right; rw [beq_iff_eq, beq_eq_false_iff_ne]; exact ⟨e1, fun e2 => e ⟨e1, e2⟩⟩
                · left; rw [beq_eq_false_iff_ne]; exact e1
              clear e HYT hym
              rcases hne with z1 | ⟨z1, z2⟩
              · go_wp2_with fail
                go_quiet (fail)
                go_wp2_with fail
                go_roundw
                case rel => exact ⟨t + 1, by omega, by go_num, HU2, by (repeat first | with_reducible assumption | with_reducible refine Below_drewN ?_ _), by simpa using hqx, by go_simp⟩
                case measure => simp [intOf]; omega
              · go_wp2_with fail
                go_quiet (fail)
                go_wp2_with fail
                go_roundw
                case rel => exact ⟨t + 1, by omega, by go_num, HU2, by (repeat first | with_reducible assumption | with_reducible refine Below_drewN ?_ _), by simpa using hqx, by go_simp⟩
                case measure => simp [intOf]; omega
          · obtain rfl : t = j := by omega
            have HN : Hid (eachGo limitC (zs.take (t + 1)) (zs.drop (t + 1)) = G) := Lib.hid (by
              have hno : ¬((zs.take t).any (fun y => decide (y.r = x.r) && decide (y.z = x.z)) = true) := fun h => by
                obtain ⟨u, hu, hd⟩ := List.any_eq_true.1 h
                exact hU.out u hu (by simpa using hd)
              rw [HS.out, HK0.out, if_neg hno]; rfl)
            clear HS HK0
            go_wp2_with fail
            go_roundw
            case rel => exact ⟨t + 1, by omega, by go_num, HN, by (repeat with_reducible assumption), hqx, by go_simp⟩
            case measure => simp [intOf]; omega
    · have HN : Hid ((0 : Int) = G) := Lib.hid (by rw [← hG.out, List.drop_of_length_le (by rw [HI.out.1]; omega)]; rfl)
      go_wp2
      go_ret
      exact ⟨by rw [← HN.out]; rfl, by (repeat with_reducible assumption)⟩
end
end Go.Proofs.YtogcjgjhmlifgaaGreat
