import Derived.Test.YthggkidiidnaoaaGreatWAA
import Derived.Test.YthggkidiidnaoaaGreatWAO
import Derived.Sort.CutIn
namespace Go.Proofs.YthggkidiidnaoaaGreat
set_option linter.unusedVariables false
set_option linter.unusedSimpArgs false
section
open Go.RowKit Go.Shelf
attribute [local go_sem] Oper.semAt_some
def srcL (g : GridD) (cs : List CoilD) (ss : List ShellD) (z1 z2 z3 : List Int) : List Src :=
 List.zipWith (fun c x => ((c.r, c.z), c.turns * x)) cs z1 ++ (List.zipWith (fun s x => ((s.r, s.z), x)) ss z2 ++ cellSrc g z3 z3.length)
theorem srcL_coil {g : GridD} {cs : List CoilD} {ss : List ShellD} {z1 z2 z3 : List Int} (h1 : z1.length = cs.length) (k : Nat) (c : CoilD) (x : Int) (hc : cs[k]? = some c) (hx : z1[k]? = some x) : (srcL g cs ss z1 z2 z3)[k]? = some ((c.r, c.z), c.turns * x) := by
 have hk : k < cs.length := (List.getElem?_eq_some_iff.1 hc).1
 unfold srcL
 rw [List.getElem?_append_left (by simp; omega)]
 simp [List.getElem?_zipWith, hc, hx]
theorem srcL_shell {g : GridD} {cs : List CoilD} {ss : List ShellD} {z1 z2 z3 : List Int} (h1 : z1.length = cs.length) (h2 : z2.length = ss.length) (k : Nat) (c : ShellD) (x : Int) (hc : ss[k]? = some c) (hx : z2[k]? = some x) : (srcL g cs ss z1 z2 z3)[cs.length + k]? = some ((c.r, c.z), x) := by
 have hk : k < ss.length := (List.getElem?_eq_some_iff.1 hc).1
 unfold srcL
 rw [List.getElem?_append_right (by simp; omega)]
 rw [List.getElem?_append_left (by simp; omega)]
 have e : cs.length + k - (List.zipWith (fun (c : CoilD) (x : Int) => ((c.r, c.z), c.turns * x)) cs z1).length = k := by simp; omega
 rw [e]
 simp [List.getElem?_zipWith, hc, hx]
theorem srcL_cell {g : GridD} {cs : List CoilD} {ss : List ShellD} {z1 z2 z3 : List Int} (h1 : z1.length = cs.length) (h2 : z2.length = ss.length) (k : Nat) (x : Int) (hx : z3[k]? = some x) : (srcL g cs ss z1 z2 z3)[cs.length + (ss.length + k)]? = some ((cellR g (k : Int), cellZ g (k : Int)), x) := by
 have hk : k < z3.length := (List.getElem?_eq_some_iff.1 hx).1
 unfold srcL
 rw [List.getElem?_append_right (by simp; omega)]
 rw [List.getElem?_append_right (by simp; omega)]
 have e : cs.length + (ss.length + k) - (List.zipWith (fun (c : CoilD) (x : Int) => ((c.r, c.z), c.turns * x)) cs z1).length - (List.zipWith (fun (s : ShellD) (x : Int) => ((s.r, s.z), x)) ss z2).length = k := by simp; omega
 rw [e]
 simp [cellSrc, List.getElem?_map, List.getElem?_range hk, hx]
theorem srcL_length {g : GridD} {cs : List CoilD} {ss : List ShellD} {z1 z2 z3 : List Int} (h1 : z1.length = cs.length) (h2 : z2.length = ss.length) : (srcL g cs ss z1 z2 z3).length = cs.length + (ss.length + z3.length) := by
 unfold srcL; simp [cellSrc]; omega
theorem bool_of {e : Ending} {P Q : Prop} (h : (e = .returned (.bool true) ∧ P) ∨ (e = .returned (.bool false) ∧ Q)) : ∃ b : Bool, e = .returned (.bool b) ∧ (b = true → P) ∧ (b = false → Q) := by
 rcases h with ⟨h, p⟩ | ⟨h, q⟩
 ·exact ⟨true, h, fun _ => p, (fun e => by cases e)⟩
 ·exact ⟨false, h, (fun e => by cases e), fun _ => q⟩
theorem take_snoc {α : Type} {l : List α} {k : Nat} {x : α} (h : l[k]? = some x) : l.take (k + 1) = l.take k ++ [x] := by
 obtain ⟨hk, rfl⟩ := List.getElem?_eq_some_iff.1 h
 exact List.take_succ_eq_append_getElem hk
set_option maxRecDepth 100000 in
set_option maxHeartbeats 16000000 in
theorem sources1_any (n : Nat) (hn : 3 ≤ n) (l tm tc la ca lb cb na qa nb qb len cap : Nat) (A B A1 B1 C : Option Addr) (g : GridD) (hg : g.Fine) (cs : List CoilD) (ss : List ShellD) (z1 z2 z3 : List Int) (S : List Src)
  (h1 : z1.length = cs.length) (h2 : z2.length = ss.length) (hS : S = srcL g cs ss z1 z2 z3) (hl : len ≤ 1000) (kla : la ≤ 1000) (klb : lb ≤ 1000)
  (hmul : ∀ (k : Nat) c x, cs[k]? = some c → z1[k]? = some x → IntKind.i64.wrap (c.turns * x) = c.turns * x) (J Jx : List Src → World → Prop) (w0 : World)
  (hJ : ∀ pre W W', J pre W → Below W.heap.size W W' → J pre W')
  (hY : ∀ pre x W, J pre W → pre.length < S.length → YieldAt Fence.wide (n - 1) Tryz.prog l (srcEnc x) W fun e W' =>
   (e = .returned (.bool true) ∧ J (pre ++ [x]) W' ∧ KpF w0.heap.size tm tc W W') ∨ (e = .returned (.bool false) ∧ Jx (pre ++ [x]) W'))
  (W : World) (hA : IsT 8 CoilD.cells w0 A la cs) (hBb : IsT 4 ShellD.cells w0 B lb ss) (hA1 : IsT 1 intCells w0 A1 na z1) (hB1 : IsT 1 intCells w0 B1 nb z2) (hC : IsT 1 intCells w0 C len z3) (hw0 : Below w0.heap.size w0 W)
  (htm : tm < W.heap.size) (htc : tc < W.heap.size)
  (m1 : W.cell? ⟨tm, 1, none⟩ = some (.slice A la ca)) (m2 : W.cell? ⟨tm, 2, none⟩ = some (.slice B lb cb)) (m4 : W.cell? ⟨tm, 4, none⟩ = some (.int .i64 g.r)) (m5 : W.cell? ⟨tm, 5, none⟩ = some (.int .i64 g.z)) (m6 : W.cell? ⟨tm, 6, none⟩ = some (.int .i64 g.nr)) (m7 : W.cell? ⟨tm, 7, none⟩ = some (.int .i64 g.nz)) (m8 : W.cell? ⟨tm, 8, none⟩ = some (.int .i64 g.step))
  (k0 : W.cell? ⟨tc, 0, none⟩ = some (.slice A1 na qa)) (k1 : W.cell? ⟨tc, 1, none⟩ = some (.slice B1 nb qb)) (k2 : W.cell? ⟨tc, 2, none⟩ = some (.slice C len cap)) (h0 : J [] W) :
  CallsIn Fence.wide n Tryz.prog 149 #[.func (.yield l) #[] #[], .pointer (some ⟨tm, 0, none⟩), .pointer (some ⟨tc, 0, none⟩)] W fun e W' => (∃ v, e = .returned v) ∧
   ((∃ ys, ys = S ∧ J ys W') ∨ (∃ pre, (∃ k, k ≤ S.length ∧ pre = S.take k) ∧ Jx pre W')) := by
 have hlen : S.length = la + (lb + len) := by rw [hS, srcL_length h1 h2, hA.1, hBb.1, hC.1]
 have HP := Lib.hid (fun (i : Nat) (hi : i < len) W => cellPlace_any g (i : Int) W hg om9 om9)
 have HJ := Lib.hid hJ
 have HYY := Lib.hid hY
 have HS1 := Lib.hid (fun k c x hc hx => hS ▸ srcL_coil (g := g) (ss := ss) (z2 := z2) (z3 := z3) h1 k c x hc hx : ∀ (k : Nat) c x, cs[k]? = some c → z1[k]? = some x → S[k]? = some ((c.r, c.z), c.turns * x))
 have HS2 : Hid (∀ (k : Nat) c x, ss[k]? = some c → z2[k]? = some x → S[la + k]? = some ((c.r, c.z), x)) := Lib.hid (fun k c x hc hx => by rw [hS, ← hA.1]; exact srcL_shell h1 h2 k c x hc hx)
 have HS3 : Hid (∀ (k : Nat) x, z3[k]? = some x → S[la + (lb + k)]? = some ((cellR g (k : Int), cellZ g (k : Int)), x)) := Lib.hid (fun k x hx => by rw [hS, ← hA.1, ← hBb.1]; exact srcL_cell h1 h2 k x hx)
 have HA := Lib.hid hA
 have HBb := Lib.hid hBb
 have HA1 := Lib.hid hA1
 have HB1 := Lib.hid hB1
 have HC := Lib.hid hC
 have HM := Lib.hid hmul
 have hna : na = la := by have := hA.1; have := hA1.1; omega
 have hnb : nb = lb := by have := hBb.1; have := hB1.1; omega
 subst hna hnb
 clear hY hJ hC hg hA hBb hA1 hB1 hmul hS h1 h2
 have h86 : Fence.wide.fn 121 := trivial
 refine callsIn_of_wp Tryz.func149 rfl trivial ?_ rfl
 simp only [Tryz.ntmps149, List.size_toArray, List.length_cons, List.length_nil, Nat.reduceAdd, Nat.reduceSub, Array.replicate_succ, Array.replicate_zero, List.push_toArray, List.append_toArray, List.nil_append, List.cons_append]
 gi_wp2
 gi_loopw [13] (fun i wx => ∃ k : Nat, k ≤ na ∧ i = .int .i64 k ∧ J (S.take k) wx ∧ KpF w0.heap.size tm tc W wx ∧ W.heap.size ≤ wx.heap.size) (fun i _ => na - (intOf i).toNat)
 case atStart => exact ⟨0, Nat.zero_le _, rfl, h0, KpF.refl _ _ _ _, Nat.le_refl _⟩
 case round =>
  obtain ⟨k, hk, rfl, hJs, hnx, hsz⟩ := hrel
  have hB0 := hw0.trans hnx.1
  by_cases hlt : k < na
  ·obtain ⟨hzl, hcl⟩ := HA.out
   obtain ⟨b, o, rfl, hb0, hcl⟩ := hcl om9
   obtain ⟨hzl1, hcl1⟩ := HA1.out
   obtain ⟨b1, o1, rfl, hb1, hcl1⟩ := hcl1 om9
   obtain ⟨c, hc⟩ : ∃ c, cs[k]? = some c := ⟨_, List.getElem?_eq_getElem om9⟩
   obtain ⟨x, hx⟩ : ∃ x, z1[k]? = some x := ⟨_, List.getElem?_eq_getElem om9⟩
   have x0 : wr.cell? ⟨b, o + k * 8, none⟩ = some (.string c.name) := (hB0.cell (p := ⟨b, _, none⟩) hb0).trans (by have h := hcl k c hc 0 _ rfl; simpa using h)
   have x1 : wr.cell? ⟨b, o + k * 8 + 1, none⟩ = some (.int .i64 c.r) := (hB0.cell (p := ⟨b, _, none⟩) hb0).trans (by have h := hcl k c hc 1 _ rfl; simpa using h)
   have x2 : wr.cell? ⟨b, o + k * 8 + 2, none⟩ = some (.int .i64 c.z) := (hB0.cell (p := ⟨b, _, none⟩) hb0).trans (by have h := hcl k c hc 2 _ rfl; simpa using h)
   have x3 : wr.cell? ⟨b, o + k * 8 + 3, none⟩ = some (.int .i64 c.turns) := (hB0.cell (p := ⟨b, _, none⟩) hb0).trans (by have h := hcl k c hc 3 _ rfl; simpa using h)
   have x4 : wr.cell? ⟨b, o + k * 8 + 4, none⟩ = some (.int .i64 c.cur) := (hB0.cell (p := ⟨b, _, none⟩) hb0).trans (by have h := hcl k c hc 4 _ rfl; simpa using h)
   have x5 : wr.cell? ⟨b, o + k * 8 + 5, none⟩ = some (.int .i64 c.step) := (hB0.cell (p := ⟨b, _, none⟩) hb0).trans (by have h := hcl k c hc 5 _ rfl; simpa using h)
   have x6 : wr.cell? ⟨b, o + k * 8 + 6, none⟩ = some (.int .i64 c.heat) := (hB0.cell (p := ⟨b, _, none⟩) hb0).trans (by have h := hcl k c hc 6 _ rfl; simpa using h)
   have x7 : wr.cell? ⟨b, o + k * 8 + 7, none⟩ = some (.int .i64 c.cool) := (hB0.cell (p := ⟨b, _, none⟩) hb0).trans (by have h := hcl k c hc 7 _ rfl; simpa using h)
   have y0 : wr.cell? ⟨b1, o1 + k, none⟩ = some (.int .i64 x) := (hB0.cell (p := ⟨b1, _, none⟩) hb1).trans (by have h := hcl1 k x hx 0 _ rfl; simpa using h)
   have k0' := hnx.cell (.inr rfl) k0
   have hmk := HM.out k c x hc hx
   have HX := Lib.hid (take_snoc (HS1.out k c x hc hx))
   have HYk := Lib.hid (fun W1 (hJ1 : J (S.take k) W1) => HYY.out _ ((c.r, c.z), c.turns * x) W1 hJ1 (by rw [List.length_take]; omega))
   have szb := hB0.size
   clear hcl hcl1 hc hx hzl hzl1
   obtain ⟨nm, cr, cz, ct, cc, cst, chh, cco⟩ := c
   dsimp only at *
   gi_wp2
   have hbW : Below wr.heap.size wr (wr.alloc (.cells #[.string nm, .int .i64 cr, .int .i64 cz, .int .i64 ct, .int .i64 cc, .int .i64 cst, .int .i64 chh, .int .i64 cco] 51)) := by (repeat first | with_reducible exact Below.refl _ _ | (with_reducible refine Below.alloc ?_ ?_ _; rotate_left; exact om9))
   have e1 : (wr.alloc (.cells #[.string nm, .int .i64 cr, .int .i64 cz, .int .i64 ct, .int .i64 cc, .int .i64 cst, .int .i64 chh, .int .i64 cco] 51)).cell? ⟨wr.heap.size, 1, none⟩ = some (.int .i64 cr) := by go_simp
   have e2 : (wr.alloc (.cells #[.string nm, .int .i64 cr, .int .i64 cz, .int .i64 ct, .int .i64 cc, .int .i64 cst, .int .i64 chh, .int .i64 cco] 51)).cell? ⟨wr.heap.size, 2, none⟩ = some (.int .i64 cz) := by go_simp
   have e3 : (wr.alloc (.cells #[.string nm, .int .i64 cr, .int .i64 cz, .int .i64 ct, .int .i64 cc, .int .i64 cst, .int .i64 chh, .int .i64 cco] 51)).cell? ⟨wr.heap.size, 3, none⟩ = some (.int .i64 ct) := by go_simp
   have e0 : (wr.alloc (.cells #[.string nm, .int .i64 cr, .int .i64 cz, .int .i64 ct, .int .i64 cc, .int .i64 cst, .int .i64 chh, .int .i64 cco] 51)).cell? ⟨tc, 0, none⟩ = some (.slice (some ⟨b1, o1, none⟩) na qa) := (hbW.cell (p := ⟨tc, 0, none⟩) (by dsimp only; omega)).trans k0'
   have ey : (wr.alloc (.cells #[.string nm, .int .i64 cr, .int .i64 cz, .int .i64 ct, .int .i64 cc, .int .i64 cst, .int .i64 chh, .int .i64 cco] 51)).cell? ⟨b1, o1 + k, none⟩ = some (.int .i64 x) := (hbW.cell (p := ⟨b1, o1 + k, none⟩) (by dsimp only; omega)).trans y0
   obtain ⟨W1, hW1⟩ : ∃ W1, wr.alloc (.cells #[.string nm, .int .i64 cr, .int .i64 cz, .int .i64 ct, .int .i64 cc, .int .i64 cst, .int .i64 chh, .int .i64 cco] 51) = W1 := ⟨_, rfl⟩
   rw [hW1] at hbW e1 e2 e3 e0 ey ⊢
   clear hW1 x0 x1 x2 x3 x4 x5 x6 x7 y0 k0'
   obtain ⟨fn, tmps, assign, body, hy, hR⟩ := HYk.out W1.drew (HJ.out _ _ _ hJs hbW.drew)
   simp only [srcEnc] at hy
   clear HYk
   have hmx : Tryz.prog.follows .mixedOrders = true := by kernel_rfl
   gi_cut [33] from 74 (fun s33 wx => ∃ bb : Bool, s33 = .bool (!bb) ∧ Hid (bb = true → J (S.take k ++ [((cr, cz), ct * x)]) wx ∧ KpF w0.heap.size tm tc W1.drew wx) ∧ Hid (bb = false → Jx (S.take k ++ [((cr, cz), ct * x)]) wx))
   case first =>
    clear HP HJ HYY HS1 HS2 HS3 HA HBb HA1 HB1 HC HM HX hnx hw0 hB0 m2 m4 m5 m6 m7 m8 k1 k2 h0 hJs
    refine region_W 14 kr9 ?_
    refine anyW_take (i := 0) (v := (.func (.yield l) #[] #[])) [14] (some 18) rfl rfl rfl kr9 kr9 kr9 kr9 kr9 (fun _ _ _ h => h) ⟨Or.inl ⟨by rfl, fun w' hw => (by subst hw; go_simp)⟩, fun _ => rfl⟩ (Or.inr rfl) ?_; (try simp only [Act.put, List.setIfInBounds_toArray, List.set_cons_zero, List.set_cons_succ])
    refine anyW_take (i := 1) (v := (.pointer (some ⟨wr.heap.size, 1, none⟩))) [2, 5, 14] (some 19) rfl rfl rfl kr9 kr9 kr9 kr9 kr9 (fun _ _ _ h => h) ⟨Or.inl ⟨by rfl, fun w' hw => (by subst hw; go_simp)⟩, fun _ => rfl⟩ (Or.inr rfl) ?_; (try simp only [Act.put, List.setIfInBounds_toArray, List.set_cons_zero, List.set_cons_succ])
    refine anyW_take (i := 2) (v := (.int .i64 cr)) [5, 14] (some 20) rfl rfl rfl kr9 kr9 kr9 kr9 kr9 (fun _ _ _ h => h) ⟨Or.inl ⟨by rfl, fun w' hw => (by subst hw; go_simp)⟩, fun _ => rfl⟩ (Or.inr rfl) ?_; (try simp only [Act.put, List.setIfInBounds_toArray, List.set_cons_zero, List.set_cons_succ])
    refine anyW_take (i := 3) (v := (.pointer (some ⟨wr.heap.size, 2, none⟩))) [4, 5, 14] (some 21) rfl rfl rfl kr9 kr9 kr9 kr9 kr9 (fun _ _ _ h => h) ⟨Or.inl ⟨by rfl, fun w' hw => (by subst hw; go_simp)⟩, fun _ => rfl⟩ (Or.inr rfl) ?_; (try simp only [Act.put, List.setIfInBounds_toArray, List.set_cons_zero, List.set_cons_succ])
    refine anyW_take (i := 4) (v := (.int .i64 cz)) [5, 14] (some 22) rfl rfl rfl kr9 kr9 kr9 kr9 kr9 (fun _ _ _ h => h) ⟨Or.inl ⟨by rfl, fun w' hw => (by subst hw; go_simp)⟩, fun _ => rfl⟩ (Or.inr rfl) ?_; (try simp only [Act.put, List.setIfInBounds_toArray, List.set_cons_zero, List.set_cons_succ])
    refine anyW_take (i := 5) (v := (.agg #[.int .i64 cr, .int .i64 cz])) [14] (some 23) rfl rfl rfl kr9 kr9 kr9 kr9 kr9 (fun _ _ _ h => h) ⟨Or.inl ⟨by rfl, fun w' hw => (by subst hw; go_simp)⟩, fun _ => rfl⟩ (Or.inr rfl) ?_; (try simp only [Act.put, List.setIfInBounds_toArray, List.set_cons_zero, List.set_cons_succ])
    refine anyW_take (i := 6) (v := (.pointer (some ⟨wr.heap.size, 3, none⟩))) [7, 13, 14] (some 24) rfl rfl rfl kr9 kr9 kr9 kr9 kr9 (fun _ _ _ h => h) ⟨Or.inl ⟨by rfl, fun w' hw => (by subst hw; go_simp)⟩, fun _ => rfl⟩ (Or.inr rfl) ?_; (try simp only [Act.put, List.setIfInBounds_toArray, List.set_cons_zero, List.set_cons_succ])
    refine anyW_take (i := 7) (v := (.int .i64 ct)) [13, 14] (some 25) rfl rfl rfl kr9 kr9 kr9 kr9 kr9 (fun _ _ _ h => h) ⟨Or.inl ⟨by rfl, fun w' hw => (by subst hw; go_simp)⟩, fun _ => rfl⟩ (Or.inr rfl) ?_; (try simp only [Act.put, List.setIfInBounds_toArray, List.set_cons_zero, List.set_cons_succ])
    refine anyW_take (i := 8) (v := (.pointer (some ⟨tc, 0, none⟩))) [9, 11, 12, 13, 14] (some 26) rfl rfl rfl kr9 kr9 kr9 kr9 kr9 (fun _ _ _ h => h) ⟨Or.inl ⟨by rfl, fun w' hw => (by subst hw; go_simp)⟩, fun _ => rfl⟩ (Or.inr rfl) ?_; (try simp only [Act.put, List.setIfInBounds_toArray, List.set_cons_zero, List.set_cons_succ])
    refine anyW_take (i := 9) (v := (.slice (some ⟨b1, o1, none⟩) na qa)) [11, 12, 13, 14] (some 27) rfl rfl rfl kr9 kr9 kr9 kr9 kr9 (fun _ _ _ h => h) ⟨Or.inl ⟨by rfl, fun w' hw => (by subst hw; go_simp)⟩, fun _ => rfl⟩ (Or.inr rfl) ?_; (try simp only [Act.put, List.setIfInBounds_toArray, List.set_cons_zero, List.set_cons_succ])
    refine anyW_take (i := 10) (v := (.int .i64 k)) [11, 12, 13, 14] (some 28) rfl rfl rfl kr9 kr9 kr9 kr9 kr9 (fun _ _ _ h => h) ⟨Or.inl ⟨by rfl, fun w' hw => (by subst hw; go_simp)⟩, fun _ => rfl⟩ (Or.inr rfl) ?_; (try simp only [Act.put, List.setIfInBounds_toArray, List.set_cons_zero, List.set_cons_succ])
    refine anyW_take (i := 11) (v := (.pointer (some ⟨b1, o1 + k, none⟩))) [12, 13, 14] (some 29) rfl rfl rfl kr9 kr9 kr9 kr9 kr9 (fun _ _ _ h => h) ⟨Or.inl ⟨by rfl, fun w' hw => (by subst hw; go_simp)⟩, fun _ => rfl⟩ (Or.inr rfl) ?_; (try simp only [Act.put, List.setIfInBounds_toArray, List.set_cons_zero, List.set_cons_succ])
    refine anyW_take (i := 12) (v := (.int .i64 x)) [13, 14] (some 30) rfl rfl rfl kr9 kr9 kr9 kr9 kr9 (fun _ _ _ h => h) ⟨Or.inl ⟨by rfl, fun w' hw => (by subst hw; go_simp)⟩, fun _ => rfl⟩ (Or.inr rfl) ?_; (try simp only [Act.put, List.setIfInBounds_toArray, List.set_cons_zero, List.set_cons_succ])
    refine anyW_take (i := 13) (v := (.int .i64 (ct * x))) [14] (some 31) rfl rfl rfl kr9 kr9 kr9 kr9 kr9 (fun _ _ _ h => h) ⟨Or.inl ⟨by rfl, fun w' hw => (by subst hw; go_simp)⟩, fun _ => rfl⟩ (Or.inr rfl) ?_; (try simp only [Act.put, List.setIfInBounds_toArray, List.set_cons_zero, List.set_cons_succ])
    refine anyW_one kr9 rfl (by rfl) (fun K hK' => ?_); have hK := Lib.hid hK'; clear hK'; go_simp
    refine ⟨fun _ => om9, hR.mono ?_⟩
    clear hR hy
    rintro e W3 h3
    obtain ⟨bb, rfl, h4', h5'⟩ := bool_of h3
    have h4 := Lib.hid h4'
    have h5 := Lib.hid h5'
    clear h3 h4' h5'
    refine hK.out _ _ ?_; clear hK K; (try simp only [Act.put, List.setIfInBounds_toArray, List.set_cons_zero, List.set_cons_succ])
    refine anyIn_takeD (i := 15) (v := (.bool (!bb))) (some 33) rfl rfl rfl kr9 kr9 kr9 (fun _ _ _ h => h) ⟨Or.inl ⟨by rfl, fun w => (by go_simp)⟩, fun _ => rfl⟩ ?_; (try simp only [Act.put, List.setIfInBounds_toArray, List.set_cons_zero, List.set_cons_succ]); refine wpAnyIn_done kr9 ?_ _
    gi_wp2
    gi_meet
    exact ⟨bb, rfl, h4, h5⟩
   case rest =>
    obtain ⟨bb, rfl, h4, h5⟩ := hcut
    clear hR hy
    cases bb
    ·have hJ5 := h5.out rfl
     clear h4 h5
     gi_wp2
     refine bodyPost_ret (results_none rfl _ _ _) rfl ?_
     exact ⟨⟨_, rfl⟩, .inr ⟨_, ⟨k + 1, by omega, HX.out.symm⟩, hJ5⟩⟩
    ·obtain ⟨hJ3, hk3⟩ := h4.out rfl
     gi_wp2
     go_roundw
     case rel => exact ⟨k + 1, by omega, by go_num, by rw [HX.out]; exact hJ3, (hnx.t (KpF.of_below om9 om9 om9 hbW.drew)).t hk3, by have := hk3.1.size; have := hbW.size; have e9 : W1.drew.heap.size = W1.heap.size := rfl; omega⟩
     case measure => simp [intOf]; omega
  ·obtain rfl : na = k := by omega
   have m2' := hnx.cell (.inl rfl) m2
   clear hlt hk
   gi_wp2
   clear m2'
   gi_loopw [38] (fun i wx => ∃ k : Nat, k ≤ nb ∧ i = .int .i64 k ∧ J (S.take (na + k)) wx ∧ KpF w0.heap.size tm tc W wx ∧ W.heap.size ≤ wx.heap.size) (fun i _ => nb - (intOf i).toNat)
   case atStart => exact ⟨0, Nat.zero_le _, rfl, hJs, hnx, hsz⟩
   case round =>
    clear hJs hnx hsz hB0
    obtain ⟨k, hk, rfl, hJs, hnx, hsz⟩ := hrel
    have hB0 := hw0.trans hnx.1
    by_cases hlt : k < nb
    ·obtain ⟨hzl, hcl⟩ := HBb.out
     obtain ⟨b, o, rfl, hb0, hcl⟩ := hcl om9
     obtain ⟨hzl1, hcl1⟩ := HB1.out
     obtain ⟨b1, o1, rfl, hb1, hcl1⟩ := hcl1 om9
     obtain ⟨c, hc⟩ : ∃ c, ss[k]? = some c := ⟨_, List.getElem?_eq_getElem om9⟩
     obtain ⟨x, hx⟩ : ∃ x, z2[k]? = some x := ⟨_, List.getElem?_eq_getElem om9⟩
     have x0 : wr.cell? ⟨b, o + k * 4, none⟩ = some (.int .i64 c.r) := (hB0.cell (p := ⟨b, _, none⟩) hb0).trans (by have h := hcl k c hc 0 _ rfl; simpa using h)
     have x1 : wr.cell? ⟨b, o + k * 4 + 1, none⟩ = some (.int .i64 c.z) := (hB0.cell (p := ⟨b, _, none⟩) hb0).trans (by have h := hcl k c hc 1 _ rfl; simpa using h)
     have x2 : wr.cell? ⟨b, o + k * 4 + 2, none⟩ = some (.int .i64 c.self) := (hB0.cell (p := ⟨b, _, none⟩) hb0).trans (by have h := hcl k c hc 2 _ rfl; simpa using h)
     have x3 : wr.cell? ⟨b, o + k * 4 + 3, none⟩ = some (.int .i64 c.loss) := (hB0.cell (p := ⟨b, _, none⟩) hb0).trans (by have h := hcl k c hc 3 _ rfl; simpa using h)
     have y0 : wr.cell? ⟨b1, o1 + k, none⟩ = some (.int .i64 x) := (hB0.cell (p := ⟨b1, _, none⟩) hb1).trans (by have h := hcl1 k x hx 0 _ rfl; simpa using h)
     have k1' := hnx.cell (.inr rfl) k1
     have HX := Lib.hid (take_snoc (HS2.out k c x hc hx))
     have HYk := Lib.hid (fun W1 (hJ1 : J (S.take (na + k)) W1) => HYY.out _ ((c.r, c.z), x) W1 hJ1 (by rw [List.length_take]; omega))
     have szb := hB0.size
     clear hcl hcl1 hc hx hzl hzl1
     obtain ⟨cr, cz, cse, clo⟩ := c
     dsimp only at *
     gi_wp2
     have hbW : Below wr.heap.size wr (wr.alloc (.cells #[.int .i64 cr, .int .i64 cz, .int .i64 cse, .int .i64 clo] 142)) := by (repeat first | with_reducible exact Below.refl _ _ | (with_reducible refine Below.alloc ?_ ?_ _; rotate_left; exact om9))
     have e1 : (wr.alloc (.cells #[.int .i64 cr, .int .i64 cz, .int .i64 cse, .int .i64 clo] 142)).cell? ⟨wr.heap.size, 0, none⟩ = some (.int .i64 cr) := by go_simp
     have e2 : (wr.alloc (.cells #[.int .i64 cr, .int .i64 cz, .int .i64 cse, .int .i64 clo] 142)).cell? ⟨wr.heap.size, 1, none⟩ = some (.int .i64 cz) := by go_simp
     have e0 : (wr.alloc (.cells #[.int .i64 cr, .int .i64 cz, .int .i64 cse, .int .i64 clo] 142)).cell? ⟨tc, 1, none⟩ = some (.slice (some ⟨b1, o1, none⟩) nb qb) := (hbW.cell (p := ⟨tc, 1, none⟩) (by dsimp only; omega)).trans k1'
     have ey : (wr.alloc (.cells #[.int .i64 cr, .int .i64 cz, .int .i64 cse, .int .i64 clo] 142)).cell? ⟨b1, o1 + k, none⟩ = some (.int .i64 x) := (hbW.cell (p := ⟨b1, o1 + k, none⟩) (by dsimp only; omega)).trans y0
     obtain ⟨W1, hW1⟩ : ∃ W1, wr.alloc (.cells #[.int .i64 cr, .int .i64 cz, .int .i64 cse, .int .i64 clo] 142) = W1 := ⟨_, rfl⟩
     rw [hW1] at hbW e1 e2 e0 ey ⊢
     clear hW1 x0 x1 x2 x3 y0 k1'
     obtain ⟨fn, tmps, assign, body, hy, hR⟩ := HYk.out W1.drew (HJ.out _ _ _ hJs hbW.drew)
     simp only [srcEnc] at hy
     clear HYk
     have hmx : Tryz.prog.follows .mixedOrders = true := by kernel_rfl
     gi_cut [55] from 74 (fun s55 wx => ∃ bb : Bool, s55 = .bool (!bb) ∧ Hid (bb = true → J (S.take (na + k) ++ [((cr, cz), x)]) wx ∧ KpF w0.heap.size tm tc W1.drew wx) ∧ Hid (bb = false → Jx (S.take (na + k) ++ [((cr, cz), x)]) wx))
     case first =>
      clear HP HJ HYY HS1 HS2 HS3 HA HBb HA1 HB1 HC HM HX hnx hw0 hB0 m1 m4 m5 m6 m7 m8 k0 k2 h0 hJs
      refine region_W 11 kr9 ?_
      refine anyW_take (i := 0) (v := (.func (.yield l) #[] #[])) [11] (some 43) rfl rfl rfl kr9 kr9 kr9 kr9 kr9 (fun _ _ _ h => h) ⟨Or.inl ⟨by rfl, fun w' hw => (by subst hw; go_simp)⟩, fun _ => rfl⟩ (Or.inr rfl) ?_; (try simp only [Act.put, List.setIfInBounds_toArray, List.set_cons_zero, List.set_cons_succ])
      refine anyW_take (i := 1) (v := (.pointer (some ⟨wr.heap.size, 0, none⟩))) [2, 5, 11] (some 44) rfl rfl rfl kr9 kr9 kr9 kr9 kr9 (fun _ _ _ h => h) ⟨Or.inl ⟨by rfl, fun w' hw => (by subst hw; go_simp)⟩, fun _ => rfl⟩ (Or.inr rfl) ?_; (try simp only [Act.put, List.setIfInBounds_toArray, List.set_cons_zero, List.set_cons_succ])
      refine anyW_take (i := 2) (v := (.int .i64 cr)) [5, 11] (some 45) rfl rfl rfl kr9 kr9 kr9 kr9 kr9 (fun _ _ _ h => h) ⟨Or.inl ⟨by rfl, fun w' hw => (by subst hw; go_simp)⟩, fun _ => rfl⟩ (Or.inr rfl) ?_; (try simp only [Act.put, List.setIfInBounds_toArray, List.set_cons_zero, List.set_cons_succ])
      refine anyW_take (i := 3) (v := (.pointer (some ⟨wr.heap.size, 1, none⟩))) [4, 5, 11] (some 46) rfl rfl rfl kr9 kr9 kr9 kr9 kr9 (fun _ _ _ h => h) ⟨Or.inl ⟨by rfl, fun w' hw => (by subst hw; go_simp)⟩, fun _ => rfl⟩ (Or.inr rfl) ?_; (try simp only [Act.put, List.setIfInBounds_toArray, List.set_cons_zero, List.set_cons_succ])
      refine anyW_take (i := 4) (v := (.int .i64 cz)) [5, 11] (some 47) rfl rfl rfl kr9 kr9 kr9 kr9 kr9 (fun _ _ _ h => h) ⟨Or.inl ⟨by rfl, fun w' hw => (by subst hw; go_simp)⟩, fun _ => rfl⟩ (Or.inr rfl) ?_; (try simp only [Act.put, List.setIfInBounds_toArray, List.set_cons_zero, List.set_cons_succ])
      refine anyW_take (i := 5) (v := (.agg #[.int .i64 cr, .int .i64 cz])) [11] (some 48) rfl rfl rfl kr9 kr9 kr9 kr9 kr9 (fun _ _ _ h => h) ⟨Or.inl ⟨by rfl, fun w' hw => (by subst hw; go_simp)⟩, fun _ => rfl⟩ (Or.inr rfl) ?_; (try simp only [Act.put, List.setIfInBounds_toArray, List.set_cons_zero, List.set_cons_succ])
      refine anyW_take (i := 6) (v := (.pointer (some ⟨tc, 1, none⟩))) [7, 9, 10, 11] (some 49) rfl rfl rfl kr9 kr9 kr9 kr9 kr9 (fun _ _ _ h => h) ⟨Or.inl ⟨by rfl, fun w' hw => (by subst hw; go_simp)⟩, fun _ => rfl⟩ (Or.inr rfl) ?_; (try simp only [Act.put, List.setIfInBounds_toArray, List.set_cons_zero, List.set_cons_succ])
      refine anyW_take (i := 7) (v := (.slice (some ⟨b1, o1, none⟩) nb qb)) [9, 10, 11] (some 50) rfl rfl rfl kr9 kr9 kr9 kr9 kr9 (fun _ _ _ h => h) ⟨Or.inl ⟨by rfl, fun w' hw => (by subst hw; go_simp)⟩, fun _ => rfl⟩ (Or.inr rfl) ?_; (try simp only [Act.put, List.setIfInBounds_toArray, List.set_cons_zero, List.set_cons_succ])
      refine anyW_take (i := 8) (v := (.int .i64 k)) [9, 10, 11] (some 51) rfl rfl rfl kr9 kr9 kr9 kr9 kr9 (fun _ _ _ h => h) ⟨Or.inl ⟨by rfl, fun w' hw => (by subst hw; go_simp)⟩, fun _ => rfl⟩ (Or.inr rfl) ?_; (try simp only [Act.put, List.setIfInBounds_toArray, List.set_cons_zero, List.set_cons_succ])
      refine anyW_take (i := 9) (v := (.pointer (some ⟨b1, o1 + k, none⟩))) [10, 11] (some 52) rfl rfl rfl kr9 kr9 kr9 kr9 kr9 (fun _ _ _ h => h) ⟨Or.inl ⟨by rfl, fun w' hw => (by subst hw; go_simp)⟩, fun _ => rfl⟩ (Or.inr rfl) ?_; (try simp only [Act.put, List.setIfInBounds_toArray, List.set_cons_zero, List.set_cons_succ])
      refine anyW_take (i := 10) (v := (.int .i64 x)) [11] (some 53) rfl rfl rfl kr9 kr9 kr9 kr9 kr9 (fun _ _ _ h => h) ⟨Or.inl ⟨by rfl, fun w' hw => (by subst hw; go_simp)⟩, fun _ => rfl⟩ (Or.inr rfl) ?_; (try simp only [Act.put, List.setIfInBounds_toArray, List.set_cons_zero, List.set_cons_succ])
      refine anyW_one kr9 rfl (by rfl) (fun K hK' => ?_); have hK := Lib.hid hK'; clear hK'; go_simp
      refine ⟨fun _ => om9, hR.mono ?_⟩
      clear hR hy
      rintro e W3 h3
      obtain ⟨bb, rfl, h4', h5'⟩ := bool_of h3
      have h4 := Lib.hid h4'
      have h5 := Lib.hid h5'
      clear h3 h4' h5'
      refine hK.out _ _ ?_; clear hK K; (try simp only [Act.put, List.setIfInBounds_toArray, List.set_cons_zero, List.set_cons_succ])
      refine anyIn_takeD (i := 12) (v := (.bool (!bb))) (some 55) rfl rfl rfl kr9 kr9 kr9 (fun _ _ _ h => h) ⟨Or.inl ⟨by rfl, fun w => (by go_simp)⟩, fun _ => rfl⟩ ?_; (try simp only [Act.put, List.setIfInBounds_toArray, List.set_cons_zero, List.set_cons_succ]); refine wpAnyIn_done kr9 ?_ _
      gi_wp2
      gi_meet
      exact ⟨bb, rfl, h4, h5⟩
     case rest =>
      obtain ⟨bb, rfl, h4, h5⟩ := hcut
      clear hR hy
      cases bb
      ·have hJ5 := h5.out rfl
       clear h4 h5
       gi_wp2
       refine bodyPost_ret (results_none rfl _ _ _) rfl ?_
       exact ⟨⟨_, rfl⟩, .inr ⟨_, ⟨na + k + 1, by omega, HX.out.symm⟩, hJ5⟩⟩
      ·obtain ⟨hJ3, hk3⟩ := h4.out rfl
       gi_wp2
       go_roundw
       case rel => exact ⟨k + 1, by omega, by go_num, by rw [← Nat.add_assoc, HX.out]; exact hJ3, (hnx.t (KpF.of_below om9 om9 om9 hbW.drew)).t hk3, by have := hk3.1.size; have := hbW.size; have e9 : W1.drew.heap.size = W1.heap.size := rfl; omega⟩
       case measure => simp [intOf]; omega
    ·obtain rfl : nb = k := by omega
     have k2' := hnx.cell (.inr rfl) k2
     clear hlt hk
     gi_wp2
     clear k2'
     gi_loopw [60] (fun i wx => ∃ k : Nat, k ≤ len ∧ i = .int .i64 k ∧ J (S.take (na + (nb + k))) wx ∧ KpF w0.heap.size tm tc W wx ∧ W.heap.size ≤ wx.heap.size) (fun i _ => len - (intOf i).toNat)
     case atStart => exact ⟨0, Nat.zero_le _, rfl, hJs, hnx, hsz⟩
     case round =>
      clear hJs hnx hsz hB0
      obtain ⟨k, hk, rfl, hJs, hnx, hsz⟩ := hrel
      have hB0 := hw0.trans hnx.1
      by_cases hlt : k < len
      ·obtain ⟨hzl, hcl⟩ := HC.out
       obtain ⟨b, o, rfl, hb0, hcl⟩ := hcl om9
       obtain ⟨x, hx⟩ : ∃ x, z3[k]? = some x := ⟨_, List.getElem?_eq_getElem om9⟩
       have x0 : wr.cell? ⟨b, o + k, none⟩ = some (.int .i64 x) := (hB0.cell (p := ⟨b, _, none⟩) hb0).trans (by have h := hcl k x hx 0 _ rfl; simpa using h)
       have y4 := hnx.cell (.inl rfl) m4
       have y5 := hnx.cell (.inl rfl) m5
       have y6 := hnx.cell (.inl rfl) m6
       have y7 := hnx.cell (.inl rfl) m7
       have y8 := hnx.cell (.inl rfl) m8
       have HX := Lib.hid (take_snoc (HS3.out k x hx))
       have HPk := Lib.hid (HP.out k hlt)
       have HYk := Lib.hid (fun W1 (hJ1 : J (S.take (na + (nb + k))) W1) => HYY.out _ ((cellR g (k : Int), cellZ g (k : Int)), x) W1 hJ1 (by rw [List.length_take]; omega))
       clear hcl hx hzl
       generalize cellR g (k : Int) = R at *
       generalize cellZ g (k : Int) = Z at *
       gi_wp2_with (refine ⟨fun _ => om9, ?_⟩; gi_at_call 121; refine (callsIn_wide.2 (HPk.out _)).mono ?_; rintro e w1 ⟨rfl, hb⟩; have hJ1 := HJ.out _ _ _ hJs hb; have hn1 := KpF.of_below (n₀ := w0.heap.size) (tm := tm) (tc := tc) (by have := hB0.size; omega) om9 om9 hb; have hs1 := hb.size; obtain ⟨fn, tmps, assign, body, hy, hR⟩ := HYk.out w1 hJ1; simp only [srcEnc] at hy)
       refine ⟨fun _ => om9, hR.mono ?_⟩
       clear hR hy
       rintro e W3 (⟨rfl, hJ3, hk3⟩ | ⟨rfl, hJx3⟩)
       ·gi_wp2
        go_roundw
        case rel => exact ⟨k + 1, by omega, by go_num, by rw [← Nat.add_assoc nb, ← Nat.add_assoc, HX.out]; exact hJ3, (hnx.t hn1).t hk3, by have := hk3.1.size; omega⟩
        case measure => simp [intOf]; omega
       ·gi_wp2
        refine bodyPost_ret (results_none rfl _ _ _) rfl ?_
        exact ⟨⟨_, rfl⟩, .inr ⟨_, ⟨na + (nb + k) + 1, by omega, HX.out.symm⟩, hJx3⟩⟩
      ·obtain rfl : len = k := by omega
       have hJf := hJs
       rw [← hlen, List.take_length] at hJf
       clear hJs
       gi_wp2
       go_end0
       exact ⟨⟨_, rfl⟩, .inl ⟨_, rfl, hJf⟩⟩
end
section
open Go.RowKit Go.Shelf
attribute [local go_sem] Oper.semAt_some
set_option maxRecDepth 100000 in
set_option maxHeartbeats 16000000 in
theorem fluxAt_any0 (name : ByteArray) (A B Cl D : Option Addr) (la ca lb cb lc cl ld cd : Nat) (g : GridD) (hg : g.Fine) (A1 B1 C : Option Addr) (na qa nb qb len cap : Nat) (cs : List CoilD) (ss : List ShellD) (z1 z2 z3 : List Int) (p0 p1 : Int) (w : World)
  (hA : IsT 8 CoilD.cells w A la cs) (hBb : IsT 4 ShellD.cells w B lb ss) (hA1 : IsT 1 intCells w A1 na z1) (hB1 : IsT 1 intCells w B1 nb z2) (hI : IsT 1 intCells w C len z3) (h1 : z1.length = cs.length) (h2 : z2.length = ss.length) (hl : len ≤ 1000) (kla : la ≤ 1000) (klb : lb ≤ 1000)
  (hmul : ∀ (k : Nat) c x, cs[k]? = some c → z1[k]? = some x → IntKind.i64.wrap (c.turns * x) = c.turns * x) :
  Calls Tryz.prog 55 #[.agg #[.string name, .slice A la ca, .slice B lb cb, .slice Cl lc cl, .int .i64 g.r, .int .i64 g.z, .int .i64 g.nr, .int .i64 g.nz, .int .i64 g.step, .slice D ld cd], .agg #[.slice A1 na qa, .slice B1 nb qb, .slice C len cap], .agg #[.int .i64 p0, .int .i64 p1]] w
   (Ret (.int .i64 (fluxW (p0, p1) 0 (srcL g cs ss z1 z2 z3))) w) := by
 refine (callsIn_wide (n := 8)).1 ?_
 have h87 : Fence.wide.fn 101 := trivial
 have h88 : Fence.wide.fn 96 := trivial
 have hP := fun (pre : List Src) (x : Src) => fluxW_snoc (p0, p1) 0 pre x
 have HP := Lib.hid hP
 clear hP
 refine callsIn_of_wp_marks Tryz.func55 rfl trivial ?_ rfl
 simp only [Tryz.ntmps55, List.size_toArray, List.length_cons, List.length_nil, Nat.reduceAdd, Nat.reduceSub, Array.replicate_succ, Array.replicate_zero, List.push_toArray, List.append_toArray, List.nil_append, List.cons_append]
 gi_wp2_with (gi_at_call 101; refine (sources_in _ _ _ _).mono ?_; rintro e w' ⟨rfl, rfl⟩)
 have hB0 : Below w.heap.size w ((((((w.alloc (.cells #[.string name, .slice A la ca, .slice B lb cb, .slice Cl lc cl, .int .i64 g.r, .int .i64 g.z, .int .i64 g.nr, .int .i64 g.nz, .int .i64 g.step, .slice D ld cd] 29)).alloc (.cells #[.slice A1 na qa, .slice B1 nb qb, .slice C len cap] 32)).alloc (.cells #[.int .i64 p0, .int .i64 p1] 53)).alloc (.cells #[.int .i64 0] 3)).alloc (.cells #[.string name, .slice A la ca, .slice B lb cb, .slice Cl lc cl, .int .i64 g.r, .int .i64 g.z, .int .i64 g.nr, .int .i64 g.nz, .int .i64 g.step, .slice D ld cd] 29)).alloc (.cells #[.slice A1 na qa, .slice B1 nb qb, .slice C len cap] 32)) := by (repeat first | with_reducible exact Below.refl _ _ | (with_reducible refine Below.alloc ?_ ?_ _; rotate_left; exact (by first | omega | (simp; done) | (simp; omega))))
 have hsz : ((((((w.alloc (.cells #[.string name, .slice A la ca, .slice B lb cb, .slice Cl lc cl, .int .i64 g.r, .int .i64 g.z, .int .i64 g.nr, .int .i64 g.nz, .int .i64 g.step, .slice D ld cd] 29)).alloc (.cells #[.slice A1 na qa, .slice B1 nb qb, .slice C len cap] 32)).alloc (.cells #[.int .i64 p0, .int .i64 p1] 53)).alloc (.cells #[.int .i64 0] 3)).alloc (.cells #[.string name, .slice A la ca, .slice B lb cb, .slice Cl lc cl, .int .i64 g.r, .int .i64 g.z, .int .i64 g.nr, .int .i64 g.nz, .int .i64 g.step, .slice D ld cd] 29)).alloc (.cells #[.slice A1 na qa, .slice B1 nb qb, .slice C len cap] 32)).heap.size = w.heap.size + 1 + 1 + 1 + 1 + 1 + 1 := by simp
 have s0 : ((((((w.alloc (.cells #[.string name, .slice A la ca, .slice B lb cb, .slice Cl lc cl, .int .i64 g.r, .int .i64 g.z, .int .i64 g.nr, .int .i64 g.nz, .int .i64 g.step, .slice D ld cd] 29)).alloc (.cells #[.slice A1 na qa, .slice B1 nb qb, .slice C len cap] 32)).alloc (.cells #[.int .i64 p0, .int .i64 p1] 53)).alloc (.cells #[.int .i64 0] 3)).alloc (.cells #[.string name, .slice A la ca, .slice B lb cb, .slice Cl lc cl, .int .i64 g.r, .int .i64 g.z, .int .i64 g.nr, .int .i64 g.nz, .int .i64 g.step, .slice D ld cd] 29)).alloc (.cells #[.slice A1 na qa, .slice B1 nb qb, .slice C len cap] 32)).cell? ⟨w.heap.size + 1 + 1 + 1, 0, none⟩ = some (.int .i64 0) := by go_simp
 have sf : ((((((w.alloc (.cells #[.string name, .slice A la ca, .slice B lb cb, .slice Cl lc cl, .int .i64 g.r, .int .i64 g.z, .int .i64 g.nr, .int .i64 g.nz, .int .i64 g.step, .slice D ld cd] 29)).alloc (.cells #[.slice A1 na qa, .slice B1 nb qb, .slice C len cap] 32)).alloc (.cells #[.int .i64 p0, .int .i64 p1] 53)).alloc (.cells #[.int .i64 0] 3)).alloc (.cells #[.string name, .slice A la ca, .slice B lb cb, .slice Cl lc cl, .int .i64 g.r, .int .i64 g.z, .int .i64 g.nr, .int .i64 g.nz, .int .i64 g.step, .slice D ld cd] 29)).alloc (.cells #[.slice A1 na qa, .slice B1 nb qb, .slice C len cap] 32)).frozen? ⟨w.heap.size + 1 + 1 + 1, 0, none⟩ = false := by go_simp
 have q0 : ((((((w.alloc (.cells #[.string name, .slice A la ca, .slice B lb cb, .slice Cl lc cl, .int .i64 g.r, .int .i64 g.z, .int .i64 g.nr, .int .i64 g.nz, .int .i64 g.step, .slice D ld cd] 29)).alloc (.cells #[.slice A1 na qa, .slice B1 nb qb, .slice C len cap] 32)).alloc (.cells #[.int .i64 p0, .int .i64 p1] 53)).alloc (.cells #[.int .i64 0] 3)).alloc (.cells #[.string name, .slice A la ca, .slice B lb cb, .slice Cl lc cl, .int .i64 g.r, .int .i64 g.z, .int .i64 g.nr, .int .i64 g.nz, .int .i64 g.step, .slice D ld cd] 29)).alloc (.cells #[.slice A1 na qa, .slice B1 nb qb, .slice C len cap] 32)).cell? ⟨w.heap.size + 1 + 1, 0, none⟩ = some (.int .i64 p0) := by go_simp
 have q1 : ((((((w.alloc (.cells #[.string name, .slice A la ca, .slice B lb cb, .slice Cl lc cl, .int .i64 g.r, .int .i64 g.z, .int .i64 g.nr, .int .i64 g.nz, .int .i64 g.step, .slice D ld cd] 29)).alloc (.cells #[.slice A1 na qa, .slice B1 nb qb, .slice C len cap] 32)).alloc (.cells #[.int .i64 p0, .int .i64 p1] 53)).alloc (.cells #[.int .i64 0] 3)).alloc (.cells #[.string name, .slice A la ca, .slice B lb cb, .slice Cl lc cl, .int .i64 g.r, .int .i64 g.z, .int .i64 g.nr, .int .i64 g.nz, .int .i64 g.step, .slice D ld cd] 29)).alloc (.cells #[.slice A1 na qa, .slice B1 nb qb, .slice C len cap] 32)).cell? ⟨w.heap.size + 1 + 1, 1, none⟩ = some (.int .i64 p1) := by go_simp
 have m1 : ((((((w.alloc (.cells #[.string name, .slice A la ca, .slice B lb cb, .slice Cl lc cl, .int .i64 g.r, .int .i64 g.z, .int .i64 g.nr, .int .i64 g.nz, .int .i64 g.step, .slice D ld cd] 29)).alloc (.cells #[.slice A1 na qa, .slice B1 nb qb, .slice C len cap] 32)).alloc (.cells #[.int .i64 p0, .int .i64 p1] 53)).alloc (.cells #[.int .i64 0] 3)).alloc (.cells #[.string name, .slice A la ca, .slice B lb cb, .slice Cl lc cl, .int .i64 g.r, .int .i64 g.z, .int .i64 g.nr, .int .i64 g.nz, .int .i64 g.step, .slice D ld cd] 29)).alloc (.cells #[.slice A1 na qa, .slice B1 nb qb, .slice C len cap] 32)).cell? ⟨w.heap.size + 1 + 1 + 1 + 1, 1, none⟩ = some (.slice A la ca) := by go_simp
 have m2 : ((((((w.alloc (.cells #[.string name, .slice A la ca, .slice B lb cb, .slice Cl lc cl, .int .i64 g.r, .int .i64 g.z, .int .i64 g.nr, .int .i64 g.nz, .int .i64 g.step, .slice D ld cd] 29)).alloc (.cells #[.slice A1 na qa, .slice B1 nb qb, .slice C len cap] 32)).alloc (.cells #[.int .i64 p0, .int .i64 p1] 53)).alloc (.cells #[.int .i64 0] 3)).alloc (.cells #[.string name, .slice A la ca, .slice B lb cb, .slice Cl lc cl, .int .i64 g.r, .int .i64 g.z, .int .i64 g.nr, .int .i64 g.nz, .int .i64 g.step, .slice D ld cd] 29)).alloc (.cells #[.slice A1 na qa, .slice B1 nb qb, .slice C len cap] 32)).cell? ⟨w.heap.size + 1 + 1 + 1 + 1, 2, none⟩ = some (.slice B lb cb) := by go_simp
 have m4 : ((((((w.alloc (.cells #[.string name, .slice A la ca, .slice B lb cb, .slice Cl lc cl, .int .i64 g.r, .int .i64 g.z, .int .i64 g.nr, .int .i64 g.nz, .int .i64 g.step, .slice D ld cd] 29)).alloc (.cells #[.slice A1 na qa, .slice B1 nb qb, .slice C len cap] 32)).alloc (.cells #[.int .i64 p0, .int .i64 p1] 53)).alloc (.cells #[.int .i64 0] 3)).alloc (.cells #[.string name, .slice A la ca, .slice B lb cb, .slice Cl lc cl, .int .i64 g.r, .int .i64 g.z, .int .i64 g.nr, .int .i64 g.nz, .int .i64 g.step, .slice D ld cd] 29)).alloc (.cells #[.slice A1 na qa, .slice B1 nb qb, .slice C len cap] 32)).cell? ⟨w.heap.size + 1 + 1 + 1 + 1, 4, none⟩ = some (.int .i64 g.r) := by go_simp
 have m5 : ((((((w.alloc (.cells #[.string name, .slice A la ca, .slice B lb cb, .slice Cl lc cl, .int .i64 g.r, .int .i64 g.z, .int .i64 g.nr, .int .i64 g.nz, .int .i64 g.step, .slice D ld cd] 29)).alloc (.cells #[.slice A1 na qa, .slice B1 nb qb, .slice C len cap] 32)).alloc (.cells #[.int .i64 p0, .int .i64 p1] 53)).alloc (.cells #[.int .i64 0] 3)).alloc (.cells #[.string name, .slice A la ca, .slice B lb cb, .slice Cl lc cl, .int .i64 g.r, .int .i64 g.z, .int .i64 g.nr, .int .i64 g.nz, .int .i64 g.step, .slice D ld cd] 29)).alloc (.cells #[.slice A1 na qa, .slice B1 nb qb, .slice C len cap] 32)).cell? ⟨w.heap.size + 1 + 1 + 1 + 1, 5, none⟩ = some (.int .i64 g.z) := by go_simp
 have m6 : ((((((w.alloc (.cells #[.string name, .slice A la ca, .slice B lb cb, .slice Cl lc cl, .int .i64 g.r, .int .i64 g.z, .int .i64 g.nr, .int .i64 g.nz, .int .i64 g.step, .slice D ld cd] 29)).alloc (.cells #[.slice A1 na qa, .slice B1 nb qb, .slice C len cap] 32)).alloc (.cells #[.int .i64 p0, .int .i64 p1] 53)).alloc (.cells #[.int .i64 0] 3)).alloc (.cells #[.string name, .slice A la ca, .slice B lb cb, .slice Cl lc cl, .int .i64 g.r, .int .i64 g.z, .int .i64 g.nr, .int .i64 g.nz, .int .i64 g.step, .slice D ld cd] 29)).alloc (.cells #[.slice A1 na qa, .slice B1 nb qb, .slice C len cap] 32)).cell? ⟨w.heap.size + 1 + 1 + 1 + 1, 6, none⟩ = some (.int .i64 g.nr) := by go_simp
 have m7 : ((((((w.alloc (.cells #[.string name, .slice A la ca, .slice B lb cb, .slice Cl lc cl, .int .i64 g.r, .int .i64 g.z, .int .i64 g.nr, .int .i64 g.nz, .int .i64 g.step, .slice D ld cd] 29)).alloc (.cells #[.slice A1 na qa, .slice B1 nb qb, .slice C len cap] 32)).alloc (.cells #[.int .i64 p0, .int .i64 p1] 53)).alloc (.cells #[.int .i64 0] 3)).alloc (.cells #[.string name, .slice A la ca, .slice B lb cb, .slice Cl lc cl, .int .i64 g.r, .int .i64 g.z, .int .i64 g.nr, .int .i64 g.nz, .int .i64 g.step, .slice D ld cd] 29)).alloc (.cells #[.slice A1 na qa, .slice B1 nb qb, .slice C len cap] 32)).cell? ⟨w.heap.size + 1 + 1 + 1 + 1, 7, none⟩ = some (.int .i64 g.nz) := by go_simp
 have m8 : ((((((w.alloc (.cells #[.string name, .slice A la ca, .slice B lb cb, .slice Cl lc cl, .int .i64 g.r, .int .i64 g.z, .int .i64 g.nr, .int .i64 g.nz, .int .i64 g.step, .slice D ld cd] 29)).alloc (.cells #[.slice A1 na qa, .slice B1 nb qb, .slice C len cap] 32)).alloc (.cells #[.int .i64 p0, .int .i64 p1] 53)).alloc (.cells #[.int .i64 0] 3)).alloc (.cells #[.string name, .slice A la ca, .slice B lb cb, .slice Cl lc cl, .int .i64 g.r, .int .i64 g.z, .int .i64 g.nr, .int .i64 g.nz, .int .i64 g.step, .slice D ld cd] 29)).alloc (.cells #[.slice A1 na qa, .slice B1 nb qb, .slice C len cap] 32)).cell? ⟨w.heap.size + 1 + 1 + 1 + 1, 8, none⟩ = some (.int .i64 g.step) := by go_simp
 have k0 : ((((((w.alloc (.cells #[.string name, .slice A la ca, .slice B lb cb, .slice Cl lc cl, .int .i64 g.r, .int .i64 g.z, .int .i64 g.nr, .int .i64 g.nz, .int .i64 g.step, .slice D ld cd] 29)).alloc (.cells #[.slice A1 na qa, .slice B1 nb qb, .slice C len cap] 32)).alloc (.cells #[.int .i64 p0, .int .i64 p1] 53)).alloc (.cells #[.int .i64 0] 3)).alloc (.cells #[.string name, .slice A la ca, .slice B lb cb, .slice Cl lc cl, .int .i64 g.r, .int .i64 g.z, .int .i64 g.nr, .int .i64 g.nz, .int .i64 g.step, .slice D ld cd] 29)).alloc (.cells #[.slice A1 na qa, .slice B1 nb qb, .slice C len cap] 32)).cell? ⟨w.heap.size + 1 + 1 + 1 + 1 + 1, 0, none⟩ = some (.slice A1 na qa) := by go_simp
 have k1 : ((((((w.alloc (.cells #[.string name, .slice A la ca, .slice B lb cb, .slice Cl lc cl, .int .i64 g.r, .int .i64 g.z, .int .i64 g.nr, .int .i64 g.nz, .int .i64 g.step, .slice D ld cd] 29)).alloc (.cells #[.slice A1 na qa, .slice B1 nb qb, .slice C len cap] 32)).alloc (.cells #[.int .i64 p0, .int .i64 p1] 53)).alloc (.cells #[.int .i64 0] 3)).alloc (.cells #[.string name, .slice A la ca, .slice B lb cb, .slice Cl lc cl, .int .i64 g.r, .int .i64 g.z, .int .i64 g.nr, .int .i64 g.nz, .int .i64 g.step, .slice D ld cd] 29)).alloc (.cells #[.slice A1 na qa, .slice B1 nb qb, .slice C len cap] 32)).cell? ⟨w.heap.size + 1 + 1 + 1 + 1 + 1, 1, none⟩ = some (.slice B1 nb qb) := by go_simp
 have k2 : ((((((w.alloc (.cells #[.string name, .slice A la ca, .slice B lb cb, .slice Cl lc cl, .int .i64 g.r, .int .i64 g.z, .int .i64 g.nr, .int .i64 g.nz, .int .i64 g.step, .slice D ld cd] 29)).alloc (.cells #[.slice A1 na qa, .slice B1 nb qb, .slice C len cap] 32)).alloc (.cells #[.int .i64 p0, .int .i64 p1] 53)).alloc (.cells #[.int .i64 0] 3)).alloc (.cells #[.string name, .slice A la ca, .slice B lb cb, .slice Cl lc cl, .int .i64 g.r, .int .i64 g.z, .int .i64 g.nr, .int .i64 g.nz, .int .i64 g.step, .slice D ld cd] 29)).alloc (.cells #[.slice A1 na qa, .slice B1 nb qb, .slice C len cap] 32)).cell? ⟨w.heap.size + 1 + 1 + 1 + 1 + 1, 2, none⟩ = some (.slice C len cap) := by go_simp
 obtain ⟨S, hS⟩ : ∃ S, srcL g cs ss z1 z2 z3 = S := ⟨_, rfl⟩
 rw [hS]
 obtain ⟨W0, hW0⟩ : ∃ W0, ((((((w.alloc (.cells #[.string name, .slice A la ca, .slice B lb cb, .slice Cl lc cl, .int .i64 g.r, .int .i64 g.z, .int .i64 g.nr, .int .i64 g.nz, .int .i64 g.step, .slice D ld cd] 29)).alloc (.cells #[.slice A1 na qa, .slice B1 nb qb, .slice C len cap] 32)).alloc (.cells #[.int .i64 p0, .int .i64 p1] 53)).alloc (.cells #[.int .i64 0] 3)).alloc (.cells #[.string name, .slice A la ca, .slice B lb cb, .slice Cl lc cl, .int .i64 g.r, .int .i64 g.z, .int .i64 g.nr, .int .i64 g.nz, .int .i64 g.step, .slice D ld cd] 29)).alloc (.cells #[.slice A1 na qa, .slice B1 nb qb, .slice C len cap] 32)) = W0 := ⟨_, rfl⟩
 rw [hW0] at hB0 hsz s0 sf q0 q1 m1 m2 m4 m5 m6 m7 m8 k0 k1 k2 ⊢
 clear hW0
 have hseq : SeqStopsK Fence.wide 7 Tryz.prog 149 #[.pointer (some ⟨w.heap.size + 1 + 1 + 1 + 1, 0, none⟩), .pointer (some ⟨w.heap.size + 1 + 1 + 1 + 1 + 1, 0, none⟩)] srcEnc (KpF w.heap.size (w.heap.size + 1 + 1 + 1 + 1) (w.heap.size + 1 + 1 + 1 + 1 + 1)) (fun ys => ys = S) (fun pre => ∃ k, k ≤ S.length ∧ pre = S.take k) S.length W0 := fun l J Jx W hW hJa _ hY h0 =>
  sources1_any 7 om9 l (w.heap.size + 1 + 1 + 1 + 1) (w.heap.size + 1 + 1 + 1 + 1 + 1) la ca lb cb na qa nb qb len cap A B A1 B1 C g hg cs ss z1 z2 z3 S h1 h2 hS.symm hl kla klb hmul J Jx w (fun pre X Y hj hb => hJa pre X Y none hj (grown_of_below hb) (fun r e => by cases e)) hY W hA hBb hA1 hB1 hI (hB0.trans (hW.mono om9))
   (by have := hW.size; omega) (by have := hW.size; omega)
   ((hW.cell (p := ⟨_, _, none⟩) (by dsimp only; omega)).trans m1) ((hW.cell (p := ⟨_, _, none⟩) (by dsimp only; omega)).trans m2) ((hW.cell (p := ⟨_, _, none⟩) (by dsimp only; omega)).trans m4) ((hW.cell (p := ⟨_, _, none⟩) (by dsimp only; omega)).trans m5) ((hW.cell (p := ⟨_, _, none⟩) (by dsimp only; omega)).trans m6) ((hW.cell (p := ⟨_, _, none⟩) (by dsimp only; omega)).trans m7) ((hW.cell (p := ⟨_, _, none⟩) (by dsimp only; omega)).trans m8)
   ((hW.cell (p := ⟨_, _, none⟩) (by dsimp only; omega)).trans k0) ((hW.cell (p := ⟨_, _, none⟩) (by dsimp only; omega)).trans k1) ((hW.cell (p := ⟨_, _, none⟩) (by dsimp only; omega)).trans k2) h0
 clear hmul
 refine wpIn_rangeFunc_ownH rfl om9 (gf := 149) (lb := #[.pointer (some ⟨w.heap.size + 1 + 1 + 1 + 1, 0, none⟩), .pointer (some ⟨w.heap.size + 1 + 1 + 1 + 1 + 1, 0, none⟩)]) rfl trivial (enters_of Tryz.func149 kr9 rfl)
  hseq KpF.t (KpF.b om9 om9 om9) (Below.refl _ _) (fun _ => rfl)
  (fun pre W => ((W.cell? ⟨w.heap.size + 1 + 1 + 1, 0, none⟩ = some (.int .i64 (fluxW (p0, p1) 0 pre)) ∧ W.frozen? ⟨w.heap.size + 1 + 1 + 1, 0, none⟩ = false) ∧ (W.cell? ⟨w.heap.size + 1 + 1, 0, none⟩ = some (.int .i64 p0) ∧ W.cell? ⟨w.heap.size + 1 + 1, 1, none⟩ = some (.int .i64 p1))) ∧ (Below w.heap.size w W ∧ W0.heap.size ≤ W.heap.size))
  (fun _ _ _ => False)
  (OwnFrom.and (OwnFrom.and (Own.from (fun s X Y row hs hg hr => ⟨cell_kept hs.1 hg hr, (frozen_kept hs.1 hg hr).trans hs.2⟩) _) (Own.from (fun s X Y row hs hg hr => ⟨cell_kept hs.1 hg hr, cell_kept hs.2 hg hr⟩) _)) (OwnFrom.and (ownFrom_below (Nat.le_refl _) om9) (fun _ _ _ _ hs hg _ => Nat.le_trans hs hg.size)))
  (fun _ _ _ _ _ hs _ _ => hs)
  ⟨⟨⟨s0, sf⟩, q0, q1⟩, hB0, Nat.le_refl _⟩
  (fun x a' W => ∃ Bx, W0.heap.size ≤ Bx ∧ Bx < W.heap.size ∧ (W.cell? ⟨Bx, 0, none⟩ = some (.int .i64 x.1.1) ∧ W.cell? ⟨Bx, 1, none⟩ = some (.int .i64 x.1.2)) ∧ a' = { tmps := #[.agg #[.string name, .slice A la ca, .slice B lb cb, .slice Cl lc cl, .int .i64 g.r, .int .i64 g.z, .int .i64 g.nr, .int .i64 g.nz, .int .i64 g.step, .slice D ld cd], .agg #[.slice A1 na qa, .slice B1 nb qb, .slice C len cap], .agg #[.int .i64 p0, .int .i64 p1], .pointer (some ⟨w.heap.size, 0, none⟩), .pointer (some ⟨w.heap.size + 1, 0, none⟩), .pointer (some ⟨w.heap.size + 1 + 1, 0, none⟩), .int .i64 0, .pointer (some ⟨w.heap.size + 1 + 1 + 1, 0, none⟩), .pointer (some ⟨Bx, 0, none⟩), .int .i64 x.2, .agg #[.string name, .slice A la ca, .slice B lb cb, .slice Cl lc cl, .int .i64 g.r, .int .i64 g.z, .int .i64 g.nr, .int .i64 g.nz, .int .i64 g.step, .slice D ld cd], .agg #[.slice A1 na qa, .slice B1 nb qb, .slice C len cap], .func (.func 149) #[] #[.pointer (some ⟨w.heap.size + 1 + 1 + 1 + 1, 0, none⟩), .pointer (some ⟨w.heap.size + 1 + 1 + 1 + 1 + 1, 0, none⟩)], .agg #[.int .i64 x.1.1, .int .i64 x.1.2], .int .i64 x.2, undef, undef, undef, undef, undef, undef, undef, undef], defers := [] })
  (fun x a' _ X Y row hs hg hr => by obtain ⟨Bx, h1, h2, h3, h4⟩ := hs; exact ⟨Bx, h1, Nat.lt_of_lt_of_le h2 hg.size, ⟨cell_kept h3.1 hg (fun r e => (hr r e).2), cell_kept h3.2 hg (fun r e => (hr r e).2)⟩, h4⟩)
  ?assign ?body ?done ?stop
 case assign =>
  rintro l pre x W K hI hK
  have hW := hI.2.2
  gi_wp2
  refine hK _ _ ((KeepsOthers.alloc _ _).from _) (KpF.of_below om9 om9 om9 ((Below.refl _ W).alloc (Nat.le_refl _) _)) ⟨⟨⟨?_, ?_⟩, ?_, ?_⟩, hI.2.1.alloc hI.2.1.size _, by simp; omega⟩ ⟨W.heap.size, hW, by simp, ⟨by go_simp, by go_simp⟩, rfl⟩
  ·rw [World.cell?_alloc_old _ _ _ (by dsimp only; omega)]; exact hI.1.1.1
  ·rw [World.frozen?_alloc_old _ _ _ (by dsimp only; omega)]; exact hI.1.1.2
  ·rw [World.cell?_alloc_old _ _ _ (by dsimp only; omega)]; exact hI.1.2.1
  ·rw [World.cell?_alloc_old _ _ _ (by dsimp only; omega)]; exact hI.1.2.2
 case body =>
  rintro l pre x a' W hl' ⟨r, hr⟩ ⟨⟨⟨c0, f0⟩, c1, c2⟩, hB, hW⟩ ⟨Bx, hBx, hBx2, ⟨b0, b1⟩, rfl⟩ hlt
  have hd : 1 ≤ 8 - 1 - 1 := by omega
  have hmx : Tryz.prog.follows .mixedOrders = true := by kernel_rfl
  obtain ⟨⟨xr, xz⟩, xc⟩ := x
  have HX := Lib.hid (HP.out pre ((xr, xz), xc))
  dsimp only at *
  generalize fluxW (p0, p1) 0 pre = sm at *
  gi_wp2
  gi_region_with_o (gi_at_call 96; refine (CallsIn.inRound l (callsIn_wide.2 (influence_any _ _ _ _ _))).mono ?_; rintro e w1 ⟨rfl, hb⟩; have d0 := (hb.cell (p := ⟨w.heap.size + 1 + 1 + 1, 0, none⟩) (by (show _ < W.heap.size; dsimp only; omega))).trans (by exact c0); have g0 := (hb.frozen (p := ⟨w.heap.size + 1 + 1 + 1, 0, none⟩) (by (show _ < W.heap.size; dsimp only; omega))).trans (by exact f0); have d1 := (hb.cell (p := ⟨w.heap.size + 1 + 1, 0, none⟩) (by (show _ < W.heap.size; dsimp only; omega))).trans (by exact c1); have d2 := (hb.cell (p := ⟨w.heap.size + 1 + 1, 1, none⟩) (by (show _ < W.heap.size; dsimp only; omega))).trans (by exact c2); have hs1 := hb.size)
  all_goals gi_wp2
  all_goals (try go_bits)
  all_goals have hb' : Below W.heap.size W w1 := ((Below.refl _ W).drew).trans hb
  all_goals have hs2 := hb'.size
  all_goals exact ⟨(KeepsFrom.of_grownBy (grown_of_below hb') (fun j e => by cases e)).trans ((KeepsOthers.setCell _ _ _).from _), (KpF.of_below om9 om9 om9 hb').t ⟨(Below.refl _ _).setCell (p := ⟨w.heap.size + 1 + 1 + 1, 0, none⟩) (by dsimp only; omega) _, fun b o hbb => World.cell?_setCell_other _ _ _ _ (by intro e; injection e with e1 e2; omega)⟩, ⟨⟨by rw [HX.out]; exact World.cell?_setCell_same' _ _ _ (by rw [d0]; rfl), by rw [World.frozen?_setCell]; exact g0⟩, by rw [World.cell?_setCell_other _ _ _ _ (by intro e; injection e with e1 e2; omega)]; exact d1, by rw [World.cell?_setCell_other _ _ _ _ (by intro e; injection e with e1 e2; omega)]; exact d2⟩, (hB.trans (hb'.mono hB.size)).setCell (p := ⟨w.heap.size + 1 + 1 + 1, 0, none⟩) (by dsimp only; omega) _, by rw [World.size_setCell]; omega⟩
 case done =>
  rintro E ys W hD rfl ⟨⟨⟨c0, _⟩, _⟩, hB, _⟩ hK
  gi_wp2
  refine ⟨by simp, .inl ⟨_, _, rfl, run_takeDeferred hK, ?_⟩⟩
  exact ⟨_, results_tmp rfl _ _ _, (by rw [hS]; rfl), hB.trans (belowK_b (w := w) (Nat.le_refl _) W E _ _ om9 hK rfl rfl)⟩
 case stop =>
  rintro E c pre W _ _ h _
  exact h.elim
end
end Go.Proofs.YthggkidiidnaoaaGreat
