import Derived.Test.YthggkidiidnaoaaGreatDoorMAM
import Derived.Test.YthggkidiidnaoaaGreatDoorMAV
import Derived.Test.YthggkidiidnaoaaGreatDoorMAW
import Derived.Test.YthggkidiidnaoaaGreatDoorMAX
import Derived.Test.YthggkidiidnaoaaGreatDoorMAZ
import Derived.Test.YthggkidiidnaoaaGreatDoorMBA
import Derived.Test.YthggkidiidnaoaaGreatDoorMBB
import Derived.Test.YthggkidiidnaoaaGreatDoorMBK
import Derived.Test.YthggkidiidnaoaaGreatDoorMBO
import Derived.Shelf.SlIterI.Sorted
import Derived.Ground.GgzProg
import Derived.Shelf.Strconv.Itoa0
import Derived.Shelf.Sort.Plain
import Derived.Ground.Names2Prog
import Derived.Shelf.Slices.Clone
import Derived.Ground.SlgnProg
import Derived.Shelf.SlicesE.Clone
import Derived.Test.YthggkidiidnaoaaGreatDoorProg
import Derived.OrdersIn
section
namespace Go.Proofs
open Go.Shelf
def Tryz.laysKeysZ_ren : Go.Shelf.Ren := ⟨fun | 7 => 53 | 10 => 92 | n => n, fun | 23 => 117 | 26 => 3 | 3 => 4 | 28 => 83 | 0 => 0 | 27 => 82 | 33 => 129 | 4 => 4 | n => n, fun | n => n⟩
theorem Tryz.laysKeysZ : Go.Proofs.SlLaysZI.n7 Tryz.prog Tryz.laysKeysZ_ren := {
  mixed := by kernel_rfl
  f7 := ⟨Tryz.f53.name, by decide, Tryz.func53.trans (congrArg some (by kernel_rfl))⟩
  f10 := ⟨Tryz.f92.name, by decide, Tryz.func92.trans (congrArg some (by kernel_rfl))⟩
  t0 := Tryz.underlying0
  a0 := Tryz.isAgg0
  z0 := Tryz.sizeOf0
  v0 := Tryz.zeroValue0
  t4 := Tryz.underlying4
  a4 := Tryz.isAgg4
  z4 := Tryz.sizeOf4
  v4 := Tryz.zeroValue4
  t23 := Tryz.underlying117
  a23 := Tryz.isAgg117
  z23 := Tryz.sizeOf117
  v23 := Tryz.zeroValue117
  t26 := Tryz.underlying3
  a26 := Tryz.isAgg3
  z26 := Tryz.sizeOf3
  v26 := Tryz.zeroValue3
  t27 := Tryz.underlying82
  a27 := Tryz.isAgg82
  z27 := Tryz.sizeOf82
  v27 := Tryz.zeroValue82
  t28 := Tryz.underlying83
  a28 := Tryz.isAgg83
  z28 := Tryz.sizeOf83
  v28 := Tryz.zeroValue83
  t33 := Tryz.underlying129
  a33 := Tryz.isAgg129
  z33 := Tryz.sizeOf129
  v33 := Tryz.zeroValue129 }
def Tryz.laysSortedZ_ren : Go.Shelf.Ren := ⟨fun | 6 => 52 | 8 => 33 | 9 => 50 | 11 => 62 | 13 => 90 | 12 => 89 | 23 => 137 | 24 => 138 | 14 => 128 | 15 => 129 | 16 => 130 | 17 => 131 | 18 => 132 | 19 => 133 | 20 => 134 | 21 => 135 | 22 => 136 | 25 => 158 | 26 => 159 | 27 => 160 | 28 => 161 | 29 => 162 | 30 => 163 | 31 => 172 | n => n, fun | 26 => 3 | 28 => 83 | 24 => 30 | 0 => 0 | 3 => 3 | 37 => 145 | 48 => 58 | 50 => 196 | 4 => 4 | 40 => 190 | 39 => 189 | 45 => 155 | 5 => 5 | 9 => 9 | 51 => 210 | 55 => 214 | 57 => 223 | 58 => 141 | 33 => 129 | n => n, fun | n => n⟩
theorem Tryz.laysSortedZ : Go.Proofs.SlLaysZI.n6 Tryz.prog Tryz.laysSortedZ_ren := {
  mixed := by kernel_rfl
  f6 := ⟨Tryz.f52.name, by decide, Tryz.func52.trans (congrArg some (by kernel_rfl))⟩
  f8 := ⟨Tryz.f33.name, by decide, Tryz.func33.trans (congrArg some (by kernel_rfl))⟩
  f11 := ⟨Tryz.f62.name, by decide, Tryz.func62.trans (congrArg some (by kernel_rfl))⟩
  t0 := Tryz.underlying0
  a0 := Tryz.isAgg0
  z0 := Tryz.sizeOf0
  v0 := Tryz.zeroValue0
  t24 := Tryz.underlying30
  a24 := Tryz.isAgg30
  z24 := Tryz.sizeOf30
  v24 := Tryz.zeroValue30
  t26 := Tryz.underlying3
  a26 := Tryz.isAgg3
  z26 := Tryz.sizeOf3
  v26 := Tryz.zeroValue3
  t28 := Tryz.underlying83
  a28 := Tryz.isAgg83
  z28 := Tryz.sizeOf83
  v28 := Tryz.zeroValue83
  i26 := by kernel_rfl }
end Go.Proofs
end
section
namespace Go.Proofs.YthggkidiidnaoaaGreatDoor
set_option linter.unusedVariables false
set_option linter.unusedSimpArgs false
open Go.RowKit Go.Shelf Go.Maps Go.Sort
open Go.WideElems (Fit rg)
open Go.WideShapes (sorted_perm)
def RN : Value → Option (DataW Unit × List MemPlace) := fun _ => some (.nil, [])
theorem rg_entry (k : Nat) (hk : k ≤ 1000) : rg Tryz.prog 3 RN ⟨.int .i64 (k : Int), .bool true, k⟩ = (Lit.int .i64 (k : Int), .nil) := by
  have hw : (Lit.int .i64 (k : Int)).wf = true := by
    simp only [Lit.wf, IntKind.min, IntKind.max, IntKind.signed, IntKind.bits, Bool.and_eq_true, decide_eq_true_eq, if_true]
    omega
  unfold rg Go.WideElems.rd RN
  rw [keyOf_int_mk Tryz.underlying3 hw]; rfl
theorem rd_entry (k : Nat) (hk : k ≤ 1000) : ∃ y, Go.WideElems.rd Tryz.prog 3 RN ⟨.int .i64 (k : Int), .bool true, k⟩ = some y := by
  have hw : (Lit.int .i64 (k : Int)).wf = true := by
    simp only [Lit.wf, IntKind.min, IntKind.max, IntKind.signed, IntKind.bits, Bool.and_eq_true, decide_eq_true_eq, if_true]
    omega
  unfold Go.WideElems.rd RN
  rw [keyOf_int_mk Tryz.underlying3 hw]; exact ⟨_, rfl⟩
noncomputable def datK (ks : List Nat) : DataW Unit := .map (((entK ks).map (rg Tryz.prog 3 RN)).foldr DataW.insert [])
theorem datK_keys (ks : List Nat) (hk : ∀ k ∈ ks, k ≤ 1000) : (intKeys (datK ks)).Perm (ks.map fun (k : Nat) => (k : Int)) := by
  refine ((sorted_perm ((entK ks).map (rg Tryz.prog 3 RN))).map _).trans (List.Perm.of_eq ?_)
  unfold entK
  rw [List.map_map, List.map_map]
  refine List.map_congr_left fun k hm => ?_
  have := rg_entry k (hk k hm)
  simp only [Function.comp_apply]
  rw [this]; rfl
theorem datK_size (ks : List Nat) : Maps.size (datK ks) = ks.length := by
  show List.length _ = _
  rw [(sorted_perm ((entK ks).map (rg Tryz.prog 3 RN))).length_eq]
  unfold entK; simp
theorem sortsZ (m : Nat) : AnyZI.SortsIn Tryz.prog Tryz.laysSortedZ_ren Fence.wide m :=
  ⟨fun blk off cap ss W hH hblk hsz => callsIn_wide.2 (Tryz.slices_Sort_int blk off cap ss W hH hblk hsz), fun p cap W => callsIn_wide.2 (Tryz.slices_Sort_int_none p cap W)⟩
set_option maxRecDepth 100000 in
theorem sorted_ok : SortedOK := by
  intro bk bm ks c W hcell hbk hmap hbm hsorted hlen hlt hc
  have hk : ∀ k ∈ ks, k ≤ 1000 := fun k hm => by have := hlt k hm; omega
  have hnd : ks.Nodup := hsorted.imp fun h => by omega
  have hown : W.ownsMap Tryz.prog 3 RN bm ks.length (datK ks) := by
    refine ⟨(entK ks).toArray, c, hmap, ⟨by unfold entK maxLen; simp; omega, ⟨fun x hx => ?_, ?_, ?_⟩, fun x hx => ?_⟩, by unfold entK; simp, rfl⟩
    · unfold entK at hx
      obtain ⟨k, hm, rfl⟩ := List.mem_map.1 (by simpa using hx)
      exact hlt k hm
    · unfold entK; simpa [List.map_map, Function.comp_def] using hnd
    · unfold entK
      simp only [List.map_map, Function.comp_def]
      exact List.Pairwise.map _ (fun a b h e => h (by simp at e; omega)) hnd
    · unfold entK at hx
      obtain ⟨k, hm, rfl⟩ := List.mem_map.1 (by simpa using hx)
      exact rd_entry k (hk k hm)
  have hseq := AnyZI.keys_gives (ρ := Tryz.laysKeysZ_ren) { Tryz.laysKeysZ with } Fence.wide 2 trivial rfl (by omega) bk bm ks.length (datK ks) W hbk hcell hown
  have cS := AnyZI.sorted_in Tryz.laysSortedZ Fence.wide 5 trivial trivial trivial trivial rfl (by omega) (sortsZ _) (enters_of Tryz.func50 (by kernel_rfl) rfl) 92 #[.pointer (some ⟨bk, 0, none⟩)] trivial (enters_of Tryz.func92 (by kernel_rfl) rfl) _ _ (by rw [datK_size]; unfold maxLen; omega) (by rw [datK_size]; omega) W hseq
  refine (callsIn_wide.1 cS).mono ?_
  rintro e w' ⟨v, ss, rfl, hS, hrow, -, hb⟩
  have hp : ss.Perm (ks.map fun (k : Nat) => (k : Int)) := hS.trans (datK_keys ks hk)
  have hms : ss.mergeSort (fun x y => decide (x ≤ y)) = ks.map fun (k : Nat) => (k : Int) := by
    rw [mergeSort_of_perm_i hp]
    exact List.mergeSort_of_pairwise (List.Pairwise.map _ (fun a b h => by simp; omega) hsorted)
  rw [hms] at hrow
  have hl : (ks.map fun (k : Nat) => (k : Int)).length = ss.length := by rw [hp.length_eq]
  obtain ⟨A, cap, rfl, hN⟩ := newI_of_row hl hrow
  exact ⟨A, _, cap, rfl, ⟨hN.isT, fun b o e => hN.new _ e, hN.le, by have := hN.cap; unfold maxLen at this; omega⟩, hb⟩
end Go.Proofs.YthggkidiidnaoaaGreatDoor
end
section
namespace Go.Proofs.YthggkidiidnaoaaGreatDoor
set_option linter.unusedVariables false
set_option linter.unusedSimpArgs false
set_option autoImplicit false
open Go.RowKit
theorem Sta.lend2 (n : Nat) (D : List Deferred) (w : World) {b c : Nat} {cs ds : Cont} (hbc : b ≠ c) (h : BoxAt w b cs) (h' : BoxAt w c ds) : Sta ⟨n, D, w, [b, c]⟩ [] [(b, cs), (c, ds)] w := by
  refine ⟨Chg.refl _ _, fun i x e hi => ?_, fun i j x e e' hi hj => ?_, fun lo u hu => (by cases hu)⟩
  · rcases i with _ | _ | i
    · simp at hi; obtain ⟨rfl, rfl⟩ := hi; exact ⟨Or.inr (by simp), h⟩
    · simp at hi; obtain ⟨rfl, rfl⟩ := hi; exact ⟨Or.inr (by simp), h'⟩
    · simp at hi
  · rcases i with _ | _ | i <;> rcases j with _ | _ | j <;> simp at hi hj
    · rfl
    · omega
    · omega
    · rfl
theorem Sta.change2 {E : Cfg} {U : Snaps} {L : Boxes} {w w' : World} {i j b c : Nat} {cs ds cs' ds' : Cont} (h : Sta E U L w) (hi : L[i]? = some (b, cs)) (hj : L[j]? = some (c, ds)) (hij : i ≠ j) (hc : Chg [b, c] w w') (h1 : BoxAt w' b cs') (h2 : BoxAt w' c ds') : Sta E U ((L.set i (b, cs')).set j (c, ds')) w' := by
  have hz := h.chg.size
  have li := (List.getElem?_eq_some_iff.1 hi).1
  have lj := (List.getElem?_eq_some_iff.1 hj).1
  obtain ⟨g1, g2⟩ := h.box i b cs hi
  obtain ⟨k1, k2⟩ := h.box j c ds hj
  have hbc : b ≠ c := fun e => hij (h.apart i j b cs ds hi (e ▸ hj))
  have hget : ∀ m x e, ((L.set i (b, cs')).set j (c, ds'))[m]? = some (x, e) → (m = i ∧ x = b ∧ e = cs') ∨ (m = j ∧ x = c ∧ e = ds') ∨ (m ≠ i ∧ m ≠ j ∧ L[m]? = some (x, e)) := fun m x e hm => by
    by_cases e1 : j = m
    · subst e1
      rw [List.getElem?_set_self (by simpa using lj)] at hm
      cases hm; exact Or.inr (Or.inl ⟨rfl, rfl, rfl⟩)
    · rw [List.getElem?_set_ne e1] at hm
      by_cases e2 : i = m
      · subst e2
        rw [List.getElem?_set_self li] at hm
        cases hm; exact Or.inl ⟨rfl, rfl, rfl⟩
      · rw [List.getElem?_set_ne e2] at hm
        exact Or.inr (Or.inr ⟨fun e => e2 e.symm, fun e => e1 e.symm, hm⟩)
  have hold : ∀ m x e, ((L.set i (b, cs')).set j (c, ds'))[m]? = some (x, e) → ∃ e2, L[m]? = some (x, e2) := fun m x e hm => by
    rcases hget m x e hm with ⟨rfl, rfl, -⟩ | ⟨rfl, rfl, -⟩ | ⟨-, -, h3⟩
    · exact ⟨_, hi⟩
    · exact ⟨_, hj⟩
    · exact ⟨_, h3⟩
  have hne : ∀ m x e, m ≠ i → m ≠ j → L[m]? = some (x, e) → x ≠ b ∧ x ≠ c := fun m x e m1 m2 hm => ⟨fun e9 => m1 (h.apart m i x e cs hm (e9 ▸ hi)), fun e9 => m2 (h.apart m j x e ds hm (e9 ▸ hj))⟩
  refine ⟨⟨hc.os.trans h.chg.os, hc.tape.trans h.chg.tape, hc.output.trans h.chg.output, Nat.le_trans h.chg.size hc.size, fun k hk hl => ?_⟩, fun m x e hm => ?_, fun m m2 x e e' hm hm2 => ?_, fun lo u hu => ?_⟩
  · refine (hc.block k (Nat.lt_of_lt_of_le hk h.chg.size) (fun hm => ?_)).trans (h.chg.block k hk hl)
    rcases List.mem_cons.1 hm with e | e
    · subst e; rcases g1 with g | g
      · omega
      · exact hl g
    · obtain rfl := List.mem_singleton.1 e
      rcases k1 with g | g
      · omega
      · exact hl g
  · rcases hget m x e hm with ⟨rfl, rfl, rfl⟩ | ⟨rfl, rfl, rfl⟩ | ⟨m1, m2, h3⟩
    · exact ⟨g1, h1⟩
    · exact ⟨k1, h2⟩
    · obtain ⟨q1, q2⟩ := h.box m x e h3
      obtain ⟨n1, n2⟩ := hne m x e m1 m2 h3
      exact ⟨q1, q2.same (hc.block x q2.lt (by simp [n1, n2])) hc.size⟩
  · obtain ⟨f1, z1⟩ := hold m x e hm
    obtain ⟨f2, z2⟩ := hold m2 x e' hm2
    exact h.apart m m2 x f1 f2 z1 z2
  · obtain ⟨s0, s1, s2, s3, s4, s5⟩ := h.snap lo u hu
    refine ⟨s0, s1, Nat.le_trans s2 hc.size, fun k l1 l2 => (hc.block k (Nat.lt_of_lt_of_le l2 s2) (fun hm => ?_)).trans (s3 k l1 l2), s4, fun m x e hm => ?_⟩
    · rcases List.mem_cons.1 hm with e | e
      · subst e; rcases s5 i _ cs hi with g | g <;> omega
      · obtain rfl := List.mem_singleton.1 e
        rcases s5 j _ ds hj with g | g <;> omega
    · obtain ⟨f1, z1⟩ := hold m x e hm
      exact s5 m x f1 z1
theorem ac_range2 {P : Program} {e0 : Cfg} {U : Snaps} {l : Slots} {L : Boxes} {Q : Exit → Act → World → Prop} {α β : Type} {g : Operand} {p : Tmp} {assign body : Code} {gf : Nat} {lb : Array Value} {enc : α → Value} {Gd : Nat → α → Prop} {N b c : Nat} (i j : Nat) (Fk : Nat → β → Prop) (K : β → World → Prop) (c1 c2 : β → Cont) (S : Nat → α → Slots) (Lk : β → Boxes) (y0 : β)
    (hg : E l g = some (.func (.func gf) #[] lb)) (eg : ∀ args w, (callFunc gf args).run P w = .ok (.enter gf args) w) (hp : Nat.blt p e0.n = true) (hij : i ≠ j) (hi : ∀ y, (Lk y)[i]? = some (b, c1 y)) (hj : ∀ y, (Lk y)[j]? = some (c, c2 y)) (hL : ∀ y y', Lk y' = ((Lk y).set i (b, c1 y')).set j (c, c2 y')) (hL0 : Lk y0 = L)
    (hF0 : Fk 0 y0) (hK0 : ∀ v, Sta e0 U L v → K y0 v) (hKm : ∀ v y W W', Sta e0 U L v → K y W → Mv v.heap.size [] W W' → K y W')
    (hseq : ∀ v, Sta e0 U L v → IterAll P gf lb enc (fun _ k x _ => Gd k x) [b, c] 0 N v)
    (hassign : ∀ k x lf W (Q' : Exit → Act → World → Prop), k < N → Gd k x → ¬ LetsOut Q' → AQ ⟨e0.n, [], W, []⟩ [] (S k x) [] (Q' .normal) → CI (Fence.wide.inRound lf) P ⟨e0.n, [], W, []⟩ [] ((p, enc x) :: l) [] assign Q')
    (hbody : ∀ k x y lf W (Q' : Exit → Act → World → Prop), k < N → Gd k x → Fk k y → ¬ LetsOut Q' → (∀ c a w, ¬ Q' (.panic c) a w) → Sta e0 U (Lk y) W → K y W → (∀ U9 y', Fk (k + 1) y' → (∀ w9, Sta ⟨e0.n, [], W, [b, c]⟩ U9 [(b, c1 y'), (c, c2 y')] w9 → K y' w9) → AQ ⟨e0.n, [], W, [b, c]⟩ U9 [] [(b, c1 y'), (c, c2 y')] (Q' .normal)) → CI (Fence.wide.inRound lf) P ⟨e0.n, [], W, [b, c]⟩ [] (S k x) [(b, c1 y), (c, c2 y)] body Q')
    (hend : ∀ D u y a, Fk N y → K y u → Sta e0 U (Lk y) u → (∀ lo' u', (lo', u') ∈ U → u'.heap.size ≤ D) → D < u.heap.size → u.heap[D]? = some (.deferred (some [])) → Fr (e0.withD (markD D :: e0.D)) l a → Q .normal a u) :
    AC P e0 U l L (.rangeFunc g #[p] assign body) Q := by
  intro a v hf hs
  refine (wpIn_wide (n := 0)).1 ?_
  have hs0 : Sta e0 U (Lk y0) v := by rw [hL0]; exact hs
  have hv := hs.chg.size
  have hU : ∀ lo u, (lo, u) ∈ U → u.heap.size ≤ v.heap.size := fun lo u hu => (hs.snap lo u hu).2.2.1
  have hlow : ∀ y (m b' : Nat) (e : Cont), (Lk y)[m]? = some (b', e) → b' < v.heap.size := fun y m b' e h => by
    rw [hL y0 y] at h
    have h3 : ∃ e2, (Lk y0)[m]? = some (b', e2) := by
      by_cases e1 : j = m
      · subst e1
        rw [List.getElem?_set_self (by simpa using (List.getElem?_eq_some_iff.1 (hj y0)).1)] at h
        cases h; exact ⟨_, hj y0⟩
      · rw [List.getElem?_set_ne e1] at h
        exact set_box (hi y0) h
    obtain ⟨e2, h2⟩ := h3
    exact (hs0.box m b' e2 h2).2.lt
  have hbv := hlow y0 i b _ (hi y0)
  have hcv := hlow y0 j c _ (hj y0)
  have hbc : b ≠ c := fun e => hij (hs0.apart i j b _ _ (hi y0) (e ▸ hj y0))
  have hmv : ∀ y W1 W2, Sta e0 U (Lk y) W1 → Mv v.heap.size [] W1 W2 → Sta e0 U (Lk y) W2 := fun y W1 W2 h hm => h.mv hm hv hU (fun z hz => by cases hz) (fun m b' e hm' => ⟨by simp, Or.inl (hlow y m b' e hm')⟩)
  refine wpIn_range_all (X := [b, c]) (zl := 0) (N := N) (Good := fun _ k x _ => Gd k x) (enc := enc) (hf.ev hg) eg (hseq v hs) (fun Z k W => Z = [] ∧ v.heap.size ≤ W.heap.size ∧ ∃ y, Fk k y ∧ Sta e0 U (Lk y) W ∧ K y W) ?_ ?_ ?_ ?_ ?_
  · rintro Z k W1 W2 ⟨rfl, h1, y, q1, q2, q3⟩ hm
    exact ⟨rfl, Nat.le_trans h1 hm.size, y, q1, hmv y _ _ q2 hm, hKm v y _ _ hs q3 hm⟩
  · intro Z hZ _
    exact ⟨List.length_eq_zero_iff.1 hZ, Nat.le_refl _, y0, hF0, hs0, hK0 v hs⟩
  · rintro lf Z k x W hl sW ⟨rfl, h1, y, q1, hS, q3⟩ hgd hk
    have hfp : Fr ⟨e0.n, [], W, []⟩ ((p, enc x) :: l) { tmps := a.tmps.setIfInBounds p (enc x), defers := [] } := by
      have := hf.put hp (enc x)
      exact ⟨this.size, rfl, this.slot⟩
    refine ci_go hfp (Sta.start _ _ _) (hassign k x lf W _ hk hgd (by rintro ⟨_, _, h⟩; exact h) ?_)
    intro a1 W1 hf1 hs1
    refine ⟨Chg.of_below _ hs1.below, fun W2 hm2 => ?_⟩
    have hmm := (Mv.of_chg (n0 := v.heap.size) (Chg.of_below [] hs1.below)).trans hm2
    have hS2 := hmv y _ _ hS hmm
    have hK2 := hKm v y _ _ hs q3 hmm
    refine ci_go (hf1.rebase (w1 := W2) (bs' := [b, c])) (Sta.lend2 _ _ _ hbc (hS2.box i b _ (hi y)).2 (hS2.box j c _ (hj y)).2) (hbody k x y lf W2 _ hk hgd q1 ?_ ?_ hS2 hK2 ?_)
    · rintro ⟨_, _, h, -⟩; cases h
    · rintro _ _ _ ⟨h, -⟩; cases h
    · intro U9 y' hF' hK' a3 W3 hf3 hs3
      have hc := hS2.change2 (hi y) (hj y) hij hs3.chg (hs3.box 0 b _ rfl).2 (hs3.box 1 c _ rfl).2
      rw [← hL y y'] at hc
      have s1 := hm2.size
      have s2 := hs1.chg.size
      have s3 := hs3.chg.size
      simp only at s2 s3
      exact ⟨rfl, ⟨rfl, by omega, y', hF', hc, hK' W3 hs3⟩, hs3.chg⟩
  · intro x hx
    rcases List.mem_cons.1 hx with rfl | hx
    · exact hbv
    · rw [List.mem_singleton.1 hx]; exact hcv
  · rintro D Z Wd hD ⟨-, h1, y, q1, hS, q3⟩ hDd
    exact hend D Wd y _ q1 q3 hS (fun lo u hu => Nat.le_trans (hU lo u hu) hD) (Array.getElem?_eq_some_iff.1 hDd).1 hDd ⟨hf.size, by rw [hf.defers], hf.slot⟩
theorem ac_loopD {P : Program} {Q : Exit → Act → World → Prop} {e0 : Cfg} {U : Snaps} {l : Slots} {L : Boxes} {β : Type} {c : Code} (Fc : β → Prop) (D : β → List Deferred) (S : β → Slots) (V : β → Snaps) (M : β → Boxes) (μ : β → Nat) (x0 : β) (h0 : Fc x0) (hD : e0.D = D x0) (hl : AllLook l (S x0)) (hL : ∀ w, Sta e0 U L w → Sta e0 (V x0) (M x0) w)
    (round : ∀ x, Fc x → AC P (e0.withD (D x)) (V x) (S x) (M x) c (Exit.then (fun a w => ∃ y, μ y < μ x ∧ Fc y ∧ Fr (e0.withD (D y)) (S y) a ∧ Sta (e0.withD (D y)) (V y) (M y) w) Q)) : AC P e0 U l L (.loop c) Q :=
  fun a w hf hs => wp_loop_x (fun x a w => Fc x ∧ Fr (e0.withD (D x)) (S x) a ∧ Sta (e0.withD (D x)) (V x) (M x) w) μ x0 ⟨h0, ⟨hf.size, hf.defers.trans hD, (hf.sub hl.sub).slot⟩, (hL w hs).withD _⟩ (fun x a w ⟨hF, hf, hs⟩ => round x hF a w hf hs)
theorem retMS {P : Program} {U : Snaps} {l : Slots} {L : Boxes} {n m : Nat} {w0 : World} {bs Ds : List Nat} {fn : Func} {R : Ending → World → Prop} {rs : List ResultVar} {vs : List Value} {v : Value} (hr : fn.results = rs.toArray) (h : RT P l L rs vs) (hv : Fin1 vs v) (hlo : ∀ D ∈ Ds, w0.heap.size ≤ D) (hcs : L.all (fun p => match p.2 with | .cells (_ :: _) => true | _ => false) = true) (hD : ∀ w, Sta ⟨n, Ds.map markD, w0, bs⟩ U L w → Marks w m Ds)
    (hR : ∀ w w', Sta ⟨n, Ds.map markD, w0, bs⟩ U L w → Mv w0.heap.size [] w w' → Chg Ds w w' → R (.returned v) w') : AQ ⟨n, Ds.map markD, w0, bs⟩ U l L (postM P fn R .ret) := fun a w hf hs => by
  show LeavesInM _ _ _ _ _ _ a.defers _ _
  rw [hf.defers]
  refine leaves_marks Ds m w (hD w hs) hlo (fun w' hm hc => ?_) (fun w' hm hc => hR w w' hs hm hc)
  rw [← hv.eq]
  have hs' := (show Sta _ [] L w from hs.fewer U.length (by simp)).mv (n0 := w0.heap.size) hm (Nat.le_refl _) (fun lo u hu => by cases hu) (fun z hz => by cases hz) (fun i b c hi => ⟨by simp, Or.inr ?_⟩)
  · exact results_eq fn a.tmps rs hr vs w' (h.run hf hs')
  · have h1 := List.all_eq_true.1 hcs (b, c) (List.mem_of_getElem? hi)
    cases c with
    | cells cs =>
      cases cs with
      | nil => cases h1
      | cons x cs => exact cells_of_cell ((hs.box i b _ hi).2.cell _ rfl 0 x rfl).1
    | map es k => cases h1
theorem Sta.snapEmpty {E : Cfg} {U : Snaps} {L : Boxes} {w u : World} {lo : Nat} (h : Sta E U L w) (hu : (lo, u) ∈ U) : Sta E ((u.heap.size, u) :: U) L w := by
  obtain ⟨s0, s1, s2, s3, s4, s5⟩ := h.snap lo u hu
  refine ⟨h.chg, h.box, h.apart, fun lo' u' hu' => ?_⟩
  cases hu' with
  | head => exact ⟨Nat.le_trans s0 s1, Nat.le_refl _, s2, fun k h1 h2 => by omega, s4, fun i b c hi => by omega⟩
  | tail _ h9 => exact h.snap lo' u' h9
theorem Marks.snap {E : Cfg} {U : Snaps} {L : Boxes} {w u : World} {lo : Nat} {Ds : List Nat} (h : Sta E U L w) (hu : (lo, u) ∈ U) (hM : Marks u u.heap.size Ds) (hlo : ∀ D ∈ Ds, lo ≤ D) : Marks w u.heap.size Ds := by
  obtain ⟨-, -, s2, s3, -, -⟩ := h.snap lo u hu
  have key : ∀ (m : Nat) (Ds : List Nat), Marks u m Ds → m ≤ u.heap.size → (∀ D ∈ Ds, lo ≤ D) → Marks w m Ds := by
    intro m Ds hM
    induction hM with
    | nil => intro _ _; exact .nil
    | cons hD h1 h2 ih =>
      intro hm hl
      exact .cons ((s3 _ (hl _ (by simp)) (by omega)).trans hD) h1 (ih (by omega) fun d hd => hl d (by simp [hd]))
  exact key _ _ hM (Nat.le_refl _) hlo
theorem below_marks {Ds : List Nat} {w w9 w8 : World} (h : Below w.heap.size w w9) (hc : Chg Ds w9 w8) (hD : ∀ D ∈ Ds, w.heap.size ≤ D) : Below w.heap.size w w8 :=
  ⟨hc.os.trans h.os, hc.tape.trans h.tape, hc.output.trans h.output, Nat.le_trans h.size hc.size, fun k hk => (hc.block k (Nat.lt_of_lt_of_le hk h.size) (fun e => by have := hD k e; omega)).trans (h.block k hk)⟩
end Go.Proofs.YthggkidiidnaoaaGreatDoor
end
section
namespace Go.Proofs.YthggkidiidnaoaaGreatDoor
set_option linter.unusedVariables false
set_option linter.unusedSimpArgs false
open Go.RowKit
def cntA (M : MachD) (C : CurD) (zs : List SpanD) (i x : Int) : Int := ((agL (clL M (bgL M C) zs i) x).length : Int)
def triA (M : MachD) (C : CurD) (zs : List SpanD) (i : Int) : List Int := begU (clL M (bgL M C) zs i) (clL M (bgL M C) zs i).length
def lyA (M : MachD) (C : CurD) (zs : List SpanD) (s : Bst) : List Int := (lyN (clL M (bgL M C) zs s.2.1) s.2.2).map fun (k : Nat) => (k : Int)
theorem cntA_nn (M : MachD) (C : CurD) (zs : List SpanD) (i x : Int) : 0 ≤ cntA M C zs i x := by unfold cntA; omega
structure AccX where
  (k : Nat) (s : Bst) (A : Option Addr) (n c : Nat) (zs : List Int) (Ds : List Nat) (u : World)
structure AccF (N : Nat) (cnt : Int → Int → Int) (tries : Int → List Int) (ly : Bst → List Int) (lo0 : Nat) (z : AccX) : Prop where
  k : z.k ≤ N
  s : z.s = accU cnt tries z.k
  zs : (z.s.1 < 0 ∧ z.zs = []) ∨ (0 ≤ z.s.1 ∧ z.zs = ly z.s)
  list : IsT 1 intCells z.u z.A z.n z.zs
  new : ∀ b o, z.A = some ⟨b, o, none⟩ → lo0 ≤ b
  le : z.n ≤ z.c ∧ z.c ≤ 9223372036854775807
  marks : Marks z.u z.u.heap.size z.Ds
  mlo : ∀ D ∈ z.Ds, lo0 ≤ D
structure AccG (cnt : Int → Int) (i : Int) (l : List Int) (ly : Bst → List Int) (lo0 : Nat) (s0 : Bst) (k : Nat) (y : AccX) : Prop where
  s : y.s = (l.take k).foldl (accC cnt i) s0
  zs : (y.s.1 < 0 ∧ y.zs = []) ∨ (0 ≤ y.s.1 ∧ y.zs = ly y.s)
  new : ∀ b o, y.A = some ⟨b, o, none⟩ → lo0 ≤ b
  le : y.n ≤ y.c ∧ y.c ≤ 9223372036854775807
theorem AccF.init {N : Nat} {cnt : Int → Int → Int} {tries : Int → List Int} {ly : Bst → List Int} (u : World) : AccF N cnt tries ly u.heap.size ⟨0, (-1, 0, 0), none, 0, 0, [], [], u⟩ :=
  ⟨Nat.zero_le _, rfl, Or.inl ⟨by show (-1 : Int) < 0; omega, rfl⟩, IsT.nil _ _ _ _, fun b o e => (by cases e), ⟨Nat.le_refl _, by simp only; omega⟩, .nil, fun D h => (by cases h)⟩
theorem AccF.start {N : Nat} {cnt : Int → Int → Int} {tries : Int → List Int} {ly : Bst → List Int} {lo0 : Nat} {z : AccX} (h : AccF N cnt tries ly lo0 z) (i : Int) (l : List Int) : AccG (cnt i) i l ly lo0 z.s 0 z :=
  ⟨rfl, h.zs, h.new, h.le⟩
theorem AccG.no {cnt : Int → Int} {i x : Int} {l : List Int} {ly : Bst → List Int} {lo0 k : Nat} {s0 : Bst} {y : AccX} (h : AccG cnt i l ly lo0 s0 k y) (hx : l[k]? = some x) (hc : ¬ y.s.1 < cnt x) : AccG cnt i l ly lo0 s0 (k + 1) y := by
  refine ⟨?_, h.zs, h.new, h.le⟩
  rw [List.take_add_one, hx, Option.toList_some, List.foldl_append, ← h.s]
  show y.s = accC cnt i y.s x
  unfold accC; rw [if_neg hc]
theorem AccG.yes {cnt : Int → Int} {i x : Int} {l : List Int} {ly : Bst → List Int} {lo0 k : Nat} {s0 : Bst} {y y' : AccX} (h : AccG cnt i l ly lo0 s0 k y) (hx : l[k]? = some x) (hc : y.s.1 < cnt x) (h0 : 0 ≤ cnt x) (hs : y'.s = (cnt x, i, x)) (hz : y'.zs = ly y'.s) (hn : ∀ b o, y'.A = some ⟨b, o, none⟩ → lo0 ≤ b) (hl : y'.n ≤ y'.c ∧ y'.c ≤ 9223372036854775807) : AccG cnt i l ly lo0 s0 (k + 1) y' := by
  refine ⟨?_, Or.inr ⟨by rw [hs]; exact h0, hz⟩, hn, hl⟩
  rw [List.take_add_one, hx, Option.toList_some, List.foldl_append, ← h.s, hs]
  show _ = accC cnt i y.s x
  unfold accC; rw [if_pos hc]
theorem AccF.next {N : Nat} {cnt : Int → Int → Int} {tries : Int → List Int} {ly : Bst → List Int} {lo0 D m : Nat} {z y : AccX} {u : World} (h : AccF N cnt tries ly lo0 z) (hk : z.k < N) (hc : ∀ i x, 0 ≤ cnt i x) (hG : AccG (cnt (z.k : Int)) (z.k : Int) (sortI (tries (z.k : Int))) ly lo0 z.s m y) (hm : (tries (z.k : Int)).length ≤ m) (hK : IsT 1 intCells u y.A y.n y.zs)
    (hM : Marks u z.u.heap.size z.Ds) (hD : u.heap[D]? = some (.deferred (some []))) (hlt : D < u.heap.size) (hDz : z.u.heap.size ≤ D) (hlo : lo0 ≤ z.u.heap.size) : AccF N cnt tries ly lo0 ⟨z.k + 1, y.s, y.A, y.n, y.c, y.zs, D :: z.Ds, u⟩ := by
  refine ⟨hk, ?_, hG.zs, hK, hG.new, hG.le, .cons hD hlt (hM.mono hDz), fun d hd => ?_⟩
  · have := hG.s
    rw [List.take_of_length_le (by unfold sortI; rw [List.length_mergeSort]; exact hm), h.s, accU_code cnt tries hc] at this
    exact this
  · rcases List.mem_cons.1 hd with rfl | hd
    · omega
    · exact h.mlo d hd
end Go.Proofs.YthggkidiidnaoaaGreatDoor
end
section
namespace Go.Proofs.YthggkidiidnaoaaGreatDoor
set_option linter.unusedVariables false
set_option linter.unusedSimpArgs false
open Go.RowKit Go.Shelf
end Go.Proofs.YthggkidiidnaoaaGreatDoor
end
section
namespace Go.Proofs.YthggkidiidnaoaaGreatDoor
set_option linter.unusedVariables false
set_option linter.unusedSimpArgs false
open Go.RowKit Go.Shelf
theorem contC_iff {lo hi c : Int} : cont lo hi c = true ↔ vld lo hi = true ∧ lo ≤ c ∧ c ≤ hi := by
  unfold cont
  rw [Bool.and_eq_true, Bool.and_eq_true, decide_eq_true_iff, decide_eq_true_iff]
theorem meet_zeroC {a b c d : Int} (h : (meetL a b c d).2.2 = 0) : vld c d = true ∧ max a c ≤ min b d ∧ (meetL a b c d).1 = max a c ∧ (meetL a b c d).2.1 = min b d := by
  unfold meetL at h ⊢
  by_cases hv : (vld a b && vld c d) = true
  · rw [if_pos hv] at h ⊢
    rw [Bool.and_eq_true] at hv
    by_cases hm : max a c ≤ min b d
    · rw [if_pos hm]
      exact ⟨hv.2, hm, rfl, rfl⟩
    · rw [if_neg hm] at h; simp at h
  · rw [if_neg hv] at h; simp at h
theorem meet_ofC {a b c d : Int} (h1 : vld a b = true) (h2 : vld c d = true) (h3 : max a c ≤ min b d) : meetL a b c d = (max a c, min b d, 0) := by
  unfold meetL
  rw [h1, h2, Bool.and_self, if_pos rfl, if_pos h3]
theorem comm_iff (c : Int) : ∀ (l : List SpanD) (lo hi : Int), vld lo hi = true → (((commGo lo hi l).2.2 = true ∧ (commGo lo hi l).1 ≤ c ∧ c ≤ (commGo lo hi l).2.1) ↔ (lo ≤ c ∧ c ≤ hi ∧ ∀ s ∈ l, cont s.lo s.hi c = true))
  | [], lo, hi, _ => by
    constructor
    · rintro ⟨-, h1, h2⟩
      exact ⟨h1, h2, fun s hs => by cases hs⟩
    · rintro ⟨h1, h2, -⟩
      exact ⟨rfl, h1, h2⟩
  | a :: r, lo, hi, hv => by
    by_cases hm : (meetL lo hi a.lo a.hi).2.2 = 0
    · obtain ⟨a2, a3, a4, a5⟩ := meet_zeroC hm
      have e2 : commGo lo hi (a :: r) = commGo (max lo a.lo) (min hi a.hi) r := by
        show (if (meetL lo hi a.lo a.hi).2.2 = 0 then _ else _) = _
        rw [if_pos hm, a4, a5]
      have hv2 : vld (max lo a.lo) (min hi a.hi) = true := by rw [vld_iff] at hv a2 ⊢; omega
      rw [e2, comm_iff c r _ _ hv2]
      constructor
      · rintro ⟨h1, h2, h3⟩
        refine ⟨by omega, by omega, fun s hs => ?_⟩
        rcases List.mem_cons.1 hs with rfl | hs
        · exact contC_iff.2 ⟨a2, by omega, by omega⟩
        · exact h3 s hs
      · rintro ⟨h1, h2, h3⟩
        have h4 := contC_iff.1 (h3 a (by simp))
        exact ⟨by omega, by omega, fun s hs => h3 s (List.mem_cons_of_mem _ hs)⟩
    · have e2 : commGo lo hi (a :: r) = (0, 0, false) := by
        show (if (meetL lo hi a.lo a.hi).2.2 = 0 then _ else _) = _
        rw [if_neg hm]
      rw [e2]
      constructor
      · rintro ⟨h, -⟩; cases h
      · rintro ⟨h1, h2, h3⟩
        have h4 := contC_iff.1 (h3 a (by simp))
        exact absurd (by rw [meet_ofC hv h4.1 (by omega)]) hm
theorem filter_full (f : Nat → Option Int) : ∀ n, (((List.range n).filterMap f).length = n ↔ ∀ k, k < n → (f k).isSome = true)
  | 0 => by simp
  | n + 1 => by
    have ih := filter_full f n
    have hl := agUp_len f n
    rw [filter_snoc, List.length_append]
    constructor
    · intro h k hk
      cases hf : f n with
      | none => rw [hf] at h; simp at h; omega
      | some x =>
        rw [hf] at h
        have h' : ((List.range n).filterMap f).length = n := by simp at h; omega
        by_cases e : k = n
        · rw [e, hf]; rfl
        · exact ih.1 h' k (by omega)
    · intro h
      have h1 := ih.2 (fun k hk => h k (by omega))
      have h2 := h n (by omega)
      cases hf : f n with
      | none => rw [hf] at h2; cases h2
      | some x => simp [h1]
theorem agL_full (zs : List SpanD) (cur : Int) : (agL zs cur).length = zs.length ↔ ∀ s ∈ zs, cont s.lo s.hi cur = true := by
  unfold agL
  rw [filter_full]
  constructor
  · intro h s hs
    obtain ⟨k, hk⟩ := List.mem_iff_getElem?.1 hs
    have := h k (List.getElem?_eq_some_iff.1 hk).1
    unfold agF at this
    rw [List.getD_eq_getElem?_getD, hk, Option.getD_some] at this
    by_cases hc : cont s.lo s.hi cur = true
    · exact hc
    · rw [if_neg hc] at this; cases this
  · intro h k hk
    have hz : zs[k]? = some zs[k] := List.getElem?_eq_getElem hk
    unfold agF
    rw [List.getD_eq_getElem?_getD, hz, Option.getD_some, if_pos (h _ (List.mem_of_getElem? hz))]
    rfl
end Go.Proofs.YthggkidiidnaoaaGreatDoor
end
section
namespace Go.Proofs.YthggkidiidnaoaaGreatDoor
set_option linter.unusedVariables false
set_option linter.unusedSimpArgs false
open Go.RowKit Go.Shelf
theorem flat_snoc {α : Type} (enc : α → List Value) (l : List α) (x : α) : (l ++ [x]).flatMap enc = l.flatMap enc ++ enc x := by rw [List.flatMap_append]; simp
theorem len_snoc {α : Type} (l : List α) (x : α) : (l ++ [x]).length = l.length + 1 := by rw [List.length_append]; rfl
theorem accU_all (cnt : Int → Int → Int) (tries : Int → List Int) (hc : ∀ i x, 0 ≤ cnt i x) : ∀ k : Nat,
    (∀ i : Nat, i < k → ∀ x ∈ tries (i : Int), cnt (i : Int) x ≤ (accU cnt tries k).1) ∧ (accU cnt tries k = (-1, 0, 0) ∨ ∃ i : Nat, i < k ∧ ∃ x ∈ tries (i : Int), accU cnt tries k = (cnt (i : Int) x, (i : Int), x))
  | 0 => ⟨fun i hi => by omega, Or.inl rfl⟩
  | k + 1 => by
    obtain ⟨ih1, ih2⟩ := accU_all cnt tries hc k
    have h0 : (accU cnt tries k).2.1 = (k : Int) → (accU cnt tries k).1 < 0 := fun e => by
      rcases accU_lt cnt tries hc k with ⟨h, -⟩ | h
      · exact h
      · omega
    have b := accS_all (cnt (k : Int)) (k : Int) (accU cnt tries k) h0 (hc _) [] (tries (k : Int)) _ (Or.inl ⟨fun x hx => (by cases hx), rfl⟩)
    rw [List.nil_append] at b
    change AccR _ _ _ _ (accU cnt tries (k + 1)) at b
    rcases b with ⟨g, e⟩ | ⟨X, hX, e, hlt, hall⟩
    · rw [e]
      refine ⟨fun i hi x hx => ?_, ?_⟩
      · by_cases hik : i = k
        · subst hik; exact g x hx
        · exact ih1 i (by omega) x hx
      · rcases ih2 with h | ⟨i, hi, x, hx, h⟩
        · exact Or.inl h
        · exact Or.inr ⟨i, by omega, x, hx, h⟩
    · rw [e]
      refine ⟨fun i hi x hx => ?_, Or.inr ⟨k, by omega, X, hX, rfl⟩⟩
      by_cases hik : i = k
      · subst hik
        have := hall x hx
        simp only; omega
      · have := ih1 i (by omega) x hx
        simp only; omega
theorem list_best : ∀ (l : List Int) (x : Int), (∃ b ∈ l, b ≤ x) → ∃ y ∈ l, y ≤ x ∧ ∀ b ∈ l, b ≤ x → b ≤ y
  | [], x, ⟨b, hb, _⟩ => by cases hb
  | a :: l, x, h => by
    by_cases h1 : ∃ b ∈ l, b ≤ x
    · obtain ⟨y, hy, h2, h3⟩ := list_best l x h1
      by_cases h4 : a ≤ x ∧ y < a
      · refine ⟨a, by simp, h4.1, fun b hb hbx => ?_⟩
        rcases List.mem_cons.1 hb with rfl | hb
        · exact Int.le_refl _
        · have := h3 b hb hbx; omega
      · refine ⟨y, by simp [hy], h2, fun b hb hbx => ?_⟩
        rcases List.mem_cons.1 hb with rfl | hb
        · omega
        · exact h3 b hb hbx
    · obtain ⟨b, hb, hbx⟩ := h
      rcases List.mem_cons.1 hb with rfl | hb
      · refine ⟨b, by simp, hbx, fun c hc hcx => ?_⟩
        rcases List.mem_cons.1 hc with rfl | hc
        · exact Int.le_refl _
        · exact absurd ⟨c, hc, hcx⟩ h1
      · exact absurd ⟨b, hb, hbx⟩ h1
theorem mem_begU {zs : List SpanD} {x : Int} : x ∈ begU zs zs.length ↔ x = 0 ∨ ∃ s ∈ zs, vld s.lo s.hi = true ∧ s.lo = x := by
  unfold begU
  rw [List.mem_cons, List.mem_filterMap]
  refine or_congr Iff.rfl ⟨?_, ?_⟩
  · rintro ⟨k, hk, h⟩
    unfold begF at h
    have hz := getD_get (d := (⟨0, 0⟩ : SpanD)) (List.mem_range.1 hk)
    by_cases hv : vld (zs.getD k ⟨0, 0⟩).lo (zs.getD k ⟨0, 0⟩).hi = true
    · rw [if_pos hv] at h
      exact ⟨_, List.mem_of_getElem? hz, hv, Option.some.inj h⟩
    · rw [if_neg hv] at h; cases h
  · rintro ⟨s, hs, hv, rfl⟩
    obtain ⟨k, hk⟩ := List.mem_iff_getElem?.1 hs
    have hd : zs.getD k ⟨0, 0⟩ = s := by rw [List.getD_eq_getElem?_getD, hk]; rfl
    exact ⟨k, List.mem_range.2 (List.getElem?_eq_some_iff.1 hk).1, by unfold begF; rw [hd, if_pos hv]⟩
theorem agN_count (zs : List SpanD) (cur : Int) : (agL zs cur).length = (List.range zs.length).countP fun k => cont (zs.getD k ⟨0, 0⟩).lo (zs.getD k ⟨0, 0⟩).hi cur := by
  rw [agL_map, List.length_map, List.countP_eq_length_filter]; rfl
theorem beg_best (zs : List SpanD) (x : Int) (h0 : 0 ≤ x) : ∃ y ∈ begU zs zs.length, y ≤ x ∧ (agL zs x).length ≤ (agL zs y).length := by
  obtain ⟨y, hy, h1, h2⟩ := list_best (begU zs zs.length) x ⟨0, mem_begU.2 (Or.inl rfl), h0⟩
  refine ⟨y, hy, h1, ?_⟩
  rw [agN_count, agN_count]
  refine List.countP_mono_left fun k hk h => ?_
  have hz := getD_get (d := (⟨0, 0⟩ : SpanD)) (List.mem_range.1 hk)
  obtain ⟨q1, q2, q3⟩ := contC_iff.1 h
  exact contC_iff.2 ⟨q1, h2 _ (mem_begU.2 (Or.inr ⟨_, List.mem_of_getElem? hz, q1, rfl⟩)) q2, by omega⟩
theorem clF_bd (M : MachD) (bs : List Int) (zs : List SpanD) (cell : Int) (k : Nat) : 0 ≤ (clF M bs zs cell k).lo ∧ (clF M bs zs cell k).hi ≤ 1000000 := by
  unfold clF allowL possL
  simp only
  split
  · exact ⟨by simp only; omega, by simp only; omega⟩
  · split
    · exact ⟨by simp only; omega, by simp only; omega⟩
    · split
      · exact ⟨by simp only; omega, by simp only; omega⟩
      · exact ⟨by simp only; omega, by simp only; omega⟩
theorem clL_bd {M : MachD} {bs : List Int} {zs : List SpanD} {cell : Int} : ∀ s ∈ clL M bs zs cell, 0 ≤ s.lo ∧ s.hi ≤ 1000000 := fun s hs => by
  unfold clL at hs
  obtain ⟨k, -, rfl⟩ := List.mem_map.1 hs
  exact clF_bd M bs zs cell k
theorem triA_in {M : MachD} {C : CurD} {zs : List SpanD} {i x : Int} (h : x ∈ triA M C zs i) : 0 ≤ x ∧ x ≤ 1000000 := by
  unfold triA at h
  rcases mem_begU.1 h with rfl | ⟨s, hs, hv, rfl⟩
  · omega
  · have := clL_bd s hs
    have := vld_iff.1 hv
    omega
def accL (M : MachD) (C : CurD) (zs : List SpanD) : Bst := accU (cntA M C zs) (triA M C zs) C.plasma.length
theorem accL_in {M : MachD} {C : CurD} {zs : List SpanD} (hc : 0 < C.plasma.length) : ∃ (i : Nat) (x : Int), i < C.plasma.length ∧ 0 ≤ x ∧ x ≤ 1000000 ∧ accL M C zs = (cntA M C zs i x, (i : Int), x) := by
  obtain ⟨h1, h2⟩ := accU_all (cntA M C zs) (triA M C zs) (cntA_nn M C zs) C.plasma.length
  rcases h2 with h | ⟨i, hi, x, hx, h⟩
  · have h3 := h1 0 hc 0 (by unfold triA; exact mem_begU.2 (Or.inl rfl))
    rw [h] at h3
    have := cntA_nn M C zs ((0 : Nat) : Int) 0
    simp only at h3; omega
  · obtain ⟨a, b⟩ := triA_in hx
    exact ⟨i, x, hi, a, b, h⟩
theorem accL_max {M : MachD} {C : CurD} {zs : List SpanD} {i : Nat} (hi : i < C.plasma.length) {x : Int} (h0 : 0 ≤ x) : cntA M C zs (i : Int) x ≤ (accL M C zs).1 := by
  obtain ⟨h1, -⟩ := accU_all (cntA M C zs) (triA M C zs) (cntA_nn M C zs) C.plasma.length
  obtain ⟨y, hy, -, h2⟩ := beg_best (clL M (bgL M C) zs (i : Int)) x h0
  have h3 := h1 i hi y hy
  unfold cntA at h3 ⊢
  exact Int.le_trans (by omega) h3
def accB (M : MachD) (C : CurD) (zs : List SpanD) : Bst := if explB M C zs = true then accL M C zs else (0, 0, 0)
def accZ (M : MachD) (C : CurD) (zs : List SpanD) : List Int := if explB M C zs = true then lyA M C zs (accL M C zs) else []
theorem plasma_pos {M : MachD} {C : CurD} {zs : List SpanD} (he : explB M C zs = true) : 0 < C.plasma.length := by
  have hv := (explB_iff.1 he).1
  have hg := cells_fine (sound_of hv.check).grid
  have := hv.plasma.1
  omega
theorem filt_split (p : Nat → Bool) : ∀ l : List Nat, (l.filter fun k => !p k).length + (l.filter p).length = l.length
  | [] => rfl
  | a :: l => by
    have := filt_split p l
    cases h : p a <;> simp [List.filter_cons, h] <;> omega
theorem lyN_len (zs : List SpanD) (cur : Int) : (lyN zs cur).length + (agL zs cur).length = zs.length := by
  rw [agL_map, List.length_map]
  have := filt_split (fun k => cont (zs.getD k ⟨0, 0⟩).lo (zs.getD k ⟨0, 0⟩).hi cur) (List.range zs.length)
  rw [List.length_range] at this
  exact this
theorem accZ_least {M : MachD} {C : CurD} {zs : List SpanD} {cell cur : Int} (he : explB M C zs = true) (hi : inB C cell cur = true) : (accZ M C zs).length + (agL (clL M (bgL M C) zs cell) cur).length ≤ zs.length := by
  unfold inB at hi
  rw [Bool.and_eq_true] at hi
  have a := wthn_iff.1 hi.1
  have b := wthn_iff.1 hi.2
  obtain ⟨k, rfl⟩ : ∃ k : Nat, cell = k := ⟨cell.toNat, by omega⟩
  obtain ⟨i, x, hi2, x0, x1, e⟩ := accL_in (M := M) (zs := zs) (plasma_pos he)
  have hm := accL_max (M := M) (C := C) (zs := zs) (i := k) (by omega) b.1
  have hl := lyN_len (clL M (bgL M C) zs (i : Int)) x
  rw [clL_len, ← (explB_iff.1 he).2.1] at hl
  unfold accZ lyA
  rw [if_pos he, List.length_map]
  rw [e] at hm ⊢
  unfold cntA at hm
  simp only at hm ⊢
  omega
def bothB (zs : List SpanD) (a b : Nat) : Bool := decide ((meetL (zs.getD a ⟨0, 0⟩).lo (zs.getD a ⟨0, 0⟩).hi (zs.getD b ⟨0, 0⟩).lo (zs.getD b ⟨0, 0⟩).hi).2.2 = 0)
def togU (M : MachD) (C : CurD) (zs : List SpanD) (a b k : Nat) : Bool := (List.range k).any fun i => bothB (clL M (bgL M C) zs (i : Int)) a b
theorem togU_succ (M : MachD) (C : CurD) (zs : List SpanD) (a b k : Nat) : togU M C zs a b (k + 1) = (togU M C zs a b k || bothB (clL M (bgL M C) zs (k : Int)) a b) := by
  unfold togU; rw [List.range_succ, List.any_append]; simp
theorem togU_mono {M : MachD} {C : CurD} {zs : List SpanD} {a b k n : Nat} (h : togU M C zs a b k = true) (hk : k ≤ n) : togU M C zs a b n = true := by
  unfold togU at h ⊢
  obtain ⟨i, hi, hb⟩ := List.any_eq_true.1 h
  exact List.any_eq_true.2 ⟨i, List.mem_range.2 (by have := List.mem_range.1 hi; omega), hb⟩
def pairN (p : Nat × Nat) : List Value := [.int .i64 (p.1 : Int), .int .i64 (p.2 : Int)]
def excR (tog : Nat → Nat → Bool) (a b : Nat) : List (Nat × Nat) := ((List.range b).filter fun j => decide (a < j) && !tog a j).map fun j => (a, j)
def excU (tog : Nat → Nat → Bool) (n a : Nat) : List (Nat × Nat) := (List.range a).flatMap fun i => excR tog i n
theorem excR_start (tog : Nat → Nat → Bool) (a : Nat) : excR tog a (a + 1) = [] := by
  unfold excR
  rw [List.map_eq_nil_iff, List.filter_eq_nil_iff]
  intro j hj
  have := List.mem_range.1 hj
  rw [decide_eq_false (by omega)]; simp
theorem excR_yes {tog : Nat → Nat → Bool} {a b : Nat} (hab : a < b) (h : tog a b = false) : excR tog a (b + 1) = excR tog a b ++ [(a, b)] := by
  unfold excR; rw [List.range_succ, List.filter_append]; simp [hab, h]
theorem excR_no {tog : Nat → Nat → Bool} {a b : Nat} (h : tog a b = true) : excR tog a (b + 1) = excR tog a b := by
  unfold excR; rw [List.range_succ, List.filter_append]; simp [h]
theorem excU_succ (tog : Nat → Nat → Bool) (n a : Nat) : excU tog n (a + 1) = excU tog n a ++ excR tog a n := by
  unfold excU; rw [List.range_succ, List.flatMap_append]; simp
theorem excR_len (tog : Nat → Nat → Bool) (a b : Nat) : (excR tog a b).length ≤ b := by
  unfold excR; rw [List.length_map]
  have := List.length_filter_le (fun j => decide (a < j) && !tog a j) (List.range b)
  rw [List.length_range] at this; exact this
theorem excU_len (tog : Nat → Nat → Bool) (n : Nat) : ∀ a : Nat, (excU tog n a).length ≤ a * n
  | 0 => by simp [excU]
  | a + 1 => by
    have h1 := excU_len tog n a
    have h2 := excR_len tog a n
    rw [excU_succ, List.length_append, Nat.succ_mul]; omega
theorem mem_excU {tog : Nat → Nat → Bool} {n m a b : Nat} (h : (a, b) ∈ excU tog n m) : a < m ∧ a < b ∧ b < n ∧ tog a b = false := by
  unfold excU at h
  obtain ⟨i, hi, h2⟩ := List.mem_flatMap.1 h
  unfold excR at h2
  obtain ⟨j, hj, e⟩ := List.mem_map.1 h2
  cases e
  obtain ⟨h3, h4⟩ := List.mem_filter.1 hj
  rw [Bool.and_eq_true, decide_eq_true_iff] at h4
  exact ⟨List.mem_range.1 hi, h4.1, List.mem_range.1 h3, by simpa using h4.2⟩
def excZ (M : MachD) (C : CurD) (zs : List SpanD) : List (Nat × Nat) := if explB M C zs = true then excU (fun a b => togU M C zs a b C.plasma.length) M.sensors.length M.sensors.length else []
theorem both_of {zs : List SpanD} {cur : Int} {a b : Nat} (ha : cont (zs.getD a ⟨0, 0⟩).lo (zs.getD a ⟨0, 0⟩).hi cur = true) (hb : cont (zs.getD b ⟨0, 0⟩).lo (zs.getD b ⟨0, 0⟩).hi cur = true) : bothB zs a b = true := by
  obtain ⟨a1, a2, a3⟩ := contC_iff.1 ha
  obtain ⟨b1, b2, b3⟩ := contC_iff.1 hb
  unfold bothB
  rw [decide_eq_true_iff, meet_ofC a1 b1 (by omega)]
theorem tog_of {M : MachD} {C : CurD} {zs : List SpanD} {cell cur : Int} {a b : Nat} (hi : inB C cell cur = true) (ha : cont ((clL M (bgL M C) zs cell).getD a ⟨0, 0⟩).lo ((clL M (bgL M C) zs cell).getD a ⟨0, 0⟩).hi cur = true) (hb : cont ((clL M (bgL M C) zs cell).getD b ⟨0, 0⟩).lo ((clL M (bgL M C) zs cell).getD b ⟨0, 0⟩).hi cur = true) : togU M C zs a b C.plasma.length = true := by
  unfold inB at hi
  rw [Bool.and_eq_true] at hi
  have h := wthn_iff.1 hi.1
  obtain ⟨k, rfl⟩ : ∃ k : Nat, cell = k := ⟨cell.toNat, by omega⟩
  unfold togU
  exact List.any_eq_true.2 ⟨k, List.mem_range.2 (by omega), both_of ha hb⟩
end Go.Proofs.YthggkidiidnaoaaGreatDoor
end
section
namespace Go.Proofs.YthggkidiidnaoaaGreatDoor
set_option linter.unusedVariables false
set_option linter.unusedSimpArgs false
set_option autoImplicit false
open Go.RowKit
theorem noDefer_at {ops : Array Oper} (h : noDefer ops.toList = true) {i : Nat} {o : Oper} (hi : ops[i]? = some o) : ∀ c, o.op ≠ .defer c := by
  have hm : o ∈ ops.toList := by
    rw [← Array.getElem?_toList] at hi
    exact List.mem_of_getElem? hi
  have := List.all_eq_true.1 h o hm
  intro c hc
  rw [hc] at this
  exact absurd this (by simp)
theorem opIn_of {F : Fence} (hF : Wide F) {P : Program} {ops : Array Oper} {Q : Exit → Act → World → Prop} (hQ : ¬ LetsOut Q) (hd : noDefer ops.toList = true) {i : Nat} {K K' : Act → World → Prop} {a : Act} {w : World} (hK : ∀ a w, K a w → K' a w) (h : wpOp P ops Q i K a w) : wpOpIn F 0 P ops Q i K' a w := by
  unfold wpOp at h
  unfold wpOpIn
  cases ho : ops[i]? with
  | none => simp only [ho] at h ⊢; exact hK _ _ h
  | some o =>
    simp only [ho] at h ⊢
    have hd1 := noDefer_at hd ho
    split at h
    · rename_i hw
      rw [if_pos hw]
      rcases h with h | h
      · refine ⟨fun f _ => hF.fn f, ?_⟩
        rw [hF.sem _ _ hd1]
        unfold Oper.wp at h
        revert h
        generalize (execOp a.eval o).run P w = r
        intro h
        cases r with
        | ok x w' =>
          cases x <;> simp only [Oper.upon, Oper.uponIn] at h ⊢ <;>
            first
              | exact h.elim
              | exact hK _ _ h
              | exact ⟨fun e => (by rw [hF.depth] at e; cases e), hF.calls (h.mono fun e w'' he => by cases e <;> first | exact hK _ _ he | exact he)⟩
              | exact ⟨fun e => (by rw [hF.depth] at e; cases e), hF.rows (h.mono fun _ _ he => hK _ _ he)⟩
        | halt x w' => cases x <;> simp only [Oper.upon, Oper.uponIn] at h ⊢ <;> first | exact h.elim | exact h
      · exact absurd h.2 hQ
    · rename_i hw
      rw [if_neg hw]
      exact ⟨fun f _ => hF.fn f, hK _ _ h⟩
theorem anyIn_of {F : Fence} (hF : Wide F) {P : Program} {md : Region.Mode} {ops : Array Oper} {Q : Exit → Act → World → Prop} (hQ : ¬ LetsOut Q) (hd : noDefer ops.toList = true) : ∀ (fuel : Nat) (listed : Array Bool) (a : Act) (w : World), wpAny P md ops Q fuel listed a w → wpAnyIn F 0 P md ops Q fuel listed a w
  | 0, _, _, _, h => h
  | fuel + 1, listed, a, w, h => ⟨h.1, fun i hi => opIn_of hF hQ hd (fun a' w' h' => anyIn_of hF hQ hd fuel _ a' w' h') (h.2 i hi)⟩
theorem ci_draw {F : Fence} {P : Program} {e0 : Cfg} {U : Snaps} {l : Slots} {L : Boxes} {Q : Exit → Act → World → Prop} {id : Nat} {os : List Oper} (last : Nat) (hF : Wide F) (hQ : ¬ LetsOut Q) (hd : noDefer os = true) (hm : P.follows .mixedOrders = true) (hok : lastOk os.toArray last = true) (k : AH P os.toArray Q U L last os.toArray.size (Array.replicate os.toArray.size false) e0 U l L) : CI F P e0 U l L (.region id os.toArray true) Q :=
  fun a w hf hs => wpIn_region_any hm (anyIn_of hF hQ hd _ _ _ _ (wpAny_of_G _ _ _ _ (k hok (DrawnTo.start _ _) a _ hf hs.drew)))
end Go.Proofs.YthggkidiidnaoaaGreatDoor
end
