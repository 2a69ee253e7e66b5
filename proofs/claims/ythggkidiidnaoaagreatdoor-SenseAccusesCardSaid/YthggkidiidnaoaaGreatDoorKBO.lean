import Derived.Test.YthggkidiidnaoaaGreatDoorKAR
import Derived.Test.YthggkidiidnaoaaGreatDoorKAZ
import Derived.Test.YthggkidiidnaoaaGreatDoorKBA
import Derived.Test.YthggkidiidnaoaaGreatDoorKBB
import Derived.Test.YthggkidiidnaoaaGreatDoorKBD
import Derived.Test.YthggkidiidnaoaaGreatDoorKBF
import Derived.Test.YthggkidiidnaoaaGreatDoorKBK
import Derived.Test.YthggkidiidnaoaaGreatDoorKBM
import Derived.Test.YthggkidiidnaoaaGreatDoorKBN
import Derived.Shelf.SlIterI.Sorted
import Derived.Ground.GgzProg
import Derived.Shelf.Strconv.Itoa0
import Derived.Shelf.Sort.Plain
import Derived.Ground.Names2Prog
import Derived.Shelf.Slices.Clone
import Derived.Ground.SlgnProg
import Derived.Shelf.SlicesE.Clone
import Derived.Test.YthggkidiidnaoaaGreatDoorProg
import Derived.Test.YthggkidiidnaoaaGreatDoorRows
import Derived.KernelRfl
import Derived.Laws.StructEq
section
namespace Go.Proofs
open Go.Shelf
def Tryz.laysKeysZ_ren : Go.Shelf.Ren := ⟨fun | 7 => 53 | 10 => 92 | n => n, fun | 23 => 117 | 26 => 3 | 3 => 4 | 28 => 83 | 0 => 0 | 27 => 82 | 33 => 129 | 4 => 4 | n => n, fun | n => n⟩
theorem Tryz.laysKeysZ : Go.Proofs.SlLaysZI.n7 Tryz.prog Tryz.laysKeysZ_ren := {
 mixed := by kernel_rfl
 f7 := ⟨Tryz.f53.name, by decide, Tryz.func53.trans (congrArg some (by kernel_rfl))⟩
 f10 := ⟨Tryz.f92.name, by decide, Tryz.func92.trans (congrArg some (by kernel_rfl))⟩
 t0 := Tryz.underlying0
 a0 := Tryz.isAgg0
 z0 := Tryz.sizeOf0
 v0 := Tryz.zeroValue0
 t4 := Tryz.underlying4
 a4 := Tryz.isAgg4
 z4 := Tryz.sizeOf4
 v4 := Tryz.zeroValue4
 t23 := Tryz.underlying117
 a23 := Tryz.isAgg117
 z23 := Tryz.sizeOf117
 v23 := Tryz.zeroValue117
 t26 := Tryz.underlying3
 a26 := Tryz.isAgg3
 z26 := Tryz.sizeOf3
 v26 := Tryz.zeroValue3
 t27 := Tryz.underlying82
 a27 := Tryz.isAgg82
 z27 := Tryz.sizeOf82
 v27 := Tryz.zeroValue82
 t28 := Tryz.underlying83
 a28 := Tryz.isAgg83
 z28 := Tryz.sizeOf83
 v28 := Tryz.zeroValue83
 t33 := Tryz.underlying129
 a33 := Tryz.isAgg129
 z33 := Tryz.sizeOf129
 v33 := Tryz.zeroValue129 }
def Tryz.laysSortedZ_ren : Go.Shelf.Ren := ⟨fun | 6 => 52 | 8 => 33 | 9 => 50 | 11 => 62 | 13 => 90 | 12 => 89 | 23 => 137 | 24 => 138 | 14 => 128 | 15 => 129 | 16 => 130 | 17 => 131 | 18 => 132 | 19 => 133 | 20 => 134 | 21 => 135 | 22 => 136 | 25 => 158 | 26 => 159 | 27 => 160 | 28 => 161 | 29 => 162 | 30 => 163 | 31 => 172 | n => n, fun | 26 => 3 | 28 => 83 | 24 => 30 | 0 => 0 | 3 => 3 | 37 => 145 | 48 => 58 | 50 => 196 | 4 => 4 | 40 => 190 | 39 => 189 | 45 => 155 | 5 => 5 | 9 => 9 | 51 => 210 | 55 => 214 | 57 => 223 | 58 => 141 | 33 => 129 | n => n, fun | n => n⟩
theorem Tryz.laysSortedZ : Go.Proofs.SlLaysZI.n6 Tryz.prog Tryz.laysSortedZ_ren := {
 mixed := by kernel_rfl
 f6 := ⟨Tryz.f52.name, by decide, Tryz.func52.trans (congrArg some (by kernel_rfl))⟩
 f8 := ⟨Tryz.f33.name, by decide, Tryz.func33.trans (congrArg some (by kernel_rfl))⟩
 f11 := ⟨Tryz.f62.name, by decide, Tryz.func62.trans (congrArg some (by kernel_rfl))⟩
 t0 := Tryz.underlying0
 a0 := Tryz.isAgg0
 z0 := Tryz.sizeOf0
 v0 := Tryz.zeroValue0
 t24 := Tryz.underlying30
 a24 := Tryz.isAgg30
 z24 := Tryz.sizeOf30
 v24 := Tryz.zeroValue30
 t26 := Tryz.underlying3
 a26 := Tryz.isAgg3
 z26 := Tryz.sizeOf3
 v26 := Tryz.zeroValue3
 t28 := Tryz.underlying83
 a28 := Tryz.isAgg83
 z28 := Tryz.sizeOf83
 v28 := Tryz.zeroValue83
 i26 := by kernel_rfl }
end Go.Proofs
end
section
namespace Go.Proofs.YthggkidiidnaoaaGreatDoor
set_option linter.unusedVariables false
set_option linter.unusedSimpArgs false
open Go.RowKit Go.Shelf Go.Maps Go.Sort
open Go.WideElems (Fit rg)
open Go.WideShapes (sorted_perm)
def RN : Value → Option (DataW Unit × List MemPlace) := fun _ => some (.nil, [])
theorem rg_entry (k : Nat) (hk : k ≤ 1000) : rg Tryz.prog 3 RN ⟨.int .i64 (k : Int), .bool true, k⟩ = (Lit.int .i64 (k : Int), .nil) := by
 have hw : (Lit.int .i64 (k : Int)).wf = true := by
  simp only [Lit.wf, IntKind.min, IntKind.max, IntKind.signed, IntKind.bits, Bool.and_eq_true, decide_eq_true_eq, if_true]
  omega
 unfold rg Go.WideElems.rd RN
 rw [keyOf_int_mk Tryz.underlying3 hw]; rfl
theorem rd_entry (k : Nat) (hk : k ≤ 1000) : ∃ y, Go.WideElems.rd Tryz.prog 3 RN ⟨.int .i64 (k : Int), .bool true, k⟩ = some y := by
 have hw : (Lit.int .i64 (k : Int)).wf = true := by
  simp only [Lit.wf, IntKind.min, IntKind.max, IntKind.signed, IntKind.bits, Bool.and_eq_true, decide_eq_true_eq, if_true]
  omega
 unfold Go.WideElems.rd RN
 rw [keyOf_int_mk Tryz.underlying3 hw]; exact ⟨_, rfl⟩
noncomputable def datK (ks : List Nat) : DataW Unit := .map (((entK ks).map (rg Tryz.prog 3 RN)).foldr DataW.insert [])
theorem datK_keys (ks : List Nat) (hk : ∀ k ∈ ks, k ≤ 1000) : (intKeys (datK ks)).Perm (ks.map fun (k : Nat) => (k : Int)) := by
 refine ((sorted_perm ((entK ks).map (rg Tryz.prog 3 RN))).map _).trans (List.Perm.of_eq ?_)
 unfold entK
 rw [List.map_map, List.map_map]
 refine List.map_congr_left fun k hm => ?_
 have := rg_entry k (hk k hm)
 simp only [Function.comp_apply]
 rw [this]; rfl
theorem datK_size (ks : List Nat) : Maps.size (datK ks) = ks.length := by
 show List.length _ = _
 rw [(sorted_perm ((entK ks).map (rg Tryz.prog 3 RN))).length_eq]
 unfold entK; simp
theorem sortsZ (m : Nat) : AnyZI.SortsIn Tryz.prog Tryz.laysSortedZ_ren Fence.wide m :=
 ⟨fun blk off cap ss W hH hblk hsz => callsIn_wide.2 (Tryz.slices_Sort_int blk off cap ss W hH hblk hsz), fun p cap W => callsIn_wide.2 (Tryz.slices_Sort_int_none p cap W)⟩
set_option maxRecDepth 100000 in
theorem sorted_ok : SortedOK := by
 intro bk bm ks c W hcell hbk hmap hbm hsorted hlen hlt hc
 have hk : ∀ k ∈ ks, k ≤ 1000 := fun k hm => by have := hlt k hm; omega
 have hnd : ks.Nodup := hsorted.imp fun h => by omega
 have hown : W.ownsMap Tryz.prog 3 RN bm ks.length (datK ks) := by
  refine ⟨(entK ks).toArray, c, hmap, ⟨by unfold entK maxLen; simp; omega, ⟨fun x hx => ?_, ?_, ?_⟩, fun x hx => ?_⟩, by unfold entK; simp, rfl⟩
  ·unfold entK at hx
   obtain ⟨k, hm, rfl⟩ := List.mem_map.1 (by simpa using hx)
   exact hlt k hm
  ·unfold entK; simpa [List.map_map, Function.comp_def] using hnd
  ·unfold entK
   simp only [List.map_map, Function.comp_def]
   exact List.Pairwise.map _ (fun a b h e => h (by simp at e; omega)) hnd
  ·unfold entK at hx
   obtain ⟨k, hm, rfl⟩ := List.mem_map.1 (by simpa using hx)
   exact rd_entry k (hk k hm)
 have hseq := AnyZI.keys_gives (ρ := Tryz.laysKeysZ_ren) { Tryz.laysKeysZ with } Fence.wide 2 trivial rfl (by omega) bk bm ks.length (datK ks) W hbk hcell hown
 have cS := AnyZI.sorted_in Tryz.laysSortedZ Fence.wide 5 trivial trivial trivial trivial rfl (by omega) (sortsZ _) (enters_of Tryz.func50 (by kernel_rfl) rfl) 92 #[.pointer (some ⟨bk, 0, none⟩)] trivial (enters_of Tryz.func92 (by kernel_rfl) rfl) _ _ (by rw [datK_size]; unfold maxLen; omega) (by rw [datK_size]; omega) W hseq
 refine (callsIn_wide.1 cS).mono ?_
 rintro e w' ⟨v, ss, rfl, hS, hrow, -, hb⟩
 have hp : ss.Perm (ks.map fun (k : Nat) => (k : Int)) := hS.trans (datK_keys ks hk)
 have hms : ss.mergeSort (fun x y => decide (x ≤ y)) = ks.map fun (k : Nat) => (k : Int) := by
  rw [mergeSort_of_perm_i hp]
  exact List.mergeSort_of_pairwise (List.Pairwise.map _ (fun a b h => by simp; omega) hsorted)
 rw [hms] at hrow
 have hl : (ks.map fun (k : Nat) => (k : Int)).length = ss.length := by rw [hp.length_eq]
 obtain ⟨A, cap, rfl, hN⟩ := newI_of_row hl hrow
 exact ⟨A, _, cap, rfl, ⟨hN.isT, fun b o e => hN.new _ e, hN.le, by have := hN.cap; unfold maxLen at this; omega⟩, hb⟩
end Go.Proofs.YthggkidiidnaoaaGreatDoor
end
section
namespace Go.Proofs.YthggkidiidnaoaaGreatDoor
set_option linter.unusedVariables false
set_option linter.unusedSimpArgs false
open Go.RowKit
def cntA (M : MachD) (C : CurD) (zs : List SpanD) (i x : Int) : Int := ((agL (clL M (bgL M C) zs i) x).length : Int)
def triA (M : MachD) (C : CurD) (zs : List SpanD) (i : Int) : List Int := begU (clL M (bgL M C) zs i) (clL M (bgL M C) zs i).length
def lyA (M : MachD) (C : CurD) (zs : List SpanD) (s : Bst) : List Int := (lyN (clL M (bgL M C) zs s.2.1) s.2.2).map fun (k : Nat) => (k : Int)
theorem cntA_nn (M : MachD) (C : CurD) (zs : List SpanD) (i x : Int) : 0 ≤ cntA M C zs i x := by unfold cntA; omega
structure AccX where
 (k : Nat) (s : Bst) (A : Option Addr) (n c : Nat) (zs : List Int) (Ds : List Nat) (u : World)
structure AccF (N : Nat) (cnt : Int → Int → Int) (tries : Int → List Int) (ly : Bst → List Int) (lo0 : Nat) (z : AccX) : Prop where
 k : z.k ≤ N
 s : z.s = accU cnt tries z.k
 zs : (z.s.1 < 0 ∧ z.zs = []) ∨ (0 ≤ z.s.1 ∧ z.zs = ly z.s)
 list : IsT 1 intCells z.u z.A z.n z.zs
 new : ∀ b o, z.A = some ⟨b, o, none⟩ → lo0 ≤ b
 le : z.n ≤ z.c ∧ z.c ≤ 9223372036854775807
 marks : Marks z.u z.u.heap.size z.Ds
 mlo : ∀ D ∈ z.Ds, lo0 ≤ D
structure AccG (cnt : Int → Int) (i : Int) (l : List Int) (ly : Bst → List Int) (lo0 : Nat) (s0 : Bst) (k : Nat) (y : AccX) : Prop where
 s : y.s = (l.take k).foldl (accC cnt i) s0
 zs : (y.s.1 < 0 ∧ y.zs = []) ∨ (0 ≤ y.s.1 ∧ y.zs = ly y.s)
 new : ∀ b o, y.A = some ⟨b, o, none⟩ → lo0 ≤ b
 le : y.n ≤ y.c ∧ y.c ≤ 9223372036854775807
theorem AccF.init {N : Nat} {cnt : Int → Int → Int} {tries : Int → List Int} {ly : Bst → List Int} (u : World) : AccF N cnt tries ly u.heap.size ⟨0, (-1, 0, 0), none, 0, 0, [], [], u⟩ :=
 ⟨Nat.zero_le _, rfl, Or.inl ⟨by show (-1 : Int) < 0; omega, rfl⟩, IsT.nil _ _ _ _, fun b o e => (by cases e), ⟨Nat.le_refl _, by simp only; omega⟩, .nil, fun D h => (by cases h)⟩
theorem AccF.start {N : Nat} {cnt : Int → Int → Int} {tries : Int → List Int} {ly : Bst → List Int} {lo0 : Nat} {z : AccX} (h : AccF N cnt tries ly lo0 z) (i : Int) (l : List Int) : AccG (cnt i) i l ly lo0 z.s 0 z :=
 ⟨rfl, h.zs, h.new, h.le⟩
theorem AccG.no {cnt : Int → Int} {i x : Int} {l : List Int} {ly : Bst → List Int} {lo0 k : Nat} {s0 : Bst} {y : AccX} (h : AccG cnt i l ly lo0 s0 k y) (hx : l[k]? = some x) (hc : ¬ y.s.1 < cnt x) : AccG cnt i l ly lo0 s0 (k + 1) y := by
 refine ⟨?_, h.zs, h.new, h.le⟩
 rw [List.take_add_one, hx, Option.toList_some, List.foldl_append, ← h.s]
 show y.s = accC cnt i y.s x
 unfold accC; rw [if_neg hc]
theorem AccG.yes {cnt : Int → Int} {i x : Int} {l : List Int} {ly : Bst → List Int} {lo0 k : Nat} {s0 : Bst} {y y' : AccX} (h : AccG cnt i l ly lo0 s0 k y) (hx : l[k]? = some x) (hc : y.s.1 < cnt x) (h0 : 0 ≤ cnt x) (hs : y'.s = (cnt x, i, x)) (hz : y'.zs = ly y'.s) (hn : ∀ b o, y'.A = some ⟨b, o, none⟩ → lo0 ≤ b) (hl : y'.n ≤ y'.c ∧ y'.c ≤ 9223372036854775807) : AccG cnt i l ly lo0 s0 (k + 1) y' := by
 refine ⟨?_, Or.inr ⟨by rw [hs]; exact h0, hz⟩, hn, hl⟩
 rw [List.take_add_one, hx, Option.toList_some, List.foldl_append, ← h.s, hs]
 show _ = accC cnt i y.s x
 unfold accC; rw [if_pos hc]
theorem AccF.next {N : Nat} {cnt : Int → Int → Int} {tries : Int → List Int} {ly : Bst → List Int} {lo0 D m : Nat} {z y : AccX} {u : World} (h : AccF N cnt tries ly lo0 z) (hk : z.k < N) (hc : ∀ i x, 0 ≤ cnt i x) (hG : AccG (cnt (z.k : Int)) (z.k : Int) (sortI (tries (z.k : Int))) ly lo0 z.s m y) (hm : (tries (z.k : Int)).length ≤ m) (hK : IsT 1 intCells u y.A y.n y.zs)
  (hM : Marks u z.u.heap.size z.Ds) (hD : u.heap[D]? = some (.deferred (some []))) (hlt : D < u.heap.size) (hDz : z.u.heap.size ≤ D) (hlo : lo0 ≤ z.u.heap.size) : AccF N cnt tries ly lo0 ⟨z.k + 1, y.s, y.A, y.n, y.c, y.zs, D :: z.Ds, u⟩ := by
 refine ⟨hk, ?_, hG.zs, hK, hG.new, hG.le, .cons hD hlt (hM.mono hDz), fun d hd => ?_⟩
 ·have := hG.s
  rw [List.take_of_length_le (by unfold sortI; rw [List.length_mergeSort]; exact hm), h.s, accU_code cnt tries hc] at this
  exact this
 ·rcases List.mem_cons.1 hd with rfl | hd
  ·omega
  ·exact h.mlo d hd
end Go.Proofs.YthggkidiidnaoaaGreatDoor
end
section
namespace Go.Proofs.YthggkidiidnaoaaGreatDoor
set_option linter.unusedVariables false
set_option linter.unusedSimpArgs false
open Go.RowKit Go.Shelf
end Go.Proofs.YthggkidiidnaoaaGreatDoor
end
section
namespace Go.Proofs.YthggkidiidnaoaaGreatDoor
set_option linter.unusedVariables false
set_option linter.unusedSimpArgs false
open Go.RowKit Go.Shelf
end Go.Proofs.YthggkidiidnaoaaGreatDoor
end
section
namespace Go.Proofs.YthggkidiidnaoaaGreatDoor
set_option linter.unusedVariables false
set_option linter.unusedSimpArgs false
open Go.RowKit Go.Shelf
theorem flat_snoc {α : Type} (enc : α → List Value) (l : List α) (x : α) : (l ++ [x]).flatMap enc = l.flatMap enc ++ enc x := by rw [List.flatMap_append]; simp
theorem len_snoc {α : Type} (l : List α) (x : α) : (l ++ [x]).length = l.length + 1 := by rw [List.length_append]; rfl
theorem accU_all (cnt : Int → Int → Int) (tries : Int → List Int) (hc : ∀ i x, 0 ≤ cnt i x) : ∀ k : Nat,
  (∀ i : Nat, i < k → ∀ x ∈ tries (i : Int), cnt (i : Int) x ≤ (accU cnt tries k).1) ∧ (accU cnt tries k = (-1, 0, 0) ∨ ∃ i : Nat, i < k ∧ ∃ x ∈ tries (i : Int), accU cnt tries k = (cnt (i : Int) x, (i : Int), x))
 | 0 => ⟨fun i hi => by omega, Or.inl rfl⟩
 | k + 1 => by
  obtain ⟨ih1, ih2⟩ := accU_all cnt tries hc k
  have h0 : (accU cnt tries k).2.1 = (k : Int) → (accU cnt tries k).1 < 0 := fun e => by
   rcases accU_lt cnt tries hc k with ⟨h, -⟩ | h
   ·exact h
   ·omega
  have b := accS_all (cnt (k : Int)) (k : Int) (accU cnt tries k) h0 (hc _) [] (tries (k : Int)) _ (Or.inl ⟨fun x hx => (by cases hx), rfl⟩)
  rw [List.nil_append] at b
  change AccR _ _ _ _ (accU cnt tries (k + 1)) at b
  rcases b with ⟨g, e⟩ | ⟨X, hX, e, hlt, hall⟩
  ·rw [e]
   refine ⟨fun i hi x hx => ?_, ?_⟩
   ·by_cases hik : i = k
    ·subst hik; exact g x hx
    ·exact ih1 i (by omega) x hx
   ·rcases ih2 with h | ⟨i, hi, x, hx, h⟩
    ·exact Or.inl h
    ·exact Or.inr ⟨i, by omega, x, hx, h⟩
  ·rw [e]
   refine ⟨fun i hi x hx => ?_, Or.inr ⟨k, by omega, X, hX, rfl⟩⟩
   by_cases hik : i = k
   ·subst hik
    have := hall x hx
    simp only; omega
   ·have := ih1 i (by omega) x hx
    simp only; omega
theorem mem_begU {zs : List SpanD} {x : Int} : x ∈ begU zs zs.length ↔ x = 0 ∨ ∃ s ∈ zs, vld s.lo s.hi = true ∧ s.lo = x := by
 unfold begU
 rw [List.mem_cons, List.mem_filterMap]
 refine or_congr Iff.rfl ⟨?_, ?_⟩
 ·rintro ⟨k, hk, h⟩
  unfold begF at h
  have hz := getD_get (d := (⟨0, 0⟩ : SpanD)) (List.mem_range.1 hk)
  by_cases hv : vld (zs.getD k ⟨0, 0⟩).lo (zs.getD k ⟨0, 0⟩).hi = true
  ·rw [if_pos hv] at h
   exact ⟨_, List.mem_of_getElem? hz, hv, Option.some.inj h⟩
  ·rw [if_neg hv] at h; cases h
 ·rintro ⟨s, hs, hv, rfl⟩
  obtain ⟨k, hk⟩ := List.mem_iff_getElem?.1 hs
  have hd : zs.getD k ⟨0, 0⟩ = s := by rw [List.getD_eq_getElem?_getD, hk]; rfl
  exact ⟨k, List.mem_range.2 (List.getElem?_eq_some_iff.1 hk).1, by unfold begF; rw [hd, if_pos hv]⟩
theorem clF_bd (M : MachD) (bs : List Int) (zs : List SpanD) (cell : Int) (k : Nat) : 0 ≤ (clF M bs zs cell k).lo ∧ (clF M bs zs cell k).hi ≤ 1000000 := by
 unfold clF allowL possL
 simp only
 split
 ·exact ⟨by simp only; omega, by simp only; omega⟩
 ·split
  ·exact ⟨by simp only; omega, by simp only; omega⟩
  ·split
   ·exact ⟨by simp only; omega, by simp only; omega⟩
   ·exact ⟨by simp only; omega, by simp only; omega⟩
theorem clL_bd {M : MachD} {bs : List Int} {zs : List SpanD} {cell : Int} : ∀ s ∈ clL M bs zs cell, 0 ≤ s.lo ∧ s.hi ≤ 1000000 := fun s hs => by
 unfold clL at hs
 obtain ⟨k, -, rfl⟩ := List.mem_map.1 hs
 exact clF_bd M bs zs cell k
theorem triA_in {M : MachD} {C : CurD} {zs : List SpanD} {i x : Int} (h : x ∈ triA M C zs i) : 0 ≤ x ∧ x ≤ 1000000 := by
 unfold triA at h
 rcases mem_begU.1 h with rfl | ⟨s, hs, hv, rfl⟩
 ·omega
 ·have := clL_bd s hs
  have := vld_iff.1 hv
  omega
def accL (M : MachD) (C : CurD) (zs : List SpanD) : Bst := accU (cntA M C zs) (triA M C zs) C.plasma.length
theorem accL_in {M : MachD} {C : CurD} {zs : List SpanD} (hc : 0 < C.plasma.length) : ∃ (i : Nat) (x : Int), i < C.plasma.length ∧ 0 ≤ x ∧ x ≤ 1000000 ∧ accL M C zs = (cntA M C zs i x, (i : Int), x) := by
 obtain ⟨h1, h2⟩ := accU_all (cntA M C zs) (triA M C zs) (cntA_nn M C zs) C.plasma.length
 rcases h2 with h | ⟨i, hi, x, hx, h⟩
 ·have h3 := h1 0 hc 0 (by unfold triA; exact mem_begU.2 (Or.inl rfl))
  rw [h] at h3
  have := cntA_nn M C zs ((0 : Nat) : Int) 0
  simp only at h3; omega
 ·obtain ⟨a, b⟩ := triA_in hx
  exact ⟨i, x, hi, a, b, h⟩
def accB (M : MachD) (C : CurD) (zs : List SpanD) : Bst := if explB M C zs = true then accL M C zs else (0, 0, 0)
def accZ (M : MachD) (C : CurD) (zs : List SpanD) : List Int := if explB M C zs = true then lyA M C zs (accL M C zs) else []
theorem plasma_pos {M : MachD} {C : CurD} {zs : List SpanD} (he : explB M C zs = true) : 0 < C.plasma.length := by
 have hv := (explB_iff.1 he).1
 have hg := cells_fine (sound_of hv.check).grid
 have := hv.plasma.1
 omega
theorem filt_split (p : Nat → Bool) : ∀ l : List Nat, (l.filter fun k => !p k).length + (l.filter p).length = l.length
 | [] => rfl
 | a :: l => by
  have := filt_split p l
  cases h : p a <;> simp [List.filter_cons, h] <;> omega
theorem lyN_len (zs : List SpanD) (cur : Int) : (lyN zs cur).length + (agL zs cur).length = zs.length := by
 rw [agL_map, List.length_map]
 have := filt_split (fun k => cont (zs.getD k ⟨0, 0⟩).lo (zs.getD k ⟨0, 0⟩).hi cur) (List.range zs.length)
 rw [List.length_range] at this
 exact this
theorem lyN_len_le (zs : List SpanD) (cur : Int) : (lyN zs cur).length ≤ zs.length := by have := lyN_len zs cur; omega
theorem accZ_len (M : MachD) (C : CurD) (zs : List SpanD) : (accZ M C zs).length ≤ M.sensors.length := by
 unfold accZ lyA
 split
 ·rw [List.length_map]; have := lyN_len_le (clL M (bgL M C) zs (accL M C zs).2.1) (accL M C zs).2.2; rw [clL_len] at this; exact this
 ·simp
def lyU (zs : List SpanD) (cur : Int) (k : Nat) : List Nat := (List.range k).filter fun k => !(cont (zs.getD k ⟨0, 0⟩).lo (zs.getD k ⟨0, 0⟩).hi cur)
theorem lyU_len (zs : List SpanD) (cur : Int) (k : Nat) : (lyU zs cur k).length ≤ k := by
 have := List.length_filter_le (fun k => !(cont (zs.getD k ⟨0, 0⟩).lo (zs.getD k ⟨0, 0⟩).hi cur)) (List.range k)
 rw [List.length_range] at this; exact this
theorem lyU_yes {zs : List SpanD} {cur : Int} {k : Nat} (h : cont (zs.getD k ⟨0, 0⟩).lo (zs.getD k ⟨0, 0⟩).hi cur = false) : lyU zs cur (k + 1) = lyU zs cur k ++ [k] := by
 unfold lyU; rw [List.range_succ, List.filter_append, List.filter_cons, List.filter_nil, h]; rfl
theorem lyU_no {zs : List SpanD} {cur : Int} {k : Nat} (h : cont (zs.getD k ⟨0, 0⟩).lo (zs.getD k ⟨0, 0⟩).hi cur = true) : lyU zs cur (k + 1) = lyU zs cur k := by
 unfold lyU; rw [List.range_succ, List.filter_append, List.filter_cons, List.filter_nil, h]; exact List.append_nil _
theorem agL_drop (zs : List SpanD) (cur : Int) (k : Nat) (hk : k < zs.length) : (cont (zs.getD k ⟨0, 0⟩).lo (zs.getD k ⟨0, 0⟩).hi cur = true → (agL zs cur)[agC zs cur k]? = some (k : Int) ∧ agC zs cur (k + 1) = agC zs cur k + 1) ∧ (cont (zs.getD k ⟨0, 0⟩).lo (zs.getD k ⟨0, 0⟩).hi cur = false → agC zs cur (k + 1) = agC zs cur k ∧ ∀ x, (agL zs cur)[agC zs cur k]? = some x → x ≠ (k : Int)) := by
 refine ⟨fun h => ?_, fun h => ?_⟩
 ·have hf : agF zs cur k = some (k : Int) := by unfold agF; rw [if_pos h]
  exact ⟨agL_at hk hf, agC_yes hf⟩
 ·have hf : agF zs cur k = none := by unfold agF; rw [if_neg (by rw [h]; decide)]
  refine ⟨agC_no hf, fun x hx e => ?_⟩
  subst e
  have := List.mem_of_getElem? hx
  unfold agL at this
  obtain ⟨j, -, hj⟩ := List.mem_filterMap.1 this
  unfold agF at hj
  by_cases hc : cont (zs.getD j ⟨0, 0⟩).lo (zs.getD j ⟨0, 0⟩).hi cur = true
  ·rw [if_pos hc] at hj
   have : j = k := by have := Option.some.inj hj; omega
   subst this; rw [h] at hc; cases hc
  ·rw [if_neg hc] at hj; cases hj
def bothB (zs : List SpanD) (a b : Nat) : Bool := decide ((meetL (zs.getD a ⟨0, 0⟩).lo (zs.getD a ⟨0, 0⟩).hi (zs.getD b ⟨0, 0⟩).lo (zs.getD b ⟨0, 0⟩).hi).2.2 = 0)
def togU (M : MachD) (C : CurD) (zs : List SpanD) (a b k : Nat) : Bool := (List.range k).any fun i => bothB (clL M (bgL M C) zs (i : Int)) a b
theorem togU_succ (M : MachD) (C : CurD) (zs : List SpanD) (a b k : Nat) : togU M C zs a b (k + 1) = (togU M C zs a b k || bothB (clL M (bgL M C) zs (k : Int)) a b) := by
 unfold togU; rw [List.range_succ, List.any_append]; simp
theorem togU_mono {M : MachD} {C : CurD} {zs : List SpanD} {a b k n : Nat} (h : togU M C zs a b k = true) (hk : k ≤ n) : togU M C zs a b n = true := by
 unfold togU at h ⊢
 obtain ⟨i, hi, hb⟩ := List.any_eq_true.1 h
 exact List.any_eq_true.2 ⟨i, List.mem_range.2 (by have := List.mem_range.1 hi; omega), hb⟩
def pairN (p : Nat × Nat) : List Value := [.int .i64 (p.1 : Int), .int .i64 (p.2 : Int)]
def excR (tog : Nat → Nat → Bool) (a b : Nat) : List (Nat × Nat) := ((List.range b).filter fun j => decide (a < j) && !tog a j).map fun j => (a, j)
def excU (tog : Nat → Nat → Bool) (n a : Nat) : List (Nat × Nat) := (List.range a).flatMap fun i => excR tog i n
theorem excR_start (tog : Nat → Nat → Bool) (a : Nat) : excR tog a (a + 1) = [] := by
 unfold excR
 rw [List.map_eq_nil_iff, List.filter_eq_nil_iff]
 intro j hj
 have := List.mem_range.1 hj
 rw [decide_eq_false (by omega)]; simp
theorem excR_yes {tog : Nat → Nat → Bool} {a b : Nat} (hab : a < b) (h : tog a b = false) : excR tog a (b + 1) = excR tog a b ++ [(a, b)] := by
 unfold excR; rw [List.range_succ, List.filter_append]; simp [hab, h]
theorem excR_no {tog : Nat → Nat → Bool} {a b : Nat} (h : tog a b = true) : excR tog a (b + 1) = excR tog a b := by
 unfold excR; rw [List.range_succ, List.filter_append]; simp [h]
theorem excU_succ (tog : Nat → Nat → Bool) (n a : Nat) : excU tog n (a + 1) = excU tog n a ++ excR tog a n := by
 unfold excU; rw [List.range_succ, List.flatMap_append]; simp
theorem excR_len (tog : Nat → Nat → Bool) (a b : Nat) : (excR tog a b).length ≤ b := by
 unfold excR; rw [List.length_map]
 have := List.length_filter_le (fun j => decide (a < j) && !tog a j) (List.range b)
 rw [List.length_range] at this; exact this
theorem excU_len (tog : Nat → Nat → Bool) (n : Nat) : ∀ a : Nat, (excU tog n a).length ≤ a * n
 | 0 => by simp [excU]
 | a + 1 => by
  have h1 := excU_len tog n a
  have h2 := excR_len tog a n
  rw [excU_succ, List.length_append, Nat.succ_mul]; omega
def excZ (M : MachD) (C : CurD) (zs : List SpanD) : List (Nat × Nat) := if explB M C zs = true then excU (fun a b => togU M C zs a b C.plasma.length) M.sensors.length M.sensors.length else []
theorem excZ_len {M : MachD} {C : CurD} {zs : List SpanD} (hn : M.sensors.length ≤ 60) : (excZ M C zs).length ≤ 3600 := by
 unfold excZ
 split
 ·have h := excU_len (fun a b => togU M C zs a b C.plasma.length) M.sensors.length M.sensors.length
  have := Nat.mul_le_mul hn hn
  omega
 ·simp
end Go.Proofs.YthggkidiidnaoaaGreatDoor
end
section
namespace Go.Proofs.YthggkidiidnaoaaGreatDoor
set_option linter.unusedVariables false
set_option linter.unusedSimpArgs false
open Go.RowKit
def OutB (w : World) (E : Int) (s : Bst) (zs : List Int) (e : Ending) (w' : World) : Prop := ∃ A n c, e = .returned (.tuple #[.agg #[.int .i64 s.2.1, .int .i64 s.2.2, .slice A n c], .int .i64 E]) ∧ NewT 1 intCells w.heap.size w' A n c zs ∧ Below w.heap.size w w'
theorem OutB.nil {w w' : World} {E : Int} (hb : Below w.heap.size w w') : OutB w E (0, 0, 0) [] (.returned (.tuple #[.agg #[.int .i64 0, .int .i64 0, .slice none 0 0], .int .i64 E])) w' :=
 ⟨none, 0, 0, rfl, ⟨IsT.nil _ _ _ _, fun b o e => (by cases e), Nat.le_refl _, by omega⟩, hb⟩
theorem Sta.ne {E : Cfg} {U : Snaps} {L : Boxes} {w : World} {i j b c : Nat} {cs ds : Cont} (h : Sta E U L w) (hi : L[i]? = some (b, cs)) (hj : L[j]? = some (c, ds)) (hij : i ≠ j) : b ≠ c := fun e => hij (h.apart i j b cs ds hi (e ▸ hj))
theorem low_of {L : Boxes} {n : Nat} (h : ∀ p ∈ L, p.1 < n) (i b : Nat) (c : Cont) (hi : L[i]? = some (b, c)) : b < n := h _ (List.mem_of_getElem? hi)
theorem acc_end {M : MachD} {C : CurD} {zs : List SpanD} {N lo0 : Nat} {z : AccX} (he : explB M C zs = true) (hF : AccF N (cntA M C zs) (triA M C zs) (lyA M C zs) lo0 z) (hk : z.k = C.plasma.length) : z.s = accB M C zs ∧ z.zs = accZ M C zs := by
 have hS : z.s = accL M C zs := by rw [hF.s, hk]; rfl
 refine ⟨by unfold accB; rw [if_pos he, hS], ?_⟩
 obtain ⟨i, x, -, -, -, e⟩ := accL_in (M := M) (C := C) (zs := zs) (plasma_pos he)
 have h0 := cntA_nn M C zs i x
 unfold accZ
 rw [if_pos he, ← hS]
 rcases hF.zs with ⟨h, -⟩ | ⟨-, h⟩
 ·rw [hS, e] at h; simp only at h; omega
 ·exact h
theorem cah_bl_apiBlame_ : ∀ w, (Instr.build 39 #[]).run Tryz.prog w = .ok (.agg #[(.int .i64 0), (.int .i64 0), (.slice none 0 0)]) w := by
 intro w; simp [Instr.build, Instr.fill, cells_agg, Tryz.runUnderlying39, Tryz.zeroValue39, Tryz.sizeOf3, Tryz.sizeOf30]
theorem cah_bl_apiBlame_0_1_2 (a0 a1 a2 : Value) (ha0 : a0.oneCell' = true) (ha1 : a1.oneCell' = true) (ha2 : a2.oneCell' = true) : ∀ w, (Instr.build 39 #[(0, a0), (1, a1), (2, a2)]).run Tryz.prog w = .ok (.agg #[a0, a1, a2]) w := by
 have ea0 : a0.cells = #[a0] := cells_one ha0
 have ea1 : a1.cells = #[a1] := cells_one ha1
 have ea2 : a2.cells = #[a2] := cells_one ha2
 intro w; simp [Instr.build, Instr.fill, cells_agg, Tryz.runUnderlying39, Tryz.zeroValue39, Tryz.sizeOf3, Tryz.sizeOf30, ea0, ea1, ea2]
set_option maxRecDepth 100000 in
theorem caccuse9_any (R : MachR) (M : MachD) (Q : CurR) (C : CurD) (F : Option Addr) (nf cf : Nat) (zs : List SpanD) (w : World) (hM : IsM w R M) (hC : IsC w Q C) (hF : IsT 2 SpanD.cells w F nf zs) (hn : nf ≤ 1000000000000000) : Calls Tryz.prog 8 #[(.agg (machCells R M)), Q.v, (.slice F nf cf)] w (OutB w (candE M C zs) (accB M C zs) (accZ M C zs)) := by
 refine calls_axM (vs := [(.agg (machCells R M)), Q.v, (.slice F nf cf)]) Tryz.func8 rfl rfl ?_
 refine ac_seq (ac_region ?_)
 refine al_new (fun b => .pointer (some ⟨b, 0, none⟩)) (r_box rfl rfl) rfl rfl rfl ?_
 intro b1
 refine al_new (fun b => .pointer (some ⟨b, 0, none⟩)) (r_box rfl rfl) rfl rfl rfl ?_
 intro b2
 refine al_new (fun b => .pointer (some ⟨b, 0, none⟩)) (r_alloc Tryz.zeroValue39 rfl) rfl rfl rfl ?_
 intro b3
 refine al_p (q_assign rfl) (al_end (aq_then ?_))
 refine ac_seq (ac_seq (ac_region ?_))
 refine al_p (q_loadAll (i := 2) rfl rfl Tryz.isAgg29 Tryz.sizeOf29 rfl) (al_p (q_loadAll (i := 1) rfl rfl Tryz.isAgg32 Tryz.sizeOf32 rfl) (al_p (q_move rfl) (al_call Tryz.call19 (.cons rfl (.cons rfl (.cons rfl .nil))) rfl rfl (fun w1 hs1 => ?_))))
 refine (explainable_any R M Q C F nf cf zs _ (hM.below hs1.below) (hC.below hs1.below) (hF.below hs1.below) hn).mono ?_
 rintro e u1 ⟨rfl, hb_1⟩
 refine ⟨_, rfl, hb_1, ?_⟩
 clear hs1
 refine al_p (q_not rfl) (al_end (aq_then ?_))
 refine ac_cond rfl (fun h1 => ?_) (fun h1 => ?_)
 ·have hE : explB M C zs = false := by simpa using h1
  refine ac_seq (ac_region ?_)
  refine al_p (q_build .nil (cah_bl_apiBlame_)) (al_storeAll (i := 0) rfl rfl rfl rfl Tryz.sizeOf39 rfl rfl .k0 rfl (al_p (q_assign rfl) (al_end (aq_then ?_))))
  refine ac_ret (aq_thenR (retM Tryz.results8 (.agg (i := 0) rfl rfl Tryz.isAgg39 Tryz.sizeOf39 rfl (.tmp rfl .nil)) .two (fun w9 hs => ?_)))
  unfold accB accZ candE; rw [if_neg (by rw [hE]; decide), if_neg (by rw [hE]; decide), if_neg (by rw [hE]; decide)]; exact OutB.nil hs.below
 ·have he : explB M C zs = true := by simpa using h1
  have hexp := explB_iff.1 he
  obtain ⟨hv, hzl, hzs⟩ := hexp
  have hvc := fit2_iff.2 hv
  have hs0 := sound_of hv.check
  have hg := cells_fine hs0.grid
  have hsn := hs0.sensors.1
  have hld := hM.sensors.1
  have hnz := hF.1
  have hcp := hv.plasma.1
  have qc := hC.plasma.1
  have hkc := hC.kc
  refine ac_skip (aq_then (ac_seq (ac_region ?_)))
  refine al_new (fun b => .pointer (some ⟨b, 0, none⟩)) (r_alloc Tryz.zeroValue39 rfl) rfl rfl rfl ?_
  intro b4
  refine al_end (aq_then ?_)
  refine ac_seq (ac_region ?_)
  refine al_new (fun b => .pointer (some ⟨b, 0, none⟩)) (r_alloc Tryz.zeroValue3 rfl) rfl rfl rfl ?_
  intro b5
  refine al_store1 (i := 0) rfl rfl rfl rfl Tryz.sizeOf3 .k0 .k0 rfl (al_end (aq_then ?_))
  refine ac_seq (ac_seq (ac_region ?_))
  refine al_p (q_loadAll (i := 4) rfl rfl Tryz.isAgg29 Tryz.sizeOf29 rfl) (al_p (q_loadAll (i := 3) rfl rfl Tryz.isAgg32 Tryz.sizeOf32 rfl) (al_p (q_move rfl) (al_call Tryz.call20 (.cons rfl (.cons rfl (.cons rfl .nil))) rfl rfl (fun w2 hs2 => ?_))))
  have hlb5 := (hs2.at 0 rfl).lt
  have hlb4 := (hs2.at 1 rfl).lt
  have hlb3 := (hs2.at 2 rfl).lt
  have hlb2 := (hs2.at 3 rfl).lt
  have hlb1 := (hs2.at 4 rfl).lt
  have hz2 := hs2.below.size
  refine (claims9_any R M Q C F nf cf zs _ (hM.below hs2.below) (hC.below hs2.below) (hF.below hs2.below) hn he).mono ?_
  rintro e u2 ⟨p_c, L_c, rfl, N_c, K_c, hb_2⟩
  have hb2 := hb_2.size
  have hlo2 : w.heap.size ≤ u2.heap.size := Nat.le_trans hz2 hb2
  refine ⟨_, rfl, hb_2, ?_⟩
  clear hs2
  refine al_p (q_lenS rfl Tryz.runUnderlying79) (al_p (q_move rfl) (al_end (aq_then ?_)))
  refine ac_block (ac_loopD (β := AccX) (fun z => AccF Q.lc (cntA M C zs) (triA M C zs) (lyA M C zs) u2.heap.size z) (fun z => z.Ds.map markD) (fun z => [(6, (.pointer (some ⟨b3, 0, none⟩))), (7, (.int .i64 0)), (8, (.pointer (some ⟨b4, 0, none⟩))), (9, (.pointer (some ⟨b5, 0, none⟩))), (23, (.slice (some ⟨p_c, 0, none⟩) Q.lc Q.lc)), (24, (.int .i64 (Q.lc : Int))), (25, (.int .i64 (z.k : Int)))]) (fun z => [(u2.heap.size, z.u), (w2.heap.size, u2), (w1.heap.size, u1)]) (fun z => [(b5, .cells [.int .i64 z.s.1]), (b4, .cells [.int .i64 z.s.2.1, .int .i64 z.s.2.2, .slice z.A z.n z.c]), (b3, _), (b2, _), (b1, _)]) (fun z => Q.lc - z.k) ⟨0, (-1, 0, 0), none, 0, 0, [], [], u2⟩ (AccF.init u2) rfl ⟨rfl, rfl, rfl, rfl, rfl, rfl, rfl, trivial⟩ (fun w9 hs => (hs.snapEmpty (.head _))) (fun z hF1 => ?_))
  refine ac_seq (ac_region ?_)
  refine al_p (q_lss rfl rfl) (al_end (aq_then ?_))
  refine ac_seq ?_
  refine ac_cond rfl (fun h2 => ?_) (fun h2 => ?_)
  ·have hzl : z.k < Q.lc := by have := of_decide_eq_true h2; omega
   obtain ⟨b9, hb9⟩ : ∃ b9, L_c[z.k]? = some b9 := ⟨_, List.getElem?_eq_getElem (by rw [N_c.isT.1]; exact hzl)⟩
   refine ac_skip (aq_then (ac_seq (ac_block (ac_seq (ac_region ?_)))))
   refine al_p (q_move rfl) ?_
   refine al_p (q_indexAddrA (i := z.k) (0 + z.k * 1 + 0) rfl rfl rfl rfl (by omega) Tryz.runUnderlying79 Tryz.sizeOf81 rfl) ?_
   refine al_p (q_loadX rfl Tryz.isAgg81 (fun w9 hs => (hs.cellOf (.tail _ (.head _)) (N_c.new _ _ rfl) (isT_lt N_c.isT (by omega)) (isT_cell N_c.isT hb9)))) (al_new (fun b => .pointer (some ⟨b, 0, none⟩)) (r_alloc Tryz.zeroValue3 rfl) rfl rfl rfl ?_)
   intro b6
   refine al_new (fun b => .pointer (some ⟨b, 0, none⟩)) (r_alloc Tryz.zeroValue81 rfl) rfl rfl rfl ?_
   intro b7
   refine al_store1 (i := 1) rfl rfl rfl rfl Tryz.sizeOf3 .k0 .k1 rfl (al_store1 (i := 0) rfl rfl rfl rfl Tryz.sizeOf81 .k0 .k0 rfl (al_end (aq_then ?_)))
   refine ac_seq (ac_region ?_)
   refine al_p (q_load (i := 0) rfl rfl rfl Tryz.isAgg81) (al_callS Tryz.call21 (.cons rfl .nil) rfl rfl (fun w3 hs3 => ?_))
   have hCb : IsT 2 SpanD.cells w3 (some ⟨b9, 0, none⟩) R.ld (clL M (bgL M C) zs (z.k : Int)) := hs3.isT (.tail _ (.head _)) (K_c z.k b9 hb9).isT (fun b o e => Or.inl ((K_c z.k b9 hb9).new b o e))
   refine (beginnings9_any (some ⟨b9, 0, none⟩) R.ld R.ld (clL M (bgL M C) zs (z.k : Int)) _ hCb (by omega)).mono ?_
   rintro e u3 ⟨bv, bl, c_b, sp_b, rfl, hb_3⟩
   refine ⟨_, _, _, rfl, hs3.gift hb_3, ?_⟩
   refine al_end (aq_then ?_)
   refine ac_block ?_
   refine ac_range2 (b := b5) (c := b4) (N := (begU (clL M (bgL M C) zs (z.k : Int)) R.ld).length) (Gd := fun k x => (begL (clL M (bgL M C) zs (z.k : Int)))[k]? = some x) (enc := (fun x : Int => .int .i64 x)) 4 5 (fun k y => AccG (cntA M C zs (z.k : Int)) (z.k : Int) (begL (clL M (bgL M C) zs (z.k : Int))) (lyA M C zs) u2.heap.size z.s k y) (fun y W => IsT 1 intCells W y.A y.n y.zs) (fun y => .cells [.int .i64 y.s.1]) (fun y => .cells [.int .i64 y.s.2.1, .int .i64 y.s.2.2, .slice y.A y.n y.c]) (fun k x => [(8, (.pointer (some ⟨b4, 0, none⟩))), (9, (.pointer (some ⟨b5, 0, none⟩))), (10, (.pointer (some ⟨b6, 0, none⟩))), (11, (.pointer (some ⟨b7, 0, none⟩))), (12, (.int .i64 x)), (32, (.int .i64 x))]) (fun y => [(bv, _), (bl, _), (b7, .cells [(.slice (some ⟨b9, 0, none⟩) R.ld R.ld)]), (b6, .cells [(.int .i64 (z.k : Int))]), (b5, .cells [.int .i64 y.s.1]), (b4, .cells [.int .i64 y.s.2.1, .int .i64 y.s.2.2, .slice y.A y.n y.c]), (b3, .cells [(.int .i64 0), (.int .i64 0), (.slice none 0 0)]), (b2, .cells [(.slice Q.A Q.la Q.ca), (.slice Q.B Q.lb Q.cb), (.slice Q.C Q.lc Q.cc)]), (b1, .cells (machCells R M).toList)]) z rfl Tryz.call91 rfl (by decide) (fun _ => rfl) (fun _ => rfl) (fun _ _ => rfl) rfl (hF1.start _ _) (fun v hs => hs.isT (.head _) hF1.list (fun b o e => Or.inl (hF1.new b o e))) (fun v y W W2 hs h hm => IsT.mv (fun _ => by simp [intCells]) h hm (fun b o _ => by simp)) ?_ ?_ ?_ ?_
   ·intro v hs
    have n1 := hs.ne (i := 0) (j := 4) rfl rfl (by decide)
    have n2 := hs.ne (i := 0) (j := 5) rfl rfl (by decide)
    have n3 := hs.ne (i := 1) (j := 4) rfl rfl (by decide)
    have n4 := hs.ne (i := 1) (j := 5) rfl rfl (by decide)
    exact valuesI_any bv (begU (clL M (bgL M C) zs (z.k : Int)) R.ld).length c_b (some ⟨bl, 0, none⟩) (begL (clL M (bgL M C) zs (z.k : Int))) [b5, b4] v (((hs.at 0 rfl).cell _ rfl 0 _ rfl).1) (hs.at 0 rfl).lt (isT_box (n := 1) (enc := intCells) (fun _ => rfl) (hs.at 1 rfl) (flat_int _) (by rw [begL_len, clL_len, hld])) (by have := begU_len (clL M (bgL M C) zs (z.k : Int)) R.ld; omega) (by simp [n1, n2]) (fun b o e => by cases e; simp [n3, n4])
   ·intro k x lf W Q9 hk9 hg9 hQ9 k9
    have hW9 : Wide (Fence.wide.inRound lf) := Or.inr ⟨lf, rfl⟩
    refine ci_region hW9 hQ9 rfl ?_
    refine al_p (q_assign rfl) (al_end ?_)
    exact aq_sub k9 ⟨rfl, rfl, rfl, rfl, rfl, rfl, trivial⟩ (fun w9 hs => hs)
   ·intro k x y lf W Q9 hk9 hg9 hy9 hQ9 hP9 hS9 hK9 k9
    have hW9 : Wide (Fence.wide.inRound lf) := Or.inr ⟨lf, rfl⟩
    have hy_b6 : W.cell? ⟨b6, 0, none⟩ = some (.int .i64 (z.k : Int)) := ((hS9.at 3 rfl).cell _ rfl 0 _ rfl).1
    have l_b6 := (hS9.at 3 rfl).lt
    have ne_b6 := hS9.ne (i := 3) (j := 4) rfl rfl (by decide)
    have nf_b6 := hS9.ne (i := 3) (j := 5) rfl rfl (by decide)
    have hy_b7 : W.cell? ⟨b7, 0, none⟩ = some (.slice (some ⟨b9, 0, none⟩) R.ld R.ld) := ((hS9.at 2 rfl).cell _ rfl 0 _ rfl).1
    have l_b7 := (hS9.at 2 rfl).lt
    have ne_b7 := hS9.ne (i := 2) (j := 4) rfl rfl (by decide)
    have nf_b7 := hS9.ne (i := 2) (j := 5) rfl rfl (by decide)
    have hCW : IsT 2 SpanD.cells W (some ⟨b9, 0, none⟩) R.ld (clL M (bgL M C) zs (z.k : Int)) := hS9.isT (.tail _ (.head _)) (K_c z.k b9 hb9).isT (fun b o e => Or.inl ((K_c z.k b9 hb9).new b o e))
    have hbX : ∀ b o, (some ⟨b9, 0, none⟩ : Option Addr) = some ⟨b, o, none⟩ → b ∉ [b5, b4] := fun b o e => by cases e; have := (K_c z.k b9 hb9).new _ _ rfl; simp; omega
    have hzW : u2.heap.size ≤ W.heap.size := Nat.le_trans (hS9.snap _ _ (.head _)).2.1 (hS9.snap _ _ (.head _)).2.2.1
    refine ci_block ?_
    refine ci_seq ?_
    refine ci_region hW9 hQ9 rfl ?_
    refine al_p (q_loadX rfl Tryz.isAgg81 (fun w9 hs => (hs.cellL l_b7 (by simp [ne_b7, nf_b7])).trans ((one9 hy_b7) 0 _ rfl))) (al_p (q_move rfl) (al_call Tryz.call22 (.cons rfl (.cons rfl .nil)) rfl rfl (fun w4 hs4 => ?_)))
    refine (count9_any (some ⟨b9, 0, none⟩) R.ld R.ld (clL M (bgL M C) zs (z.k : Int)) x _ (hCW.chg hs4.chg hbX) (by omega)).mono ?_
    rintro e u4 ⟨rfl, hb_4⟩
    refine ⟨_, rfl, hb_4, ?_⟩
    clear hs4
    refine al_p (q_assign rfl) (al_end (aq_then ?_))
    refine ci_seq ?_
    refine ci_region hW9 hQ9 rfl ?_
    refine al_p (q_move rfl) (al_p (q_load (i := 0) rfl rfl rfl Tryz.isAgg3) (al_p (q_gtr rfl rfl) (al_end (aq_then ?_))))
    refine ci_cond rfl (fun h3 => ?_) (fun h3 => ?_)
    ·have hc9 : y.s.1 < (cntA M C zs (z.k : Int) x) := of_decide_eq_true h3
     refine ci_seq ?_
     refine ci_region hW9 hQ9 rfl ?_
     refine al_p (q_move rfl) (al_store1 (i := 0) rfl rfl rfl rfl Tryz.sizeOf3 .k0 .k0 rfl (al_end (aq_then ?_)))
     refine ci_draw 6 hW9 hQ9 rfl (by kernel_rfl) (by kernel_rfl) ?_
     refine ah_take 0 (fun w9 hs => hs) rfl rfl rfl (by kernel_rfl) (by kernel_rfl) (by kernel_rfl) (fun _ _ _ h => (hP9 _ _ _ h).elim) rfl (q_loadX rfl Tryz.isAgg3 (fun w9 hs => (hs.cellL l_b6 (by simp [ne_b6, nf_b6])).trans ((one9 hy_b6) 0 _ rfl))) (ah_take 1 (fun w9 hs => hs) rfl rfl rfl (by kernel_rfl) (by kernel_rfl) (by kernel_rfl) (fun _ _ _ h => (hP9 _ _ _ h).elim) rfl (q_move rfl) ?_)
     refine ah_take 2 (fun w9 hs => hs) rfl rfl rfl (by kernel_rfl) (by kernel_rfl) (by kernel_rfl) (fun _ _ _ h => (hP9 _ _ _ h).elim) rfl (q_loadX rfl Tryz.isAgg81 (fun w9 hs => (hs.cellL l_b7 (by simp [ne_b7, nf_b7])).trans ((one9 hy_b7) 0 _ rfl))) (ah_take 3 (fun w9 hs => hs) rfl rfl rfl (by kernel_rfl) (by kernel_rfl) (by kernel_rfl) (fun _ _ _ h => (hP9 _ _ _ h).elim) rfl (q_move rfl) (ah_one 4 rfl (by kernel_rfl) (fun hok1 hcl1 => ?_)))
     refine al_call Tryz.call23 (.cons rfl (.cons rfl .nil)) rfl rfl (fun w5 hs5 => ?_)
     have hz4 : W.heap.size ≤ w5.heap.size := hs5.chg.size
     refine (lying9_of sorted_ok (some ⟨b9, 0, none⟩) R.ld R.ld (clL M (bgL M C) zs (z.k : Int)) x _ (hCW.chg hs5.chg hbX) (by omega)).mono ?_
     rintro e u5 ⟨A_l, n_l, c_l, rfl, N_l, hb_5⟩
     refine ⟨_, rfl, hb_5, ?_⟩
     clear hs5
     refine al_end (ah_back hok1 hcl1 (fun w9 hs => (hs.fewer 1 rfl)) ?_)
     refine ah_take 5 (fun w9 hs => (hs.fewer 1 rfl)) rfl rfl rfl (by kernel_rfl) (by kernel_rfl) (by kernel_rfl) (fun _ _ _ h => (hP9 _ _ _ h).elim) rfl (q_build (.cons rfl (.cons rfl (.cons rfl .nil))) (cah_bl_apiBlame_0_1_2 _ _ _ rfl rfl rfl)) (ah_one 6 rfl (by kernel_rfl) (fun hok2 hcl2 => ?_))
     refine al_storeAll (i := 1) rfl rfl rfl rfl Tryz.sizeOf39 rfl rfl .k1 rfl (al_end (ah_last (by kernel_rfl) ?_))
     refine aq_inN ?_
     exact aq_sub (k9 _ ⟨y.k, ((cntA M C zs (z.k : Int) x), (z.k : Int), x), A_l, n_l, c_l, lyA M C zs ((cntA M C zs (z.k : Int) x), (z.k : Int), x), y.Ds, y.u⟩ (hy9.yes hg9 hc9 (cntA_nn M C zs _ _) rfl rfl (fun b o e => by have := N_l.new b o e; omega) N_l.le) (fun w9 hs => hs.newT (.head _) N_l)) trivial (fun w9 hs => hs)
    ·have hc9 : ¬ y.s.1 < (cntA M C zs (z.k : Int) x) := of_decide_eq_false h3
     refine ci_skip ?_
     refine aq_inN ?_
     exact aq_sub (k9 _ y (hy9.no hg9 hc9) (fun w9 hs => hK9.chg hs.chg (fun b o e => by have := hy9.new b o e; simp; omega))) trivial (fun w9 hs => hs)
   ·intro D9 u9 y a9 hF9 hK9 hS9 hU9 hDl9 hD9 hf9
    have hS7 : Sta _ _ [(b5, _), (b4, _), (b3, _), (b2, _), (b1, _)] _ := (hS9.tail 4 rfl).fewer 1 rfl
    have hS8 := hS7.snapNow u2.heap.size hlo2 (Nat.le_trans (hS9.snap _ _ (.head _)).2.1 (hS9.snap _ _ (.head _)).2.2.1) (low_of (by intro p hp; simp only [List.mem_cons, List.not_mem_nil, or_false] at hp; rcases hp with rfl | rfl | rfl | rfl | rfl <;> first | omega | (dsimp only; omega)))
    refine (?_ : AQ _ _ _ _ _) a9 u9 hf9 (hS8.withD _)
    refine aq_inN (aq_inN (aq_then (ac_region ?_)))
    refine al_p (q_add rfl rfl (by omega)) (al_p (q_move rfl) (al_end (aq_then ?_)))
    skip
    refine ci_round (⟨z.k + 1, y.s, y.A, y.n, y.c, y.zs, D9 :: z.Ds, u9⟩) rfl (by simp only; omega) (hF1.next hzl (cntA_nn M C zs) hF9 (by unfold triA; rw [clL_len, hld]; exact Nat.le_refl _) hK9 (Marks.snap hS9 (.head _) hF1.marks hF1.mlo) hD9 hDl9 (hU9 _ _ (.head _)) (hS9.snap _ _ (.head _)).2.1) ⟨rfl, rfl, rfl, rfl, rfl, rfl, rfl, trivial⟩ (fun w9 hs => hs)
  ·have hze : z.k = Q.lc := by have := of_decide_eq_false h2; have := hF1.k; omega
   refine ac_exit (aq_thenE (aq_thenE (aq_hit (aq_then ?_))))
   refine ac_seq (ac_region ?_)
   refine al_p (q_loadAll (i := 1) rfl rfl Tryz.isAgg39 Tryz.sizeOf39 rfl) (al_storeAll (i := 2) rfl rfl rfl rfl Tryz.sizeOf39 rfl rfl .k2 rfl (al_p (q_assign rfl) (al_end (aq_then ?_))))
   refine ac_ret (retMS (m := z.u.heap.size) Tryz.results8 (.agg (i := 2) rfl rfl Tryz.isAgg39 Tryz.sizeOf39 rfl (.tmp rfl .nil)) .two (fun D hD => Nat.le_trans hlo2 (hF1.mlo D hD)) rfl (fun w9 hs => Marks.snap hs (.head _) hF1.marks hF1.mlo) (fun w9 w8 hs hm9 hc9 => ?_))
   obtain ⟨e1, e2⟩ := acc_end he hF1 (by rw [qc]; exact hze)
   rw [← e1, ← e2]
   unfold candE; rw [if_pos he]
   exact ⟨z.A, z.n, z.c, rfl, ⟨IsT.mv (fun _ => by simp [intCells]) (hs.isT (.head _) hF1.list (fun b o e => Or.inl (hF1.new b o e))) hm9 (fun b o _ => by simp), fun b o e => by have := hF1.new b o e; omega, hF1.le⟩, below_marks hs.below hc9 (fun D hD => by have := hF1.mlo D hD; omega)⟩
end Go.Proofs.YthggkidiidnaoaaGreatDoor
end
