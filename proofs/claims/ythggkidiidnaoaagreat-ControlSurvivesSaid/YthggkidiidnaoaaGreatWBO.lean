import Derived.Test.YthggkidiidnaoaaGreatWAA
import Derived.Test.YthggkidiidnaoaaGreatWAV
import Derived.Test.YthggkidiidnaoaaGreatWBN
import Derived.Laws.EntriesVeiled
namespace Go.Proofs.YthggkidiidnaoaaGreat
set_option linter.unusedVariables false
set_option linter.unusedSimpArgs false
section
open Go.RowKit Go.Shelf
def quantsL : List QuantD := [⟨⟨#[114, 97, 100, 105, 117, 115]⟩, 102⟩, ⟨⟨#[104, 101, 105, 103, 104, 116]⟩, 103⟩, ⟨⟨#[97, 114, 101, 97]⟩, 104⟩, ⟨⟨#[116, 111, 112]⟩, 105⟩, ⟨⟨#[98, 111, 116, 116, 111, 109]⟩, 106⟩, ⟨⟨#[105, 110, 110, 101, 114]⟩, 107⟩, ⟨⟨#[111, 117, 116, 101, 114]⟩, 108⟩, ⟨⟨#[108, 105, 102, 116]⟩, 109⟩]
def quantRow : List Value := [.string ⟨#[]⟩, .nilFunc, .string ⟨#[114, 97, 100, 105, 117, 115]⟩, .func (.func 102) #[] #[], .string ⟨#[104, 101, 105, 103, 104, 116]⟩, .func (.func 103) #[] #[], .string ⟨#[97, 114, 101, 97]⟩, .func (.func 104) #[] #[], .string ⟨#[116, 111, 112]⟩, .func (.func 105) #[] #[], .string ⟨#[98, 111, 116, 116, 111, 109]⟩, .func (.func 106) #[] #[], .string ⟨#[105, 110, 110, 101, 114]⟩, .func (.func 107) #[] #[], .string ⟨#[111, 117, 116, 101, 114]⟩, .func (.func 108) #[] #[], .string ⟨#[108, 105, 102, 116]⟩, .func (.func 109) #[] #[]]
def vldK (s : ShapeD) (k : Nat) : Bool := if k = 102 then vld s.a0 s.b0 else if k = 103 then vld s.a1 s.b1 else if k = 104 then vld s.a2 s.b2 else if k = 105 then vld s.a3 s.b3 else if k = 106 then vld s.a4 s.b4 else if k = 107 then vld s.a5 s.b5 else if k = 108 then vld s.a6 s.b6 else if k = 109 then vld s.a7 s.b7 else false
theorem any_quants (s : ShapeD) : (!(quantsL.any fun q => !vldK s q.k)) = okS s := by
 simp [quantsL, vldK, okS]
theorem quants_isT {b : Nat} {W : World} (h : RowL b quantRow W) : IsT 2 QuantD.cells W (some ⟨b, 2, none⟩) 8 quantsL := by
 refine ⟨rfl, fun _ => ⟨b, 2, rfl, h.lt, fun j x hx i v hv => h.cell (2 + j * 2 + i) v ?_⟩⟩
 rcases j with _ | _ | _ | _ | _ | _ | _ | _ | j
 all_goals first | (have h9 := (List.getElem?_eq_some_iff.1 hx).1; simp [quantsL] at h9; omega) | skip
 all_goals obtain rfl := Option.some.inj hx
 all_goals rcases i with _ | _ | i
 all_goals first | exact hv | (have h9 := (List.getElem?_eq_some_iff.1 hv).1; simp [QuantD.cells] at h9; omega)
set_option maxRecDepth 100000 in
theorem quant0_any (s : ShapeD) (w : World) : Calls Tryz.prog 102 #[s.v] w (Ret (Sp s.a0 s.b0) w) := by
 obtain ⟨a0, b0, a1, b1, a2, b2, a3, b3, a4, b4, a5, b5, a6, b6, a7, b7⟩ := s
 dsimp only
 show Calls Tryz.prog 102 #[.agg #[.int .i64 a0, .int .i64 b0, .int .i64 a1, .int .i64 b1, .int .i64 a2, .int .i64 b2, .int .i64 a3, .int .i64 b3, .int .i64 a4, .int .i64 b4, .int .i64 a5, .int .i64 b5, .int .i64 a6, .int .i64 b6, .int .i64 a7, .int .i64 b7]] w _
 go_enter Tryz.func102, Tryz.ntmps102
 go_wp2_with fail
 first | exact bodyPost_ret (resP Tryz.results102 _ _ _ _ _ rfl (by go_simp) (by go_simp)) rfl ⟨rfl, by (repeat first | with_reducible exact Below.refl _ _ | (with_reducible refine Below.alloc ?_ ?_ _; rotate_left; exact (by first | omega | (simp; done))))⟩ | exact bodyPost_ret (resS Tryz.results102 _ _ _ _ _ rfl (by (try simp only [isSome_setCell]); first | assumption | go_simp) (by (try simp only [isSome_setCell]); first | assumption | go_simp)) rfl ⟨rfl, by (with_reducible repeat first | exact Below.refl _ _ | assumption | ((first | refine Below.setCell ?_ ?_ _ | refine Below.alloc ?_ ?_ _); rotate_left; exact (by first | omega | (simp; done) | (simp; omega))) | refine Below.drew ?_ | refine Below_drewN ?_ _)⟩
set_option maxRecDepth 100000 in
theorem quant1_any (s : ShapeD) (w : World) : Calls Tryz.prog 103 #[s.v] w (Ret (Sp s.a1 s.b1) w) := by
 obtain ⟨a0, b0, a1, b1, a2, b2, a3, b3, a4, b4, a5, b5, a6, b6, a7, b7⟩ := s
 dsimp only
 show Calls Tryz.prog 103 #[.agg #[.int .i64 a0, .int .i64 b0, .int .i64 a1, .int .i64 b1, .int .i64 a2, .int .i64 b2, .int .i64 a3, .int .i64 b3, .int .i64 a4, .int .i64 b4, .int .i64 a5, .int .i64 b5, .int .i64 a6, .int .i64 b6, .int .i64 a7, .int .i64 b7]] w _
 go_enter Tryz.func103, Tryz.ntmps103
 go_wp2_with fail
 first | exact bodyPost_ret (resP Tryz.results103 _ _ _ _ _ rfl (by go_simp) (by go_simp)) rfl ⟨rfl, by (repeat first | with_reducible exact Below.refl _ _ | (with_reducible refine Below.alloc ?_ ?_ _; rotate_left; exact (by first | omega | (simp; done))))⟩ | exact bodyPost_ret (resS Tryz.results103 _ _ _ _ _ rfl (by (try simp only [isSome_setCell]); first | assumption | go_simp) (by (try simp only [isSome_setCell]); first | assumption | go_simp)) rfl ⟨rfl, by (with_reducible repeat first | exact Below.refl _ _ | assumption | ((first | refine Below.setCell ?_ ?_ _ | refine Below.alloc ?_ ?_ _); rotate_left; exact (by first | omega | (simp; done) | (simp; omega))) | refine Below.drew ?_ | refine Below_drewN ?_ _)⟩
set_option maxRecDepth 100000 in
theorem quant2_any (s : ShapeD) (w : World) : Calls Tryz.prog 104 #[s.v] w (Ret (Sp s.a2 s.b2) w) := by
 obtain ⟨a0, b0, a1, b1, a2, b2, a3, b3, a4, b4, a5, b5, a6, b6, a7, b7⟩ := s
 dsimp only
 show Calls Tryz.prog 104 #[.agg #[.int .i64 a0, .int .i64 b0, .int .i64 a1, .int .i64 b1, .int .i64 a2, .int .i64 b2, .int .i64 a3, .int .i64 b3, .int .i64 a4, .int .i64 b4, .int .i64 a5, .int .i64 b5, .int .i64 a6, .int .i64 b6, .int .i64 a7, .int .i64 b7]] w _
 go_enter Tryz.func104, Tryz.ntmps104
 go_wp2_with fail
 first | exact bodyPost_ret (resP Tryz.results104 _ _ _ _ _ rfl (by go_simp) (by go_simp)) rfl ⟨rfl, by (repeat first | with_reducible exact Below.refl _ _ | (with_reducible refine Below.alloc ?_ ?_ _; rotate_left; exact (by first | omega | (simp; done))))⟩ | exact bodyPost_ret (resS Tryz.results104 _ _ _ _ _ rfl (by (try simp only [isSome_setCell]); first | assumption | go_simp) (by (try simp only [isSome_setCell]); first | assumption | go_simp)) rfl ⟨rfl, by (with_reducible repeat first | exact Below.refl _ _ | assumption | ((first | refine Below.setCell ?_ ?_ _ | refine Below.alloc ?_ ?_ _); rotate_left; exact (by first | omega | (simp; done) | (simp; omega))) | refine Below.drew ?_ | refine Below_drewN ?_ _)⟩
set_option maxRecDepth 100000 in
theorem quant3_any (s : ShapeD) (w : World) : Calls Tryz.prog 105 #[s.v] w (Ret (Sp s.a3 s.b3) w) := by
 obtain ⟨a0, b0, a1, b1, a2, b2, a3, b3, a4, b4, a5, b5, a6, b6, a7, b7⟩ := s
 dsimp only
 show Calls Tryz.prog 105 #[.agg #[.int .i64 a0, .int .i64 b0, .int .i64 a1, .int .i64 b1, .int .i64 a2, .int .i64 b2, .int .i64 a3, .int .i64 b3, .int .i64 a4, .int .i64 b4, .int .i64 a5, .int .i64 b5, .int .i64 a6, .int .i64 b6, .int .i64 a7, .int .i64 b7]] w _
 go_enter Tryz.func105, Tryz.ntmps105
 go_wp2_with fail
 first | exact bodyPost_ret (resP Tryz.results105 _ _ _ _ _ rfl (by go_simp) (by go_simp)) rfl ⟨rfl, by (repeat first | with_reducible exact Below.refl _ _ | (with_reducible refine Below.alloc ?_ ?_ _; rotate_left; exact (by first | omega | (simp; done))))⟩ | exact bodyPost_ret (resS Tryz.results105 _ _ _ _ _ rfl (by (try simp only [isSome_setCell]); first | assumption | go_simp) (by (try simp only [isSome_setCell]); first | assumption | go_simp)) rfl ⟨rfl, by (with_reducible repeat first | exact Below.refl _ _ | assumption | ((first | refine Below.setCell ?_ ?_ _ | refine Below.alloc ?_ ?_ _); rotate_left; exact (by first | omega | (simp; done) | (simp; omega))) | refine Below.drew ?_ | refine Below_drewN ?_ _)⟩
set_option maxRecDepth 100000 in
theorem quant4_any (s : ShapeD) (w : World) : Calls Tryz.prog 106 #[s.v] w (Ret (Sp s.a4 s.b4) w) := by
 obtain ⟨a0, b0, a1, b1, a2, b2, a3, b3, a4, b4, a5, b5, a6, b6, a7, b7⟩ := s
 dsimp only
 show Calls Tryz.prog 106 #[.agg #[.int .i64 a0, .int .i64 b0, .int .i64 a1, .int .i64 b1, .int .i64 a2, .int .i64 b2, .int .i64 a3, .int .i64 b3, .int .i64 a4, .int .i64 b4, .int .i64 a5, .int .i64 b5, .int .i64 a6, .int .i64 b6, .int .i64 a7, .int .i64 b7]] w _
 go_enter Tryz.func106, Tryz.ntmps106
 go_wp2_with fail
 first | exact bodyPost_ret (resP Tryz.results106 _ _ _ _ _ rfl (by go_simp) (by go_simp)) rfl ⟨rfl, by (repeat first | with_reducible exact Below.refl _ _ | (with_reducible refine Below.alloc ?_ ?_ _; rotate_left; exact (by first | omega | (simp; done))))⟩ | exact bodyPost_ret (resS Tryz.results106 _ _ _ _ _ rfl (by (try simp only [isSome_setCell]); first | assumption | go_simp) (by (try simp only [isSome_setCell]); first | assumption | go_simp)) rfl ⟨rfl, by (with_reducible repeat first | exact Below.refl _ _ | assumption | ((first | refine Below.setCell ?_ ?_ _ | refine Below.alloc ?_ ?_ _); rotate_left; exact (by first | omega | (simp; done) | (simp; omega))) | refine Below.drew ?_ | refine Below_drewN ?_ _)⟩
set_option maxRecDepth 100000 in
theorem quant5_any (s : ShapeD) (w : World) : Calls Tryz.prog 107 #[s.v] w (Ret (Sp s.a5 s.b5) w) := by
 obtain ⟨a0, b0, a1, b1, a2, b2, a3, b3, a4, b4, a5, b5, a6, b6, a7, b7⟩ := s
 dsimp only
 show Calls Tryz.prog 107 #[.agg #[.int .i64 a0, .int .i64 b0, .int .i64 a1, .int .i64 b1, .int .i64 a2, .int .i64 b2, .int .i64 a3, .int .i64 b3, .int .i64 a4, .int .i64 b4, .int .i64 a5, .int .i64 b5, .int .i64 a6, .int .i64 b6, .int .i64 a7, .int .i64 b7]] w _
 go_enter Tryz.func107, Tryz.ntmps107
 go_wp2_with fail
 first | exact bodyPost_ret (resP Tryz.results107 _ _ _ _ _ rfl (by go_simp) (by go_simp)) rfl ⟨rfl, by (repeat first | with_reducible exact Below.refl _ _ | (with_reducible refine Below.alloc ?_ ?_ _; rotate_left; exact (by first | omega | (simp; done))))⟩ | exact bodyPost_ret (resS Tryz.results107 _ _ _ _ _ rfl (by (try simp only [isSome_setCell]); first | assumption | go_simp) (by (try simp only [isSome_setCell]); first | assumption | go_simp)) rfl ⟨rfl, by (with_reducible repeat first | exact Below.refl _ _ | assumption | ((first | refine Below.setCell ?_ ?_ _ | refine Below.alloc ?_ ?_ _); rotate_left; exact (by first | omega | (simp; done) | (simp; omega))) | refine Below.drew ?_ | refine Below_drewN ?_ _)⟩
set_option maxRecDepth 100000 in
theorem quant6_any (s : ShapeD) (w : World) : Calls Tryz.prog 108 #[s.v] w (Ret (Sp s.a6 s.b6) w) := by
 obtain ⟨a0, b0, a1, b1, a2, b2, a3, b3, a4, b4, a5, b5, a6, b6, a7, b7⟩ := s
 dsimp only
 show Calls Tryz.prog 108 #[.agg #[.int .i64 a0, .int .i64 b0, .int .i64 a1, .int .i64 b1, .int .i64 a2, .int .i64 b2, .int .i64 a3, .int .i64 b3, .int .i64 a4, .int .i64 b4, .int .i64 a5, .int .i64 b5, .int .i64 a6, .int .i64 b6, .int .i64 a7, .int .i64 b7]] w _
 go_enter Tryz.func108, Tryz.ntmps108
 go_wp2_with fail
 first | exact bodyPost_ret (resP Tryz.results108 _ _ _ _ _ rfl (by go_simp) (by go_simp)) rfl ⟨rfl, by (repeat first | with_reducible exact Below.refl _ _ | (with_reducible refine Below.alloc ?_ ?_ _; rotate_left; exact (by first | omega | (simp; done))))⟩ | exact bodyPost_ret (resS Tryz.results108 _ _ _ _ _ rfl (by (try simp only [isSome_setCell]); first | assumption | go_simp) (by (try simp only [isSome_setCell]); first | assumption | go_simp)) rfl ⟨rfl, by (with_reducible repeat first | exact Below.refl _ _ | assumption | ((first | refine Below.setCell ?_ ?_ _ | refine Below.alloc ?_ ?_ _); rotate_left; exact (by first | omega | (simp; done) | (simp; omega))) | refine Below.drew ?_ | refine Below_drewN ?_ _)⟩
set_option maxRecDepth 100000 in
theorem quant7_any (s : ShapeD) (w : World) : Calls Tryz.prog 109 #[s.v] w (Ret (Sp s.a7 s.b7) w) := by
 obtain ⟨a0, b0, a1, b1, a2, b2, a3, b3, a4, b4, a5, b5, a6, b6, a7, b7⟩ := s
 dsimp only
 show Calls Tryz.prog 109 #[.agg #[.int .i64 a0, .int .i64 b0, .int .i64 a1, .int .i64 b1, .int .i64 a2, .int .i64 b2, .int .i64 a3, .int .i64 b3, .int .i64 a4, .int .i64 b4, .int .i64 a5, .int .i64 b5, .int .i64 a6, .int .i64 b6, .int .i64 a7, .int .i64 b7]] w _
 go_enter Tryz.func109, Tryz.ntmps109
 go_wp2_with fail
 first | exact bodyPost_ret (resP Tryz.results109 _ _ _ _ _ rfl (by go_simp) (by go_simp)) rfl ⟨rfl, by (repeat first | with_reducible exact Below.refl _ _ | (with_reducible refine Below.alloc ?_ ?_ _; rotate_left; exact (by first | omega | (simp; done))))⟩ | exact bodyPost_ret (resS Tryz.results109 _ _ _ _ _ rfl (by (try simp only [isSome_setCell]); first | assumption | go_simp) (by (try simp only [isSome_setCell]); first | assumption | go_simp)) rfl ⟨rfl, by (with_reducible repeat first | exact Below.refl _ _ | assumption | ((first | refine Below.setCell ?_ ?_ _ | refine Below.alloc ?_ ?_ _); rotate_left; exact (by first | omega | (simp; done) | (simp; omega))) | refine Below.drew ?_ | refine Below_drewN ?_ _)⟩
set_option maxRecDepth 100000 in
set_option maxHeartbeats 8000000 in
theorem resQ9 {fn : Func} {p : Tmp} (h : fn.results = #[.cell p 118]) (tmps : Array Value) (W : World) (b : Nat) (hp : tmps.getD p undef = .pointer (some ⟨b, 0, none⟩)) (hr : ∀ (k : Nat) v, quantRow[k]? = some v → W.cell? ⟨b, k, none⟩ = some v) :
  (results fn tmps).run Tryz.prog W = .ok (.agg quantRow.toArray) W := by
 have hp' : tmps[p]?.getD undef = .pointer (some ⟨b, 0, none⟩) := by simpa using hp
 have h0 := hr 0 _ rfl
 have h1 := hr 1 _ rfl
 have h2 := hr 2 _ rfl
 have h3 := hr 3 _ rfl
 have h4 := hr 4 _ rfl
 have h5 := hr 5 _ rfl
 have h6 := hr 6 _ rfl
 have h7 := hr 7 _ rfl
 have h8 := hr 8 _ rfl
 have h9 := hr 9 _ rfl
 have h10 := hr 10 _ rfl
 have h11 := hr 11 _ rfl
 have h12 := hr 12 _ rfl
 have h13 := hr 13 _ rfl
 have h14 := hr 14 _ rfl
 have h15 := hr 15 _ rfl
 have h16 := hr 16 _ rfl
 have h17 := hr 17 _ rfl
 simp only [results, h]
 simp [Sem.run_bind, Result.andThen, go_sem, hp', quantRow, h0, h1, h2, h3, h4, h5, h6, h7, h8, h9, h10, h11, h12, h13, h14, h15, h16, h17]
set_option maxRecDepth 100000 in
set_option maxHeartbeats 8000000 in
theorem quants_any (w : World) : Calls Tryz.prog 57 #[] w (Ret (.agg quantRow.toArray) w) := by
 go_enter Tryz.func57, Tryz.ntmps57
 go_wp2_with fail
 refine bodyPost_ret (resQ9 Tryz.results57 _ _ w.heap.size rfl (fun k v hv => ?_)) rfl ⟨rfl, by (repeat first | with_reducible exact Below.refl _ _ | (with_reducible refine Below.alloc ?_ ?_ _; rotate_left; exact om9))⟩
 rcases k with _ | _ | _ | _ | _ | _ | _ | _ | _ | _ | _ | _ | _ | _ | _ | _ | _ | _ | k
 all_goals first | (obtain rfl := Option.some.inj hv; go_simp; done) | (have h9 := (List.getElem?_eq_some_iff.1 hv).1; simp [quantRow] at h9; omega)
set_option maxRecDepth 100000 in
set_option maxHeartbeats 8000000 in
theorem validShape1_any (s : ShapeD) (wd : ByteArray) (k : Nat) (u v : Int) (c0 : Nat) (w : World) (hr : RowL c0 [.int .i64 s.a0, .int .i64 s.b0, .int .i64 s.a1, .int .i64 s.b1, .int .i64 s.a2, .int .i64 s.b2, .int .i64 s.a3, .int .i64 s.b3, .int .i64 s.a4, .int .i64 s.b4, .int .i64 s.a5, .int .i64 s.b5, .int .i64 s.a6, .int .i64 s.b6, .int .i64 s.a7, .int .i64 s.b7] w)
  (hE : ∀ (args : Array Value) (W : World), (callFunc k args).run Tryz.prog W = .ok (.enter k args) W) (hk : ∀ W, Calls Tryz.prog k #[s.v] W (Ret (Sp u v) W)) :
  Calls Tryz.prog 59 #[.agg #[.string wd, .func (.func k) #[] #[]], .pointer (some ⟨c0, 0, none⟩)] w (Ret (.bool (!vld u v)) w) := by
 obtain ⟨a0, b0, a1, b1, a2, b2, a3, b3, a4, b4, a5, b5, a6, b6, a7, b7⟩ := s
 dsimp only at *
 have HK := Lib.hid (show ∀ W, Calls Tryz.prog k #[.agg #[.int .i64 a0, .int .i64 b0, .int .i64 a1, .int .i64 b1, .int .i64 a2, .int .i64 b2, .int .i64 a3, .int .i64 b3, .int .i64 a4, .int .i64 b4, .int .i64 a5, .int .i64 b5, .int .i64 a6, .int .i64 b6, .int .i64 a7, .int .i64 b7]] W (Ret (Sp u v) W) from hk)
 have HV := Lib.hid (fun W => valid_any u v W)
 have HR := Lib.hid hr
 clear hk hr
 generalize vld u v = B at *
 go_enter Tryz.func59, Tryz.ntmps59
 go_upto_region 1 with (fail)
 have Fq : Hid (RowL (w.heap.size) [.string wd, .func (.func k) #[] #[]] (w.alloc (.cells #[.string wd, .func (.func k) #[] #[]] 117))) := Lib.hid (by have h := RowL.new w #[.string wd, .func (.func k) #[] #[]] 117; (try simp only [World.size_alloc] at h); exact h)
 have hB0 : Below w.heap.size w (w.alloc (.cells #[.string wd, .func (.func k) #[] #[]] 117)) := by (repeat first | with_reducible exact Below.refl _ _ | (with_reducible refine Below.alloc ?_ ?_ _; rotate_left; exact om9))
 have sW0 : w.heap.size < (w.alloc (.cells #[.string wd, .func (.func k) #[] #[]] 117)).heap.size := by simp only [World.size_alloc]; omega
 obtain ⟨W0, hW0⟩ : ∃ W, (w.alloc (.cells #[.string wd, .func (.func k) #[] #[]] 117)) = W := ⟨_, rfl⟩
 rw [hW0] at Fq hB0 sW0 ⊢
 clear hW0
 have FS : Hid (RowL c0 [.int .i64 a0, .int .i64 b0, .int .i64 a1, .int .i64 b1, .int .i64 a2, .int .i64 b2, .int .i64 a3, .int .i64 b3, .int .i64 a4, .int .i64 b4, .int .i64 a5, .int .i64 b5, .int .i64 a6, .int .i64 b6, .int .i64 a7, .int .i64 b7] W0) := Lib.hid (HR.out.below hB0)
 have q0 := Fq.out.cell 0 (.string wd) rfl
 have q1 := Fq.out.cell 1 (.func (.func k) #[] #[]) rfl
 have S0 := FS.out.cell 0 (.int .i64 a0) rfl
 have S1 := FS.out.cell 1 (.int .i64 b0) rfl
 have S2 := FS.out.cell 2 (.int .i64 a1) rfl
 have S3 := FS.out.cell 3 (.int .i64 b1) rfl
 have S4 := FS.out.cell 4 (.int .i64 a2) rfl
 have S5 := FS.out.cell 5 (.int .i64 b2) rfl
 have S6 := FS.out.cell 6 (.int .i64 a3) rfl
 have S7 := FS.out.cell 7 (.int .i64 b3) rfl
 have S8 := FS.out.cell 8 (.int .i64 a4) rfl
 have S9 := FS.out.cell 9 (.int .i64 b4) rfl
 have S10 := FS.out.cell 10 (.int .i64 a5) rfl
 have S11 := FS.out.cell 11 (.int .i64 b5) rfl
 have S12 := FS.out.cell 12 (.int .i64 a6) rfl
 have S13 := FS.out.cell 13 (.int .i64 b6) rfl
 have S14 := FS.out.cell 14 (.int .i64 a7) rfl
 have S15 := FS.out.cell 15 (.int .i64 b7) rfl
 have c0lt := HR.out.lt
 go_wp2_with fail
 refine (HK.out _).mono ?_
 rintro e w1 ⟨rfl, hb⟩
 clear HK
 have hB1 := hB0.trans (hb.mono hB0.size)
 go_wp2_with fail
 refine (HV.out _).mono ?_
 rintro e w2 ⟨rfl, hb2⟩
 have hB2 := hB1.trans (hb2.mono hB1.size)
 go_wp2_with fail
 go_ret
 exact ⟨rfl, by (repeat with_reducible assumption)⟩
set_option maxRecDepth 100000 in
set_option maxHeartbeats 8000000 in
theorem validShape_any (s : ShapeD) (w : World) :
  Calls Tryz.prog 31 #[s.v] w (Ret (.bool (okS s)) w) := by
 have HS := Lib.hid (any_quants s)
 have HQ := Lib.hid (fun W => quants_any W)
 have HC0 := Lib.hid (fun W (b c0 : Nat) (hl : RowL b quantRow W) (hr : RowL c0 [.int .i64 s.a0, .int .i64 s.b0, .int .i64 s.a1, .int .i64 s.b1, .int .i64 s.a2, .int .i64 s.b2, .int .i64 s.a3, .int .i64 s.b3, .int .i64 s.a4, .int .i64 s.b4, .int .i64 s.a5, .int .i64 s.b5, .int .i64 s.a6, .int .i64 s.b6, .int .i64 s.a7, .int .i64 s.b7] W) => containsQuant1 59 c0 (fun q => !vldK s q.k) (some ⟨b, 2, none⟩) 8 8 quantsL W (quants_isT hl) om9 (fun args W => enters_of Tryz.func59 kr9 rfl args W)
  (fun x W' hx hB => by
   simp only [quantsL, List.mem_cons, List.not_mem_nil, or_false] at hx
   rcases hx with rfl | rfl | rfl | rfl | rfl | rfl | rfl | rfl
   ·exact (show Calls _ _ _ _ (Ret (.bool (!vldK s 102)) W') from by rw [show vldK s 102 = vld s.a0 s.b0 from by simp [vldK]]; exact validShape1_any s _ _ _ _ _ W' (hr.below hB) (fun args W => enters_of Tryz.func102 kr9 rfl args W) (fun W => quant0_any s W))
   ·exact (show Calls _ _ _ _ (Ret (.bool (!vldK s 103)) W') from by rw [show vldK s 103 = vld s.a1 s.b1 from by simp [vldK]]; exact validShape1_any s _ _ _ _ _ W' (hr.below hB) (fun args W => enters_of Tryz.func103 kr9 rfl args W) (fun W => quant1_any s W))
   ·exact (show Calls _ _ _ _ (Ret (.bool (!vldK s 104)) W') from by rw [show vldK s 104 = vld s.a2 s.b2 from by simp [vldK]]; exact validShape1_any s _ _ _ _ _ W' (hr.below hB) (fun args W => enters_of Tryz.func104 kr9 rfl args W) (fun W => quant2_any s W))
   ·exact (show Calls _ _ _ _ (Ret (.bool (!vldK s 105)) W') from by rw [show vldK s 105 = vld s.a3 s.b3 from by simp [vldK]]; exact validShape1_any s _ _ _ _ _ W' (hr.below hB) (fun args W => enters_of Tryz.func105 kr9 rfl args W) (fun W => quant3_any s W))
   ·exact (show Calls _ _ _ _ (Ret (.bool (!vldK s 106)) W') from by rw [show vldK s 106 = vld s.a4 s.b4 from by simp [vldK]]; exact validShape1_any s _ _ _ _ _ W' (hr.below hB) (fun args W => enters_of Tryz.func106 kr9 rfl args W) (fun W => quant4_any s W))
   ·exact (show Calls _ _ _ _ (Ret (.bool (!vldK s 107)) W') from by rw [show vldK s 107 = vld s.a5 s.b5 from by simp [vldK]]; exact validShape1_any s _ _ _ _ _ W' (hr.below hB) (fun args W => enters_of Tryz.func107 kr9 rfl args W) (fun W => quant5_any s W))
   ·exact (show Calls _ _ _ _ (Ret (.bool (!vldK s 108)) W') from by rw [show vldK s 108 = vld s.a6 s.b6 from by simp [vldK]]; exact validShape1_any s _ _ _ _ _ W' (hr.below hB) (fun args W => enters_of Tryz.func108 kr9 rfl args W) (fun W => quant6_any s W))
   ·exact (show Calls _ _ _ _ (Ret (.bool (!vldK s 109)) W') from by rw [show vldK s 109 = vld s.a7 s.b7 from by simp [vldK]]; exact validShape1_any s _ _ _ _ _ W' (hr.below hB) (fun args W => enters_of Tryz.func109 kr9 rfl args W) (fun W => quant7_any s W))))
 generalize okS s = K at *
 generalize (quantsL.any fun q => !vldK s q.k) = K2 at *
 obtain ⟨a0, b0, a1, b1, a2, b2, a3, b3, a4, b4, a5, b5, a6, b6, a7, b7⟩ := s
 dsimp only at *
 have HC := Lib.hid (show ∀ W (b c0 : Nat), RowL b quantRow W → RowL c0 [.int .i64 a0, .int .i64 b0, .int .i64 a1, .int .i64 b1, .int .i64 a2, .int .i64 b2, .int .i64 a3, .int .i64 b3, .int .i64 a4, .int .i64 b4, .int .i64 a5, .int .i64 b5, .int .i64 a6, .int .i64 b6, .int .i64 a7, .int .i64 b7] W → Calls Tryz.prog 58 #[.slice (some ⟨b, 2, none⟩) 8 8, .func (.func 59) #[] #[.pointer (some ⟨c0, 0, none⟩)]] W (Ret (.bool K2) W) from HC0.out)
 clear HC0
 show Calls Tryz.prog 31 #[.agg #[.int .i64 a0, .int .i64 b0, .int .i64 a1, .int .i64 b1, .int .i64 a2, .int .i64 b2, .int .i64 a3, .int .i64 b3, .int .i64 a4, .int .i64 b4, .int .i64 a5, .int .i64 b5, .int .i64 a6, .int .i64 b6, .int .i64 a7, .int .i64 b7]] w _
 go_enter Tryz.func31, Tryz.ntmps31
 go_upto_region 1 with (fail)
 have Fs : Hid (RowL (w.heap.size) [.int .i64 a0, .int .i64 b0, .int .i64 a1, .int .i64 b1, .int .i64 a2, .int .i64 b2, .int .i64 a3, .int .i64 b3, .int .i64 a4, .int .i64 b4, .int .i64 a5, .int .i64 b5, .int .i64 a6, .int .i64 b6, .int .i64 a7, .int .i64 b7] (w.alloc (.cells #[.int .i64 a0, .int .i64 b0, .int .i64 a1, .int .i64 b1, .int .i64 a2, .int .i64 b2, .int .i64 a3, .int .i64 b3, .int .i64 a4, .int .i64 b4, .int .i64 a5, .int .i64 b5, .int .i64 a6, .int .i64 b6, .int .i64 a7, .int .i64 b7] 57))) := Lib.hid (by have h := RowL.new w #[.int .i64 a0, .int .i64 b0, .int .i64 a1, .int .i64 b1, .int .i64 a2, .int .i64 b2, .int .i64 a3, .int .i64 b3, .int .i64 a4, .int .i64 b4, .int .i64 a5, .int .i64 b5, .int .i64 a6, .int .i64 b6, .int .i64 a7, .int .i64 b7] 57; (try simp only [World.size_alloc] at h); exact h)
 have hB0 : Below w.heap.size w (w.alloc (.cells #[.int .i64 a0, .int .i64 b0, .int .i64 a1, .int .i64 b1, .int .i64 a2, .int .i64 b2, .int .i64 a3, .int .i64 b3, .int .i64 a4, .int .i64 b4, .int .i64 a5, .int .i64 b5, .int .i64 a6, .int .i64 b6, .int .i64 a7, .int .i64 b7] 57)) := by (repeat first | with_reducible exact Below.refl _ _ | (with_reducible refine Below.alloc ?_ ?_ _; rotate_left; exact om9))
 have sW0 : w.heap.size < (w.alloc (.cells #[.int .i64 a0, .int .i64 b0, .int .i64 a1, .int .i64 b1, .int .i64 a2, .int .i64 b2, .int .i64 a3, .int .i64 b3, .int .i64 a4, .int .i64 b4, .int .i64 a5, .int .i64 b5, .int .i64 a6, .int .i64 b6, .int .i64 a7, .int .i64 b7] 57)).heap.size := by simp only [World.size_alloc]; omega
 obtain ⟨W0, hW0⟩ : ∃ W, (w.alloc (.cells #[.int .i64 a0, .int .i64 b0, .int .i64 a1, .int .i64 b1, .int .i64 a2, .int .i64 b2, .int .i64 a3, .int .i64 b3, .int .i64 a4, .int .i64 b4, .int .i64 a5, .int .i64 b5, .int .i64 a6, .int .i64 b6, .int .i64 a7, .int .i64 b7] 57)) = W := ⟨_, rfl⟩
 rw [hW0] at Fs hB0 sW0 ⊢
 clear hW0
 go_wp2_with fail
 refine (HQ.out _).mono ?_
 rintro e w1 ⟨rfl, hb⟩
 have FS1 := Lib.hid (Fs.out.below hb)
 have hB1 := hB0.trans (hb.mono hB0.size)
 clear Fs HQ hb
 dsimp only [quantRow] at *
 go_upto_region 2 with (fail)
 have Fl : Hid (RowL (w1.heap.size) [.string ⟨#[]⟩, .nilFunc, .string ⟨#[114, 97, 100, 105, 117, 115]⟩, .func (.func 102) #[] #[], .string ⟨#[104, 101, 105, 103, 104, 116]⟩, .func (.func 103) #[] #[], .string ⟨#[97, 114, 101, 97]⟩, .func (.func 104) #[] #[], .string ⟨#[116, 111, 112]⟩, .func (.func 105) #[] #[], .string ⟨#[98, 111, 116, 116, 111, 109]⟩, .func (.func 106) #[] #[], .string ⟨#[105, 110, 110, 101, 114]⟩, .func (.func 107) #[] #[], .string ⟨#[111, 117, 116, 101, 114]⟩, .func (.func 108) #[] #[], .string ⟨#[108, 105, 102, 116]⟩, .func (.func 109) #[] #[]] (w1.alloc (.cells #[.string ⟨#[]⟩, .nilFunc, .string ⟨#[114, 97, 100, 105, 117, 115]⟩, .func (.func 102) #[] #[], .string ⟨#[104, 101, 105, 103, 104, 116]⟩, .func (.func 103) #[] #[], .string ⟨#[97, 114, 101, 97]⟩, .func (.func 104) #[] #[], .string ⟨#[116, 111, 112]⟩, .func (.func 105) #[] #[], .string ⟨#[98, 111, 116, 116, 111, 109]⟩, .func (.func 106) #[] #[], .string ⟨#[105, 110, 110, 101, 114]⟩, .func (.func 107) #[] #[], .string ⟨#[111, 117, 116, 101, 114]⟩, .func (.func 108) #[] #[], .string ⟨#[108, 105, 102, 116]⟩, .func (.func 109) #[] #[]] 118))) := Lib.hid (by have h := RowL.new w1 #[.string ⟨#[]⟩, .nilFunc, .string ⟨#[114, 97, 100, 105, 117, 115]⟩, .func (.func 102) #[] #[], .string ⟨#[104, 101, 105, 103, 104, 116]⟩, .func (.func 103) #[] #[], .string ⟨#[97, 114, 101, 97]⟩, .func (.func 104) #[] #[], .string ⟨#[116, 111, 112]⟩, .func (.func 105) #[] #[], .string ⟨#[98, 111, 116, 116, 111, 109]⟩, .func (.func 106) #[] #[], .string ⟨#[105, 110, 110, 101, 114]⟩, .func (.func 107) #[] #[], .string ⟨#[111, 117, 116, 101, 114]⟩, .func (.func 108) #[] #[], .string ⟨#[108, 105, 102, 116]⟩, .func (.func 109) #[] #[]] 118; (try simp only [World.size_alloc] at h); exact h)
 have hb2 : Below w1.heap.size w1 (w1.alloc (.cells #[.string ⟨#[]⟩, .nilFunc, .string ⟨#[114, 97, 100, 105, 117, 115]⟩, .func (.func 102) #[] #[], .string ⟨#[104, 101, 105, 103, 104, 116]⟩, .func (.func 103) #[] #[], .string ⟨#[97, 114, 101, 97]⟩, .func (.func 104) #[] #[], .string ⟨#[116, 111, 112]⟩, .func (.func 105) #[] #[], .string ⟨#[98, 111, 116, 116, 111, 109]⟩, .func (.func 106) #[] #[], .string ⟨#[105, 110, 110, 101, 114]⟩, .func (.func 107) #[] #[], .string ⟨#[111, 117, 116, 101, 114]⟩, .func (.func 108) #[] #[], .string ⟨#[108, 105, 102, 116]⟩, .func (.func 109) #[] #[]] 118)) := by (repeat first | with_reducible exact Below.refl _ _ | (with_reducible refine Below.alloc ?_ ?_ _; rotate_left; exact om9))
 have sW2 : w1.heap.size < (w1.alloc (.cells #[.string ⟨#[]⟩, .nilFunc, .string ⟨#[114, 97, 100, 105, 117, 115]⟩, .func (.func 102) #[] #[], .string ⟨#[104, 101, 105, 103, 104, 116]⟩, .func (.func 103) #[] #[], .string ⟨#[97, 114, 101, 97]⟩, .func (.func 104) #[] #[], .string ⟨#[116, 111, 112]⟩, .func (.func 105) #[] #[], .string ⟨#[98, 111, 116, 116, 111, 109]⟩, .func (.func 106) #[] #[], .string ⟨#[105, 110, 110, 101, 114]⟩, .func (.func 107) #[] #[], .string ⟨#[111, 117, 116, 101, 114]⟩, .func (.func 108) #[] #[], .string ⟨#[108, 105, 102, 116]⟩, .func (.func 109) #[] #[]] 118)).heap.size := by simp only [World.size_alloc]; omega
 obtain ⟨W2, hW2⟩ : ∃ W, (w1.alloc (.cells #[.string ⟨#[]⟩, .nilFunc, .string ⟨#[114, 97, 100, 105, 117, 115]⟩, .func (.func 102) #[] #[], .string ⟨#[104, 101, 105, 103, 104, 116]⟩, .func (.func 103) #[] #[], .string ⟨#[97, 114, 101, 97]⟩, .func (.func 104) #[] #[], .string ⟨#[116, 111, 112]⟩, .func (.func 105) #[] #[], .string ⟨#[98, 111, 116, 116, 111, 109]⟩, .func (.func 106) #[] #[], .string ⟨#[105, 110, 110, 101, 114]⟩, .func (.func 107) #[] #[], .string ⟨#[111, 117, 116, 101, 114]⟩, .func (.func 108) #[] #[], .string ⟨#[108, 105, 102, 116]⟩, .func (.func 109) #[] #[]] 118)) = W := ⟨_, rfl⟩
 rw [hW2] at Fl hb2 sW2 ⊢
 clear hW2
 have HL : Hid (RowL w1.heap.size quantRow W2) := Lib.hid Fl.out
 have FS2 := Lib.hid (FS1.out.below hb2)
 have hB2 := hB1.trans (hb2.mono hB1.size)
 clear Fl FS1
 go_wp2_with fail
 refine (HC.out _ _ _ HL.out FS2.out).mono ?_
 rintro e w3 ⟨rfl, hb3⟩
 have hB3 := hB2.trans (hb3.mono hB2.size)
 go_wp2_with fail
 go_ret
 exact ⟨by rw [← HS.out]; rfl, by (repeat with_reducible assumption)⟩
end
end Go.Proofs.YthggkidiidnaoaaGreat
