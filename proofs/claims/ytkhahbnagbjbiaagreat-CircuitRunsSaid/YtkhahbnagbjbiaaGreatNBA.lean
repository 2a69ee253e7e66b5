import Derived.Test.YtkhahbnagbjbiaaGreatNAA
import Derived.Test.YtkhahbnagbjbiaaGreatNAZ
section
/- Abstract walking: conversions between kinds of whole numbers, copies into own boxes. -/
namespace Go.Proofs.YtkhahbnagbjbiaaGreat
set_option linter.unusedVariables false
set_option linter.unusedSimpArgs false
set_option autoImplicit false
open Go.RowKit
section
variable {P : Program} {e0 : Cfg} {U : Snaps} {l : Slots} {L : Boxes} {ops : Array Oper} {Q : Exit → Act → World → Prop} {rest : List Oper} {d : Nat} {v : Value}
variable {ty : TypeId} {pos : String} {af : Array Edge} {g : Option (Nat × Bool)} {dd : Option Nat}
theorem q_convI {s t : TypeId} {k1 k2 k3 : IntKind} {x : Int} {ox : Operand} (hx : E l ox = some (.int k1 x)) (hs : P.underlying s = some (.int k3)) (ht : P.underlying t = some (.int k2)) (hw : k2.wrap x = x) : Q1 P e0 U l L ⟨dd, .convert s t ox, ty, pos, af, g⟩ (.int k2 x) := by
  intro a w hf hs'
  simp [execOp, hf.ev hx, convert, run_underlying hs, run_underlying ht, Conv.intToInt, hw]
/-- copy of cells that can be read into an own box -/
theorem al_copyB {dT sT e z b od dl dc m sl sc i : Nat} {cs cs' vs : List Value} {A : Addr} {L' : Boxes} {ox oy : Operand} (hx : E l ox = some (.slice (some ⟨b, od, none⟩) dl dc)) (hy : E l oy = some (.slice (some A) sl sc)) (hi : L[i]? = some (b, .cells cs)) (hm : Nat.min sl dl = m) (hv : vs.length = m * z) (hl : od + m * z ≤ cs.length)
    (hone : ∀ v ∈ vs, v.oneCell' = true) (hsrc : ∀ w, Sta e0 U L w → ∀ j v, vs[j]? = some v → w.cell? (A.add j) = some v) (hu : P.underlying dT = some (.slice e)) (hs1 : (P.info? e).map (·.size) = some z) (hcs : cs' = cs.take od ++ vs ++ cs.drop (od + vs.length)) (hL : SetAt i (b, .cells cs') L L') (hn : Nat.blt d e0.n = true) (hw : want ops l g = some true)
    (k : AL P ops Q e0 U ((d, .int .i64 (m : Int)) :: l) L' rest) : AL P ops Q e0 U l L (⟨some d, .call ⟨.builtin .copy, #[ox, oy], #[dT, sT]⟩, ty, pos, af, g⟩ :: rest) :=
  al_run2 (K := True) hw rfl hn (fun a' w hf hs => by
    have hl2 := run_loadCells_list (P := P) w A vs (hsrc w hs)
    obtain ⟨w', hr, hst⟩ := run_storeCells P e0 U i b vs L cs od 0 w hs hi (by omega) hone
    refine ⟨_, w', U, L', ?_, ?_, k⟩
    · cases hq : P.info? e with
      | none => simp [hq] at hs1
      | some i =>
        have hi : i.size = z := by simpa [hq] using hs1
        have hc : (Builtin.copy_ #[dT, sT] ty #[.slice (some ⟨b, od, none⟩) dl dc, .slice (some A) sl sc]).run P w = .ok (goInt m) w' := by
          have hr' : (storeCells ⟨b, od, none⟩ vs).run P w = .ok () w' := by simpa [storeCells] using hr
          rw [hv] at hl2
          simp [Builtin.copy_, run_underlying hu, Builtin.lenOf, Builtin.firstCells, sizeOf, typeInfo, hq, hi, hm, hl2, hr']
        have ex : a'.eval ox = _ := hf.ev hx
        have ey : a'.eval oy = _ := hf.ev hy
        simp only [execOp, resolve, invoke, builtin, Sem.run_bind, Sem.run_pure, Result.andThen_ok, List.map_toArray, List.map_cons, List.map_nil, ex, ey, hc]
        rfl
    · rw [hL.eq, hcs]; simpa using hst)
end
/-- a change of one own box that leaves new blocks as they are from then on -/
theorem Sta.callC {E : Cfg} {U : Snaps} {L L' : Boxes} {w w' : World} {i b : Nat} {cs cs' : Cont} (h : Sta E U L w) (hi : L[i]? = some (b, cs)) (hc : Chg [b] w w') (hbox : BoxAt w' b cs') (hL : SetAt i (b, cs') L L') : Sta E ((w.heap.size, w') :: U) L' w' := by
  have h' := h.change hi hc hbox
  rw [← hL.eq] at h'
  refine ⟨h'.chg, h'.box, h'.apart, fun lo u hu => ?_⟩
  cases hu with
  | head =>
    refine ⟨h.chg.size, hc.size, Nat.le_refl _, fun k _ hk => rfl, h'.chg.block, fun j c ds hj => Or.inl ?_⟩
    rw [hL.eq] at hj
    rcases getElem?_set_some hi hj with ⟨_, e⟩ | ⟨_, e⟩
    · cases e; exact (h.box i b cs hi).2.lt
    · exact (h.box j c ds e).2.lt
  | tail _ hu => exact h'.snap lo u hu
theorem Chg.mv {X Z : List Nat} {v V W : World} {n0 : Nat} (h : Chg X v V) (hm : Mv n0 Z V W) (hn : v.heap.size ≤ n0) (hz : ∀ z ∈ Z, v.heap.size ≤ z) : Chg X v W :=
  ⟨hm.os.trans h.os, hm.tape.trans h.tape, hm.output.trans h.output, Nat.le_trans h.size hm.size, fun b hb hx => (hm.block b (Nat.lt_of_lt_of_le hb h.size) (fun hz' => by have := hz b hz'; omega) (Or.inl (by omega))).trans (h.block b hb hx)⟩
section
variable {P : Program} {U : Snaps} {l : Slots} {L : Boxes}
theorem Sta.putD {E : Cfg} {U : Snaps} {L : Boxes} {w : World} {D : Nat} {o o' : Obj} (h : Sta E U L w) (ho : w.heap[D]? = some o) (hc : o.isCells = false) (hm : ∀ es k, o ≠ .map es k) (hD : E.w.heap.size ≤ D) : Sta E [] L (w.putObj D o') := by
  have hch : Chg [D] w (w.putObj D o') := Chg.putObj ho
  refine ⟨⟨hch.os.trans h.chg.os, hch.tape.trans h.chg.tape, hch.output.trans h.chg.output, Nat.le_trans h.chg.size hch.size, fun k hk hn => ?_⟩, fun i b cs hi => ?_, h.apart, fun lo u hu => by cases hu⟩
  · exact (hch.block k (Nat.lt_of_lt_of_le hk h.chg.size) (fun e => by have := List.mem_singleton.1 e; omega)).trans (h.chg.block k hk hn)
  · obtain ⟨h1, h2⟩ := h.box i b cs hi
    refine ⟨h1, Nat.lt_of_lt_of_le h2.lt hch.size, fun ds hd k v hk => ?_, fun es k hd => ?_⟩
    · obtain ⟨g1, g2⟩ := h2.cell ds hd k v hk
      have hne : b ≠ D := fun e => by
        subst e
        obtain ⟨o2, ho2, hc2⟩ := cells_of_cell g1
        rw [ho] at ho2; cases ho2; rw [hc] at hc2; cases hc2
      have e := hch.block b h2.lt (fun e => hne (List.mem_singleton.1 e))
      exact ⟨(World.cell?_of_block (w := w) (w' := w.putObj D o') (a := ⟨b, k, none⟩) e).trans g1, (World.frozen?_of_block (w := w) (w' := w.putObj D o') (a := ⟨b, k, none⟩) e).trans g2⟩
    · have g := h2.map es k hd
      have hne : b ≠ D := fun e => by
        subst e
        rw [ho] at g; cases g; exact hm _ _ rfl
      exact (hch.block b h2.lt (fun e => hne (List.mem_singleton.1 e))).trans g
/-- its return behind the loop -/
theorem retMD {n D : Nat} {w0 : World} {bs : List Nat} {fn : Func} {R : Ending → World → Prop} {rs : List ResultVar} {vs : List Value} {v : Value} (hr : fn.results = rs.toArray) (h : RT P l L rs vs) (hv : Fin1 vs v) (hDl : w0.heap.size ≤ D) (hD : ∀ w, Sta ⟨n, [{ target := .collected D, args := #[] }], w0, bs⟩ U L w → w.heap[D]? = some (.deferred (some [])))
    (hR : ∀ w w', Sta ⟨n, [{ target := .collected D, args := #[] }], w0, bs⟩ U L w → Mv D [] w w' → Chg [D] w w' → R (.returned v) w') : AQ ⟨n, [{ target := .collected D, args := #[] }], w0, bs⟩ U l L (postM P fn R .ret) := fun a w hf hs => by
  show LeavesInM _ _ _ _ _ _ a.defers _ _
  rw [hf.defers]
  refine ⟨by simp, .inl ⟨_, _, rfl, run_takeDeferred (hD w hs), ?_⟩⟩
  refine ⟨v, ?_, hR w _ hs (Mv.putObj (Nat.le_refl _) (hD w hs) rfl) (Chg.putObj (hD w hs))⟩
  rw [← hv.eq]
  exact results_eq fn a.tmps rs hr vs _ (h.run hf (hs.putD (hD w hs) rfl (fun _ _ e => by cases e) hDl))
end

end Go.Proofs.YtkhahbnagbjbiaaGreat
end
section
/- Package span and its specification: contracts of the looks (Width, Middle, Greatest, Proved), of Make and Point, over this seat's translation. -/
namespace Go.Proofs.YtkhahbnagbjbiaaGreat
set_option linter.unusedVariables false
set_option linter.unusedSimpArgs false
open Go.RowKit

end Go.Proofs.YtkhahbnagbjbiaaGreat
end
