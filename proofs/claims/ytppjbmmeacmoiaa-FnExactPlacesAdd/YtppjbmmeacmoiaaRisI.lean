/-
  What impl.rising answers and leaves. Conditions: at most 1,048,576 places, of texts of at most 1,048,576 bytes.
-/
import Derived.Test.YtppjbmmeacmoiaaBySp
import Derived.Test.YtppjbmmeacmoiaaSortP
namespace Go.Proofs.Ytppjbmmeacmoiaa.plc
open Go.RowKit Go.Joins Go.Sort Go.Maps
open Go.Proofs.Ytppjbmmeacmoiaa.base Go.Proofs.Ytppjbmmeacmoiaa.blk Go.Proofs.Ytppjbmmeacmoiaa.aid
open Go.Proofs.Ytppjbmmeacmoiaa.row (Rd Own OwnV appSem app_fold)
open Go.Proofs.Ytppjbmmeacmoiaa.rwPlace (cs el)
set_option linter.unusedVariables false
set_option linter.unusedSimpArgs false
attribute [local go_sem ↓] app_fold

/-- the step of a range over a map of places -/
theorem wpList_next_pl (w : World) {ops : Array Oper} {rest : List Oper} {o : Oper} {a : Act} {Q : Exit → Act → World → Prop} (hg : o.guard = none) (it : Operand) (hop : o.op = Op.next it false) (b r n : Nat) (D : DataW Unit) (left : Lit → Bool) (cnt : Nat)
    (hit : a.eval it = .pointer (some ⟨r, 0, none⟩)) (h : w.ranges Try.prog 62 R b r n D left cnt) (L : List Pl) (hM : HoldsM D L)
    (hDone : (∀ k, left k = false) → wpList Try.prog ops Q rest (a.put o.dst (.tuple #[.bool false])) w)
    (hMore : ∀ (x0 x1 : ByteArray) (x2 x3 x4 : Int) (w' : World) (cnt' : Nat), (x0, x1, x2, x3, x4) ∈ L → left (kl (x0, x1)) = true → w'.ranges Try.prog 62 R b r n D (fun z => left z && !z.sameKey (kl (x0, x1))) cnt' → cnt' < cnt →
      w.grownBy w' (some r) → w'.heap.size = w.heap.size → (Instr.entry (.pointer (some ⟨r, 0, none⟩))).run Try.prog w' = .ok (.tuple #[.agg #[.string x0, .string x1], .agg #[.string x0, .string x1, .int .i64 x2, .int .i64 x3, .int .i64 x4]]) w' →
      wpList Try.prog ops Q rest (a.put o.dst (.tuple #[.bool true, .agg #[.string x0, .string x1], .agg #[.string x0, .string x1, .int .i64 x2, .int .i64 x3, .int .i64 x4]])) w') :
    wpList Try.prog ops Q (o :: rest) a w :=
  wpList_next_ranges w hg it hop 62 lawK R keyV plV (fun key l hk => by obtain ⟨s, hs, _⟩ := keyOf_inv hk; exact ⟨s, hs⟩) (fun v y hv => by obtain ⟨p, hp, _⟩ := R_inv hv; exact ⟨p, hp⟩) b r n D left cnt hit h (fun _ hl => hDone hl)
    (fun x c l y w' cnt' hkey hlk hv hat hrg hlt hgr hsz hen => by
      obtain ⟨s, es, rfl, hs1, hs2⟩ := keyOf_inv hkey
      have ex : x = s := by
        unfold keyV at es
        injection es with es
        simp at es
        exact Prod.ext es.1 es.2
      subst ex
      obtain ⟨p, hp, hpe⟩ := hM.only _ (has_true_of_atKey hat)
      have hf := hM.fits p hp
      have e1 : x = sp p := kl_inj hs1 hs2 (fit_max hf.1) (fit_max hf.2) hpe
      subst e1
      have e2 : dat p = y.1 := (hM.at_ p hp .nil).symm.trans (hat .nil)
      rw [R_mk] at hv
      cases hv
      have e3 := dat_inj e2
      subst e3
      obtain ⟨x0, x1, x2, x3, x4⟩ := p
      exact hMore x0 x1 x2 x3 x4 w' cnt' hp hlk hrg hlt hgr hsz hen)
/-- which have come already -/
structure Col (L : List Pl) (left : Lit → Bool) (acc : List Pl) : Prop where
  mem : ∀ p, p ∈ acc ↔ p ∈ L ∧ left (kl (sp p)) = false
  nodup : acc.Nodup
theorem Col.start {D : DataW Unit} {L : List Pl} (hM : HoldsM D L) : Col L (Maps.has D) [] :=
  ⟨fun p => ⟨fun h => (by cases h), fun h => absurd h.2 (by rw [hM.there h.1]; simp)⟩, .nil⟩
theorem Col.step {D : DataW Unit} {L : List Pl} {left : Lit → Bool} {acc : List Pl} (hM : HoldsM D L) (h : Col L left acc) {x : Pl} (hx : x ∈ L) (hl : left (kl (sp x)) = true) : Col L (fun z => left z && !z.sameKey (kl (sp x))) (acc ++ [x]) := by
  refine ⟨fun p => ?_, ?_⟩
  · rw [List.mem_append, List.mem_singleton, h.mem p]
    constructor
    · rintro (⟨h1, h2⟩ | rfl)
      · exact ⟨h1, by show (left (kl (sp p)) && _) = false; rw [h2]; rfl⟩
      · refine ⟨hx, ?_⟩
        show (left (kl (sp p)) && !(kl (sp p)).sameKey (kl (sp p))) = false
        rw [WideAt.sameKey_self (a := kl (sp p)) (by exact trivial)]
        simp
    · rintro ⟨h1, h2⟩
      have h2 : (left (kl (sp p)) && !(kl (sp p)).sameKey (kl (sp x))) = false := h2
      cases hlp : left (kl (sp p)) with
      | false => exact .inl ⟨h1, rfl⟩
      | true =>
        rw [hlp] at h2
        have hs : (kl (sp p)).sameKey (kl (sp x)) = true := by
          cases hq : (kl (sp p)).sameKey (kl (sp x)) with
          | true => rfl
          | false => rw [hq] at h2; cases h2
        have e := WideAt.sameKey_eq hs
        have f1 := hM.fits p h1
        have f2 := hM.fits x hx
        exact .inr (inj_on hM.apart h1 hx (kl_inj (fit_max f1.1) (fit_max f1.2) (fit_max f2.1) (fit_max f2.2) e))
  · rw [List.nodup_append]
    refine ⟨h.nodup, by simp, ?_⟩
    intro p hp q hq e
    simp at hq
    subst hq
    subst e
    have := ((h.mem p).1 hp).2
    rw [hl] at this
    cases this
theorem nodup_of {L : List Pl} (h : Apart L) : L.Nodup := by
  unfold Apart List.Nodup at *
  rw [List.pairwise_map] at h
  exact h.imp (fun {a b} hne e => hne (by rw [e]))
theorem Col.fin {D : DataW Unit} {L : List Pl} {left : Lit → Bool} {acc : List Pl} (hM : HoldsM D L) (h : Col L left acc) (hl : ∀ k, left k = false) : acc.Perm L :=
  (List.perm_ext_iff_of_nodup h.nodup (nodup_of hM.apart)).2 (fun p => by rw [h.mem p]; exact ⟨fun q => q.1, fun q => ⟨q, hl _⟩⟩)
/-- what holds on the way -/
structure Rs (w : World) (b n : Nat) (D : DataW Unit) (L : List Pl) (left : Lit → Bool) (cnt : Nat) (v : Value) (acc : List Pl) (wr : World) : Prop where
  rg : wr.ranges Try.prog 62 R b w.heap.size n D left cnt
  own : wr.ownsRow (w.heap.size + 1) 37 5 v acc.length (cs acc)
  col : Col L left acc
  few : acc.length + cnt ≤ n
  lt : w.heap.size + 1 ≤ wr.heap.size
  below : Below w.heap.size w wr
theorem Rs.next {w wr w1 : World} {b n cnt : Nat} {D : DataW Unit} {L acc : List Pl} {left : Lit → Bool} {v : Value} (h : Rs w b n D L left cnt v acc wr) (hb : Below wr.heap.size wr w1) : Rs w b n D L left cnt v acc w1 := by
  refine ⟨h.rg.kept (below_grew hb none) (by simp) (by simp), h.own.kept (below_grew hb none) ?_, h.col, h.few, Nat.le_trans h.lt hb.size, below_trans h.below hb⟩
  cases v.ownBlock with
  | none => exact .inl rfl
  | some g => exact .inr (by simp)
theorem Rs.alloc {w wr : World} {b n cnt : Nat} {D : DataW Unit} {L acc : List Pl} {left : Lit → Bool} {v : Value} (h : Rs w b n D L left cnt v acc wr) (o : Obj) : Rs w b n D L left cnt v acc (wr.alloc o) := h.next (below_alloc1 wr o)
set_option maxRecDepth 100000 in
set_option maxHeartbeats 4000000 in
theorem rising_any (b n : Nat) (D : DataW Unit) (L : List Pl) (w : World) (hown : w.ownsMap Try.prog 62 R b n D) (hM : HoldsM D L) (hn : n ≤ 1000000) :
    Calls Try.prog 34 #[.map (some b)] w fun e w' => ∃ (v : Value) (r : List Pl), e = .returned v ∧ w'.ownsRow w.heap.size 37 5 v r.length (cs r) ∧ r.Perm L ∧ r.Pairwise (fun a b => lessP b a = false) ∧ Below w.heap.size w w' := by
  have hni : (n : Int) ≤ 1000000 := by omega
  have hblt := hown.lt
  have HM := mkHid hM
  have HO := mkHid hown
  clear hM hown
  go_enter Try.func34, Try.ntmps34
  go_wp2_with (first
    | (at_range; refine wpList_range_own _ rfl _ 53 rfl 62 37 lawK Try.underlying53 _ b n _ rfl HO.out ?_; intro w0 hrg0 hg0 hs0)
    | fail)
  go_frame
  have S0 : Hid (Rs w b n D L (Maps.has D) (Maps.size D) (.slice none 0 0) [] w0) := mkHid ⟨hrg0, World.ownsRow_nil _ _ _ _, Col.start HM.out, by have := HO.out.size_le; simpa using this, by omega, ⟨hg0.os, hg0.tape, hg0.output, hg0.size, fun k hk => hg0.block k hk (by simp)⟩⟩
  clear hrg0 hg0 hs0
  go_loopw [3, 5] (fun v p wr => ∃ (left : Lit → Bool) (cnt : Nat) (acc : List Pl) (a : Option Addr) (c : Nat), v = .slice a acc.length c ∧ Hid (Rs w b n D L left cnt (.slice a acc.length c) acc wr))
    (fun _ _ wr => wr.rangeLeft b w.heap.size)
  case atStart => exact ⟨_, _, [], none, 0, rfl, S0⟩
  case round =>
    obtain ⟨left, cnt, acc, a, c, rfl, S⟩ := hrel
    clear S0
    go_wp2_with (first
      | (at_next; refine wpList_next_pl _ rfl _ rfl b w.heap.size n D left cnt rfl S.out.rg L HM.out ?_ ?_)
      | fail)
    · intro hl0
      have hperm := mkHid (S.out.col.fin HM.out hl0)
      have hlen : acc.length ≤ 1048576 := by have := S.out.few; omega
      have HS := mkHid (sort_own wr (w.heap.size + 1) _ acc hlen S.out.own)
      go_wp2_with fail
      refine HS.out.mono ?_
      rintro e w2 ⟨rfl, d, hd1, hd2, hd3, hd4⟩
      have F1 := mkHid (And.intro hd3 (S.out.below.grown hd4 S.out.below.size (fun j hj => by have := (S.out.own.lt j hj).1; omega)))
      have F2 := mkHid (And.intro (hd1.trans hperm.out) hd2)
      have hdl := hd1.length_eq
      have F3 : Hid (w2.ownsRow w.heap.size 37 5 (.slice a acc.length c) d.length (cs d)) := mkHid (by
        rw [hdl]
        rcases F1.out.1.2 with ⟨h1, h2⟩ | ⟨g, cap, cur, h1, h2, h3⟩
        · exact ⟨F1.out.1.1, .inl ⟨h1, h2⟩⟩
        · exact ⟨F1.out.1.1, .inr ⟨g, cap, cur, h1, by omega, h3⟩⟩)
      clear hd1 hd2 hd3 hd4 HS hperm S hdl
      go_wp2
      go_ret
      exact ⟨_, d, rfl, F3.out, F2.out.1, F2.out.2, F1.out.2⟩
    · intro x0 x1 x2 x3 x4 w1 cnt1 hx hlx hrg1 hlt hg1 hs1 hen
      have hfx := HM.out.fits _ hx
      simp only at hfx
      have hcnt := S.out.few
      have hal : (acc.length : Int) + 1 ≤ 1000000 := by omega
      have hO1 : w1.ownsRow (w.heap.size + 1) 37 5 (.slice a acc.length c) acc.length (cs acc) := S.out.own.kept hg1 (by
        cases hv : (Value.slice a acc.length c).ownBlock with
        | none => exact .inl rfl
        | some g => exact .inr (fun e => by have := (S.out.own.lt g hv).1; simp at e; omega))
      have S1 : Hid (Rs w b n D L left cnt (.slice a acc.length c) acc wr ∧ w1.ownsRow (w.heap.size + 1) 37 5 (.slice a acc.length c) acc.length (cs acc) ∧ Below w.heap.size w w1 ∧ w.heap.size + 1 ≤ w1.heap.size) := mkHid ⟨S.out, hO1, S.out.below.grown hg1 (by have := S.out.lt; omega) (fun j hj => by cases hj; exact Nat.le_refl _), by have := S.out.lt; omega⟩
      have HC := mkHid (fun wx => copyPlace_any x0 x1 x2 x3 x4 wx hfx.1 hfx.2)
      have hleft := S.out.rg.left_eq
      clear S hO1
      go_wp2_with fail
      refine (HC.out _).mono ?_
      rintro e w3 ⟨rfl, hb3⟩
      have hb : Below w1.heap.size w1 w3 := below_trans (below_alloc1 w1 _) hb3
      have hO3 := S1.out.2.1.kept (below_grew hb none) (by
        cases (Value.slice a acc.length c).ownBlock with
        | none => exact .inl rfl
        | some g => exact .inr (by simp))
      have hs3 : w.heap.size + 1 ≤ w3.heap.size := Nat.le_trans S1.out.2.2.2 hb.size
      obtain ⟨g, c', w4, happ, hO4, hg4⟩ := rwPlace.app (W := w3) (base := w.heap.size + 1) (.slice a acc.length c) acc.length acc x0 x1 x2 x3 x4 rfl hO3 hs3 (by omega)
      have hr3 := hrg1.kept (below_grew hb none) (by simp) (by simp)
      have hr4 := (hr3.alloc (.cells #[.string x0, .string x1, .int .i64 x2, .int .i64 x3, .int .i64 x4] 37)).kept hg4 (fun e => by have := (hO3.lt b e.symm).1; omega) (fun e => by have := (hO3.lt w.heap.size e.symm).1; omega)
      have hB4 := (below_trans S1.out.2.2.1 hb).alloc (by omega) (.cells #[.string x0, .string x1, .int .i64 x2, .int .i64 x3, .int .i64 x4] 37)
      have hlen1 : (acc ++ [(x0, x1, x2, x3, x4)]).length = acc.length + 1 := by rw [List.length_append, List.length_singleton]
      have hcol : Col L (fun z => left z && !z.sameKey (kl (x0, x1))) (acc ++ [(x0, x1, x2, x3, x4)]) := S1.out.1.col.step (x := (x0, x1, x2, x3, x4)) HM.out hx hlx
      have hlt4 : w.heap.size + 1 ≤ w4.heap.size := by have := hg4.size; simp only [World.size_alloc] at this; omega
      have hB5 : Below w.heap.size w w4 := hB4.grown hg4 (by simp only [World.size_alloc]; omega) (fun j hj => by have := (hO3.lt j hj).1; omega)
      have hfew : acc.length + 1 + cnt1 ≤ n := by omega
      have N1 : Hid (Rs w b n D L (fun z => left z && !z.sameKey (kl (x0, x1))) cnt1 (.slice (some ⟨g, 0, none⟩) (acc.length + 1) c') (acc ++ [(x0, x1, x2, x3, x4)]) w4) := mkHid ⟨hr4, by rw [hlen1]; exact hO4, hcol, by rw [hlen1]; exact hfew, hlt4, hB5⟩
      clear hcol hlt4 hB5 hfew
      rw [← hlen1] at N1
      have HLN := mkHid hlen1.symm
      clear hlen1
      have HL1 := mkHid (show w4.rangeLeft b w.heap.size < wr.rangeLeft b w.heap.size by rw [hr4.left_eq, hleft]; exact hlt)
      clear S1 hrg1 hr3 hr4 hO3 hO4 hg4 hB4 hb hb3 HC hx hlx hen hg1 hleft
      go_wp2
      go_roundw
      case rel => exact ⟨_, cnt1, acc ++ [(x0, x1, x2, x3, x4)], some ⟨g, 0, none⟩, c', by rw [← HLN.out], N1⟩
      case measure => exact HL1.out
end Go.Proofs.Ytppjbmmeacmoiaa.plc
