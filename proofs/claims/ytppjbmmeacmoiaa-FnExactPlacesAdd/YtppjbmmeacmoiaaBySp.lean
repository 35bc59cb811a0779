/-
  What impl.bySpot answers and leaves. Conditions: at most 1,048,576 places, which lie in memory, of texts of at most 1,048,576 bytes.
-/
import Derived.Test.YtppjbmmeacmoiaaCatI
import Derived.Test.YtppjbmmeacmoiaaMapP
import Derived.Test.YtppjbmmeacmoiaaFdS
import Derived.Carry
namespace Go.Proofs.Ytppjbmmeacmoiaa.plc
open Go.RowKit Go.Joins Go.Sort Go.Maps
open Go.Proofs.Ytppjbmmeacmoiaa.base Go.Proofs.Ytppjbmmeacmoiaa.blk Go.Proofs.Ytppjbmmeacmoiaa.aid
open Go.Proofs.Ytppjbmmeacmoiaa.row (Rd Own OwnV appSem app_fold)
open Go.Proofs.Ytppjbmmeacmoiaa.rwPlace (cs el)
set_option linter.unusedVariables false
set_option linter.unusedSimpArgs false

def updSem (t : TypeId) (m k v : Value) : Sem Unit := Instr.mapUpdate t m k v
theorem upd_fold (t : TypeId) (m k v : Value) : Instr.mapUpdate t m k v = updSem t m k v := rfl
attribute [local go_sem ↓] upd_fold
theorem zeroV (w : World) : (zeroValue 37).run Try.prog w = .ok (.agg #[.string ⟨#[]⟩, .string ⟨#[]⟩, .int .i64 0, .int .i64 0, .int .i64 0]) w := by kernel_rfl
theorem zeroR_is : R (.agg #[.string ⟨#[]⟩, .string ⟨#[]⟩, .int .i64 0, .int .i64 0, .int .i64 0]) = some (dat zeroP, []) := rfl
/-- a place is looked for in the map: is it there? -/
theorem wpList_lookup_pl (w : World) {ops : Array Oper} {rest : List Oper} {o : Oper} {a : Act} {Q : Exit → Act → World → Prop} (hg : o.guard = none) (m x : Operand) (hop : o.op = Op.lookup 53 m x true)
    (b n : Nat) (D : DataW Unit) (hm : a.eval m = .map (some b)) (hown : w.ownsMap Try.prog 62 R b n D) (L : List Pl) (hM : HoldsM D L) (s0 s1 : ByteArray) (h0 : s0.size ≤ 1048576) (h1 : s1.size ≤ 1048576) (hx : a.eval x = .agg #[.string s0, .string s1]) (r : Bool) (hr : hasS L (s0, s1) = r)
    (hK : ∀ (q0 q1 : ByteArray) (q2 q3 q4 : Int), wpList Try.prog ops Q rest (a.put o.dst (.tuple #[.agg #[.string q0, .string q1, .int .i64 q2, .int .i64 q3, .int .i64 q4], .bool r])) w) :
    wpList Try.prog ops Q (o :: rest) a w :=
  wpList_lookup_own_ok w hg m x 53 hop 62 37 lawK Try.underlying53 R (zeroV w) (dat zeroP) [] zeroR_is b n D hm hown (keyV (s0, s1)) (kl (s0, s1)) hx (keyOf_spot _ (fit_max h0) (fit_max h1)) (fun v ps hv => by
    obtain ⟨⟨q0, q1, q2, q3, q4⟩, rfl, _⟩ := R_inv hv
    rw [hM.hasS (s0, s1) h0 h1, hr]
    exact hK q0 q1 q2 q3 q4)
theorem rd_owns {w : World} {base T n size c : Nat} {a : Option Addr} {xs : List Value} (h : w.ownsRow base T size (.slice a n c) n xs) : Rd w a xs := by
  rcases h.2 with ⟨h1, h2⟩ | ⟨g, cap, cur, h1, _⟩
  · have hl := h.1
    rw [h2, Nat.zero_mul] at hl
    rw [List.eq_nil_of_length_eq_zero hl]
    exact Rd.nil _ _
  · simp at h1
    obtain ⟨rfl, _⟩ := h1
    exact (Own.owns h).rd
theorem rd_grew {w w' : World} {a : Option Addr} {xs : List Value} {r : Option Nat} (h : Rd w a xs) (hg : w.grownBy w' r) (hr : ∀ b o s, a = some ⟨b, o, s⟩ → some b ≠ r) : Rd w' a xs :=
  h.block (fun b off e hl => hg.block b hl (hr b off none e))
/-- what holds on the way -/
structure Bs (w : World) (B : Nat) (a1 : Option Addr) (all : List Pl) (k n : Nat) (D : DataW Unit) (wr : World) : Prop where
  own : wr.ownsMap Try.prog 62 R B n D
  holds : HoldsM D (firsts (all.take k))
  few : n ≤ k
  rd : Rd wr a1 (cs all)
  below : Below w.heap.size w wr
theorem Bs.next {w wr w1 : World} {B k n : Nat} {a1 : Option Addr} {all : List Pl} {D : DataW Unit} (h : Bs w B a1 all k n D wr) (hb : Below wr.heap.size wr w1) : Bs w B a1 all k n D w1 :=
  ⟨h.own.kept (below_grew hb none) (by simp), h.holds, h.few, h.rd.below hb, below_trans h.below hb⟩
theorem Bs.alloc {w wr : World} {B k n : Nat} {a1 : Option Addr} {all : List Pl} {D : DataW Unit} (h : Bs w B a1 all k n D wr) (o : Obj) : Bs w B a1 all k n D (wr.alloc o) := h.next (below_alloc1 wr o)
theorem firsts_take {all : List Pl} {k : Nat} {x : Pl} (hx : all[k]? = some x) : firsts (all.take (k + 1)) = fst1 (firsts (all.take k)) x := by
  rw [List.take_add_one, hx]
  exact firsts_snoc _ _
set_option maxRecDepth 100000 in
set_option maxHeartbeats 4000000 in
theorem bySpot_any (a0 : Option Addr) (c0 : Nat) (ls : List (Option Addr × Nat × List Pl)) (w : World) (hr : Rd w a0 (ls.map sv)) (hls : ∀ x ∈ ls, Rd w x.1 (cs x.2.2)) (hn : ls.length ≤ 100) (ht : (allP ls).length ≤ 1048576) (hf : Fits (allP ls)) :
    Calls Try.prog 33 #[.slice a0 ls.length c0] w fun e w' => ∃ b n D, e = .returned (.map (some b)) ∧ w'.ownsMap Try.prog 62 R b n D ∧ HoldsM D (firsts (allP ls)) ∧ n ≤ (allP ls).length ∧ w.heap.size ≤ b ∧ Below w.heap.size w w' := by
  have hmm := @run_makeMap Try.prog
  have HC := mkHid (concat_any a0 c0 ls (w.alloc (.map #[] 0)) (hr.alloc _) (fun x hx => (hls x hx).alloc _) hn ht)
  have B0 := mkHid (below_alloc1 w (.map #[] 0))
  have M0 := mkHid (World.ownsMap_made w Try.prog 62 R)
  have HF := mkHid hf
  clear hr hls hf
  generalize allP ls = all at *
  go_enter Try.func33, Try.ntmps33
  go_wp2_with fail
  refine HC.out.mono ?_
  rintro e w1 ⟨v, rfl, hown, hb⟩
  obtain ⟨a1, c1, rfl⟩ := slice_of hown
  have hti : (all.length : Int) ≤ 1048576 := by omega
  have hoff : ∀ b o s, a1 = some ⟨b, o, s⟩ → some b ≠ some w.heap.size := by
    intro b o s e he
    have h1 := (hown.lt b (by rw [e]; rfl)).1
    simp at he h1
    omega
  have S0 : Hid (Bs w w.heap.size a1 all 0 0 (.map []) w1) := mkHid ⟨M0.out.kept (below_grew hb none) (by simp), HoldsM.nil, Nat.le_refl _, rd_owns hown, below_trans B0.out hb⟩
  have HOff := mkHid hoff
  clear hown hb M0 B0 HC hoff
  go_wp2_with fail
  go_loopw [5, 6, 7, 12] (fun p5 p6 p7 i wr => ∃ (k n : Nat) (D : DataW Unit), k ≤ all.length ∧ i = .int .i64 k ∧ Hid (Bs w w.heap.size a1 all k n D wr))
    (fun _ _ _ i _ => all.length - (intOf i).toNat)
  case atStart => exact ⟨0, 0, .map [], Nat.zero_le _, rfl, S0⟩
  case round =>
    obtain ⟨k, n, D, hk, rfl, S⟩ := hrel
    clear S0
    by_cases hlt : k < all.length
    · have hlti : (k : Int) < (all.length : Int) := by omega
      obtain ⟨⟨x0, x1, x2, x3, x4⟩, hx⟩ : ∃ y, all[k]? = some y := ⟨_, List.getElem?_eq_getElem hlt⟩
      obtain ⟨g1, o1, rfl, c0, c1, c2, c3, c4, l1⟩ := el S.out.rd hx
      have hft := firsts_take hx
      have hBlt := S.out.own.lt
      have hfx := HF.out _ (List.mem_of_getElem? hx)
      simp only at c0 c1 c2 c3 c4 hfx
      have S1 := mkHid (S.out.alloc (.cells #[.string x0, .string x1, .int .i64 x2, .int .i64 x3, .int .i64 x4] 37))
      have b1 := mkHid (blk_new wr (.cells #[.string x0, .string x1, .int .i64 x2, .int .i64 x3, .int .i64 x4] 37) wr.heap.size rfl)
      have HSp := mkHid (fun wx => spot_any x0 x1 x2 x3 x4 wx)
      cases hh : hasS (firsts (all.take k)) (x0, x1) with
      | true =>
        have E := mkHid (show firsts (all.take (k + 1)) = firsts (all.take k) by rw [hft]; unfold fst1; rw [if_pos hh])
        clear hft hx S
        go_wp2_with fail
        refine (HSp.out _).mono ?_
        rintro e w2 ⟨rfl, rfl⟩
        have S2 := mkHid ((S1.out.alloc (.cells #[.string x0, .string x1, .int .i64 x2, .int .i64 x3, .int .i64 x4] 37)).alloc (.cells #[.string x0, .string x1] 62))
        have HH := mkHid hh
        clear S1 b1 HSp c0 c1 c2 c3 c4 hh
        generalize ((wr.alloc (.cells #[.string x0, .string x1, .int .i64 x2, .int .i64 x3, .int .i64 x4] 37)).alloc (.cells #[.string x0, .string x1, .int .i64 x2, .int .i64 x3, .int .i64 x4] 37)).alloc (.cells #[.string x0, .string x1] 62) = w2 at *
        go_wp2_with (first | (at_lookup; refine wpList_lookup_pl _ rfl _ _ rfl w.heap.size n D rfl S2.out.own _ S2.out.holds x0 x1 hfx.1 hfx.2 rfl true HH.out ?_; intro q0 q1 q2 q3 q4) | fail)
        have S3 : Hid (Bs w w.heap.size (some ⟨g1, o1, none⟩) all (k + 1) n D (w2.alloc (.cells #[.string q0, .string q1, .int .i64 q2, .int .i64 q3, .int .i64 q4] 37))) := mkHid (by
          have h := S2.out.alloc (.cells #[.string q0, .string q1, .int .i64 q2, .int .i64 q3, .int .i64 q4] 37)
          exact ⟨h.own, by rw [E.out]; exact h.holds, Nat.le_succ_of_le h.few, h.rd, h.below⟩)
        go_roundw
        case rel => exact ⟨k + 1, n, D, by omega, by go_num, S3⟩
        case measure => simp [intOf]; omega
      | false =>
        have hno := (hasS_not _ _).1 hh
        have E := mkHid (show firsts (all.take (k + 1)) = firsts (all.take k) ++ [(x0, x1, x2, x3, x4)] by rw [hft]; exact fst1_no hno)
        have HNo := mkHid hno
        have hkn : k < maxLen := by unfold maxLen; omega
        clear hft hx S hno
        go_wp2_with fail
        refine (HSp.out _).mono ?_
        rintro e w2 ⟨rfl, rfl⟩
        have S2 := mkHid ((S1.out.alloc (.cells #[.string x0, .string x1, .int .i64 x2, .int .i64 x3, .int .i64 x4] 37)).alloc (.cells #[.string x0, .string x1] 62))
        have b2 := mkHid (blk_old (blk_old b1.out (.cells #[.string x0, .string x1, .int .i64 x2, .int .i64 x3, .int .i64 x4] 37)) (.cells #[.string x0, .string x1] 62))
        have HH := mkHid hh
        clear S1 b1 c0 c1 c2 c3 c4 hh
        generalize ((wr.alloc (.cells #[.string x0, .string x1, .int .i64 x2, .int .i64 x3, .int .i64 x4] 37)).alloc (.cells #[.string x0, .string x1, .int .i64 x2, .int .i64 x3, .int .i64 x4] 37)).alloc (.cells #[.string x0, .string x1] 62) = w2 at *
        go_wp2_with (first | (at_lookup; refine wpList_lookup_pl _ rfl _ _ rfl w.heap.size n D rfl S2.out.own _ S2.out.holds x0 x1 hfx.1 hfx.2 rfl false HH.out ?_; intro q0 q1 q2 q3 q4) | fail)
        have S3 := mkHid (S2.out.alloc (.cells #[.string q0, .string q1, .int .i64 q2, .int .i64 q3, .int .i64 q4] 37))
        have b3 := mkHid (blk_old b2.out (.cells #[.string q0, .string q1, .int .i64 q2, .int .i64 q3, .int .i64 q4] 37))
        clear S2 b2
        generalize w2.alloc (.cells #[.string q0, .string q1, .int .i64 q2, .int .i64 q3, .int .i64 q4] 37) = w3 at *
        obtain ⟨e0, e1, e2, e3, e4⟩ := cel5 b3.out
        have HSb := mkHid (fun wx => (HSp.out wx).mono (fun e w' h => And.intro h.1 (show Below wx.heap.size wx w' by rw [h.2]; exact rwPlace.below2 _ _ _)))
        go_region_held3 (fun w' => w'.cell? ⟨wr.heap.size, 0, none⟩ = some (.string x0) ∧ w'.cell? ⟨wr.heap.size, 1, none⟩ = some (.string x1) ∧ w'.cell? ⟨wr.heap.size, 2, none⟩ = some (.int .i64 x2) ∧ w'.cell? ⟨wr.heap.size, 3, none⟩ = some (.int .i64 x3) ∧ w'.cell? ⟨wr.heap.size, 4, none⟩ = some (.int .i64 x4)) (go_keep)
          ((go_at_call 45; refine Calls.mono (HSb.out _) ?_; rintro e w4 ⟨rfl, hw4⟩; have r4 := re (w := w3) hw4 rfl rfl rfl rfl; have S4 := mkHid (S3.out.next r4); have b4 := mkHid (blk_below b3.out r4); clear hw4 r4; obtain ⟨f0, f1, f2, f3, f4⟩ := cel5 b4.out; obtain ⟨w5, hrun, hown5, hg5⟩ := S4.out.own.update lawK Try.underlying53 (Nat.lt_of_le_of_lt S4.out.few hkn) (keyOf_spot (x0, x1) (fit_max hfx.1) (fit_max hfx.2)) (R_mk (x0, x1, x2, x3, x4)); have S5 := mkHid (And.intro hown5 hg5); have b5 := mkHid ((hg5.block wr.heap.size (Array.getElem?_eq_some_iff.1 b4.out).1 (by simp; omega)).trans b4.out); obtain ⟨i0, i1, i2, i3, i4⟩ := cel5 b5.out; clear hown5 hg5; unfold keyV plV at hrun; simp only at hrun; rw [upd_fold] at hrun))
        have S6 : Hid (Bs w w.heap.size (some ⟨g1, o1, none⟩) all (k + 1) (n + 1) (D.put (kl (x0, x1)) (dat (x0, x1, x2, x3, x4))) w5) := mkHid ⟨S5.out.1, by rw [E.out]; exact S4.out.holds.put (x0, x1, x2, x3, x4) HNo.out hfx.1 hfx.2, by have := S4.out.few; omega, rd_grew S4.out.rd S5.out.2 HOff.out, S4.out.below.grown S5.out.2 S4.out.below.size (fun j hj => by cases hj; exact Nat.le_refl _)⟩
        clear S3 S4 S5 b3 b4 b5 hrun HSb HSp E HNo HH
        go_wp2
        go_roundw
        case rel => exact ⟨k + 1, n + 1, _, by omega, by go_num, S6⟩
        case measure => simp [intOf]; omega
    · obtain rfl : k = all.length := by omega
      have S4 := S.out.holds
      rw [List.take_of_length_le (Nat.le_refl _)] at S4
      have S5 := mkHid S4
      clear S4
      go_wp2
      go_ret
      exact ⟨_, n, D, rfl, S.out.own, S5.out, S.out.few, Nat.le_refl _, S.out.below⟩
end Go.Proofs.Ytppjbmmeacmoiaa.plc
