/-
  What impl.beneath and impl.pathRight answer and leave. Conditions: files that lie in memory, of texts of at most 1,048,576 bytes; pathRight: the program's variables lie as they were laid.
-/
import Derived.Test.YtmmmadehifajlaaDoorFlS
import Derived.Test.YtmmmadehifajlaaDoorFlLay
import Derived.Lib.Split
namespace Go.Proofs.YtmmmadehifajlaaDoor.fil
open Go.RowKit Go.Joins Go.Shelf
open Go.Proofs.YtmmmadehifajlaaDoor.base Go.Proofs.YtmmmadehifajlaaDoor.blk Go.Proofs.YtmmmadehifajlaaDoor.aid
open Go.Proofs.YtmmmadehifajlaaDoor.row (Rd Own OwnV appSem app_fold)
open Go.Proofs.YtmmmadehifajlaaDoor.rwFile (cs el)
open Go.Proofs.YtmmmadehifajlaaDoor.strs (tx)
open Go.Proofs.YtmmmadehifajlaaDoor.seg (segs)
open Go.Proofs.YtmmmadehifajlaaDoor.obj (nameB name_small)
set_option linter.unusedVariables false
set_option linter.unusedSimpArgs false
attribute [local go_sem ↓] app_fold

theorem slash_list (d : ByteArray) : (d ++ (⟨#[47]⟩ : ByteArray)).data.toList = d.data.toList ++ [47] := by simp
theorem cut_any (p d : ByteArray) (w : World) : Calls Tryd.prog 19 #[.string p, .string (d ++ ⟨#[47]⟩)] w fun e w' => e = .returned (.tuple #[.string (if under d p = true then left_ d p else p), .bool (under d p)]) ∧ w' = w := by
  have h := Any.strings_CutPrefix Tryd.lays103 p (d ++ ⟨#[47]⟩) w
  refine h.mono ?_
  rintro e w' ⟨rfl, rfl⟩
  refine ⟨?_, rfl⟩
  have e1 : Lib.hasPrefix p.data.toList (d ++ (⟨#[47]⟩ : ByteArray)).data.toList = under d p := by
    unfold Lib.hasPrefix under
    rw [slash_list]
  have e2 : (⟨(Lib.trimPrefix p.data.toList (d ++ (⟨#[47]⟩ : ByteArray)).data.toList).toArray⟩ : ByteArray) = if under d p = true then left_ d p else p := by
    unfold Lib.trimPrefix
    rw [e1]
    cases hu : under d p with
    | true =>
      simp only [if_true]
      unfold left_
      rw [slash_list, List.length_append, Array.length_toList]
      rfl
    | false => simp
  rw [e1, e2]
/-- files of our own that grow -/
structure Fo (w : World) (acc : List Fi) (a : Option Addr) (c : Nat) (W : World) : Prop where
  below : Below w.heap.size w W
  row : W.ownsRow w.heap.size 35 2 (.slice a acc.length c) acc.length (cs acc)
theorem Fo.next {w W W' : World} {acc : List Fi} {a : Option Addr} {c : Nat} (h : Fo w acc a c W) (hb : Below W.heap.size W W') : Fo w acc a c W' :=
  ⟨h.below.trans (hb.mono h.below.size), h.row.kept (row := none) ⟨hb.os, hb.tape, hb.output, hb.size, fun k hk _ => hb.block k hk⟩ (by cases hv : (Value.slice a acc.length c).ownBlock <;> simp)⟩
theorem Fo.app {w W : World} {acc : List Fi} {a : Option Addr} {c : Nat} (h : Fo w acc a c W) (x0 x1 : ByteArray) (hl : acc.length ≤ 1048576) :
    ∃ g' c' w2, (appSem #[25, 25] 25 #[.slice a acc.length c, .slice (some ⟨W.heap.size, 0, none⟩) 1 1]).run Tryd.prog (W.alloc (.cells #[.string x0, .string x1] 35)) = .ok (.slice (some ⟨g', 0, none⟩) (acc.length + 1) c') w2 ∧ Fo w (acc ++ [(x0, x1)]) (some ⟨g', 0, none⟩) c' w2 := by
  obtain ⟨g', c', w2, h1, h2, h3⟩ := rwFile.app W w.heap.size (.slice a acc.length c) acc.length acc x0 x1 rfl h.row h.below.size hl
  have hbl : Below w.heap.size W w2 := ((Below.refl w.heap.size W).alloc h.below.size _).grown h3 (by have := h.below.size; simp; omega) (fun x hx => (h.row.lt x hx).1)
  refine ⟨g', c', w2, h1, h.below.trans hbl, ?_⟩
  have e : (acc ++ [(x0, x1)]).length = acc.length + 1 := by simp
  rw [e]
  exact h2
set_option maxRecDepth 100000 in
set_option maxHeartbeats 4000000 in
theorem beneath_any (a : Option Addr) (c : Nat) (l : List Fi) (d : ByteArray) (w : World) (hl : l.length ≤ 1048576) (hs : Small l) (hd : d.size ≤ 1048576) (hr : Rd w a (cs l)) :
    Calls Tryd.prog 13 #[.slice a l.length c, .string d] w fun e w' => ∃ a' c', e = .returned (.slice a' (ben d l).length c') ∧ Fo w (ben d l) a' c' w' := by
  have hli : (l.length : Int) ≤ 1048576 := by omega
  have hdi : (d.size : Int) ≤ 1048576 := by omega
  have F0 : Hid (Fo w (ben d (l.take 0)) none 0 w) := mkHid ⟨Below.refl _ _, World.ownsRow_nil _ _ _ _⟩
  have hadd := fun wx => run_string_add_sum (P := Tryd.prog) wx d ⟨#[47]⟩ (by show d.size + 1 ≤ _; omega)
  go_enter Tryd.func13, Tryd.ntmps13
  go_wp2_with fail
  go_loopw [5, 12] (fun v i wr => ∃ (k : Nat) (a' : Option Addr) (c' : Nat), k ≤ l.length ∧ i = .int .i64 k ∧ v = .slice a' (ben d (l.take k)).length c' ∧ Hid (Fo w (ben d (l.take k)) a' c' wr))
    (fun _ i _ => l.length - (intOf i).toNat)
  case atStart => exact ⟨0, none, 0, Nat.zero_le _, rfl, rfl, F0⟩
  case round =>
    clear F0
    obtain ⟨k, a', c', hk, rfl, rfl, F⟩ := hrel
    by_cases hlt : k < l.length
    · have hlti : (k : Int) < (l.length : Int) := by omega
      obtain ⟨⟨y0, y1⟩, hy⟩ : ∃ y, l[k]? = some y := ⟨_, List.getElem?_eq_getElem hlt⟩
      obtain ⟨g1, o1, rfl, c0, c1, l1⟩ := el hr hy
      simp only at c0 c1
      have e0 := (F.out.below.cell (p := ⟨g1, o1 + k * 2, none⟩) l1).trans c0
      have e1 := (F.out.below.cell (p := ⟨g1, o1 + k * 2 + 1, none⟩) l1).trans c1
      have hbn := ben_next (d := d) hy
      have hble := ben_len d (l.take k)
      rw [List.length_take] at hble
      have HC := mkHid (fun wx => cut_any y0 d wx)
      have F1 := mkHid (F.out.next (below_alloc1 wr (.cells #[.string y0, .string y1] 35)))
      obtain ⟨z0, z1⟩ := cel2 (blk_new wr (.cells #[.string y0, .string y1] 35) wr.heap.size rfl)
      clear c0 c1 hy F
      cases hu : under d y0 with
      | false =>
        have hb1 : ben1 d (y0, y1) = [] := by unfold ben1; rw [if_neg (by simp [hu])]
        rw [hb1, List.append_nil] at hbn
        rw [hu] at HC
        simp only [Bool.false_eq_true, if_false] at HC
        rw [← hbn] at F1
        go_wp2_with fail
        refine (HC.out _).mono ?_
        rintro e w2 ⟨rfl, rfl⟩
        clear HC z0 z1 e0 e1
        go_wp2
        exact ⟨⟨k + 1, a', c', by omega, by go_num, by rw [hbn], F1⟩, by simp [intOf]; omega⟩
      | true =>
        have hb1 : ben1 d (y0, y1) = [(left_ d y0, y1)] := by unfold ben1; rw [if_pos hu]
        rw [hb1] at hbn
        rw [hu] at HC
        simp only [if_true] at HC
        obtain ⟨g', c2, w3, happ, hF⟩ := F1.out.app (left_ d y0) y1 (by omega)
        rw [show (wr.alloc (.cells #[.string y0, .string y1] 35)).heap.size = wr.heap.size + 1 from by simp] at happ
        rw [← hbn] at hF
        have F2 := mkHid hF
        have hl2 : (ben d (l.take (k + 1))).length = (ben d (l.take k)).length + 1 := by rw [hbn]; simp
        clear hF hb1
        go_wp2_with fail
        refine (HC.out _).mono ?_
        rintro e w2 ⟨rfl, rfl⟩
        clear HC e0 e1 F1
        go_wp2
        exact ⟨⟨k + 1, some ⟨g', 0, none⟩, c2, by omega, by go_num, by rw [hl2], F2⟩, by simp [intOf]; omega⟩
    · obtain rfl : k = l.length := by omega
      have hF := F.out
      rw [List.take_of_length_le (Nat.le_refl _)] at hF
      rw [List.take_of_length_le (Nat.le_refl _)]
      have F1 := mkHid hF
      clear F hF
      go_wp2
      go_ret
      exact ⟨a', c', rfl, F1.out⟩
end Go.Proofs.YtmmmadehifajlaaDoor.fil
