/-
  Blobs that are drawn: (*l01Src).l07Blobs: what it answers and leaves. Condition: the source lies in one block of its own.
  A text that is nearly a pack's: (*l01Src).l07Text; and spec.DrawPackBytes, DrawPackRead: what they answer and leave. Conditions: the bytes lie in memory and are at most 1,048,576.
-/
import Derived.Test.YtlmhdebjmkcanaaDoorZDrawB
import Derived.Test.YtlmhdebjmkcanaaDoorZRdA
import Derived.Test.YtlmhdebjmkcanaaDoorZPackB
namespace Go.Proofs.YtlmhdebjmkcanaaDoor.draw
open Go.RowKit Go.Joins
open Go.Proofs.YtlmhdebjmkcanaaDoor.base Go.Proofs.YtlmhdebjmkcanaaDoor.blk Go.Proofs.YtlmhdebjmkcanaaDoor.aid
open Go.Proofs.YtlmhdebjmkcanaaDoor.row (bl Rd Own OwnV appSem app_fold)
open Go.Proofs.YtlmhdebjmkcanaaDoor.rdr (appB)
set_option linter.unusedVariables false
attribute [local go_sem ↓] app_fold

/-- blobs are drawn -/
def DrewBlobs (w : World) (g : Nat) (e : Ending) (w' : World) : Prop :=
  ∃ (l : List (Int × ByteArray)) (a : Option Addr) (c : Nat), e = .returned (.slice a l.length c) ∧ l.length ≤ 100 ∧ Rd w' a (bl l) ∧ (∀ b o s, a = some ⟨b, o, s⟩ → w.heap.size ≤ b) ∧ SrcAt w' g ∧ w.grownBy w' (some g)
/-- what stands in memory while blobs are drawn -/
structure Bs (w : World) (g : Nat) (acc : List (Int × ByteArray)) (v : Value) (W : World) : Prop where
  src : SrcAt W g
  grown : w.grownBy W (some g)
  row : W.ownsRow w.heap.size 39 2 v acc.length (bl acc)
  hg : g < w.heap.size
theorem Bs.draw {w W W' : World} {g : Nat} {acc : List (Int × ByteArray)} {v : Value} (h : Bs w g acc v W) (hs : SrcAt W' g) (hg : W.grownBy W' (some g)) : Bs w g acc v W' :=
  ⟨hs, grown_trans h.grown hg, h.row.kept hg (by
    rcases hq : v.ownBlock with _ | q
    · exact .inl rfl
    · exact .inr (by have := (h.row.lt q hq).1; have := h.hg; simp; omega)), h.hg⟩
theorem Bs.next {w W W' : World} {g : Nat} {acc : List (Int × ByteArray)} {v : Value} (h : Bs w g acc v W) (hb : Below W.heap.size W W') : Bs w g acc v W' :=
  h.draw (h.src.below hb) (below_grew hb _)
theorem Bs.app {w W : World} {g : Nat} {acc : List (Int × ByteArray)} {v : Value} (h : Bs w g acc v W) (k : Int) (t : ByteArray) (hl : acc.length ≤ 1000) :
    ∃ q c w2, (appSem #[23, 23] 23 #[v, .slice (some ⟨W.heap.size, 0, none⟩) 1 1]).run Tryd.prog (W.alloc (.cells #[.int .i64 k, .string t] 39)) = .ok (.slice (some ⟨q, 0, none⟩) (acc.length + 1) c) w2 ∧ Bs w g (acc ++ [(k, t)]) (.slice (some ⟨q, 0, none⟩) (acc.length + 1) c) w2 := by
  have hs := h.grown.size
  obtain ⟨q, c, w2, h1, h2, h3⟩ := appB W w.heap.size v acc.length acc k t rfl h.row hs (by omega)
  have hbl : Below w.heap.size W w2 := ((Below.refl w.heap.size W).alloc hs _).grown h3 (by simp; omega) (fun x hx => (h.row.lt x hx).1)
  refine ⟨q, c, w2, h1, h.src.upto (hbl.mono (by have := h.hg; omega)), grown_new h.grown hbl, ?_, h.hg⟩
  have e : (acc ++ [(k, t)]).length = acc.length + 1 := by simp
  rw [e]
  exact h2

theorem Bs.fin {w W : World} {g q c : Nat} {acc : List (Int × ByteArray)} (h : Bs w g acc (.slice (some ⟨q, 0, none⟩) acc.length c) W) (hl : acc.length ≤ 100) : DrewBlobs w g (.returned (.slice (some ⟨q, 0, none⟩) acc.length c)) W :=
  ⟨acc, _, c, rfl, hl, (Own.owns (n := acc.length) (c := c) h.row).rd, fun b o s e => by
    cases e
    exact (h.row.lt q rfl).1, h.src, h.grown⟩

set_option maxRecDepth 100000 in
set_option maxHeartbeats 4000000 in
theorem blobs_any (g : Nat) (w : World) (h : SrcAt w g) :
    Calls Tryd.prog 27 #[.pointer (some ⟨g, 0, none⟩)] w fun e w' => DrewBlobs w g e w' := by
  have hgl := h.lt
  have HN : Hid (∀ wx (m : Int), m ≤ 9223372036854775807 → SrcAt wx g → Calls Tryd.prog 46 #[.pointer (some ⟨g, 0, none⟩), .int .i64 m] wx fun e w' => Drew wx g m e w') := mkHid (fun wx m h1 h2 => n_any g m wx h1 h2)
  have HO : Hid (∀ wx (n : Int), n ≤ 9223372036854775807 → SrcAt wx g → Calls Tryd.prog 48 #[.pointer (some ⟨g, 0, none⟩), .int .i64 n] wx fun e w' => DrewBool wx g e w') := mkHid (fun wx n h1 h2 => one_any g n wx h1 h2)
  have HB : Hid (∀ wx, SrcAt wx g → Calls Tryd.prog 47 #[.pointer (some ⟨g, 0, none⟩)] wx fun e w' => DrewBlob wx g e w') := mkHid (fun wx h2 => blob_any g wx h2)
  have HD : Hid (∀ wx (n : Nat), n ≤ 100 → Calls Tryd.prog 49 #[.int .i64 n] wx fun e w' => DecPost wx e w') := mkHid (fun wx n h1 => dec_any n wx h1)
  go_enter Tryd.func27, Tryd.ntmps27
  go_wp2_with fail
  have S0 : Hid (Bs w g [] (.slice (some ⟨w.heap.size, 0, none⟩) 0 0) (w.alloc (.cells #[] 39))) := mkHid ⟨h.below (below_alloc1 w _), World.grownBy_alloc w _ _, World.ownsRow_made (base := w.heap.size) (size := 2) w #[] 0 (Nat.le_refl _) (by decide) rfl, hgl⟩
  clear h
  refine (HN.out _ 5 (by omega) S0.out.src).mono ?_
  rintro e w1 ⟨r, rfl, hr0, hr1, _, hs1, hg1⟩
  have hr1' := hr1 (by omega)
  obtain ⟨k0, rfl⟩ := Int.eq_ofNat_of_zero_le hr0
  have S1 := mkHid (S0.out.draw hs1 hg1)
  have hk0 : k0 ≤ 5 := by omega
  clear S0 hs1 hg1 hr1 hr0 hr1'
  go_wp2_with fail
  go_loopw [3, 4] (fun v i wr => ∃ (k : Nat) (acc : List (Int × ByteArray)) (q c : Nat), i = .int .i64 k ∧ v = .slice (some ⟨q, 0, none⟩) acc.length c ∧ acc.length + k ≤ 5 ∧ Hid (Bs w g acc (.slice (some ⟨q, 0, none⟩) acc.length c) wr))
    (fun _ i _ => (intOf i).toNat)
  case atStart => exact ⟨k0, [], w.heap.size, 0, rfl, rfl, by simpa using hk0, S1⟩
  case round =>
    clear S1 hk0
    obtain ⟨k, acc, q, c, rfl, rfl, hle, hS⟩ := hrel
    have hacc : (acc.length : Int) ≤ 5 := by omega
    by_cases hk : 0 < k
    · have hki : 0 < (k : Int) := by omega
      have hki2 : (k : Int) ≤ 5 := by omega
      go_wp2_with fail
      refine (HB.out _ hS.out.src).mono ?_
      rintro e w2 ⟨bk, bt, rfl, hs2, hg2⟩
      obtain ⟨q2, c2, w3, hrun, S3⟩ := (hS.out.draw hs2 hg2).app bk bt (by omega)
      have N1 : Hid (Bs w g (acc ++ [(bk, bt)]) (.slice (some ⟨q2, 0, none⟩) (acc ++ [(bk, bt)]).length c2) w3) := mkHid (by simpa using S3)
      clear S3 hS hs2 hg2
      go_wp2
      exact ⟨⟨k - 1, acc ++ [(bk, bt)], q2, c2, by go_num, by simp, by simp; omega, N1⟩, by simp [intOf]; omega⟩
    · obtain rfl : k = 0 := by omega
      cases acc with
      | nil =>
        go_wp2_with fail
        refine (HO.out _ 40 (by omega) hS.out.src).mono ?_
        rintro e w5 ⟨b, rfl, hs5, hg5⟩
        have S5 := mkHid (hS.out.draw hs5 hg5)
        clear hs5 hg5 hS
        cases b with
        | false =>
          go_wp2
          go_ret
          exact S5.out.fin (by first | (simp; done) | omega)
        | true =>
          go_wp2_with fail
          go_loopw [3, 5] (fun v i wr => ∃ (j : Nat) (acc : List (Int × ByteArray)) (q c : Nat), j ≤ acc.length ∧ acc.length ≤ 41 ∧ i = .int .i64 j ∧ v = .slice (some ⟨q, 0, none⟩) acc.length c ∧ Hid (Bs w g acc (.slice (some ⟨q, 0, none⟩) acc.length c) wr))
            (fun v _ _ => 41 - rdr.lenOf v)
          case atStart => exact ⟨0, [], q, c, Nat.zero_le _, by first | (simp; done) | omega, rfl, rfl, S5⟩
          case round =>
            clear S5
            obtain ⟨j, acc', q', c', hj, hlen, rfl, rfl, hS'⟩ := hrel
            have hlen' : (acc'.length : Int) ≤ 41 := by omega
            have hj' : (j : Int) ≤ 41 := by omega
            go_wp2_with fail
            refine (HN.out _ 3 (by omega) hS'.out.src).mono ?_
            rintro e w6 ⟨r, rfl, hr0, hr1, _, hs6, hg6⟩
            have hr1' := hr1 (by omega)
            have S6 := mkHid (hS'.out.draw hs6 hg6)
            clear hs6 hg6 hS' hr1
            by_cases hlt : (acc'.length : Int) < 39 + r
            · go_wp2_with fail
              refine (HD.out _ j (by omega)).mono ?_
              rintro e w7 ⟨t7, rfl, ht7, hb7⟩
              have hy : t7.size + (⟨#[121]⟩ : ByteArray).size ≤ 9223372036854775807 := by show t7.size + 1 ≤ _; omega
              have hadd := fun wx => run_string_add_sum (P := Tryd.prog) wx t7 ⟨#[121]⟩ hy
              obtain ⟨q8, c8, w8, hrun, S8⟩ := (S6.out.next hb7).app 1 (t7 ++ (⟨#[121]⟩ : ByteArray)) (by omega)
              have N1 : Hid (Bs w g (acc' ++ [(1, t7 ++ (⟨#[121]⟩ : ByteArray))]) (.slice (some ⟨q8, 0, none⟩) (acc' ++ [(1, t7 ++ (⟨#[121]⟩ : ByteArray))]).length c8) w8) := mkHid (by simpa using S8)
              have ht7i : (t7.size : Int) ≤ 200 := by omega
              clear S8 S6 hb7 hy
              go_wp2
              exact ⟨⟨j + 1, acc' ++ [(1, t7 ++ (⟨#[121]⟩ : ByteArray))], q8, c8, by simp; omega, by simp; omega, by go_num, by simp, N1⟩, by simp [rdr.lenOf]; omega⟩
            · go_wp2
              go_ret
              exact S6.out.fin (by omega)
      | cons b0 r0 =>
        obtain ⟨bk0, bt0⟩ := b0
        have hpos : 0 < ((((bk0, bt0) :: r0).length : Nat) : Int) := by simp <;> omega
        have hlt6 : ((bk0, bt0) :: r0).length ≤ 5 := by omega
        generalize hgen : (bk0, bt0) :: r0 = acc at *
        have h00 : acc[0]? = some (bk0, bt0) := by rw [← hgen]; rfl
        clear hgen
        go_wp2_with fail
        refine (HO.out _ 15 (by omega) hS.out.src).mono ?_
        rintro e w2 ⟨b, rfl, hs2, hg2⟩
        have S2 := mkHid (hS.out.draw hs2 hg2)
        clear hs2 hg2 hS
        cases b with
        | false =>
          go_wp2_with fail
          refine (HO.out _ 40 (by omega) S2.out.src).mono ?_
          rintro e w5 ⟨b, rfl, hs5, hg5⟩
          have S5 := mkHid (S2.out.draw hs5 hg5)
          clear hs5 hg5 S2
          cases b with
          | false =>
            go_wp2
            go_ret
            exact S5.out.fin (by first | (simp; done) | omega)
          | true =>
            go_wp2_with fail
            go_loopw [3, 5] (fun v i wr => ∃ (j : Nat) (acc : List (Int × ByteArray)) (q c : Nat), j ≤ acc.length ∧ acc.length ≤ 41 ∧ i = .int .i64 j ∧ v = .slice (some ⟨q, 0, none⟩) acc.length c ∧ Hid (Bs w g acc (.slice (some ⟨q, 0, none⟩) acc.length c) wr))
              (fun v _ _ => 41 - rdr.lenOf v)
            case atStart => exact ⟨0, acc, q, c, Nat.zero_le _, by first | (simp; done) | omega, rfl, rfl, S5⟩
            case round =>
              clear S5
              obtain ⟨j, acc', q', c', hj, hlen, rfl, rfl, hS'⟩ := hrel
              have hlen' : (acc'.length : Int) ≤ 41 := by omega
              have hj' : (j : Int) ≤ 41 := by omega
              go_wp2_with fail
              refine (HN.out _ 3 (by omega) hS'.out.src).mono ?_
              rintro e w6 ⟨r, rfl, hr0, hr1, _, hs6, hg6⟩
              have hr1' := hr1 (by omega)
              have S6 := mkHid (hS'.out.draw hs6 hg6)
              clear hs6 hg6 hS' hr1
              by_cases hlt : (acc'.length : Int) < 39 + r
              · go_wp2_with fail
                refine (HD.out _ j (by omega)).mono ?_
                rintro e w7 ⟨t7, rfl, ht7, hb7⟩
                have hy : t7.size + (⟨#[121]⟩ : ByteArray).size ≤ 9223372036854775807 := by show t7.size + 1 ≤ _; omega
                have hadd := fun wx => run_string_add_sum (P := Tryd.prog) wx t7 ⟨#[121]⟩ hy
                obtain ⟨q8, c8, w8, hrun, S8⟩ := (S6.out.next hb7).app 1 (t7 ++ (⟨#[121]⟩ : ByteArray)) (by omega)
                have N1 : Hid (Bs w g (acc' ++ [(1, t7 ++ (⟨#[121]⟩ : ByteArray))]) (.slice (some ⟨q8, 0, none⟩) (acc' ++ [(1, t7 ++ (⟨#[121]⟩ : ByteArray))]).length c8) w8) := mkHid (by simpa using S8)
                have ht7i : (t7.size : Int) ≤ 200 := by omega
                clear S8 S6 hb7 hy
                go_wp2
                exact ⟨⟨j + 1, acc' ++ [(1, t7 ++ (⟨#[121]⟩ : ByteArray))], q8, c8, by simp; omega, by simp; omega, by go_num, by simp, N1⟩, by simp [rdr.lenOf]; omega⟩
              · go_wp2
                go_ret
                exact S6.out.fin (by omega)
        | true =>
          obtain ⟨qq, oo, hqq, c0, c1, _⟩ := (Own.owns (n := acc.length) (c := c) S2.out.row).rd.blob h00
          simp at hqq
          obtain ⟨rfl, rfl⟩ := hqq
          obtain ⟨q2, c2, w3, hrun, S3⟩ := S2.out.app bk0 bt0 (by omega)
          have N1 : Hid (Bs w g (acc ++ [(bk0, bt0)]) (.slice (some ⟨q2, 0, none⟩) (acc ++ [(bk0, bt0)]).length c2) w3) := mkHid (by simpa using S3)
          have hln : (acc ++ [(bk0, bt0)]).length = acc.length + 1 := by simp
          clear S3 S2
          go_wp2_with fail
          rw [← hln]
          have hl2 : (acc ++ [(bk0, bt0)]).length ≤ 6 := by omega
          clear hln hrun c0 c1 h00
          generalize acc ++ [(bk0, bt0)] = acc2 at *
          refine (HO.out _ 40 (by omega) N1.out.src).mono ?_
          rintro e w5 ⟨b, rfl, hs5, hg5⟩
          have S5 := mkHid (N1.out.draw hs5 hg5)
          clear hs5 hg5 N1
          cases b with
          | false =>
            go_wp2
            go_ret
            exact S5.out.fin (by first | (simp; done) | omega)
          | true =>
            go_wp2_with fail
            go_loopw [3, 5] (fun v i wr => ∃ (j : Nat) (acc : List (Int × ByteArray)) (q c : Nat), j ≤ acc.length ∧ acc.length ≤ 41 ∧ i = .int .i64 j ∧ v = .slice (some ⟨q, 0, none⟩) acc.length c ∧ Hid (Bs w g acc (.slice (some ⟨q, 0, none⟩) acc.length c) wr))
              (fun v _ _ => 41 - rdr.lenOf v)
            case atStart => exact ⟨0, acc2, q2, c2, Nat.zero_le _, by first | (simp; done) | omega, rfl, rfl, S5⟩
            case round =>
              clear S5
              obtain ⟨j, acc', q', c', hj, hlen, rfl, rfl, hS'⟩ := hrel
              have hlen' : (acc'.length : Int) ≤ 41 := by omega
              have hj' : (j : Int) ≤ 41 := by omega
              go_wp2_with fail
              refine (HN.out _ 3 (by omega) hS'.out.src).mono ?_
              rintro e w6 ⟨r, rfl, hr0, hr1, _, hs6, hg6⟩
              have hr1' := hr1 (by omega)
              have S6 := mkHid (hS'.out.draw hs6 hg6)
              clear hs6 hg6 hS' hr1
              by_cases hlt : (acc'.length : Int) < 39 + r
              · go_wp2_with fail
                refine (HD.out _ j (by omega)).mono ?_
                rintro e w7 ⟨t7, rfl, ht7, hb7⟩
                have hy : t7.size + (⟨#[121]⟩ : ByteArray).size ≤ 9223372036854775807 := by show t7.size + 1 ≤ _; omega
                have hadd := fun wx => run_string_add_sum (P := Tryd.prog) wx t7 ⟨#[121]⟩ hy
                obtain ⟨q8, c8, w8, hrun, S8⟩ := (S6.out.next hb7).app 1 (t7 ++ (⟨#[121]⟩ : ByteArray)) (by omega)
                have N1 : Hid (Bs w g (acc' ++ [(1, t7 ++ (⟨#[121]⟩ : ByteArray))]) (.slice (some ⟨q8, 0, none⟩) (acc' ++ [(1, t7 ++ (⟨#[121]⟩ : ByteArray))]).length c8) w8) := mkHid (by simpa using S8)
                have ht7i : (t7.size : Int) ≤ 200 := by omega
                clear S8 S6 hb7 hy
                go_wp2
                exact ⟨⟨j + 1, acc' ++ [(1, t7 ++ (⟨#[121]⟩ : ByteArray))], q8, c8, by simp; omega, by simp; omega, by go_num, by simp, N1⟩, by simp [rdr.lenOf]; omega⟩
              · go_wp2
                go_ret
                exact S6.out.fin (by omega)
end Go.Proofs.YtlmhdebjmkcanaaDoor.draw
namespace Go.Proofs.YtlmhdebjmkcanaaDoor.draw
open Go.RowKit Go.Joins
open Go.Proofs.YtlmhdebjmkcanaaDoor.base Go.Proofs.YtlmhdebjmkcanaaDoor.blk Go.Proofs.YtlmhdebjmkcanaaDoor.aid
open Go.Proofs.YtlmhdebjmkcanaaDoor.row (bl Rd Own OwnV)
set_option linter.unusedVariables false

set_option maxRecDepth 100000 in
set_option maxHeartbeats 4000000 in
theorem ptext_any (g : Nat) (w : World) (h : SrcAt w g) :
    Calls Tryd.prog 37 #[.pointer (some ⟨g, 0, none⟩)] w fun e w' => DrewText w g 20000 e w' := by
  have HN : Hid (∀ wx (m : Int), m ≤ 9223372036854775807 → SrcAt wx g → Calls Tryd.prog 46 #[.pointer (some ⟨g, 0, none⟩), .int .i64 m] wx fun e w' => Drew wx g m e w') := mkHid (fun wx m h1 h2 => n_any g m wx h1 h2)
  have HT : Hid (∀ wx (n : Nat), n ≤ 100000 → SrcAt wx g → Calls Tryd.prog 57 #[.pointer (some ⟨g, 0, none⟩), .int .i64 n] wx fun e w' => DrewText wx g n e w') := mkHid (fun wx n h1 h2 => bytes_any g n wx h1 h2)
  have HS : Hid (∀ wx (t : ByteArray), t.size ≤ 1000000 → SrcAt wx g → Calls Tryd.prog 56 #[.pointer (some ⟨g, 0, none⟩), .string t] wx fun e w' => DrewText wx g (t.size + 1) e w') := mkHid (fun wx t h1 h2 => spoil_any g t wx h1 h2)
  have HB := mkHid (blobs_any g w h)
  clear h
  go_enter Tryd.func37, Tryd.ntmps37
  go_wp2_with fail
  refine HB.out.mono ?_
  rintro e w1 ⟨l, a, c, rfl, hl, hr, hge, hs1, hg1⟩
  have HP := mkHid (pack.bytes_spec a c l w1 (by omega) hr)
  have S1 := mkHid (And.intro hs1 hg1)
  have hz := pack.packB_size l
  generalize pack.packB l = t at *
  clear hs1 hg1 hr hge HB
  go_wp2_with fail
  refine HP.out.mono ?_
  rintro e w2 ⟨rfl, hb2⟩
  have S2 := mkHid (And.intro (S1.out.1.below hb2) (grown_trans S1.out.2 (below_grew hb2 _)))
  clear hb2 S1 HP
  go_wp2_with fail
  refine (HN.out _ 5 (by omega) S2.out.1).mono ?_
  rintro e w3 ⟨r, rfl, hr0, hr1, _, hs3, hg3⟩
  have hr1' := hr1 (by omega)
  have S3 := mkHid (And.intro hs3 (grown_trans S2.out.2 hg3))
  clear hs3 hg3 S2 hr1
  have hzi : (t.size : Int) ≤ 12000 := by omega
  rcases (show r = 0 ∨ r = 1 ∨ r = 2 ∨ 3 ≤ r by omega) with rfl | rfl | rfl | h3
  · go_wp2_with fail
    refine (HS.out _ t (by omega) S3.out.1).mono ?_
    rintro e w4 ⟨t4, rfl, ht4, hs4, hg4⟩
    have S4 := mkHid (And.intro hs4 (grown_trans S3.out.2 hg4))
    clear hs4 hg4 S3
    go_wp2
    go_ret
    exact ⟨t4, rfl, by omega, S4.out.1, S4.out.2⟩
  · go_wp2_with fail
    refine (HN.out _ 9 (by omega) S3.out.1).mono ?_
    rintro e w4 ⟨r, rfl, hq0, hq1, _, hs4, hg4⟩
    have hq1' := hq1 (by omega)
    obtain ⟨m, rfl⟩ := Int.eq_ofNat_of_zero_le hq0
    have S4 := mkHid (And.intro hs4 (grown_trans S3.out.2 hg4))
    clear hs4 hg4 S3 hq1
    go_wp2_with fail
    refine (HT.out _ m (by omega) S4.out.1).mono ?_
    rintro e w5 ⟨t5, rfl, ht5, hs5, hg5⟩
    have S5 := mkHid (And.intro hs5 (grown_trans S4.out.2 hg5))
    clear hs5 hg5 S4
    have hadd := fun wx => run_string_add_sum (P := Tryd.prog) wx t5 t (by omega)
    go_wp2
    go_ret
    exact ⟨t5 ++ t, rfl, by rw [ByteArray.size_append]; omega, S5.out.1, S5.out.2⟩
  · go_wp2_with fail
    refine (HN.out _ ((t.size : Int) + 1) (by omega) S3.out.1).mono ?_
    rintro e w4 ⟨r, rfl, hq0, hq1, hq2, hs4, hg4⟩
    have hqz : r ≤ (t.size : Int) := by
      rcases Nat.eq_zero_or_pos t.size with h0 | h0
      · have := hq2 (by omega); omega
      · have := hq1 (by omega); omega
    obtain ⟨m, rfl⟩ := Int.eq_ofNat_of_zero_le hq0
    have S4 := mkHid (And.intro hs4 (grown_trans S3.out.2 hg4))
    clear hs4 hg4 S3 hq1 hq2
    go_wp2
    go_ret
    exact ⟨_, rfl, by simp; omega, S4.out.1, S4.out.2⟩
  · go_wp2
    go_ret
    exact ⟨t, rfl, by omega, S3.out.1, S3.out.2⟩

/-- what DrawPackBytes answers and leaves -/
def DPack (w : World) (e : Ending) (w' : World) : Prop :=
  ∃ (l : List (Int × ByteArray)) (a : Option Addr) (c : Nat), e = .returned (.slice a l.length c) ∧ l.length ≤ 100 ∧ Rd w' a (bl l) ∧ Below w.heap.size w w'
set_option maxRecDepth 100000 in
theorem drawPackBytes_any (a : Option Addr) (len cap : Nat) (w : World) (hl : len ≤ 1048576) (hr : Row w a len) :
    Calls Tryd.prog 8 #[.slice a len cap] w fun e w' => DPack w e w' := by
  have HS := mkHid (source_any a len cap w hl hr)
  clear hr
  go_enter Tryd.func8, Tryd.ntmps8
  go_wp2_with fail
  refine HS.out.mono ?_
  rintro e w1 ⟨rfl, hs1, hb1⟩
  have HB := mkHid (blobs_any w.heap.size w1 hs1)
  have B1 := mkHid hb1
  clear hs1 hb1 HS
  go_wp2_with fail
  refine HB.out.mono ?_
  rintro e w2 ⟨l, a2, c2, rfl, hl2, hr2, _, hs2, hg2⟩
  have B2 := mkHid (And.intro hr2 (B1.out.trans (grown_below hg2 (Nat.le_refl _) B1.out.size)))
  clear hs2 hg2 hr2 HB B1
  go_wp2
  go_ret
  exact ⟨l, a2, c2, rfl, hl2, B2.out.1, B2.out.2⟩
/-- what DrawPackRead answers and leaves -/
def DText (w : World) (e : Ending) (w' : World) : Prop := ∃ t : ByteArray, e = .returned (.string t) ∧ t.size ≤ 20000 ∧ Below w.heap.size w w'
set_option maxRecDepth 100000 in
theorem drawPackRead_any (a : Option Addr) (len cap : Nat) (w : World) (hl : len ≤ 1048576) (hr : Row w a len) :
    Calls Tryd.prog 14 #[.slice a len cap] w fun e w' => DText w e w' := by
  have HS := mkHid (source_any a len cap w hl hr)
  clear hr
  go_enter Tryd.func14, Tryd.ntmps14
  go_wp2_with fail
  refine HS.out.mono ?_
  rintro e w1 ⟨rfl, hs1, hb1⟩
  have HB := mkHid (ptext_any w.heap.size w1 hs1)
  have B1 := mkHid hb1
  clear hs1 hb1 HS
  go_wp2_with fail
  refine HB.out.mono ?_
  rintro e w2 ⟨t, rfl, ht, hs2, hg2⟩
  have B2 := mkHid (B1.out.trans (grown_below hg2 (Nat.le_refl _) B1.out.size))
  clear hs2 hg2 HB B1
  go_wp2
  go_ret
  exact ⟨t, rfl, ht, B2.out⟩
end Go.Proofs.YtlmhdebjmkcanaaDoor.draw
