/-
  laws.FnHash answers true at all bytes, where the program's calls of chapter 6 answer as told; nothing that was there turns. Conditions: what the program's six calls answer; the bytes lie in memory.
-/
import Derived.Test.YtkkndkikfphnbaaDoorHImpl
import Derived.Test.YtkkndkikfphnbaaDoorParts
import Derived.Test.YtkkndkikfphnbaaDoorDigDraw
import Derived.Test.YtkkndkikfphnbaaDoorHexI
import Derived.Deep.RegionHeld3
import Derived.Deep.RegionWith
namespace Go.Proofs.YtkkndkikfphnbaaDoor.himpl
open Go.RowKit Go.Joins
open Go.Proofs.YtkkndkikfphnbaaDoor.base Go.Proofs.YtkkndkikfphnbaaDoor.ints Go.Proofs.YtkkndkikfphnbaaDoor.blk
open Go.Proofs.YtkkndkikfphnbaaDoor.sha (hRight endH digest short moreH startL stOf rest GV)
open Go.Proofs.YtkkndkikfphnbaaDoor.draw (Row)
set_option linter.unusedVariables false

theorem st_len (p : ByteArray) : (stOf p).length = 8 := sha.list8_len _
theorem ownV_some {w : World} {a : Option Addr} {zs : List Int} (h : OwnV w a zs) (hz : zs.length = 8) : ∃ g, a = some ⟨g, 0, none⟩ ∧ OwnS w g zs := by
  rcases h with ⟨rfl, rfl⟩ | h
  · simp at hz
  · exact h

/-- the Hash of what was taken in -/
structure Hk (w : World) (H g c : Nat) (p : ByteArray) (wr : World) : Prop where
  below : Below w.heap.size w wr
  box : wr.heap[H]? = some (.cells #[.slice (some ⟨g, 0, none⟩) 8 c, .string (rest p), .int .i64 (p.size : Int)] 27)
  rd : Rd wr (some ⟨g, 0, none⟩) (stOf p)
  lt : g < wr.heap.size
  ne : g ≠ H
  hH : w.heap.size ≤ H
theorem Hk.next {w wr w' : World} {H g c : Nat} {p : ByteArray} (h : Hk w H g c p wr) (hb : Below wr.heap.size wr w') : Hk w H g c p w' :=
  ⟨h.below.trans (hb.mono h.below.size), blk_below h.box hb, h.rd.below hb, Nat.lt_of_lt_of_le h.lt hb.size, h.ne, h.hH⟩
theorem Hk.stored {w wr w1 : World} {H g c g' c' : Nat} {p q : ByteArray} (h : Hk w H g c p wr) (hb : Below wr.heap.size wr w1) (hr : Rd w1 (some ⟨g', 0, none⟩) (stOf q)) (hlt : g' < w1.heap.size) (hge : wr.heap.size ≤ g') :
    Hk w H g' c' q (((w1.setCell ⟨H, 0, none⟩ (.slice (some ⟨g', 0, none⟩) 8 c')).setCell ⟨H, 1, none⟩ (.string (rest q))).setCell ⟨H, 2, none⟩ (.int .i64 (q.size : Int))) := by
  have hH : H < wr.heap.size := (Array.getElem?_eq_some_iff.1 h.box).1
  have ne : g' ≠ H := by omega
  refine ⟨(((h.below.trans (hb.mono h.below.size)).setCell h.hH _).setCell h.hH _).setCell h.hH _, ?_, ?_, by simpa using hlt, ne, h.hH⟩
  · rw [block_setCell (block_setCell (block_setCell (blk_below h.box hb) _) _)]
    simp
  · refine hr.block (fun b o e _ => ?_)
    have hb' : b ≠ H := by simp at e; omega
    rw [Below.heap_setCell _ _ _ _ (by simpa using hb'), Below.heap_setCell _ _ _ _ (by simpa using hb'), Below.heap_setCell _ _ _ _ (by simpa using hb')]

theorem split_at (p l t : ByteArray) (n : Nat) (h : p ++ l = t) (hn : n ≤ l.size) : (p ++ l.extract 0 n) ++ l.extract n l.size = t := by
  rw [← h]
  apply ByteArray.ext
  have e : l.data.extract 0 (max n l.size) = l.data := by
    rw [Nat.max_eq_right hn]
    apply Array.ext
    · simp
    · intro i h1 h2; simp
  simp [Array.append_assoc]
  rw [e]

set_option maxRecDepth 100000 in
set_option maxHeartbeats 4000000 in
theorem hash_in (ID : IDigest) (IS : IShort) (IB : IBegin) (IM : IMore) (IR : IRight) (IE : IEnd) (a : Option Addr) (len cap : Nat) (b : Option Addr) (lenb capb : Nat) (w : World) (hG : GV w) (hl : len ≤ 1048576) (hr : Row w a len) (hlb : lenb ≤ 1048576) (hrb : Row w b lenb) :
    Calls Tryd.prog 3 #[.slice a len cap, .slice b lenb capb] w fun e w' => e = .returned (.bool true) ∧ Below w.heap.size w w' := by
  have HM : Hid (∀ wx g c (p q : ByteArray), Below w.heap.size w wx → Rd wx (some ⟨g, 0, none⟩) (stOf p) → g < wx.heap.size → p.size + q.size ≤ 200 → Calls Tryd.prog 13 #[.agg #[.slice (some ⟨g, 0, none⟩) 8 c, .string (rest p), .int .i64 (p.size : Int)], .string q] wx fun e w' => ∃ g' c', e = .returned (.agg #[.slice (some ⟨g', 0, none⟩) 8 c', .string (rest (p ++ q)), .int .i64 ((p ++ q).size : Int)]) ∧ Rd w' (some ⟨g', 0, none⟩) (stOf (p ++ q)) ∧ g' < w'.heap.size ∧ wx.heap.size ≤ g' ∧ Below wx.heap.size wx w') :=
    mkHid (fun wx g c p q h0 h1 h2 h3 => by
      have k := IM g 0 c (stOf p) (rest p) q p.size wx (by rw [st_len]; omega) h1 h2 (by rw [sha.rest_size]; omega) (by omega) (by omega) (by omega) (hG.at h0)
      rw [sha.more_parts p q (by omega) (by omega), st_len] at k
      refine k.mono ?_
      rintro e w' ⟨a', c', rfl, ho, hf, hb⟩
      obtain ⟨g', rfl, hg⟩ := ownV_some ho (st_len _)
      exact ⟨g', c', by rw [st_len]; rfl, hg.rd, hg.lt, hf g' 0 none rfl, hb⟩)
  have HB : Hid (∀ wx, Calls Tryd.prog 11 #[] wx fun e w' => ∃ g' c', e = .returned (.agg #[.slice (some ⟨g', 0, none⟩) 8 c', .string (rest ⟨#[]⟩), .int .i64 ((⟨#[]⟩ : ByteArray).size : Int)]) ∧ Rd w' (some ⟨g', 0, none⟩) (stOf ⟨#[]⟩) ∧ g' < w'.heap.size ∧ wx.heap.size ≤ g' ∧ Below wx.heap.size wx w') :=
    mkHid (fun wx => by
      have k := IB wx
      rw [sha.start_parts] at k
      refine k.mono ?_
      rintro e w' ⟨a', c', rfl, ho, hf, hb⟩
      obtain ⟨g', rfl, hg⟩ := ownV_some ho (st_len _)
      exact ⟨g', c', by rw [st_len]; rfl, hg.rd, hg.lt, hf g' 0 none rfl, hb⟩)
  have HR : Hid (∀ wx g c (p : ByteArray), Rd wx (some ⟨g, 0, none⟩) (stOf p) → p.size ≤ 200 → Calls Tryd.prog 14 #[.agg #[.slice (some ⟨g, 0, none⟩) 8 c, .string (rest p), .int .i64 (p.size : Int)]] wx fun e w' => e = .returned (.bool true) ∧ Below wx.heap.size wx w') :=
    mkHid (fun wx g c p h1 h2 => by
      have k := IR g 0 c (stOf p) (rest p) p.size wx (by rw [st_len]; omega) h1 (by rw [sha.rest_size]; omega) (by omega) (by omega)
      rw [sha.st_right p (by omega), st_len] at k
      exact k)
  have HE : Hid (∀ wx g c (p : ByteArray), Below w.heap.size w wx → Rd wx (some ⟨g, 0, none⟩) (stOf p) → p.size ≤ 200 → Calls Tryd.prog 15 #[.agg #[.slice (some ⟨g, 0, none⟩) 8 c, .string (rest p), .int .i64 (p.size : Int)]] wx fun e w' => e = .returned (.string (digest p)) ∧ Below wx.heap.size wx w') :=
    mkHid (fun wx g c p h0 h1 h2 => by
      have k := IE g 0 c (stOf p) (rest p) p.size wx (by rw [st_len]; omega) h1 (by rw [sha.rest_size]; omega) (by omega) (by omega) (hG.at h0)
      rw [sha.end_parts p (by omega), st_len] at k
      exact k)
  have HD : Hid (∀ wx, Below w.heap.size w wx → ∀ t : ByteArray, t.size ≤ 1048576 → Calls Tryd.prog 9 #[.string t] wx fun e w' => e = .returned (.string (digest t)) ∧ Below wx.heap.size wx w') := mkHid (fun wx hb t ht => ID t wx ht (hG.at hb))
  have HS : Hid (∀ wx, Below w.heap.size w wx → ∀ t : ByteArray, t.size ≤ 1048576 → Calls Tryd.prog 16 #[.string t] wx fun e w' => e = .returned (.string (short t)) ∧ Below wx.heap.size wx w') := mkHid (fun wx hb t ht => IS t wx ht (hG.at hb))
  clear ID IS IB IM IR IE hG
  have hli : (len : Int) ≤ 1048576 := by omega
  have hlbi : (lenb : Int) ≤ 1048576 := by omega
  go_enter Tryd.func3, Tryd.ntmps3
  go_wp2_with fail
  refine (draw.drawDigest_any a len cap w hl hr).mono ?_
  rintro e w1 ⟨t, rfl, ht, hb1⟩
  have B1 := mkHid hb1
  have RB := mkHid hrb
  clear hb1 hr hrb
  go_wp2_with fail
  refine (HD.out _ B1.out t (by omega)).mono ?_
  rintro e w2 ⟨rfl, hb2⟩
  have B2 := mkHid (B1.out.trans (hb2.mono B1.out.size))
  clear hb2 B1
  go_wp2_with fail
  refine (sha.digest_any t _ (by omega)).mono ?_
  rintro e w3 ⟨rfl, hb3⟩
  have B3 := mkHid (B2.out.trans (hb3.mono B2.out.size))
  clear hb3 B2
  have ht' : (t.size : Int) ≤ 200 := by omega
  obtain ⟨d, hd⟩ : ∃ d, d = digest t := ⟨_, rfl⟩
  have hd32 : (d.size : Int) = 32 := by
    rw [hd]
    unfold sha.digest
    rw [if_neg (by omega), sha.dig_size]
    rfl
  rw [← hd]
  have DD := mkHid hd
  clear hd HD
  go_wp2_with fail
  refine (HB.out _).mono ?_
  rintro e w4 ⟨g4, c4, rfl, hr4, hlt4, hge4, hb4⟩
  have K4 : Hid (Hk w w4.heap.size g4 c4 ⟨#[]⟩ (w4.alloc (.cells #[.slice (some ⟨g4, 0, none⟩) 8 c4, .string (rest ⟨#[]⟩), .int .i64 ((⟨#[]⟩ : ByteArray).size : Int)] 27))) :=
    mkHid ⟨((B3.out.trans (hb4.mono B3.out.size)).alloc (by have h1 := B3.out.size; have h2 := hb4.size; omega) _), blk_new w4 _ _ rfl, hr4.alloc _, by simp; omega, by omega, by have h1 := B3.out.size; have h2 := hb4.size; omega⟩
  clear hr4 hlt4 hge4 hb4 B3 HB
  generalize rest ⟨#[]⟩ = r0 at K4 ⊢
  go_wp2
  go_loopw [8, 9] (fun left i wr => ∃ (k : Nat) (p l : ByteArray) (g c : Nat), k ≤ 5 ∧ i = .int .i64 k ∧ left = .string l ∧ Hid (p ++ l = t) ∧ Hid (Hk w w4.heap.size g c p wr))
    (fun _ i _ => 5 - (intOf i).toNat)
  case atStart => exact ⟨0, ⟨#[]⟩, t, g4, c4, by omega, rfl, rfl, mkHid (sha.nil_app t), K4⟩
  case round =>
    clear K4
    obtain ⟨k, p, l, g, c, hk, rfl, rfl, hpl, hK⟩ := hrel
    have hsz : p.size + l.size = t.size := by rw [← hpl.out]; simp
    have hsi : (p.size : Int) + (l.size : Int) ≤ 200 := by omega
    have b0 : wr.cell? ⟨w4.heap.size, 0, none⟩ = some (.slice (some ⟨g, 0, none⟩) 8 c) := cell_of_block hK.out.box 0
    have b1 : wr.cell? ⟨w4.heap.size, 1, none⟩ = some (.string (rest p)) := cell_of_block hK.out.box 1
    have b2 : wr.cell? ⟨w4.heap.size, 2, none⟩ = some (.int .i64 (p.size : Int)) := cell_of_block hK.out.box 2
    have bf : ∀ j, wr.frozen? ⟨w4.heap.size, j, none⟩ = false := unfrozen_of_block hK.out.box
    by_cases hlt : k < 5
    · have hki : (k : Int) < 5 := by omega
      go_wp2_with fail
      refine (draw.lwAt_any b lenb capb k ((l.size : Int) + 1) _ hlb (RB.out.below hK.out.below) (by omega) (by omega) (by omega)).mono ?_
      rintro e w5 ⟨n, rfl, hn, rfl⟩
      have hn' : (n : Int) ≤ (l.size : Int) := by omega
      have hM2 : Hid (∀ wx, Below w.heap.size w wx → Rd wx (some ⟨g, 0, none⟩) (stOf p) → g < wx.heap.size → Calls Tryd.prog 13 #[.agg #[.slice (some ⟨g, 0, none⟩) 8 c, .string (rest p), .int .i64 (p.size : Int)], .string (l.extract 0 n)] wx fun e w' => ∃ g' c', e = .returned (.agg #[.slice (some ⟨g', 0, none⟩) 8 c', .string (rest (p ++ l.extract 0 n)), .int .i64 ((p ++ l.extract 0 n).size : Int)]) ∧ Rd w' (some ⟨g', 0, none⟩) (stOf (p ++ l.extract 0 n)) ∧ g' < w'.heap.size ∧ wx.heap.size ≤ g' ∧ Below wx.heap.size wx w') :=
        mkHid (fun wx h0 h1 h2 => HM.out wx g c p (l.extract 0 n) h0 h1 h2 (by simp; omega))
      have hpq : Hid ((p ++ l.extract 0 n) ++ l.extract n l.size = t) := mkHid (split_at p l t n hpl.out (by omega))
      have hq200 : (p ++ l.extract 0 n).size ≤ 200 := by simp; omega
      generalize p ++ l.extract 0 n = q at *
      go_wp2
      go_region_with (go_at_call 13; refine (hM2.out _ (by first | exact hK.out.below | exact hK.out.below.drew) (by exact hK.out.rd) (by exact hK.out.lt)).mono ?_; rintro e w6 ⟨g', c', rfl, hr', hlt', hge', hb'⟩; have b6 : Below w5.heap.size w5 w6 := ⟨hb'.os, hb'.tape, hb'.output, hb'.size, hb'.block⟩; have K6 := mkHid (hK.out.stored (c' := c') b6 hr' hlt' hge'); have n6 := blk_below hK.out.box b6; have x0 : w6.cell? ⟨w4.heap.size, 0, none⟩ = some (.slice (some ⟨g, 0, none⟩) 8 c) := cell_of_block n6 0; have x1 : w6.cell? ⟨w4.heap.size, 1, none⟩ = some (.string (rest p)) := cell_of_block n6 1; have x2 : w6.cell? ⟨w4.heap.size, 2, none⟩ = some (.int .i64 (p.size : Int)) := cell_of_block n6 2; have xf : ∀ j, w6.frozen? ⟨w4.heap.size, j, none⟩ = false := unfrozen_of_block n6; clear n6 b6 hb' hr' hlt' hge')
      clear x0 x1 x2 xf hK b0 b1 b2 bf hpl
      generalize ((w6.setCell ⟨w4.heap.size, 0, none⟩ (.slice (some ⟨g', 0, none⟩) 8 c')).setCell ⟨w4.heap.size, 1, none⟩ (.string (rest q))).setCell ⟨w4.heap.size, 2, none⟩ (.int .i64 (q.size : Int)) = W6 at *
      have y0 : W6.cell? ⟨w4.heap.size, 0, none⟩ = some (.slice (some ⟨g', 0, none⟩) 8 c') := cell_of_block K6.out.box 0
      have y1 : W6.cell? ⟨w4.heap.size, 1, none⟩ = some (.string (rest q)) := cell_of_block K6.out.box 1
      have y2 : W6.cell? ⟨w4.heap.size, 2, none⟩ = some (.int .i64 (q.size : Int)) := cell_of_block K6.out.box 2
      have HR2 := mkHid (HR.out W6 g' c' q K6.out.rd hq200)
      go_wp2_with fail
      refine HR2.out.mono ?_
      rintro e w7 ⟨rfl, hb7⟩
      have K7 := mkHid (K6.out.next hb7)
      clear hb7 K6 y0 y1 y2 HR2
      go_wp2
      go_roundw
      case rel => exact ⟨k + 1, q, _, g', c', by omega, by go_num, rfl, hpq, K7⟩
      case measure => simp [intOf]; omega
    · have hM2 : Hid (∀ wx, Below w.heap.size w wx → Rd wx (some ⟨g, 0, none⟩) (stOf p) → g < wx.heap.size → Calls Tryd.prog 13 #[.agg #[.slice (some ⟨g, 0, none⟩) 8 c, .string (rest p), .int .i64 (p.size : Int)], .string l] wx fun e w' => ∃ g' c', e = .returned (.agg #[.slice (some ⟨g', 0, none⟩) 8 c', .string (rest t), .int .i64 (t.size : Int)]) ∧ Rd w' (some ⟨g', 0, none⟩) (stOf t) ∧ g' < w'.heap.size ∧ wx.heap.size ≤ g' ∧ Below wx.heap.size wx w') :=
        mkHid (fun wx h0 h1 h2 => by have k := HM.out wx g c p l h0 h1 h2 (by omega); rw [hpl.out] at k; exact k)
      have hk5 : (5 : Int) ≤ (k : Int) := by omega
      go_wp2_with fail
      refine (hM2.out _ hK.out.below hK.out.rd hK.out.lt).mono ?_
      rintro e w6 ⟨g9, c9, rfl, hr', hlt', hge', hb'⟩
      have K6 := mkHid (hK.out.stored (c' := c9) hb' hr' hlt' hge')
      have n6 := blk_below hK.out.box hb'
      have x0 : w6.cell? ⟨w4.heap.size, 0, none⟩ = some (.slice (some ⟨g, 0, none⟩) 8 c) := cell_of_block n6 0
      have x1 : w6.cell? ⟨w4.heap.size, 1, none⟩ = some (.string (rest p)) := cell_of_block n6 1
      have x2 : w6.cell? ⟨w4.heap.size, 2, none⟩ = some (.int .i64 (p.size : Int)) := cell_of_block n6 2
      have xf : ∀ j, w6.frozen? ⟨w4.heap.size, j, none⟩ = false := unfrozen_of_block n6
      clear n6 hb' hr' hlt' hge' hK b0 b1 b2 bf hpl hM2
      go_wp2
      clear x0 x1 x2 xf
      generalize ((w6.setCell ⟨w4.heap.size, 0, none⟩ (.slice (some ⟨g9, 0, none⟩) 8 c9)).setCell ⟨w4.heap.size, 1, none⟩ (.string (rest t))).setCell ⟨w4.heap.size, 2, none⟩ (.int .i64 (t.size : Int)) = W6 at *
      have y0 : W6.cell? ⟨w4.heap.size, 0, none⟩ = some (.slice (some ⟨g9, 0, none⟩) 8 c9) := cell_of_block K6.out.box 0
      have y1 : W6.cell? ⟨w4.heap.size, 1, none⟩ = some (.string (rest t)) := cell_of_block K6.out.box 1
      have y2 : W6.cell? ⟨w4.heap.size, 2, none⟩ = some (.int .i64 (t.size : Int)) := cell_of_block K6.out.box 2
      have HE2 : Hid (∀ wx, Below w.heap.size w wx → Rd wx (some ⟨g9, 0, none⟩) (stOf t) → Calls Tryd.prog 15 #[.agg #[.slice (some ⟨g9, 0, none⟩) 8 c9, .string (rest t), .int .i64 (t.size : Int)]] wx fun e w' => e = .returned (.string d) ∧ Below wx.heap.size wx w') := mkHid (fun wx h0 h => by rw [DD.out]; exact HE.out wx g9 c9 t h0 h ht)
      obtain ⟨sh, hsh⟩ : ∃ sh, sh = short t := ⟨_, rfl⟩
      have HS2 : Hid (∀ wx, Below w.heap.size w wx → Calls Tryd.prog 16 #[.string t] wx fun e w' => e = .returned (.string sh) ∧ Below wx.heap.size wx w') := mkHid (fun wx h0 => by rw [hsh]; exact HS.out wx h0 t (by omega))
      have HX2 : Hid (∀ wx, Calls Tryd.prog 17 #[.string (d.extract 0 4)] wx fun e w' => e = .returned (.string sh) ∧ Below wx.heap.size wx w') := mkHid (fun wx => by
        have k := fnExactHex.impl_any (d.extract 0 4) wx (by simp; omega)
        have e : sh = ⟨(fnExactHex.hexL (d.extract 0 4).data.toList).toArray⟩ := by
          rw [hsh]
          unfold sha.short
          rw [if_neg (by omega), DD.out]
          simp
        rw [e]
        exact k)
      clear hsh HS HE HM HR
      go_region_held3 (fun w' => w'.cell? ⟨w4.heap.size, 0, none⟩ = some (.slice (some ⟨g9, 0, none⟩) 8 c9) ∧ w'.cell? ⟨w4.heap.size, 1, none⟩ = some (.string (rest t)) ∧ w'.cell? ⟨w4.heap.size, 2, none⟩ = some (.int .i64 (t.size : Int))) (go_keep)
        ((first | (go_at_call 15; refine Calls.mono (HE2.out _ (by first | exact K6.out.below | exact K6.out.below.drew) (by exact K6.out.rd)) ?_; rintro e w7 ⟨rfl, hb7⟩; have K7 := mkHid (K6.out.next ⟨hb7.os, hb7.tape, hb7.output, hb7.size, hb7.block⟩); have p0 : w7.cell? ⟨w4.heap.size, 0, none⟩ = some (.slice (some ⟨g9, 0, none⟩) 8 c9) := cell_of_block K7.out.box 0; have p1 : w7.cell? ⟨w4.heap.size, 1, none⟩ = some (.string (rest t)) := cell_of_block K7.out.box 1; have p2 : w7.cell? ⟨w4.heap.size, 2, none⟩ = some (.int .i64 (t.size : Int)) := cell_of_block K7.out.box 2; clear hb7) | (go_at_call 16; refine Calls.mono (HS2.out _ (by first | exact K7.out.below | exact K7.out.below.drew)) ?_; rintro e w8 ⟨rfl, hb8⟩; have K8 := mkHid (K7.out.next ⟨hb8.os, hb8.tape, hb8.output, hb8.size, hb8.block⟩); have q0 : w8.cell? ⟨w4.heap.size, 0, none⟩ = some (.slice (some ⟨g9, 0, none⟩) 8 c9) := cell_of_block K8.out.box 0; have q1 : w8.cell? ⟨w4.heap.size, 1, none⟩ = some (.string (rest t)) := cell_of_block K8.out.box 1; have q2 : w8.cell? ⟨w4.heap.size, 2, none⟩ = some (.int .i64 (t.size : Int)) := cell_of_block K8.out.box 2; clear hb8) | (go_at_call 17; refine Calls.mono (HX2.out _) ?_; rintro e w9 ⟨rfl, hb9⟩; have K9 := mkHid (K8.out.next ⟨hb9.os, hb9.tape, hb9.output, hb9.size, hb9.block⟩); have s0 : w9.cell? ⟨w4.heap.size, 0, none⟩ = some (.slice (some ⟨g9, 0, none⟩) 8 c9) := cell_of_block K9.out.box 0; have s1 : w9.cell? ⟨w4.heap.size, 1, none⟩ = some (.string (rest t)) := cell_of_block K9.out.box 1; have s2 : w9.cell? ⟨w4.heap.size, 2, none⟩ = some (.int .i64 (t.size : Int)) := cell_of_block K9.out.box 2; clear hb9)))
      go_wp2
      go_ret
      exact ⟨rfl, K9.out.below⟩

set_option maxRecDepth 100000 in
theorem hash_walk (ID : IDigest) (IS : IShort) (IB : IBegin) (IM : IMore) (IR : IRight) (IE : IEnd) (a : Option Addr) (len cap : Nat) (b : Option Addr) (lenb capb : Nat) (w : World) (hG : GV w) (hl : (len : Int) ≤ 9223372036854775807) (hr : Row w a len) (hlb : (lenb : Int) ≤ 9223372036854775807) (hrb : Row w b lenb) :
    Calls Tryd.prog 3 #[.slice a len cap, .slice b lenb capb] w fun e w' => e = .returned (.bool true) ∧ Below w.heap.size w w' := by
  by_cases h0 : 1048576 < (len : Int)
  · clear ID IS IB IM IR IE hr hrb hG
    go_enter Tryd.func3, Tryd.ntmps3
    go_wp2
    go_ret
    exact ⟨rfl, Below.refl _ _⟩
  by_cases h1 : 1048576 < (lenb : Int)
  · have h0' : (len : Int) ≤ 1048576 := by omega
    clear ID IS IB IM IR IE hr hrb hG
    go_enter Tryd.func3, Tryd.ntmps3
    go_wp2
    go_ret
    exact ⟨rfl, Below.refl _ _⟩
  exact hash_in ID IS IB IM IR IE a len cap b lenb capb w hG (by omega) hr (by omega) hrb
end Go.Proofs.YtkkndkikfphnbaaDoor.himpl
