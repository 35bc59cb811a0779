/-
  What spec.l05End answers and leaves. Conditions: a state of eight numbers, which lie in memory; at most 64 bytes behind it; a size of 0 to 2^40.
-/
import Derived.Test.YtaepdmeghfbngaaDoorEndP
namespace Go.Proofs.YtaepdmeghfbngaaDoor.sha
open Go.RowKit Go.Joins
open Go.Proofs.YtaepdmeghfbngaaDoor.base Go.Proofs.YtaepdmeghfbngaaDoor.word Go.Proofs.YtaepdmeghfbngaaDoor.ints Go.Proofs.YtaepdmeghfbngaaDoor.blk
set_option linter.unusedVariables false
attribute [local go_sem ↓] app_fold

def sliceLen : Value → Nat
  | .slice _ n _ => n
  | _ => 0
/-- bytes that are gathered, the box that is read -/
structure En (w : World) (base : Nat) (box : Obj) (va : Option Addr) (n vc : Nat) (acc : List UInt8) (wr : World) : Prop where
  below : Below w.heap.size w wr
  bx : wr.heap[w.heap.size]? = some box
  own : wr.ownsRow base 5 1 (.slice va n vc) n (acc.map byteV)
  len : acc.length = n
  hb : w.heap.size + 1 ≤ base

theorem En.app {w wr : World} {base : Nat} {box : Obj} {va : Option Addr} {n vc : Nat} {acc : List UInt8} (h : En w base box va n vc acc wr) (bs : List UInt8) (m : Nat) (hm : bs.length = m) (hm0 : 0 < m) (hbase : base ≤ wr.heap.size) (hl : n + m ≤ 1000) :
    ∃ g c w2, (appSem #[24, 24] 24 #[.slice va n vc, .slice (some ⟨wr.heap.size, 0, none⟩) m m]).run Tryd.prog (wr.alloc (.cells (bs.map byteV).toArray 5)) = .ok (.slice (some ⟨g, 0, none⟩) (n + m) c) w2 ∧ En w base box (some ⟨g, 0, none⟩) (n + m) c (acc ++ bs) w2 ∧ wr.heap.size ≤ w2.heap.size := by
  have hb := h.hb
  obtain ⟨g, c, w2, hrun, hown, hgr⟩ := appB (wr.alloc (.cells (bs.map byteV).toArray 5)) _ (.inl rfl) base wr.heap.size (.slice va n vc) n m acc bs h.len hm (by omega) (h.own.alloc _) (by simp; omega) (heap_alloc_new wr _) hl
  refine ⟨g, c, w2, hrun, ⟨?_, ?_, hown, by rw [List.length_append, h.len, hm], hb⟩, ?_⟩
  · exact below_app h.below.size (by omega) h.below h.own hgr
  · exact blk_grown h.bx (fun e => by have := (h.own.lt w.heap.size e).1; omega) hgr
  · have := hgr.size
    simp at this
    omega

theorem En.str {w wr : World} {base : Nat} {box : Obj} {va : Option Addr} {n vc : Nat} {acc : List UInt8} (h : En w base box va n vc acc wr) : (convert 24 9 (.slice va n vc)).run Tryd.prog wr = .ok (.string ⟨acc.toArray⟩) wr := by
  obtain ⟨a, m, c, hv, hr⟩ := owns_string_any Tryd.underlying24 Tryd.underlying5 Tryd.underlying9 (by rw [h.len]; exact h.own)
  rw [hv]
  exact hr

theorem En.nothing {w : World} {o : Obj} (f : Nat → Int) : En w (w.heap.size + 1) o (some ⟨w.heap.size + 1, 0, none⟩) (4 * 0) 0 (digL f 0) ((w.alloc o).alloc (.cells #[] 5)) :=
  ⟨below_alloc2 w _ _, blk_old (blk_new w o _ rfl) _, ⟨rfl, .inr ⟨w.heap.size + 1, 0, #[], rfl, Nat.le_refl _, blk_new (w.alloc o) _ _ (by simp), Nat.le_refl _, by decide, rfl, rfl⟩⟩, rfl, Nat.le_refl _⟩
theorem En.one {w : World} {o : Obj} : En w (w.heap.size + 1) o (some ⟨w.heap.size + 1, 0, none⟩) 1 1 (pad 0) ((w.alloc o).alloc (.cells #[.int .u8 128] 5)) :=
  ⟨below_alloc2 w _ _, blk_old (blk_new w o _ rfl) _, ⟨rfl, .inr ⟨w.heap.size + 1, 1, #[.int .u8 128], rfl, Nat.le_refl _, blk_new (w.alloc o) _ _ (by simp), Nat.le_refl _, by decide, rfl, rfl⟩⟩, rfl, Nat.le_refl _⟩

set_option maxRecDepth 100000 in
set_option maxHeartbeats 1000000 in
theorem end_any (b0 off cap : Nat) (z : Nat → Int) (r : ByteArray) (size : Int) (w : World) (hr : ∀ i, i < 8 → w.cell? ⟨b0, off + i, none⟩ = some (.int .i64 (z i))) (hr64 : r.size ≤ 64) (h0 : 0 ≤ size) (h1 : size ≤ 1099511627776) :
    Calls Tryd.prog 10 #[hash (some ⟨b0, off, none⟩) 8 cap r size] w fun e w' => e = .returned (.string (dig z r size)) ∧ Below w.heap.size w w' := by
  unfold hash
  go_enter Tryd.func10, Tryd.ntmps10
  go_wp2
  go_loopw [3] (fun v wr => ∃ (j : Nat) (va : Option Addr) (vc : Nat), j ≤ gap size ∧ v = .slice va (j + 1) vc ∧ Hid (En w (w.heap.size + 1) (.cells #[.slice (some ⟨b0, off, none⟩) 8 cap, .string r, .int .i64 size] 28) va (j + 1) vc (pad j) wr))
    (fun v _ => gap size + 1 - sliceLen v)
  case atStart => exact ⟨0, _, _, Nat.zero_le _, rfl, mkHid En.one⟩
  case round =>
    obtain ⟨j, va, vc, hj, rfl, hen⟩ := hrel
    have c2 : wr.cell? ⟨w.heap.size, 2, none⟩ = some (.int .i64 size) := cell_of_block hen.out.bx 2
    have hgl := gap_lt size
    by_cases hlt : j < gap size
    · have hc : ¬ (size + ((j : Int) + 1)) % 64 = 56 := gap_not h0 hlt
      have hj2 : (j : Int) < 64 := by omega
      obtain ⟨g, c, w2, hrun0, hen2, hsz⟩ := hen.out.app [0] 1 rfl (by omega) (by have h2 := (Array.getElem?_eq_some_iff.1 hen.out.bx).1; omega) (by omega)
      have hrun : (appSem #[24, 24] 24 #[.slice va (j + 1) vc, .slice (some ⟨wr.heap.size, 0, none⟩) 1 1]).run Tryd.prog (wr.alloc (.cells #[.int .u8 0] 5)) = .ok (.slice (some ⟨g, 0, none⟩) (j + 1 + 1) c) w2 := hrun0
      rw [pad_next] at hen2
      have E2 := mkHid hen2
      clear hen hen2 hrun0
      go_wp2
      go_roundw
      case rel => exact ⟨j + 1, _, _, by omega, rfl, E2⟩
      case measure => simp [sliceLen]; omega
    · have ej : j = gap size := by omega
      have hc : (size + ((j : Int) + 1)) % 64 = 56 := by rw [ej]; exact gap_yes h0
      have hj2 : (j : Int) < 64 := by omega
      have HG := mkHid ej.symm
      clear ej hlt hgl hj
      go_wp2
      clear hc
      go_loopw [3, 5] (fun v k wr => ∃ (i : Nat) (va : Option Addr) (vc : Nat) (y : Int), i ≤ 8 ∧ k = .int .i64 y ∧ y = 56 - 8 * (i : Int) ∧ v = .slice va (j + 1 + i) vc ∧ Hid (En w (w.heap.size + 1) (.cells #[.slice (some ⟨b0, off, none⟩) 8 cap, .string r, .int .i64 size] 28) va (j + 1 + i) vc (pad j ++ lenB size i) wr))
        (fun _ k _ => (intOf k + 8).toNat)
      case atStart => exact ⟨0, _, _, 56, by omega, rfl, by omega, rfl, mkHid (by have h := hen.out; simpa [lenB] using h)⟩
      case round =>
        clear hen c2
        obtain ⟨i, va, vc, y, hi8, rfl, hy, rfl, hen⟩ := hrel
        by_cases hlt : i < 8
        · obtain ⟨q, rfl⟩ : ∃ q : Nat, y = (q : Int) := ⟨y.toNat, by omega⟩
          have hq : q = 56 - 8 * i := by omega
          obtain ⟨g, c, w2, hrun0, hen2, hsz⟩ := hen.out.app [by8 (8 * size) (2 ^ q)] 1 rfl (by omega) (by have h2 := (Array.getElem?_eq_some_iff.1 hen.out.bx).1; omega) (by omega)
          have hrun : (appSem #[24, 24] 24 #[.slice va (j + 1 + i) vc, .slice (some ⟨wr.heap.size, 0, none⟩) 1 1]).run Tryd.prog (wr.alloc (.cells #[.int .u8 (8 * size / 2 ^ q % 256)] 5)) = .ok (.slice (some ⟨g, 0, none⟩) (j + 1 + i + 1) c) w2 := by rw [← by8_val]; exact hrun0
          rw [List.append_assoc, hq, lenB_next] at hen2
          have E2 := mkHid hen2
          have q0 : (q : Int) ≤ 56 := by omega
          have q8 : (q : Int) - 8 = 56 - 8 * ((i + 1 : Nat) : Int) := by omega
          have Q := mkHid (And.intro hq q8)
          clear hen hen2 hrun0 hq hy q8
          go_wp2
          go_roundw
          case rel => exact ⟨i + 1, _, _, _, by omega, rfl, Q.out.2, rfl, E2⟩
          case measure => simp [intOf]; omega
        · have hi : i = 8 := by omega
          subst hi
          have hy8 : y < 0 := by omega
          have hconv := hen.out.str
          rw [show pad j ++ lenB size 8 = tail size by unfold tail; rw [HG.out]] at hconv
          have cx0 : wr.cell? ⟨w.heap.size, 0, none⟩ = some (.slice (some ⟨b0, off, none⟩) 8 cap) := cell_of_block hen.out.bx 0
          have cx1 : wr.cell? ⟨w.heap.size, 1, none⟩ = some (.string r) := cell_of_block hen.out.bx 1
          have cx2 : wr.cell? ⟨w.heap.size, 2, none⟩ = some (.int .i64 size) := cell_of_block hen.out.bx 2
          have HM := mkHid (more_any b0 off cap z r ⟨(tail size).toArray⟩ size wr (by show r.size + (tail size).toArray.size ≤ _; rw [List.size_toArray, tail_len]; have := gap_lt size; omega) h0 (by omega) (fun i hi => (hen.out.below.cell (p := ⟨b0, off + i, none⟩) (World.block_lt_of_cell? w _ (hr i hi))).trans (hr i hi)))
          have B0 := mkHid hen.out.below
          clear hen
          go_wp2_with fail
          refine HM.out.mono ?_
          rintro e w1 ⟨g, c, rfl, hg, hcs, hb1⟩
          clear HM
          have B1 := mkHid (B0.out.trans (hb1.mono B0.out.size))
          have K1 := mkHid (And.intro hg hcs)
          have D : dig z r size = ⟨(digL (after z (r ++ ⟨(tail size).toArray⟩) ((r ++ (⟨(tail size).toArray⟩ : ByteArray)).size / 64)) 8).toArray⟩ := rfl
          have HD := mkHid D
          clear D hconv cx0 cx1 cx2 hb1 hg hcs B0
          unfold hash
          generalize after z (r ++ ⟨(tail size).toArray⟩) ((r ++ (⟨(tail size).toArray⟩ : ByteArray)).size / 64) = f at *
          generalize rest (r ++ ⟨(tail size).toArray⟩) = rr at *
          go_wp2
          go_loopw [7, 8] (fun v k wr => ∃ (i : Nat) (va : Option Addr) (vc : Nat), i ≤ 8 ∧ k = .int .i64 i ∧ v = .slice va (4 * i) vc ∧ Hid (En w1 (w1.heap.size + 1) (.cells #[.slice (some ⟨g, 0, none⟩) 8 c, .string rr, .int .i64 (size + (tail size).length)] 28) va (4 * i) vc (digL f i) wr))
            (fun _ k _ => 8 - (intOf k).toNat)
          case atStart => exact ⟨0, _, _, by omega, rfl, rfl, mkHid (En.nothing f)⟩
          case round =>
            obtain ⟨i, va, vc, hi8, rfl, rfl, hen⟩ := hrel
            have cx0 : wr.cell? ⟨w1.heap.size, 0, none⟩ = some (.slice (some ⟨g, 0, none⟩) 8 c) := cell_of_block hen.out.bx 0
            by_cases hlt : i < 8
            · have cn : wr.cell? ⟨g, i, none⟩ = some (.int .i64 (f i)) := (hen.out.below.cell (p := ⟨g, i, none⟩) (World.block_lt_of_cell? w1 _ (K1.out.2 i hlt))).trans (K1.out.2 i hlt)
              obtain ⟨g', c', w2, hrun0, hen2, hsz⟩ := hen.out.app [by8 (f i) 16777216, by8 (f i) 65536, by8 (f i) 256, by8 (f i) 1] 4 rfl (by omega) (by have h2 := (Array.getElem?_eq_some_iff.1 hen.out.bx).1; omega) (by omega)
              have hrun : (appSem #[24, 24] 24 #[.slice va (4 * i) vc, .slice (some ⟨wr.heap.size, 0, none⟩) 4 4]).run Tryd.prog (wr.alloc (.cells #[.int .u8 (f i / 16777216 % 256), .int .u8 (f i / 65536 % 256), .int .u8 (f i / 256 % 256), .int .u8 (f i % 256)] 5)) = .ok (.slice (some ⟨g', 0, none⟩) (4 * i + 4) c') w2 := by
                have e := by8_val (f i) 1
                rw [Int.ediv_one] at e
                rw [← by8_val, ← by8_val, ← by8_val, ← e]
                exact hrun0
              rw [digL_next] at hen2
              have E2 := mkHid hen2
              clear hen hen2 hrun0
              generalize f i = n at *
              have bi : (i : Int) < 8 := by omega
              go_wp2
              go_roundw
              case rel => exact ⟨i + 1, _, _, by omega, by go_num, by rw [Nat.mul_add], E2⟩
              case measure => simp [intOf]; omega
            · have hi : i = 8 := by omega
              subst hi
              have hconv := hen.out.str
              rw [← HD.out] at hconv
              have B2 := mkHid (B1.out.trans (hen.out.below.mono B1.out.size))
              clear hen
              go_wp2
              go_ret
              exact ⟨rfl, B2.out⟩
end Go.Proofs.YtaepdmeghfbngaaDoor.sha
