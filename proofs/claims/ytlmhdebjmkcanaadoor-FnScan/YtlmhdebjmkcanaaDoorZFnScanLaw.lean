/-
  laws.FnScan answers true at all bytes, and leaves what was there as it was. Conditions: the numbers of the rounds are there; the bytes lie in memory.
-/
import Derived.Test.YtlmhdebjmkcanaaDoorZDrawC
import Derived.Test.YtlmhdebjmkcanaaDoorZScanF
import Derived.Test.YtlmhdebjmkcanaaDoorZOutNe
import Derived.Test.YtlmhdebjmkcanaaDoorZGetA
import Derived.Test.YtlmhdebjmkcanaaDoorZRdA
import Derived.Test.YtlmhdebjmkcanaaDoorZShaH
namespace Go.Proofs.YtlmhdebjmkcanaaDoor.fnscan
open Go.RowKit Go.Joins
open Go.Proofs.YtlmhdebjmkcanaaDoor.base Go.Proofs.YtlmhdebjmkcanaaDoor.blk Go.Proofs.YtlmhdebjmkcanaaDoor.aid Go.Proofs.YtlmhdebjmkcanaaDoor.pack
open Go.Proofs.YtlmhdebjmkcanaaDoor.row (bl en Rd Own OwnV appSem app_fold app1)
open Go.Proofs.YtlmhdebjmkcanaaDoor.draw (Row)
open Go.Proofs.YtlmhdebjmkcanaaDoor.packf (No66 Ents)
open Go.Proofs.YtlmhdebjmkcanaaDoor.rdr (SPost)
open Go.Proofs.YtlmhdebjmkcanaaDoor.sha (GV)
set_option linter.unusedVariables false
attribute [local go_sem ↓] app_fold

theorem info8 : (Tryd.prog.info? 5).map (fun i => (i.zero, i.size, i.bytes)) = some (some (.int .u8 0), 1, 1) := by kernel_rfl
/-- while the bytes are taken -/
structure Tk (w : World) (B : Nat) (a1 : Option Addr) (l : List (Int × ByteArray)) (b : Option Addr) (lenb : Nat) (acc : List UInt8) (v : Value) (W : World) : Prop where
  below : Below w.heap.size w W
  rd : Rd W a1 (bl l)
  more : Row W b lenb
  row : W.ownsRow B 5 1 v acc.length (acc.map byteV)
  no : No66 acc
  hB : w.heap.size ≤ B
  rdB : ∀ g o s, a1 = some ⟨g, o, s⟩ → bl l ≠ [] → g < B
  moreB : ∀ g o s, b = some ⟨g, o, s⟩ → 0 < lenb → g < B
  hBW : B ≤ W.heap.size
theorem Tk.drew {w W : World} {B : Nat} {a1 b : Option Addr} {l : List (Int × ByteArray)} {lenb : Nat} {acc : List UInt8} {v : Value} (h : Tk w B a1 l b lenb acc v W) : Tk w B a1 l b lenb acc v W.drew :=
  ⟨⟨h.below.os, h.below.tape, h.below.output, h.below.size, h.below.block⟩, h.rd, h.more, h.row, h.no, h.hB, h.rdB, h.moreB, h.hBW⟩

theorem byte_of {u : Int} (h0 : 0 ≤ u) (h1 : u ≤ 255) : byteV (UInt8.ofNat u.toNat) = .int .u8 u := by
  unfold byteV
  rw [UInt8.toNat_ofNat', Nat.mod_eq_of_lt (by omega)]
  congr 1
  omega
theorem Tk.app {w W : World} {B : Nat} {a1 b : Option Addr} {l : List (Int × ByteArray)} {lenb : Nat} {acc : List UInt8} {v : Value} (h : Tk w B a1 l b lenb acc v W) {u : Int} (h0 : 0 ≤ u) (h1 : u ≤ 255) (hu : u ≠ 66) (hl : acc.length ≤ 40) :
    ∃ q c w2, (appSem #[22, 22] 22 #[v, .slice (some ⟨W.heap.size, 0, none⟩) 1 1]).run Tryd.prog (W.alloc (.cells #[.int .u8 u] 5)) = .ok (.slice (some ⟨q, 0, none⟩) (acc.length + 1) c) w2 ∧ Tk w B a1 l b lenb (acc ++ [UInt8.ofNat u.toNat]) (.slice (some ⟨q, 0, none⟩) (acc.length + 1) c) w2 := by
  obtain ⟨q, c, w2, r1, r2, r3⟩ := app1 (W := W) (base := B) (S := 22) (T := 5) (size := 1) (bytes := 1) Tryd.underlying22 info8 rfl (by decide) v acc.length (acc.map byteV) [.int .u8 u] rfl (by intro x hx; simp at hx; subst hx; rfl) h.row h.hBW (by omega) (by decide)
  have hbl : Below B W w2 := ((Below.refl B W).alloc h.hBW _).grown r3 (by have := h.hBW; simp; omega) (fun x hx => (h.row.lt x hx).1)
  refine ⟨q, c, w2, r1, h.below.trans (hbl.mono h.hB), ?_, ?_, ?_, h.no.snoc (fun e => hu ?_), h.hB, h.rdB, h.moreB, Nat.le_trans h.hBW hbl.size⟩
  · by_cases hn : bl l = []
    · rw [hn]
      exact Rd.nil _ _
    · exact h.rd.block (fun g o e hg => hbl.block g (h.rdB g o none e hn))
  · intro i hi
    obtain ⟨g, off, y, e1, e2, e3⟩ := h.more i hi
    exact ⟨g, off, y, e1, (hbl.cell (p := ⟨g, off + i, none⟩) (h.moreB g off none e1 (by omega))).trans e2, e3⟩
  · have e : (acc ++ [UInt8.ofNat u.toNat]).length = acc.length + 1 := by simp
    rw [e, List.map_append, List.map_cons, List.map_nil, byte_of h0 h1]
    exact r2
  · have := congrArg UInt8.toNat e
    rw [UInt8.toNat_ofNat', Nat.mod_eq_of_lt (by omega)] at this
    have e6 : (66 : UInt8).toNat = 66 := by decide
    omega

theorem cells_next {w W W' : World} {a1 a5 : Option Addr} {xs ys : List Value} {p1 p2 p3 p4 p5 p6 : Addr} {v1 v2 v3 v4 v5 v6 : Value} (h : (Below w.heap.size w W ∧ Rd W a1 xs ∧ Rd W a5 ys) ∧ W.cell? p1 = some v1 ∧ W.cell? p2 = some v2 ∧ W.cell? p3 = some v3 ∧ W.cell? p4 = some v4 ∧ W.cell? p5 = some v5 ∧ W.cell? p6 = some v6) (hb : Below W.heap.size W W') :
    (Below w.heap.size w W' ∧ Rd W' a1 xs ∧ Rd W' a5 ys) ∧ W'.cell? p1 = some v1 ∧ W'.cell? p2 = some v2 ∧ W'.cell? p3 = some v3 ∧ W'.cell? p4 = some v4 ∧ W'.cell? p5 = some v5 ∧ W'.cell? p6 = some v6 := by
  obtain ⟨⟨h1, h2, h3⟩, c1, c2, c3, c4, c5, c6⟩ := h
  have k : ∀ {p : Addr} {v : Value}, W.cell? p = some v → W'.cell? p = some v := fun {p} {v} c => (hb.cell (World.block_lt_of_cell? W p c)).trans c
  exact ⟨⟨h1.trans (hb.mono h1.size), h2.below hb, h3.below hb⟩, k c1, k c2, k c3, k c4, k c5, k c6⟩

set_option maxRecDepth 100000 in
set_option maxHeartbeats 4000000 in
theorem walk_in (a : Option Addr) (len cap : Nat) (b : Option Addr) (lenb capb : Nat) (w : World) (hG : GV w) (hl : len ≤ 1048576) (hr : Row w a len) (hlb : lenb ≤ 1048576) (hrb : Row w b lenb) :
    Calls Tryd.prog 4 #[.slice a len cap, .slice b lenb capb] w fun e w' => e = .returned (.bool true) ∧ Below w.heap.size w w' := by
  have hli : (len : Int) ≤ 1048576 := by omega
  have hlbi : (lenb : Int) ≤ 1048576 := by omega
  have HD := mkHid (draw.drawPackBytes_any a len cap w hl hr)
  have HR := mkHid hrb
  have HG := mkHid (fun wx (hb : Below w.heap.size w wx) => hG.below hb hG.lt)
  clear hl hr hrb hG
  go_enter Tryd.func4, Tryd.ntmps4
  go_wp2_with fail
  refine HD.out.mono ?_
  rintro e w1 ⟨l, a1, c1, rfl, hl1, hr1, hb1⟩
  have K1 := mkHid (And.intro hb1 (And.intro (HR.out.below hb1) hr1))
  clear hb1 hr1 HD HR
  have HBS := mkHid (fun wx (hx : Rd wx a1 (bl l)) => bytes_spec a1 c1 l wx (by omega) hx)
  have hz := packB_size l
  have HF : Hid (∀ x : ByteArray, No66 x.data.toList → x.size ≤ 40 → (packR l = true → Ents (x ++ packB l) (scanT (x ++ packB l)) l) ∧ (packR l = false → packB l = ⟨#[]⟩ ∧ scanT (x ++ packB l) = [])) := mkHid (fun x hx hxz => ⟨fun h => packf.scan_pack hx hxz h, fun h => by
    have e := (packB_empty l).2 h
    rw [e]
    have e2 : x ++ (⟨#[]⟩ : ByteArray) = x := ByteArray.ext (by simp)
    rw [e2]
    exact ⟨rfl, packf.scan_none hx hxz⟩⟩)
  have HE : Hid (packB l = ⟨#[]⟩ ↔ packR l = false) := mkHid (packB_empty l)
  generalize packB l = t at *
  go_wp2_with fail
  refine (HBS.out _ K1.out.2.2).mono ?_
  rintro e w2 ⟨rfl, hb2⟩
  have K2 := mkHid (And.intro (K1.out.1.trans (hb2.mono K1.out.1.size)) (And.intro (K1.out.2.1.below hb2) (K1.out.2.2.below hb2)))
  clear hb2 K1
  go_wp2_with fail
  have T0 : Hid (Tk w w2.heap.size a1 l b lenb [] (.slice (some ⟨w2.heap.size, 0, none⟩) 0 0) (w2.alloc (.cells #[] 5))) := mkHid ⟨K2.out.1.alloc K2.out.1.size _, K2.out.2.2.alloc _, K2.out.2.1.below (below_alloc1 w2 _), World.ownsRow_made (base := w2.heap.size) (size := 1) w2 #[] 0 (Nat.le_refl _) (by decide) rfl, packf.No66.nil, K2.out.1.size, (by
      intro g o s e hn
      obtain ⟨u, r, he⟩ := List.exists_cons_of_ne_nil hn
      obtain ⟨g', o', e', c⟩ := K2.out.2.2 0 u (by rw [he]; rfl)
      rw [e] at e'
      simp at e'
      rw [e'.1]
      exact World.block_lt_of_cell? w2 _ c), (by
      intro g o s e hn
      obtain ⟨g', o', u, e', c, _⟩ := K2.out.2.1 0 hn
      rw [e] at e'
      simp at e'
      rw [e'.1]
      exact World.block_lt_of_cell? w2 _ c), by simp⟩
  clear K2
  generalize w2.heap.size = B at *
  go_loopw [7, 8] (fun v i wr => ∃ (k : Nat) (acc : List UInt8) (q c : Nat), k ≤ lenb ∧ k ≤ 40 ∧ i = .int .i64 k ∧ acc.length ≤ k ∧ v = .slice (some ⟨q, 0, none⟩) acc.length c ∧ Hid (Tk w B a1 l b lenb acc (.slice (some ⟨q, 0, none⟩) acc.length c) wr))
    (fun _ i _ => 40 - (intOf i).toNat)
  case atStart => exact ⟨0, [], B, 0, Nat.zero_le _, by omega, rfl, by simp, rfl, T0⟩
  case round =>
    clear T0
    obtain ⟨k, acc, q, c, hk, hk40, rfl, hacc, rfl, hT⟩ := hrel
    by_cases hlt : k < lenb ∧ k < 40
    · have hki : (k : Int) < (lenb : Int) := by omega
      have hki2 : (k : Int) < 40 := by omega
      obtain ⟨bb, bo, u, rfl, hcu, hu0, hu1⟩ := hT.out.more k hlt.1
      by_cases hu : u = 66
      · subst hu
        go_wp2
        exact ⟨⟨k + 1, acc, q, c, by omega, by omega, by go_num, by omega, rfl, hT⟩, by simp [intOf]; omega⟩
      · have hub : (u != 66) = true := by simp [hu]
        obtain ⟨q2, c2, w3, hrun, T3⟩ := hT.out.app hu0 hu1 hu (by omega)
        have N1 : Hid (Tk w B a1 l (some ⟨bb, bo, none⟩) lenb (acc ++ [UInt8.ofNat u.toNat]) (.slice (some ⟨q2, 0, none⟩) (acc ++ [UInt8.ofNat u.toNat]).length c2) w3) := mkHid (by simpa using T3)
        clear T3 hT hu
        go_wp2
        exact ⟨⟨k + 1, acc ++ [UInt8.ofNat u.toNat], q2, c2, by omega, by omega, by go_num, by simp; omega, by simp, N1⟩, by simp [intOf]; omega⟩
    · have hdone : (lenb : Int) ≤ (k : Int) ∨ ((k : Int) < (lenb : Int) ∧ (40 : Int) ≤ (k : Int)) := by omega
      clear hlt
      obtain ⟨a', m', cap', hv, hconv⟩ := owns_string_any (P := Tryd.prog) (src := 22) (dst := 9) Tryd.underlying22 Tryd.underlying5 Tryd.underlying9 hT.out.row
      simp at hv
      obtain ⟨rfl, rfl, rfl⟩ := hv
      have hxz : (⟨acc.toArray⟩ : ByteArray).size ≤ 40 := by simp [ByteArray.size]; omega
      have HX := mkHid (HF.out ⟨acc.toArray⟩ (by simpa using hT.out.no) hxz)
      have KT := mkHid (And.intro hT.out.below hT.out.rd)
      clear hT HF
      generalize (⟨acc.toArray⟩ : ByteArray) = x at *
      have hadd := fun wx => run_string_add_sum (P := Tryd.prog) wx x t (by omega)
      have hxi : (x.size : Int) ≤ 40 := by omega
      have hti : (t.size : Int) ≤ 12000 := by omega
      have HSc := mkHid (fun wx (hb : Below w.heap.size w wx) => rdr.scan_impl (x ++ t) wx (by rw [ByteArray.size_append]; omega) digI.digest_any (HG.out wx hb))
      unfold SPost at HSc
      rcases hdone with hd | ⟨hd1, hd2⟩
      · go_wp2_with fail
        refine (HSc.out _ KT.out.1).mono ?_
        rintro e w5 ⟨a5, c5, rfl, ho5, hf5, hb5⟩
        have K5 := mkHid (And.intro (KT.out.1.trans (hb5.mono KT.out.1.size)) (And.intro (KT.out.2.below hb5) ho5.rd))
        clear hb5 KT HSc ho5 hf5 hadd hconv
        cases hp : packR l with
        | false =>
          obtain ⟨he1, he2⟩ := HX.out.2 hp
          rw [he2] at K5
          rw [he2]
          have HB2 : Hid (∀ wx, Rd wx a1 (bl l) → Calls Tryd.prog 10 #[.slice a1 l.length c1] wx fun e w' => e = .returned (.string ⟨#[]⟩) ∧ Below wx.heap.size wx w') := mkHid (by rw [he1] at HBS; exact HBS.out)
          clear he1 he2 HX HBS HE hp
          go_wp2_with fail
          refine (HB2.out _ K5.out.2.1).mono ?_
          rintro e w6 ⟨rfl, hb6⟩
          have K6 := mkHid (K5.out.1.trans (hb6.mono K5.out.1.size))
          clear hb6 K5 HB2
          go_wp2
          go_ret
          exact ⟨rfl, K6.out⟩
        | true =>
          have ht0 : t.toList.isEmpty = false := by
            cases hq : t.toList.isEmpty
            · rfl
            · have e0 : t = ⟨#[]⟩ := by
                refine ByteArray.ext (Array.toList_inj.1 ?_)
                rw [ByteArray.toList_eq] at hq
                simpa using hq
              have := HE.out.1 e0
              rw [this] at hp
              cases hp
          have HX1 := mkHid (HX.out.1 hp)
          have hlen : (scanT (x ++ t)).length = l.length := HX1.out.1
          have hgz : (x ++ t).size ≤ 20000 := by rw [ByteArray.size_append]; omega
          have hsi : ((x ++ t).size : Int) ≤ 20000 := by omega
          generalize hgs : x ++ t = s at *
          clear hgs
          generalize scanT s = es at *
          rw [hlen]
          clear hp HX HE
          go_wp2_with fail
          refine (HBS.out _ K5.out.2.1).mono ?_
          rintro e w6 ⟨rfl, hb6⟩
          have K6 := mkHid (And.intro (K5.out.1.trans (hb6.mono K5.out.1.size)) (And.intro (K5.out.2.1.below hb6) (K5.out.2.2.below hb6)))
          clear hb6 K5 HBS
          have hne : ((l.length : Int) != (l.length : Int)) = false := by simp
          have hl1i : (l.length : Int) ≤ 100 := by omega
          go_wp2_with fail
          go_loopw [10] (fun i wr => ∃ k : Nat, k ≤ l.length ∧ i = .int .i64 k ∧ Hid (Below w.heap.size w wr ∧ Rd wr a1 (bl l) ∧ Rd wr a5 (en es)))
            (fun i _ => l.length - (intOf i).toNat)
          case atStart => exact ⟨0, Nat.zero_le _, rfl, K6⟩
          case round =>
            clear K6
            obtain ⟨k2, hk2, rfl, hK⟩ := hrel
            by_cases hlt2 : k2 < l.length
            · have hlt2i : (k2 : Int) < (l.length : Int) := by omega
              obtain ⟨⟨bk, bt⟩, hx⟩ : ∃ z, l[k2]? = some z := ⟨_, List.getElem?_eq_getElem hlt2⟩
              obtain ⟨qq, hee, hqz, hbz, hgg⟩ := HX1.out.2 k2 (bk, bt) hx
              obtain ⟨g1, o1, rfl, d1, d2, l1⟩ := hK.out.2.1.blob hx
              obtain ⟨g2, o2, rfl, f1, f2, f3, f4, l2⟩ := hK.out.2.2.entry hee
              simp only at hgg d1 d2 f1 f2 f3 f4 hqz hbz
              have HKI := mkHid (fun wx (hb : Below w.heap.size w wx) => key_impl bk bt wx digI.digest_any (HG.out wx hb))
              have HGI : Hid (∀ wx, Below w.heap.size w wx → Calls Tryd.prog 18 #[.string s, .agg #[.string (bKey (bk, bt)), .int .i64 bk, .int .i64 (qq : Int), .int .i64 (bt.size : Int)]] wx fun e w' => e = .returned (.agg #[.int .i64 bk, .string bt, .int .i64 0]) ∧ Below wx.heap.size wx w') := mkHid (fun wx hb => by
                have h := get_impl_in s (bKey (bk, bt)) bk qq bt.size wx digI.digest_any (HG.out wx hb) hgz hbz hqz
                rw [hgg] at h
                exact h)
              generalize bKey (bk, bt) = kx at *
              have hn1 : (!kx.toList == kx.toList) = false := by simp
              have hn2 : ((bt.size : Int) != (bt.size : Int)) = false := by simp
              have hn3 := fun wx => lwb.out_ne bk bt 0 wx
              have hbzi : (bt.size : Int) ≤ 2000 := by omega
              have C := mkHid (And.intro hK.out (And.intro d1 (And.intro d2 (And.intro f1 (And.intro f2 (And.intro f3 f4))))))
              clear hK HX1 hee hgg hx
              go_wp2_with fail
              go_region_held3 (fun w' => w'.cell? ⟨g1, o1 + k2 * 2, none⟩ = some (.int .i64 bk) ∧ w'.cell? ⟨g1, o1 + k2 * 2 + 1, none⟩ = some (.string bt) ∧ w'.cell? ⟨g2, o2 + k2 * 4, none⟩ = some (.string kx) ∧ w'.cell? ⟨g2, o2 + k2 * 4 + 1, none⟩ = some (.int .i64 bk) ∧ w'.cell? ⟨g2, o2 + k2 * 4 + 2, none⟩ = some (.int .i64 (qq : Int)) ∧ w'.cell? ⟨g2, o2 + k2 * 4 + 3, none⟩ = some (.int .i64 (bt.size : Int))) (go_keep)
                ((first
                  | (go_at_call 17; refine Calls.mono (HKI.out _ (by exact ⟨C.out.1.1.os, C.out.1.1.tape, C.out.1.1.output, C.out.1.1.size, C.out.1.1.block⟩)) ?_; rintro e w7 ⟨rfl, hb7⟩; have r7 := re (w := wr) hb7 rfl rfl rfl rfl; have C7 := mkHid (cells_next C.out r7); obtain ⟨x1, x2, x3, x4, x5, x6⟩ := C7.out.2; clear hb7 r7)
                  | (go_at_call 18; refine Calls.mono (HGI.out _ (by exact ⟨C7.out.1.1.os, C7.out.1.1.tape, C7.out.1.1.output, C7.out.1.1.size, C7.out.1.1.block⟩)) ?_; rintro e w8 ⟨rfl, hb8⟩; have r8 := re (w := w7) hb8 rfl rfl rfl rfl; have C8 := mkHid (cells_next C7.out r8); obtain ⟨y1, y2, y3, y4, y5, y6⟩ := C8.out.2; clear hb8 r8)))
              go_wp2
              exact ⟨⟨k2 + 1, by omega, by go_num, mkHid ⟨⟨C8.out.1.1.os, C8.out.1.1.tape, C8.out.1.1.output, C8.out.1.1.size, C8.out.1.1.block⟩, C8.out.1.2.1, C8.out.1.2.2⟩⟩, by simp [intOf]; omega⟩
            · obtain rfl : k2 = l.length := by omega
              go_wp2
              go_ret
              exact ⟨rfl, hK.out.1⟩
      · go_wp2_with fail
        refine (HSc.out _ KT.out.1).mono ?_
        rintro e w5 ⟨a5, c5, rfl, ho5, hf5, hb5⟩
        have K5 := mkHid (And.intro (KT.out.1.trans (hb5.mono KT.out.1.size)) (And.intro (KT.out.2.below hb5) ho5.rd))
        clear hb5 KT HSc ho5 hf5 hadd hconv
        cases hp : packR l with
        | false =>
          obtain ⟨he1, he2⟩ := HX.out.2 hp
          rw [he2] at K5
          rw [he2]
          have HB2 : Hid (∀ wx, Rd wx a1 (bl l) → Calls Tryd.prog 10 #[.slice a1 l.length c1] wx fun e w' => e = .returned (.string ⟨#[]⟩) ∧ Below wx.heap.size wx w') := mkHid (by rw [he1] at HBS; exact HBS.out)
          clear he1 he2 HX HBS HE hp
          go_wp2_with fail
          refine (HB2.out _ K5.out.2.1).mono ?_
          rintro e w6 ⟨rfl, hb6⟩
          have K6 := mkHid (K5.out.1.trans (hb6.mono K5.out.1.size))
          clear hb6 K5 HB2
          go_wp2
          go_ret
          exact ⟨rfl, K6.out⟩
        | true =>
          have ht0 : t.toList.isEmpty = false := by
            cases hq : t.toList.isEmpty
            · rfl
            · have e0 : t = ⟨#[]⟩ := by
                refine ByteArray.ext (Array.toList_inj.1 ?_)
                rw [ByteArray.toList_eq] at hq
                simpa using hq
              have := HE.out.1 e0
              rw [this] at hp
              cases hp
          have HX1 := mkHid (HX.out.1 hp)
          have hlen : (scanT (x ++ t)).length = l.length := HX1.out.1
          have hgz : (x ++ t).size ≤ 20000 := by rw [ByteArray.size_append]; omega
          have hsi : ((x ++ t).size : Int) ≤ 20000 := by omega
          generalize hgs : x ++ t = s at *
          clear hgs
          generalize scanT s = es at *
          rw [hlen]
          clear hp HX HE
          go_wp2_with fail
          refine (HBS.out _ K5.out.2.1).mono ?_
          rintro e w6 ⟨rfl, hb6⟩
          have K6 := mkHid (And.intro (K5.out.1.trans (hb6.mono K5.out.1.size)) (And.intro (K5.out.2.1.below hb6) (K5.out.2.2.below hb6)))
          clear hb6 K5 HBS
          have hne : ((l.length : Int) != (l.length : Int)) = false := by simp
          have hl1i : (l.length : Int) ≤ 100 := by omega
          go_wp2_with fail
          go_loopw [10] (fun i wr => ∃ k : Nat, k ≤ l.length ∧ i = .int .i64 k ∧ Hid (Below w.heap.size w wr ∧ Rd wr a1 (bl l) ∧ Rd wr a5 (en es)))
            (fun i _ => l.length - (intOf i).toNat)
          case atStart => exact ⟨0, Nat.zero_le _, rfl, K6⟩
          case round =>
            clear K6
            obtain ⟨k2, hk2, rfl, hK⟩ := hrel
            by_cases hlt2 : k2 < l.length
            · have hlt2i : (k2 : Int) < (l.length : Int) := by omega
              obtain ⟨⟨bk, bt⟩, hx⟩ : ∃ z, l[k2]? = some z := ⟨_, List.getElem?_eq_getElem hlt2⟩
              obtain ⟨qq, hee, hqz, hbz, hgg⟩ := HX1.out.2 k2 (bk, bt) hx
              obtain ⟨g1, o1, rfl, d1, d2, l1⟩ := hK.out.2.1.blob hx
              obtain ⟨g2, o2, rfl, f1, f2, f3, f4, l2⟩ := hK.out.2.2.entry hee
              simp only at hgg d1 d2 f1 f2 f3 f4 hqz hbz
              have HKI := mkHid (fun wx (hb : Below w.heap.size w wx) => key_impl bk bt wx digI.digest_any (HG.out wx hb))
              have HGI : Hid (∀ wx, Below w.heap.size w wx → Calls Tryd.prog 18 #[.string s, .agg #[.string (bKey (bk, bt)), .int .i64 bk, .int .i64 (qq : Int), .int .i64 (bt.size : Int)]] wx fun e w' => e = .returned (.agg #[.int .i64 bk, .string bt, .int .i64 0]) ∧ Below wx.heap.size wx w') := mkHid (fun wx hb => by
                have h := get_impl_in s (bKey (bk, bt)) bk qq bt.size wx digI.digest_any (HG.out wx hb) hgz hbz hqz
                rw [hgg] at h
                exact h)
              generalize bKey (bk, bt) = kx at *
              have hn1 : (!kx.toList == kx.toList) = false := by simp
              have hn2 : ((bt.size : Int) != (bt.size : Int)) = false := by simp
              have hn3 := fun wx => lwb.out_ne bk bt 0 wx
              have hbzi : (bt.size : Int) ≤ 2000 := by omega
              have C := mkHid (And.intro hK.out (And.intro d1 (And.intro d2 (And.intro f1 (And.intro f2 (And.intro f3 f4))))))
              clear hK HX1 hee hgg hx
              go_wp2_with fail
              go_region_held3 (fun w' => w'.cell? ⟨g1, o1 + k2 * 2, none⟩ = some (.int .i64 bk) ∧ w'.cell? ⟨g1, o1 + k2 * 2 + 1, none⟩ = some (.string bt) ∧ w'.cell? ⟨g2, o2 + k2 * 4, none⟩ = some (.string kx) ∧ w'.cell? ⟨g2, o2 + k2 * 4 + 1, none⟩ = some (.int .i64 bk) ∧ w'.cell? ⟨g2, o2 + k2 * 4 + 2, none⟩ = some (.int .i64 (qq : Int)) ∧ w'.cell? ⟨g2, o2 + k2 * 4 + 3, none⟩ = some (.int .i64 (bt.size : Int))) (go_keep)
                ((first
                  | (go_at_call 17; refine Calls.mono (HKI.out _ (by exact ⟨C.out.1.1.os, C.out.1.1.tape, C.out.1.1.output, C.out.1.1.size, C.out.1.1.block⟩)) ?_; rintro e w7 ⟨rfl, hb7⟩; have r7 := re (w := wr) hb7 rfl rfl rfl rfl; have C7 := mkHid (cells_next C.out r7); obtain ⟨x1, x2, x3, x4, x5, x6⟩ := C7.out.2; clear hb7 r7)
                  | (go_at_call 18; refine Calls.mono (HGI.out _ (by exact ⟨C7.out.1.1.os, C7.out.1.1.tape, C7.out.1.1.output, C7.out.1.1.size, C7.out.1.1.block⟩)) ?_; rintro e w8 ⟨rfl, hb8⟩; have r8 := re (w := w7) hb8 rfl rfl rfl rfl; have C8 := mkHid (cells_next C7.out r8); obtain ⟨y1, y2, y3, y4, y5, y6⟩ := C8.out.2; clear hb8 r8)))
              go_wp2
              exact ⟨⟨k2 + 1, by omega, by go_num, mkHid ⟨⟨C8.out.1.1.os, C8.out.1.1.tape, C8.out.1.1.output, C8.out.1.1.size, C8.out.1.1.block⟩, C8.out.1.2.1, C8.out.1.2.2⟩⟩, by simp [intOf]; omega⟩
            · obtain rfl : k2 = l.length := by omega
              go_wp2
              go_ret
              exact ⟨rfl, hK.out.1⟩

set_option maxRecDepth 100000 in
theorem walk (a : Option Addr) (len cap : Nat) (b : Option Addr) (lenb capb : Nat) (w : World) (hG : GV w) (hl : (len : Int) ≤ 9223372036854775807) (hr : Row w a len) (hlb : (lenb : Int) ≤ 9223372036854775807) (hrb : Row w b lenb) :
    Calls Tryd.prog 4 #[.slice a len cap, .slice b lenb capb] w fun e w' => e = .returned (.bool true) ∧ Below w.heap.size w w' := by
  by_cases h0 : 1048576 < (len : Int)
  · clear hr hrb hG
    go_enter Tryd.func4, Tryd.ntmps4
    go_wp2
    go_ret
    exact ⟨rfl, Below.refl _ _⟩
  by_cases h1 : 1048576 < (lenb : Int)
  · have h0' : (len : Int) ≤ 1048576 := by omega
    clear hr hrb hG
    go_enter Tryd.func4, Tryd.ntmps4
    go_wp2
    go_ret
    exact ⟨rfl, Below.refl _ _⟩
  exact walk_in a len cap b lenb capb w hG (by omega) hr (by omega) hrb
end Go.Proofs.YtlmhdebjmkcanaaDoor.fnscan
