/-
  Texts that are drawn: (*l01Src).bytes: what it answers and leaves. Conditions: the source lies in one block of its own, and the sizes are small.
  A yes or no that is drawn: (*l01Src).one: what it answers and leaves. Condition: the source lies in one block of its own.
  Names and ops that are drawn: (*l01Src).pick, l08Name and l08Op: what they answer and leave. Condition: the source lies in one block of its own.
  Ops that are drawn: (*l01Src).l08Op: what it answers and leaves. Condition: the source lies in one block of its own.
-/
import Derived.Test.YtfckgpmphcadeaaSource
import Derived.Test.YtfckgpmphcadeaaStrs
import Derived.Test.YtfckgpmphcadeaaMem
namespace Go.Proofs.Ytfckgpmphcadeaa.draw
open Go.RowKit
open Go.Proofs.Ytfckgpmphcadeaa.base
set_option linter.unusedVariables false

theorem info5 : (Try.prog.info? 5).map (fun i => (i.zero, i.size, i.bytes)) = some (some (.int .u8 0), 1, 1) := by kernel_rfl

theorem grown_trans {w w1 w2 : World} {r : Option Nat} (h : w.grownBy w1 r) (k : w1.grownBy w2 r) : w.grownBy w2 r :=
  ⟨k.os.trans h.os, k.tape.trans h.tape, k.output.trans h.output, Nat.le_trans h.size k.size, fun i hi hne => (k.block i (Nat.lt_of_lt_of_le hi h.size) hne).trans (h.block i hi hne)⟩
/-- new blocks, and writes to rows that are new -/
theorem grown_new {w w1 w2 : World} {r : Option Nat} (h : w.grownBy w1 r) (k : Below w.heap.size w1 w2) : w.grownBy w2 r :=
  ⟨k.os.trans h.os, k.tape.trans h.tape, k.output.trans h.output, Nat.le_trans h.size k.size, fun i hi hne => (k.block i hi).trans (h.block i hi hne)⟩
theorem grown_below {w w1 : World} {g B : Nat} (h : w.grownBy w1 (some g)) (hg : B ≤ g) (hB : B ≤ w.heap.size) : Below B w w1 :=
  ⟨h.os, h.tape, h.output, h.size, fun k hk => h.block k (by omega) (by simp; omega)⟩

/-- a text of n bytes is drawn -/
def DrewText (w : World) (g : Nat) (most : Nat) (e : Ending) (w' : World) : Prop :=
  ∃ t : ByteArray, e = .returned (.string t) ∧ t.size ≤ most ∧ SrcAt w' g ∧ w.grownBy w' (some g)

set_option maxRecDepth 100000 in
set_option maxHeartbeats 1000000 in
theorem bytes_any (g : Nat) (n : Nat) (w : World) (hn : n ≤ 100000) (h : SrcAt w g) :
    Calls Try.prog 99 #[.pointer (some ⟨g, 0, none⟩), .int .i64 n] w fun e w' => DrewText w g n e w' := by
  obtain ⟨i0, hi, hz0, hz1, hz2⟩ := info_parts info5
  have hgl := h.lt
  go_enter Try.func99, Try.ntmps99
  go_wp2_with fail
  go_loopw [5, 6] (fun v i wr => ∃ (k : Nat) (acc : List UInt8), k ≤ n ∧ i = .int .i64 (k : Int) ∧ Hid (acc.length = k) ∧ wr.ownsRow w.heap.size 5 1 v acc.length (acc.map byteV) ∧ Hid (SrcAt wr g ∧ w.grownBy wr (some g)))
    (fun _ i _ => n - (intOf i).toNat)
  case atStart => exact ⟨0, [], Nat.zero_le _, rfl, mkHid rfl, World.ownsRow_made _ _ _ (Nat.le_refl _) (by decide) rfl, mkHid ⟨h.below ((Below.refl _ _).alloc (Nat.le_refl _) _), World.grownBy_alloc _ _ _⟩⟩
  case round =>
    obtain ⟨k, acc, hk, rfl, hlen, hown, hs⟩ := hrel
    have hal : acc.length ≤ 100000 := by have := hlen.out; omega
    by_cases hlt : k < n
    · have hki : (k : Int) < (n : Int) := by omega
      go_wp2_with fail
      refine (n_any g 256 wr (by omega) hs.out.1).mono ?_
      rintro e w1 ⟨r, rfl, hr0, hr1, _, hs1, hg1⟩
      have hr2 : r ≤ 255 := by have := hr1 (by omega); omega
      clear hr1
      have hsz := hs.out.2.size
      have hsz1 := hg1.size
      have hown1 : w1.ownsRow w.heap.size 5 1 u5 acc.length (acc.map byteV) := hown.kept hg1 (by
        rcases hq : u5.ownBlock with _ | q
        · exact .inl rfl
        · exact .inr (by have := (hown.lt q hq).1; simp; omega))
      have HS1 := mkHid hs1
      have HG1 := mkHid (grown_trans hs.out.2 hg1)
      clear hs hg1 hs1 hown h
      go_wp2_with ((at_builtin; refine wpList_append_own _ rfl _ _ 22 rfl w.heap.size 5 i0 (.int .u8 0) 1 1 Try.underlying22 hi hz0 hz1 hz2 rfl (by decide) _ _ _ rfl (hown1.alloc _) ⟨w1.heap.size, 0, none⟩ 1 1 [.int .u8 r] rfl rfl ?c1 ?c2 ?c3 ?c4 ?c5 ?_))
      case c1 =>
        intro j u hj
        match j, hj with
        | 0, hj => simp at hj; subst hj; simp [Addr.add]
      case c2 => intro u hu; simp at hu; subst hu; rfl
      case c3 => unfold maxLen; omega
      case c4 => omega
      case c5 => simp; omega
      · intro v' w2 hown' hgrow _
        have r1 := row_more (UInt8.ofNat r.toNat) (by rw [toNat_ofNat (by omega)]; omega) hown'
        have hbl : Below w.heap.size w1 w2 := ((Below.refl w.heap.size w1).alloc (by omega) _).grown hgrow (by simp; omega) (fun k hk => (hown1.lt k hk).1)
        have R2 := mkHid (show SrcAt w2 g ∧ w.grownBy w2 (some g) from ⟨HS1.out.upto (hbl.mono (by omega)), grown_new HG1.out hbl⟩)
        have R3 := mkHid (show (acc ++ [UInt8.ofNat r.toNat]).length = k + 1 by simp [hlen.out])
        clear hown' hgrow hown1 HS1 HG1 hbl hlen
        go_wp2
        go_roundw
        case rel => exact ⟨k + 1, _, by omega, by go_num, R3, r1, R2⟩
        case measure => simp [intOf]; omega
    · obtain ⟨a, m, cap, hv, hconv⟩ := owns_string_any Try.underlying22 Try.underlying5 Try.underlying9 hown
      clear hown h
      subst hv
      go_wp2
      go_ret
      exact ⟨⟨acc.toArray⟩, rfl, by have := hlen.out; simp [ByteArray.size]; omega, hs.out.1, hs.out.2⟩

end Go.Proofs.Ytfckgpmphcadeaa.draw
namespace Go.Proofs.Ytfckgpmphcadeaa.draw
open Go.RowKit
open Go.Proofs.Ytfckgpmphcadeaa.base
set_option linter.unusedVariables false

/-- a yes or no is drawn -/
def DrewBool (w : World) (g : Nat) (e : Ending) (w' : World) : Prop :=
  ∃ b : Bool, e = .returned (.bool b) ∧ SrcAt w' g ∧ w.grownBy w' (some g)

theorem one_any (g : Nat) (n : Int) (w : World) (hn : n ≤ 9223372036854775807) (h : SrcAt w g) :
    Calls Try.prog 64 #[.pointer (some ⟨g, 0, none⟩), .int .i64 n] w fun e w' => DrewBool w g e w' := by
  go_enter Try.func64, Try.ntmps64
  go_wp2_with fail
  refine (n_any g n w hn h).mono ?_
  rintro e w1 ⟨r, rfl, _, _, _, hs1, hg1⟩
  have H := mkHid (And.intro hs1 hg1)
  clear hs1 hg1 h
  go_wp2
  all_goals go_ret
  all_goals exact ⟨_, rfl, H.out.1, H.out.2⟩

end Go.Proofs.Ytfckgpmphcadeaa.draw
namespace Go.Proofs.Ytfckgpmphcadeaa.draw
open Go.RowKit Go.Joins
open Go.Proofs.Ytfckgpmphcadeaa.base Go.Proofs.Ytfckgpmphcadeaa.blk Go.Proofs.Ytfckgpmphcadeaa.aid
open Go.Proofs.Ytfckgpmphcadeaa.strs (RdT strV)
set_option linter.unusedVariables false

theorem rdT_lit (w : World) (ts : List ByteArray) (cs : Array Value) (h : cs = (ts.map strV).toArray) : RdT (w.alloc (.cells cs 9)) (some ⟨w.heap.size, 0, none⟩) ts := by
  subst h
  intro i z hz
  refine ⟨w.heap.size, 0, rfl, ?_⟩
  have e : (w.alloc (.cells (ts.map strV).toArray 9)).heap[w.heap.size]? = some (.cells (ts.map strV).toArray 9) := blk_new w _ _ rfl
  rw [Nat.zero_add, cell_of_row _ _ i _ _ _ e]
  simp [hz, strV]
set_option maxRecDepth 100000 in
theorem pick_any (g : Nat) (a : Option Addr) (n c z : Nat) (ts : List ByteArray) (w : World) (h : SrcAt w g) (hr : RdT w a ts) (hn : ts.length = n) (h1 : 1 < n) (h2 : n ≤ 100) (hz : ∀ t ∈ ts, t.size ≤ z) (ha : ∀ b o s, a = some ⟨b, o, s⟩ → b ≠ g) :
    Calls Try.prog 128 #[.pointer (some ⟨g, 0, none⟩), .slice a n c] w fun e w' => DrewText w g z e w' := by
  have HN := mkHid (n_any g n w (by omega) h)
  clear h
  go_enter Try.func128, Try.ntmps128
  go_wp2_with fail
  refine HN.out.mono ?_
  rintro e w1 ⟨r, rfl, hr0, hr1, _, hs1, hg1⟩
  have hr1' := hr1 (by omega)
  obtain ⟨m, rfl⟩ := Int.eq_ofNat_of_zero_le hr0
  have hm : m < ts.length := by omega
  obtain ⟨t, ht⟩ : ∃ t, ts[m]? = some t := ⟨_, List.getElem?_eq_getElem hm⟩
  obtain ⟨b, off, rfl, hc⟩ := hr m t ht
  have hb := ha b off none rfl
  have hc1 : w1.cell? ⟨b, off + m, none⟩ = some (.string t) := hg1.cell hc (by simpa using hb)
  have hts := hz t (List.mem_of_getElem? ht)
  have S1 := mkHid (And.intro hs1 hg1)
  clear hs1 hg1 hr1 HN ht hr hz ha hc hm
  go_wp2
  go_ret
  exact ⟨t, rfl, hts, S1.out.1, S1.out.2⟩
set_option maxRecDepth 100000 in
theorem name_any (g : Nat) (w : World) (h : SrcAt w g) :
    Calls Try.prog 100 #[.pointer (some ⟨g, 0, none⟩)] w fun e w' => DrewText w g 3 e w' := by
  have HO := mkHid (one_any g 25 w (by omega) h)
  have HP := mkHid (fun a n c ts wx h1 h2 h3 h4 h5 h6 h7 => pick_any g a n c 3 ts wx h1 h2 h3 h4 h5 h6 h7)
  have hgl := h.lt
  clear h
  go_enter Try.func100, Try.ntmps100
  go_wp2_with fail
  refine HO.out.mono ?_
  rintro e w1 ⟨b, rfl, hs1, hg1⟩
  have S1 := mkHid (And.intro hs1 hg1)
  have hsz := hg1.size
  have hlt1 := hs1.lt
  clear hs1 hg1 HO
  cases b with
  | true =>
    have HR := mkHid (rdT_lit w1 [⟨#[]⟩, ⟨#[65]⟩, ⟨#[57, 120]⟩, ⟨#[116, 45]⟩, ⟨#[112, 95, 49]⟩] #[.string ⟨#[]⟩, .string ⟨#[65]⟩, .string ⟨#[57, 120]⟩, .string ⟨#[116, 45]⟩, .string ⟨#[112, 95, 49]⟩] rfl)
    have S2 := mkHid (fun o => And.intro (S1.out.1.below (below_alloc1 w1 o)) (grown_new S1.out.2 ((below_alloc1 w1 o).mono (by omega))))
    go_wp2_with fail
    refine (HP.out _ 5 _ _ _ (S2.out _).1 HR.out rfl (by omega) (by omega) (by decide) (by intro b o s e; cases e; omega)).mono ?_
    rintro e w3 ⟨t, rfl, ht, hs3, hg3⟩
    have S3 := mkHid (And.intro hs3 (grown_trans (S2.out _).2 hg3))
    clear hs3 hg3 HR HP
    go_wp2
    go_ret
    exact ⟨t, rfl, ht, S3.out.1, S3.out.2⟩
  | false =>
    have HR := mkHid (rdT_lit w1 [⟨#[97]⟩, ⟨#[98]⟩, ⟨#[99, 45, 49]⟩, ⟨#[116, 45, 97]⟩, ⟨#[112, 45, 48]⟩, ⟨#[115, 45, 120]⟩] #[.string ⟨#[97]⟩, .string ⟨#[98]⟩, .string ⟨#[99, 45, 49]⟩, .string ⟨#[116, 45, 97]⟩, .string ⟨#[112, 45, 48]⟩, .string ⟨#[115, 45, 120]⟩] rfl)
    have S2 := mkHid (fun o => And.intro (S1.out.1.below (below_alloc1 w1 o)) (grown_new S1.out.2 ((below_alloc1 w1 o).mono (by omega))))
    go_wp2_with fail
    refine (HP.out _ 6 _ _ _ (S2.out _).1 HR.out rfl (by omega) (by omega) (by decide) (by intro b o s e; cases e; omega)).mono ?_
    rintro e w3 ⟨t, rfl, ht, hs3, hg3⟩
    have S3 := mkHid (And.intro hs3 (grown_trans (S2.out _).2 hg3))
    clear hs3 hg3 HR HP
    go_wp2
    go_ret
    exact ⟨t, rfl, ht, S3.out.1, S3.out.2⟩
end Go.Proofs.Ytfckgpmphcadeaa.draw
namespace Go.Proofs.Ytfckgpmphcadeaa.draw
open Go.RowKit Go.Joins
open Go.Proofs.Ytfckgpmphcadeaa.base Go.Proofs.Ytfckgpmphcadeaa.blk Go.Proofs.Ytfckgpmphcadeaa.aid
set_option linter.unusedVariables false

/-- an op is drawn -/
def DrewOp (w : World) (g : Nat) (e : Ending) (w' : World) : Prop :=
  ∃ (k : Int) (n t x : ByteArray), e = .returned (.agg #[.int .i64 k, .string n, .string t, .string x]) ∧ n.size ≤ 20 ∧ t.size ≤ 20 ∧ x.size ≤ 20 ∧ SrcAt w' g ∧ w.grownBy w' (some g)
/-- what stands in memory while an op is drawn -/
structure Os (w : World) (g P : Nat) (k : Int) (n t x : ByteArray) (W : World) : Prop where
  src : SrcAt W g
  grown : w.grownBy W (some g)
  b0 : W.heap[w.heap.size]? = some (.cells #[.int .i64 0, .string ⟨#[]⟩, .string ⟨#[]⟩, .string ⟨#[]⟩] 27)
  b1 : W.heap[P]? = some (.cells #[.int .i64 k, .string n, .string t, .string x] 27)
  hg : g < w.heap.size
  hP : w.heap.size < P
theorem Os.draw {w W W' : World} {g P : Nat} {k : Int} {n t x : ByteArray} (h : Os w g P k n t x W) (hs : SrcAt W' g) (hg : W.grownBy W' (some g)) : Os w g P k n t x W' :=
  ⟨hs, grown_trans h.grown hg, (hg.block _ (Array.getElem?_eq_some_iff.1 h.b0).1 (by have := h.hg; simp; omega)).trans h.b0, (hg.block _ (Array.getElem?_eq_some_iff.1 h.b1).1 (by have := h.hg; have := h.hP; simp; omega)).trans h.b1, h.hg, h.hP⟩
theorem Os.next {w W W' : World} {g P : Nat} {k : Int} {n t x : ByteArray} (h : Os w g P k n t x W) (hb : Below W.heap.size W W') : Os w g P k n t x W' := h.draw (h.src.below hb) (below_grew hb _)
theorem grown_cell {w W : World} {g z i : Nat} {v : Value} (h : w.grownBy W (some g)) (hz : w.heap.size ≤ z) : w.grownBy (W.setCell ⟨z, i, none⟩ v) (some g) :=
  grown_new h ((Below.refl w.heap.size W).setCell (p := ⟨z, i, none⟩) hz v)
theorem src_cell_set {W : World} {g z i : Nat} {v : Value} (h : SrcAt W g) (hz : g < z) : SrcAt (W.setCell ⟨z, i, none⟩ v) g :=
  h.upto ((Below.refl (g + 1) W).setCell (p := ⟨z, i, none⟩) (by simp; omega) v)
theorem Os.kind {w W : World} {g P : Nat} {k : Int} {n t x : ByteArray} (h : Os w g P k n t x W) (k' : Int) : Os w g P k' n t x (W.setCell ⟨P, 0, none⟩ (.int .i64 k')) :=
  ⟨src_cell_set h.src (by have := h.hg; have := h.hP; omega), grown_cell h.grown (by have := h.hP; omega), blk_set h.b0 _ _ (by have := h.hP; simp; omega), heap_setCell_same W P 0 _ _ _ h.b1, h.hg, h.hP⟩
theorem Os.to {w W : World} {g P : Nat} {k : Int} {n t x : ByteArray} (h : Os w g P k n t x W) (t' : ByteArray) : Os w g P k n t' x (W.setCell ⟨P, 2, none⟩ (.string t')) :=
  ⟨src_cell_set h.src (by have := h.hg; have := h.hP; omega), grown_cell h.grown (by have := h.hP; omega), blk_set h.b0 _ _ (by have := h.hP; simp; omega), heap_setCell_same W P 2 _ _ _ h.b1, h.hg, h.hP⟩
theorem Os.text {w W : World} {g P : Nat} {k : Int} {n t x : ByteArray} (h : Os w g P k n t x W) (x' : ByteArray) : Os w g P k n t x' (W.setCell ⟨P, 3, none⟩ (.string x')) :=
  ⟨src_cell_set h.src (by have := h.hg; have := h.hP; omega), grown_cell h.grown (by have := h.hP; omega), blk_set h.b0 _ _ (by have := h.hP; simp; omega), heap_setCell_same W P 3 _ _ _ h.b1, h.hg, h.hP⟩
theorem Os.fin {w W : World} {g P : Nat} {k : Int} {n t x : ByteArray} (h : Os w g P k n t x W) (hn : n.size ≤ 20) (ht : t.size ≤ 20) (hx : x.size ≤ 20) (a b c d : Value) : DrewOp w g (.returned (.agg #[.int .i64 k, .string n, .string t, .string x])) ((((W.setCell ⟨w.heap.size, 0, none⟩ a).setCell ⟨w.heap.size, 1, none⟩ b).setCell ⟨w.heap.size, 2, none⟩ c).setCell ⟨w.heap.size, 3, none⟩ d) :=
  ⟨k, n, t, x, rfl, hn, ht, hx, src_cell_set (src_cell_set (src_cell_set (src_cell_set h.src h.hg) h.hg) h.hg) h.hg, grown_cell (grown_cell (grown_cell (grown_cell h.grown (Nat.le_refl _)) (Nat.le_refl _)) (Nat.le_refl _)) (Nat.le_refl _)⟩

set_option maxRecDepth 100000 in
set_option maxHeartbeats 4000000 in
theorem op_any (g : Nat) (w : World) (h : SrcAt w g) :
    Calls Try.prog 55 #[.pointer (some ⟨g, 0, none⟩)] w fun e w' => DrewOp w g e w' := by
  have HN : Hid (∀ wx (m : Int), m ≤ 9223372036854775807 → SrcAt wx g → Calls Try.prog 63 #[.pointer (some ⟨g, 0, none⟩), .int .i64 m] wx fun e w' => Drew wx g m e w') := mkHid (fun wx m h1 h2 => n_any g m wx h1 h2)
  have HO : Hid (∀ wx (n : Int), n ≤ 9223372036854775807 → SrcAt wx g → Calls Try.prog 64 #[.pointer (some ⟨g, 0, none⟩), .int .i64 n] wx fun e w' => DrewBool wx g e w') := mkHid (fun wx n h1 h2 => one_any g n wx h1 h2)
  have HM : Hid (∀ wx, SrcAt wx g → Calls Try.prog 100 #[.pointer (some ⟨g, 0, none⟩)] wx fun e w' => DrewText wx g 3 e w') := mkHid (fun wx h2 => name_any g wx h2)
  have HT : Hid (∀ wx (n : Nat), n ≤ 100000 → SrcAt wx g → Calls Try.prog 99 #[.pointer (some ⟨g, 0, none⟩), .int .i64 n] wx fun e w' => DrewText wx g n e w') := mkHid (fun wx n h1 h2 => bytes_any g n wx h1 h2)
  have hgl := h.lt
  have HS0 := mkHid (And.intro (h.below (below_alloc1 w (.cells #[.int .i64 0, .string ⟨#[]⟩, .string ⟨#[]⟩, .string ⟨#[]⟩] 27))) (And.intro (World.grownBy_alloc w (.cells #[.int .i64 0, .string ⟨#[]⟩, .string ⟨#[]⟩, .string ⟨#[]⟩] 27) (some g)) (blk_new w (.cells #[.int .i64 0, .string ⟨#[]⟩, .string ⟨#[]⟩, .string ⟨#[]⟩] 27) _ rfl)))
  have hsz0 : (w.alloc (.cells #[.int .i64 0, .string ⟨#[]⟩, .string ⟨#[]⟩, .string ⟨#[]⟩] 27)).heap.size = w.heap.size + 1 := by simp
  clear h
  go_enter Try.func55, Try.ntmps55
  go_wp2_with fail
  refine (HN.out _ 4 (by omega) HS0.out.1).mono ?_
  rintro e w1 ⟨r, rfl, hr0, hr1, _, hs1, hg1⟩
  have hr1' := hr1 (by omega)
  have S1 := mkHid (And.intro hs1 (And.intro (grown_trans HS0.out.2.1 hg1) ((hg1.block _ (by rw [hsz0]; omega) (by simp; omega)).trans HS0.out.2.2)))
  have hsz1 := hg1.size
  rw [hsz0] at hsz1
  clear hs1 hg1 hr1 HS0 hsz0
  go_wp2_with fail
  refine (HM.out _ S1.out.1).mono ?_
  rintro e w2 ⟨n, rfl, hn, hs2, hg2⟩
  have hsz2 := hg2.size
  have hw2 : w1.heap.size ≤ w2.heap.size := hsz2
  have b2 : w2.heap[w.heap.size]? = some (.cells #[.int .i64 0, .string ⟨#[]⟩, .string ⟨#[]⟩, .string ⟨#[]⟩] 27) := (hg2.block _ (by omega) (by simp; omega)).trans S1.out.2.2
  have S2 : Hid (Os w g w2.heap.size (1 + r) n ⟨#[]⟩ ⟨#[]⟩ (w2.alloc (.cells #[.int .i64 (1 + r), .string n, .string ⟨#[]⟩, .string ⟨#[]⟩] 27))) := mkHid ⟨hs2.below (below_alloc1 w2 _), grown_new (grown_trans S1.out.2.1 hg2) ((below_alloc1 w2 _).mono (by omega)), blk_old b2 _, blk_new w2 _ _ rfl, hgl, by omega⟩
  clear hs2 hg2 S1 b2
  have hP : w.heap.size < w2.heap.size := by omega
  clear hsz1 hsz2 hw2
  have HW := mkHid hP
  by_cases h1 : r = 0
  · subst h1
    simp only [Int.add_zero] at S2
    obtain ⟨c0, c1, c2, c3⟩ := cel4 S2.out.b1
    have cf := unfrozen S2.out.b1
    go_wp2_with fail
    refine (HN.out _ 12 (by omega) S2.out.src).mono ?_
    rintro e w3 ⟨m, rfl, hm0, hm1, _, hs3, hg3⟩
    have hm1' := hm1 (by omega)
    obtain ⟨m, rfl⟩ := Int.eq_ofNat_of_zero_le hm0
    have S3 := mkHid (S2.out.draw hs3 hg3)
    clear hs3 hg3 hm1 S2 c0 c1 c2 c3 cf
    obtain ⟨c0, c1, c2, c3⟩ := cel4 S3.out.b1
    have cf := unfrozen S3.out.b1
    go_wp2_with fail
    refine (HT.out _ m (by omega) S3.out.src).mono ?_
    rintro e w4 ⟨t4, rfl, ht4, hs4, hg4⟩
    have S4 := mkHid (S3.out.draw hs4 hg4)
    clear hs4 hg4 S3 c0 c1 c2 c3 cf
    obtain ⟨c0, c1, c2, c3⟩ := cel4 S4.out.b1
    have cf := unfrozen S4.out.b1
    have S5 := mkHid (S4.out.text t4)
    have ht4' : t4.size ≤ 20 := by omega
    clear S4
    go_wp2_with fail
    clear c0 c1 c2 c3 cf
    refine (HO.out _ 25 (by omega) S5.out.src).mono ?_
    rintro e w8 ⟨b, rfl, hs8, hg8⟩
    have S8 := mkHid (S5.out.draw hs8 hg8)
    clear hs8 hg8 S5
    cases b with
    | false =>
      obtain ⟨c0, c1, c2, c3⟩ := cel4 S8.out.b1
      have cf := unfrozen S8.out.b1
      obtain ⟨k0, k1, k2, k3⟩ := cel4 S8.out.b1
      obtain ⟨d0, d1, d2, d3⟩ := cel4 S8.out.b0
      have df := unfrozen S8.out.b0
      have HF := mkHid (S8.out.fin (by omega) (by first | omega | (show 0 ≤ 20; omega)) (by first | omega | (show 0 ≤ 20; omega)) (.int .i64 (1)) (.string n) (.string ⟨#[]⟩) (.string t4))
      clear S8
      go_wp2
      exact bodyPost_ret (v := .agg #[.int .i64 (1), .string n, .string ⟨#[]⟩, .string t4]) (by simp [results, Try.results55, go_sem, d0, d1, d2, d3]) rfl HF.out
    | true =>
      obtain ⟨c0, c1, c2, c3⟩ := cel4 S8.out.b1
      have cf := unfrozen S8.out.b1
      go_wp2_with fail
      refine (HN.out _ 3 (by omega) S8.out.src).mono ?_
      rintro e w9 ⟨q, rfl, hq0, hq1, _, hs9, hg9⟩
      have hq1' := hq1 (by omega)
      have S9 := mkHid (S8.out.draw hs9 hg9)
      clear hs9 hg9 hq1 S8 c0 c1 c2 c3 cf
      rcases (show q = 0 ∨ q = 1 ∨ q = 2 by omega) with rfl | rfl | rfl
      · obtain ⟨c0, c1, c2, c3⟩ := cel4 S9.out.b1
        have cf := unfrozen S9.out.b1
        go_wp2_with fail
        refine (HN.out _ 7 (by omega) S9.out.src).mono ?_
        rintro e w10 ⟨z, rfl, hz0, hz1, _, hs10, hg10⟩
        have hz1' := hz1 (by omega)
        have S10 := mkHid (S9.out.draw hs10 hg10)
        clear hs10 hg10 hz1 S9 c0 c1 c2 c3 cf
        have S11 := mkHid (S10.out.kind (z - 1))
        obtain ⟨c0, c1, c2, c3⟩ := cel4 S10.out.b1
        have cf := unfrozen S10.out.b1
        clear S10
        obtain ⟨k0, k1, k2, k3⟩ := cel4 S11.out.b1
        obtain ⟨d0, d1, d2, d3⟩ := cel4 S11.out.b0
        have df := unfrozen S11.out.b0
        have HF := mkHid (S11.out.fin (by omega) (by first | omega | (show 0 ≤ 20; omega)) (by first | omega | (show 0 ≤ 20; omega)) (.int .i64 (z - 1)) (.string n) (.string ⟨#[]⟩) (.string t4))
        clear S11
        go_wp2
        exact bodyPost_ret (v := .agg #[.int .i64 (z - 1), .string n, .string ⟨#[]⟩, .string t4]) (by simp [results, Try.results55, go_sem, d0, d1, d2, d3]) rfl HF.out
      · have S11 := mkHid (S9.out.to ⟨#[120]⟩)
        obtain ⟨c0, c1, c2, c3⟩ := cel4 S9.out.b1
        have cf := unfrozen S9.out.b1
        clear S9
        obtain ⟨k0, k1, k2, k3⟩ := cel4 S11.out.b1
        obtain ⟨d0, d1, d2, d3⟩ := cel4 S11.out.b0
        have df := unfrozen S11.out.b0
        have HF := mkHid (S11.out.fin (by omega) (by show 1 ≤ 20; omega) (by first | omega | (show 0 ≤ 20; omega)) (.int .i64 (1)) (.string n) (.string ⟨#[120]⟩) (.string t4))
        clear S11
        go_wp2
        exact bodyPost_ret (v := .agg #[.int .i64 (1), .string n, .string ⟨#[120]⟩, .string t4]) (by simp [results, Try.results55, go_sem, d0, d1, d2, d3]) rfl HF.out
      · have S11 := mkHid (S9.out.text ⟨#[120]⟩)
        obtain ⟨c0, c1, c2, c3⟩ := cel4 S9.out.b1
        have cf := unfrozen S9.out.b1
        clear S9
        obtain ⟨k0, k1, k2, k3⟩ := cel4 S11.out.b1
        obtain ⟨d0, d1, d2, d3⟩ := cel4 S11.out.b0
        have df := unfrozen S11.out.b0
        have HF := mkHid (S11.out.fin (by omega) (by first | omega | (show 0 ≤ 20; omega)) (by show 1 ≤ 20; omega) (.int .i64 (1)) (.string n) (.string ⟨#[]⟩) (.string ⟨#[120]⟩))
        clear S11
        go_wp2
        exact bodyPost_ret (v := .agg #[.int .i64 (1), .string n, .string ⟨#[]⟩, .string ⟨#[120]⟩]) (by simp [results, Try.results55, go_sem, d0, d1, d2, d3]) rfl HF.out
  by_cases h2 : r = 2
  · subst h2
    rw [show (1 : Int) + 2 = 3 by omega] at S2
    obtain ⟨c0, c1, c2, c3⟩ := cel4 S2.out.b1
    have cf := unfrozen S2.out.b1
    go_wp2_with fail
    refine (HM.out _ S2.out.src).mono ?_
    rintro e w4 ⟨t4, rfl, ht4, hs4, hg4⟩
    have S4 := mkHid (S2.out.draw hs4 hg4)
    clear hs4 hg4 S2 c0 c1 c2 c3 cf
    obtain ⟨c0, c1, c2, c3⟩ := cel4 S4.out.b1
    have cf := unfrozen S4.out.b1
    have S5 := mkHid (S4.out.to t4)
    have ht4' : t4.size ≤ 20 := by omega
    clear S4
    go_wp2_with fail
    clear c0 c1 c2 c3 cf
    refine (HO.out _ 25 (by omega) S5.out.src).mono ?_
    rintro e w8 ⟨b, rfl, hs8, hg8⟩
    have S8 := mkHid (S5.out.draw hs8 hg8)
    clear hs8 hg8 S5
    cases b with
    | false =>
      obtain ⟨c0, c1, c2, c3⟩ := cel4 S8.out.b1
      have cf := unfrozen S8.out.b1
      obtain ⟨k0, k1, k2, k3⟩ := cel4 S8.out.b1
      obtain ⟨d0, d1, d2, d3⟩ := cel4 S8.out.b0
      have df := unfrozen S8.out.b0
      have HF := mkHid (S8.out.fin (by omega) (by first | omega | (show 0 ≤ 20; omega)) (by first | omega | (show 0 ≤ 20; omega)) (.int .i64 (3)) (.string n) (.string t4) (.string ⟨#[]⟩))
      clear S8
      go_wp2
      exact bodyPost_ret (v := .agg #[.int .i64 (3), .string n, .string t4, .string ⟨#[]⟩]) (by simp [results, Try.results55, go_sem, d0, d1, d2, d3]) rfl HF.out
    | true =>
      obtain ⟨c0, c1, c2, c3⟩ := cel4 S8.out.b1
      have cf := unfrozen S8.out.b1
      go_wp2_with fail
      refine (HN.out _ 3 (by omega) S8.out.src).mono ?_
      rintro e w9 ⟨q, rfl, hq0, hq1, _, hs9, hg9⟩
      have hq1' := hq1 (by omega)
      have S9 := mkHid (S8.out.draw hs9 hg9)
      clear hs9 hg9 hq1 S8 c0 c1 c2 c3 cf
      rcases (show q = 0 ∨ q = 1 ∨ q = 2 by omega) with rfl | rfl | rfl
      · obtain ⟨c0, c1, c2, c3⟩ := cel4 S9.out.b1
        have cf := unfrozen S9.out.b1
        go_wp2_with fail
        refine (HN.out _ 7 (by omega) S9.out.src).mono ?_
        rintro e w10 ⟨z, rfl, hz0, hz1, _, hs10, hg10⟩
        have hz1' := hz1 (by omega)
        have S10 := mkHid (S9.out.draw hs10 hg10)
        clear hs10 hg10 hz1 S9 c0 c1 c2 c3 cf
        have S11 := mkHid (S10.out.kind (z - 1))
        obtain ⟨c0, c1, c2, c3⟩ := cel4 S10.out.b1
        have cf := unfrozen S10.out.b1
        clear S10
        obtain ⟨k0, k1, k2, k3⟩ := cel4 S11.out.b1
        obtain ⟨d0, d1, d2, d3⟩ := cel4 S11.out.b0
        have df := unfrozen S11.out.b0
        have HF := mkHid (S11.out.fin (by omega) (by first | omega | (show 0 ≤ 20; omega)) (by first | omega | (show 0 ≤ 20; omega)) (.int .i64 (z - 1)) (.string n) (.string t4) (.string ⟨#[]⟩))
        clear S11
        go_wp2
        exact bodyPost_ret (v := .agg #[.int .i64 (z - 1), .string n, .string t4, .string ⟨#[]⟩]) (by simp [results, Try.results55, go_sem, d0, d1, d2, d3]) rfl HF.out
      · have S11 := mkHid (S9.out.to ⟨#[120]⟩)
        obtain ⟨c0, c1, c2, c3⟩ := cel4 S9.out.b1
        have cf := unfrozen S9.out.b1
        clear S9
        obtain ⟨k0, k1, k2, k3⟩ := cel4 S11.out.b1
        obtain ⟨d0, d1, d2, d3⟩ := cel4 S11.out.b0
        have df := unfrozen S11.out.b0
        have HF := mkHid (S11.out.fin (by omega) (by show 1 ≤ 20; omega) (by first | omega | (show 0 ≤ 20; omega)) (.int .i64 (3)) (.string n) (.string ⟨#[120]⟩) (.string ⟨#[]⟩))
        clear S11
        go_wp2
        exact bodyPost_ret (v := .agg #[.int .i64 (3), .string n, .string ⟨#[120]⟩, .string ⟨#[]⟩]) (by simp [results, Try.results55, go_sem, d0, d1, d2, d3]) rfl HF.out
      · have S11 := mkHid (S9.out.text ⟨#[120]⟩)
        obtain ⟨c0, c1, c2, c3⟩ := cel4 S9.out.b1
        have cf := unfrozen S9.out.b1
        clear S9
        obtain ⟨k0, k1, k2, k3⟩ := cel4 S11.out.b1
        obtain ⟨d0, d1, d2, d3⟩ := cel4 S11.out.b0
        have df := unfrozen S11.out.b0
        have HF := mkHid (S11.out.fin (by omega) (by first | omega | (show 0 ≤ 20; omega)) (by show 1 ≤ 20; omega) (.int .i64 (3)) (.string n) (.string t4) (.string ⟨#[120]⟩))
        clear S11
        go_wp2
        exact bodyPost_ret (v := .agg #[.int .i64 (3), .string n, .string t4, .string ⟨#[120]⟩]) (by simp [results, Try.results55, go_sem, d0, d1, d2, d3]) rfl HF.out
  have n1 : (1 + r == 1) = false := by simp; omega
  have n3 : (1 + r == 3) = false := by simp; omega
  obtain ⟨c0, c1, c2, c3⟩ := cel4 S2.out.b1
  have cf := unfrozen S2.out.b1
  go_wp2_with fail
  refine (HO.out _ 25 (by omega) S2.out.src).mono ?_
  rintro e w8 ⟨b, rfl, hs8, hg8⟩
  have S8 := mkHid (S2.out.draw hs8 hg8)
  clear hs8 hg8 S2 c0 c1 c2 c3 cf
  cases b with
  | false =>
    obtain ⟨c0, c1, c2, c3⟩ := cel4 S8.out.b1
    have cf := unfrozen S8.out.b1
    obtain ⟨k0, k1, k2, k3⟩ := cel4 S8.out.b1
    obtain ⟨d0, d1, d2, d3⟩ := cel4 S8.out.b0
    have df := unfrozen S8.out.b0
    have HF := mkHid (S8.out.fin (by omega) (by first | omega | (show 0 ≤ 20; omega)) (by first | omega | (show 0 ≤ 20; omega)) (.int .i64 (1 + r)) (.string n) (.string ⟨#[]⟩) (.string ⟨#[]⟩))
    clear S8
    go_wp2
    exact bodyPost_ret (v := .agg #[.int .i64 (1 + r), .string n, .string ⟨#[]⟩, .string ⟨#[]⟩]) (by simp [results, Try.results55, go_sem, d0, d1, d2, d3]) rfl HF.out
  | true =>
    obtain ⟨c0, c1, c2, c3⟩ := cel4 S8.out.b1
    have cf := unfrozen S8.out.b1
    go_wp2_with fail
    refine (HN.out _ 3 (by omega) S8.out.src).mono ?_
    rintro e w9 ⟨q, rfl, hq0, hq1, _, hs9, hg9⟩
    have hq1' := hq1 (by omega)
    have S9 := mkHid (S8.out.draw hs9 hg9)
    clear hs9 hg9 hq1 S8 c0 c1 c2 c3 cf
    rcases (show q = 0 ∨ q = 1 ∨ q = 2 by omega) with rfl | rfl | rfl
    · obtain ⟨c0, c1, c2, c3⟩ := cel4 S9.out.b1
      have cf := unfrozen S9.out.b1
      go_wp2_with fail
      refine (HN.out _ 7 (by omega) S9.out.src).mono ?_
      rintro e w10 ⟨z, rfl, hz0, hz1, _, hs10, hg10⟩
      have hz1' := hz1 (by omega)
      have S10 := mkHid (S9.out.draw hs10 hg10)
      clear hs10 hg10 hz1 S9 c0 c1 c2 c3 cf
      have S11 := mkHid (S10.out.kind (z - 1))
      obtain ⟨c0, c1, c2, c3⟩ := cel4 S10.out.b1
      have cf := unfrozen S10.out.b1
      clear S10
      obtain ⟨k0, k1, k2, k3⟩ := cel4 S11.out.b1
      obtain ⟨d0, d1, d2, d3⟩ := cel4 S11.out.b0
      have df := unfrozen S11.out.b0
      have HF := mkHid (S11.out.fin (by omega) (by first | omega | (show 0 ≤ 20; omega)) (by first | omega | (show 0 ≤ 20; omega)) (.int .i64 (z - 1)) (.string n) (.string ⟨#[]⟩) (.string ⟨#[]⟩))
      clear S11
      go_wp2
      exact bodyPost_ret (v := .agg #[.int .i64 (z - 1), .string n, .string ⟨#[]⟩, .string ⟨#[]⟩]) (by simp [results, Try.results55, go_sem, d0, d1, d2, d3]) rfl HF.out
    · have S11 := mkHid (S9.out.to ⟨#[120]⟩)
      obtain ⟨c0, c1, c2, c3⟩ := cel4 S9.out.b1
      have cf := unfrozen S9.out.b1
      clear S9
      obtain ⟨k0, k1, k2, k3⟩ := cel4 S11.out.b1
      obtain ⟨d0, d1, d2, d3⟩ := cel4 S11.out.b0
      have df := unfrozen S11.out.b0
      have HF := mkHid (S11.out.fin (by omega) (by show 1 ≤ 20; omega) (by first | omega | (show 0 ≤ 20; omega)) (.int .i64 (1 + r)) (.string n) (.string ⟨#[120]⟩) (.string ⟨#[]⟩))
      clear S11
      go_wp2
      exact bodyPost_ret (v := .agg #[.int .i64 (1 + r), .string n, .string ⟨#[120]⟩, .string ⟨#[]⟩]) (by simp [results, Try.results55, go_sem, d0, d1, d2, d3]) rfl HF.out
    · have S11 := mkHid (S9.out.text ⟨#[120]⟩)
      obtain ⟨c0, c1, c2, c3⟩ := cel4 S9.out.b1
      have cf := unfrozen S9.out.b1
      clear S9
      obtain ⟨k0, k1, k2, k3⟩ := cel4 S11.out.b1
      obtain ⟨d0, d1, d2, d3⟩ := cel4 S11.out.b0
      have df := unfrozen S11.out.b0
      have HF := mkHid (S11.out.fin (by omega) (by first | omega | (show 0 ≤ 20; omega)) (by show 1 ≤ 20; omega) (.int .i64 (1 + r)) (.string n) (.string ⟨#[]⟩) (.string ⟨#[120]⟩))
      clear S11
      go_wp2
      exact bodyPost_ret (v := .agg #[.int .i64 (1 + r), .string n, .string ⟨#[]⟩, .string ⟨#[120]⟩]) (by simp [results, Try.results55, go_sem, d0, d1, d2, d3]) rfl HF.out
end Go.Proofs.Ytfckgpmphcadeaa.draw
