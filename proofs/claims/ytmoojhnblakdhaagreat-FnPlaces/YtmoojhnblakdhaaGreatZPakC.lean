/-
  What spec.l07In, l07Record, l07Pack, PackRight and PackBytes answer and leave. Conditions: at most 1,048,576 blobs, which lie in memory, of at most 1,048,576 bytes each.
  What spec.l07Pack, PackRight and PackBytes answer and leave. Conditions: at most 1,048,576 blobs, which lie in memory.
  What laws.szBlob, toBlob, eqBlob, szEntry, toEntry, eqEntry, eqBlobOut answer and leave. Conditions: none, or at most 9,223,372,036,854,775,807 bytes.
  What spec.PackGet and impl.PackGet answer and leave. Conditions: a text of at most 1,048,576 bytes; for the program: the numbers of the rounds are there.
  What impl.blobAt and impl.PackGet answer and leave. Conditions: a text of at most 1,048,576 bytes; the numbers of the rounds are there.
  What impl.readBlobs answers and leaves: a row of its own of the blobs, or a panic that tells the place. Conditions: at most 20,000 bytes; the numbers of the rounds are there.
  What laws.markBlobS and laws.heldBlobS answer and leave. Conditions: at most 1,048,576 blobs, which lie in memory; a row that is written lies in a block of its own.
  What spec.PackRight and spec.PackBytes answer and leave; what laws.szBlobS and laws.toBlobS answer and leave. Conditions: at most 1,048,576 blobs, which lie in memory.
-/
import Derived.Test.YtmoojhnblakdhaaGreatZPakB
import Derived.Test.YtmoojhnblakdhaaGreatCells
import Derived.Test.YtmoojhnblakdhaaGreatStrs
import Derived.Test.YtmoojhnblakdhaaGreatAid
import Derived.Test.YtmoojhnblakdhaaGreatZPakA
import Derived.Test.YtmoojhnblakdhaaGreatZTxtA
import Derived.Lib.AppendStr
import Derived.Deep.RegionHeld3
import Derived.Deep.QuietTactic
import Derived.BigQuiet
import Derived.BigRegion
namespace Go.Proofs.YtmoojhnblakdhaaGreat.pack
open Go.RowKit Go.Joins
open Go.Proofs.YtmoojhnblakdhaaGreat.base Go.Proofs.YtmoojhnblakdhaaGreat.blk Go.Proofs.YtmoojhnblakdhaaGreat.aid
open Go.Proofs.YtmoojhnblakdhaaGreat.row (bl en Rd Own OwnV)
open Go.Proofs.YtmoojhnblakdhaaGreat.strs (strV RdT OwnT)
set_option linter.unusedVariables false

set_option maxRecDepth 100000 in
theorem in_any (a : Option Addr) (c : Nat) (ts : List ByteArray) (t : ByteArray) (w : World) (hl : ts.length ≤ 1048576) (hr : RdT w a ts) (bb : Bool) (hbb : bb = true ↔ t ∈ ts) :
    Calls Tryz.prog 86 #[.slice a ts.length c, .string t] w fun e w' => e = .returned (.bool bb) ∧ Below w.heap.size w w' := by
  go_enter Tryz.func86, Tryz.ntmps86
  go_wp2
  go_loopw [5] (fun i wr => ∃ k : Nat, k ≤ ts.length ∧ i = .int .i64 k ∧ Hid (t ∉ ts.take k) ∧ Hid (wr = w))
    (fun i _ => ts.length - (intOf i).toNat)
  case atStart => exact ⟨0, Nat.zero_le _, rfl, mkHid (by simp), mkHid rfl⟩
  case round =>
    obtain ⟨k, hk, rfl, hno, hw⟩ := hrel
    obtain rfl := hw.out
    by_cases hlt : k < ts.length
    · have hlti : (k : Int) < (ts.length : Int) := by omega
      obtain ⟨x, hx⟩ : ∃ z, ts[k]? = some z := ⟨_, List.getElem?_eq_getElem hlt⟩
      obtain ⟨b, off, rfl, hc⟩ := hr k x hx
      by_cases e : x = t
      · have E := mkHid (show bb = true from hbb.2 (by rw [← e]; exact List.mem_of_getElem? hx))
        have he : (x.toList == t.toList) = true := by rw [e]; simp
        clear hno hx hr
        go_wp2
        go_ret
        exact ⟨ret_eq (by rw [E.out]; rfl), Below.refl _ _⟩
      · have he := strs.bytes_ne e
        have N1 : Hid (t ∉ ts.take (k + 1)) := mkHid (by
          rw [List.take_add_one, hx]
          simp only [Option.toList_some, List.mem_append, List.mem_singleton, not_or]
          exact ⟨hno.out, fun h => e h.symm⟩)
        clear hno hx hr
        go_wp2
        go_roundw
        case rel => exact ⟨k + 1, by omega, by go_num, N1, mkHid (by trivial)⟩
        case measure => simp [intOf]; omega
    · obtain rfl : k = ts.length := by omega
      have E := mkHid (show bb = false by
        cases hb0 : bb
        · rfl
        · have h1 := hbb.1 hb0
          have h2 := hno.out
          rw [List.take_of_length_le (Nat.le_refl _)] at h2
          exact absurd h1 h2)
      clear hno hr
      go_wp2
      go_ret
      exact ⟨ret_eq (by rw [E.out]; rfl), Below.refl _ _⟩

set_option maxRecDepth 100000 in
set_option maxHeartbeats 1000000 in
theorem record_any (k : Int) (t : ByteArray) (w : World) (hb : bRight (k, t) = true) :
    Calls Tryz.prog 87 #[.agg #[.int .i64 k, .string t]] w fun e w' => e = .returned (.string (recd (k, t))) ∧ Below w.heap.size w w' := by
  obtain ⟨h1, h2⟩ := bRight_parts hb
  simp only at h1 h2
  have hk1 := bKey_size hb
  have hk2 := numB_size hb
  have hk3 := pre_small h2
  have HK := mkHid (fun wx => key_spec k t wx)
  have HN := mkHid (fun wx => num_spec k wx (by omega) (by omega))
  have HT := mkHid (fun wx => fnExactPutText.spec_any t wx (by omega))
  have E : Hid (recd (k, t) = ⟨#[66]⟩ ++ bKey (k, t) ++ numB k ++ (fnExactPutText.pre t.size ++ t)) := mkHid rfl
  have hp : (fnExactPutText.pre t.size ++ t).size ≤ 2002 := by rw [ByteArray.size_append]; omega
  generalize fnExactPutText.pre t.size ++ t = pt at *
  simp only at hk2
  generalize numB k = nk at *
  generalize bKey (k, t) = bk at *
  have s0 : (⟨#[66]⟩ : ByteArray).size = 1 := rfl
  have a1 : (9223372036854775807 < (⟨#[66]⟩ : ByteArray).size + bk.size) = False := by simp; omega
  have a2 : (9223372036854775807 < ((⟨#[66]⟩ : ByteArray) ++ bk).size + nk.size) = False := by simp [ByteArray.size_append]; omega
  have a3 : (9223372036854775807 < ((⟨#[66]⟩ : ByteArray) ++ bk ++ nk).size + pt.size) = False := by simp [ByteArray.size_append]; omega
  have d1 := fun wx => run_string_add_sum (P := Tryz.prog) wx ⟨#[66]⟩ bk (by omega)
  have d2 := fun wx => run_string_add_sum (P := Tryz.prog) wx (⟨#[66]⟩ ++ bk) nk (by rw [ByteArray.size_append]; omega)
  have d3 := fun wx => run_string_add_sum (P := Tryz.prog) wx (⟨#[66]⟩ ++ bk ++ nk) pt (by rw [ByteArray.size_append, ByteArray.size_append]; omega)
  clear hb h1 h2 hk1 hk2 hk3 hp s0
  go_enter Tryz.func87, Tryz.ntmps87
  go_wp2_with fail
  have b0 := mkHid (blk_new w (.cells #[.int .i64 k, .string t] 110) w.heap.size rfl)
  have B0 := mkHid (below_alloc1 w (.cells #[.int .i64 k, .string t] 110))
  generalize w.alloc (.cells #[.int .i64 k, .string t] 110) = W at *
  obtain ⟨c0, c1⟩ := cel2 b0.out
  go_region_held3 (fun w' => w'.cell? ⟨w.heap.size, 0, none⟩ = some (.int .i64 k) ∧ w'.cell? ⟨w.heap.size, 1, none⟩ = some (.string t)) (go_keep)
    ((first
      | (go_at_call 85; refine Calls.mono (HK.out _) ?_; rintro e w1 ⟨rfl, hb1⟩; have r1 := re (w := W) hb1 rfl rfl rfl rfl; have B1 := mkHid (B0.out.trans (r1.mono B0.out.size)); have b1 := mkHid (blk_below b0.out r1); obtain ⟨e0, e1⟩ := cel2 b1.out; clear hb1 r1)
      | (go_at_call 27; refine Calls.mono (HN.out _) ?_; rintro e w2 ⟨rfl, hb2⟩; have r2 := re (w := w1) hb2 rfl rfl rfl rfl; have B2 := mkHid (B1.out.trans (r2.mono B1.out.size)); have b2 := mkHid (blk_below b1.out r2); obtain ⟨f0, f1⟩ := cel2 b2.out; clear hb2 r2)
      | (go_at_call 28; refine Calls.mono (HT.out _) ?_; rintro e w3 ⟨rfl, hb3⟩; have r3 := re (w := w2) hb3 rfl rfl rfl rfl; have B3 := mkHid (B2.out.trans (r3.mono B2.out.size)); have b3 := mkHid (blk_below b2.out r3); obtain ⟨g0, g1⟩ := cel2 b3.out; clear hb3 r3)))
  go_wp2
  go_ret
  exact ⟨ret_eq (by rw [E.out]; rfl), B3.out⟩

end Go.Proofs.YtmoojhnblakdhaaGreat.pack
namespace Go.Proofs.YtmoojhnblakdhaaGreat.pack
open Go.RowKit Go.Joins
open Go.Proofs.YtmoojhnblakdhaaGreat.base Go.Proofs.YtmoojhnblakdhaaGreat.blk Go.Proofs.YtmoojhnblakdhaaGreat.aid
open Go.Proofs.YtmoojhnblakdhaaGreat.row (bl en Rd Own OwnV appSem app_fold app1)
open Go.Proofs.YtmoojhnblakdhaaGreat.strs (strV RdT OwnT)
set_option linter.unusedVariables false
attribute [local go_sem ↓] app_fold

def PkPost (w : World) (l : List (Int × ByteArray)) (e : Ending) (w' : World) : Prop :=
  ∃ t, e = .returned (.tuple #[.string t, .bool (packR l)]) ∧ (packR l = true → t = ⟨(recsL l).toArray⟩) ∧ Below w.heap.size w w'
theorem PkPost.no {w w' : World} {l : List (Int × ByteArray)} {t : ByteArray} (h : packR l = false) (hb : Below w.heap.size w w') : PkPost w l (.returned (.tuple #[.string t, .bool false])) w' := by
  refine ⟨t, by rw [h], fun e => ?_, hb⟩
  rw [h] at e
  cases e

theorem infoS : (Tryz.prog.info? 9).map (fun i => (i.zero, i.size, i.bytes)) = some (some (.string ⟨#[]⟩), 1, 16) := by kernel_rfl
theorem info8 : (Tryz.prog.info? 5).map (fun i => (i.zero, i.size, i.bytes)) = some (some (.int .u8 0), 1, 1) := by kernel_rfl
theorem appK (W : World) (base : Nat) (v : Value) (n : Nat) (acc : List ByteArray) (t : ByteArray) (hn : acc.length = n) (hown : W.ownsRow base 9 1 v n (acc.map strV)) (hb : base ≤ W.heap.size) (hl : n ≤ 1048576) :
    ∃ g c w2, (appSem #[79, 79] 79 #[v, .slice (some ⟨W.heap.size, 0, none⟩) 1 1]).run Tryz.prog (W.alloc (.cells #[.string t] 9)) = .ok (.slice (some ⟨g, 0, none⟩) (n + 1) c) w2 ∧ w2.ownsRow base 9 1 (.slice (some ⟨g, 0, none⟩) (n + 1) c) (n + 1) ((acc ++ [t]).map strV) ∧ (W.alloc (.cells #[.string t] 9)).grownBy w2 v.ownBlock := by
  obtain ⟨g, c, w2, h1, h2, h3⟩ := app1 (W := W) (base := base) (S := 79) (T := 9) (size := 1) (bytes := 16) Tryz.underlying79 infoS rfl (by decide) v n (acc.map strV) [.string t] rfl (by intro u hu; simp at hu; subst hu; rfl) hown hb hl (by decide)
  exact ⟨g, c, w2, h1, by rw [List.map_append]; exact h2, h3⟩
theorem strCells_eq (s : ByteArray) : Lib.strCells s = s.data.toList.map byteV := rfl
theorem appR (W : World) (base : Nat) (v : Value) (n : Nat) (acc : List UInt8) (r : ByteArray) (hn : acc.length = n) (hown : W.ownsRow base 5 1 v n (acc.map byteV)) (hb : base ≤ W.heap.size) (hl : n ≤ 1048576) (hr : r.size ≤ 1048576) (h0 : 0 < r.size) :
    ∃ g c w2, (appSem #[22, 9] 22 #[v, .string r]).run Tryz.prog W = .ok (.slice (some ⟨g, 0, none⟩) (n + r.size) c) w2 ∧ w2.ownsRow base 5 1 (.slice (some ⟨g, 0, none⟩) (n + r.size) c) (n + r.size) ((acc ++ r.data.toList).map byteV) ∧ W.grownBy w2 v.ownBlock := by
  obtain ⟨i0, hi, hz0, hz1, hz2⟩ := info_parts info8
  obtain ⟨v', w2, h1, h2, h3, _⟩ := Lib.run_append_own_string (P := Tryz.prog) W base 22 9 22 5 i0 Tryz.underlying22 Tryz.underlying9 hi hz0 hz1 hz2 v n (acc.map byteV) hown r (by unfold maxLen; omega) (by omega) hb
  obtain ⟨g, c, rfl⟩ := row.ownsRow_form h2 (by omega)
  exact ⟨g, c, w2, h1, by rw [List.map_append, ← strCells_eq]; exact h2, h3⟩

/-- between two rounds of l07Pack -/
structure Lp (w : World) (l : List (Int × ByteArray)) (k : Nat) (v4 v5 : Value) (W : World) : Prop where
  below : Below w.heap.size w W
  right : ∀ b ∈ l.take k, bRight b = true
  nodup : ((l.take k).map bKey).Nodup
  bytes : W.ownsRow w.heap.size 5 1 v4 (recsL (l.take k)).length ((recsL (l.take k)).map byteV)
  keys : W.ownsRow w.heap.size 9 1 v5 k (((l.take k).map bKey).map strV)

theorem row_next {w W W' : World} {T n : Nat} {v : Value} {xs : List Value} (h : W.ownsRow w.heap.size T 1 v n xs) (h1 : Below W.heap.size W W') : W'.ownsRow w.heap.size T 1 v n xs :=
  h.kept (row := none) ⟨h1.os, h1.tape, h1.output, h1.size, fun k hk _ => h1.block k hk⟩ (by
    by_cases hne : v.ownBlock = none
    · exact .inl hne
    · exact .inr hne)
theorem two_rows {W : World} {B B' T T' n n' : Nat} {v v' : Value} {xs xs' : List Value} (h : W.ownsRow B T 1 v n xs) (h' : W.ownsRow B' T' 1 v' n' xs') (hT : T ≠ T') : v.ownBlock = none ∨ v.ownBlock ≠ v'.ownBlock := by
  obtain ⟨_, h2⟩ := h
  rcases h2 with ⟨rfl, _⟩ | ⟨g, cap, cur, rfl, _, hb, _⟩
  · exact .inl rfl
  · refine .inr (fun e => ?_)
    obtain ⟨_, h3⟩ := h'
    rcases h3 with ⟨rfl, _⟩ | ⟨g', cap', cur', rfl, _, hb', _⟩
    · cases e
    · obtain rfl : g = g' := by simpa [Value.ownBlock] using e
      rw [hb] at hb'
      simp at hb'
      exact hT hb'.2
theorem Lp.next {w W W' : World} {l : List (Int × ByteArray)} {k : Nat} {v4 v5 : Value} (h : Lp w l k v4 v5 W) (hb : Below W.heap.size W W') : Lp w l k v4 v5 W' :=
  ⟨h.below.trans (hb.mono h.below.size), h.right, h.nodup, row_next h.bytes hb, row_next h.keys hb⟩
/-- .. when the key stands there, the record not yet -/
structure Lk (w : World) (l : List (Int × ByteArray)) (k : Nat) (ky : ByteArray) (v4 v5 : Value) (W : World) : Prop where
  below : Below w.heap.size w W
  bytes : W.ownsRow w.heap.size 5 1 v4 (recsL (l.take k)).length ((recsL (l.take k)).map byteV)
  keys : W.ownsRow w.heap.size 9 1 v5 (k + 1) (((l.take k).map bKey ++ [ky]).map strV)
theorem Lk.next {w W W' : World} {l : List (Int × ByteArray)} {k : Nat} {ky : ByteArray} {v4 v5 : Value} (h : Lk w l k ky v4 v5 W) (hb : Below W.heap.size W W') : Lk w l k ky v4 v5 W' :=
  ⟨h.below.trans (hb.mono h.below.size), row_next h.bytes hb, row_next h.keys hb⟩
theorem Lp.key {w W : World} {l : List (Int × ByteArray)} {k : Nat} {v4 v5 : Value} (h : Lp w l k v4 v5 W) (ky : ByteArray) (hk : k ≤ 1048576) (hkl : k ≤ l.length) :
    ∃ g c w2, (appSem #[79, 79] 79 #[v5, .slice (some ⟨W.heap.size, 0, none⟩) 1 1]).run Tryz.prog (W.alloc (.cells #[.string ky] 9)) = .ok (.slice (some ⟨g, 0, none⟩) (k + 1) c) w2 ∧ Lk w l k ky v4 (.slice (some ⟨g, 0, none⟩) (k + 1) c) w2 := by
  obtain ⟨g, c, w2, h1, h2, h3⟩ := appK W w.heap.size v5 k ((l.take k).map bKey) ky (by simp; omega) h.keys h.below.size hk
  refine ⟨g, c, w2, h1, ?_, ?_, h2⟩
  · exact (h.below.alloc h.below.size _).grown h3 (by have := h.below.size; simp; omega) (fun x hx => (h.keys.lt x hx).1)
  · exact (h.bytes.alloc _).kept h3 (two_rows (h.bytes.alloc (.cells #[.string ky] 9)) (h.keys.alloc (.cells #[.string ky] 9)) (by decide))
theorem Lk.put {w W : World} {l : List (Int × ByteArray)} {k : Nat} {b : Int × ByteArray} {v4 v5 : Value} (h : Lk w l k (bKey b) v4 v5 W) (hx : l[k]? = some b) (hr : bRight b = true) (hin : bKey b ∉ (l.take k).map bKey) (hall : ∀ b ∈ l.take k, bRight b = true) (hnd : ((l.take k).map bKey).Nodup) (hk : k ≤ 40) :
    ∃ g c w2, (appSem #[22, 9] 22 #[v4, .string (recd b)]).run Tryz.prog W = .ok (.slice (some ⟨g, 0, none⟩) ((recsL (l.take k)).length + (recd b).size) c) w2 ∧ (recsL (l.take (k + 1))).length = (recsL (l.take k)).length + (recd b).size ∧ Lp w l (k + 1) (.slice (some ⟨g, 0, none⟩) ((recsL (l.take k)).length + (recd b).size) c) v5 w2 := by
  have hz := recd_bd hr
  have hlen := (recsL_len (l.take k) hall).1
  have hkl : (l.take k).length ≤ 40 := by simp; omega
  have ht : l.take (k + 1) = l.take k ++ [b] := by rw [List.take_add_one, hx]; rfl
  have hrl := recL_len b
  obtain ⟨g, c, w2, h1, h2, h3⟩ := appR W w.heap.size v4 (recsL (l.take k)).length (recsL (l.take k)) (recd b) rfl h.bytes h.below.size (by omega) (by omega) (by omega)
  have hL : (recsL (l.take (k + 1))).length = (recsL (l.take k)).length + (recd b).size := by rw [ht, recsL_snoc, List.length_append, hrl]
  refine ⟨g, c, w2, h1, hL, ?_, ?_, ?_, ?_, ?_⟩
  · exact h.below.grown h3 h.below.size (fun x hx => (h.bytes.lt x hx).1)
  · intro x hx'
    rw [ht] at hx'
    rcases List.mem_append.1 hx' with h' | h'
    · exact hall x h'
    · simp at h'; subst h'; exact hr
  · rw [ht, List.map_append, List.nodup_append]
    refine ⟨hnd, by simp, ?_⟩
    intro x hx1 y hy e
    simp at hy
    subst hy e
    exact hin hx1
  · rw [hL, ht, recsL_snoc]
    exact h2
  · rw [ht, List.map_append]
    exact h.keys.kept h3 (two_rows h.keys h.bytes (by decide))
theorem pack_bad {l : List (Int × ByteArray)} {k : Nat} {b : Int × ByteArray} (hx : l[k]? = some b) (hr : bRight b = false) : packR l = false :=
  decide_eq_false (fun h => by have := h.2.2.1 b (List.mem_of_getElem? hx); rw [hr] at this; cases this)
theorem pack_dup {l : List (Int × ByteArray)} {k : Nat} {b : Int × ByteArray} (hx : l[k]? = some b) (hin : bKey b ∈ (l.take k).map bKey) : packR l = false :=
  decide_eq_false (fun h => by
    have hn := h.2.2.2.1
    have hs : l = l.take k ++ b :: l.drop (k + 1) := by
      have hlt := (List.getElem?_eq_some_iff.1 hx).1
      have hb := (List.getElem?_eq_some_iff.1 hx).2
      have hd : l.drop k = b :: l.drop (k + 1) := by rw [List.drop_eq_getElem_cons hlt, hb]
      rw [← hd, List.take_append_drop]
    rw [hs, List.map_append, List.map_cons, List.nodup_append] at hn
    exact hn.2.2 _ hin _ (List.mem_cons_self ..) rfl)

set_option maxRecDepth 100000 in
set_option maxHeartbeats 2000000 in
theorem pack_any (a : Option Addr) (c : Nat) (l : List (Int × ByteArray)) (w : World) (hl : l.length ≤ 1048576) (hr : Rd w a (bl l)) :
    Calls Tryz.prog 69 #[.slice a l.length c] w (PkPost w l) := by
  by_cases h0 : l.length < 1
  · have E : packR l = false := decide_eq_false (fun h => by omega)
    have h0i : (l.length : Int) < 1 := by omega
    go_enter Tryz.func69, Tryz.ntmps69
    go_wp2
    exact bodyPost_ret (v := .tuple #[.string ⟨#[]⟩, .bool false]) (by simp [results, Tryz.results69, go_sem]) rfl (PkPost.no E (Below.refl _ _))
  · by_cases h40 : 40 < l.length
    · have E : packR l = false := decide_eq_false (fun h => by omega)
      have h0i : (1 : Int) ≤ (l.length : Int) := by omega
      have h4i : (40 : Int) < (l.length : Int) := by omega
      go_enter Tryz.func69, Tryz.ntmps69
      go_wp2
      exact bodyPost_ret (v := .tuple #[.string ⟨#[]⟩, .bool false]) (by simp [results, Tryz.results69, go_sem]) rfl (PkPost.no E (Below.refl _ _))
    · have h0i : (1 : Int) ≤ (l.length : Int) := by omega
      have h4i : (l.length : Int) ≤ 40 := by omega
      go_enter Tryz.func69, Tryz.ntmps69
      go_wp2_with fail
      go_loopw [4, 5, 6] (fun v4 v5 i wr => ∃ k : Nat, k ≤ l.length ∧ i = .int .i64 k ∧ (∃ g4 n4 c4, v4 = .slice (some ⟨g4, 0, none⟩) n4 c4 ∧ n4 = (recsL (l.take k)).length) ∧ (∃ g5 c5, v5 = .slice (some ⟨g5, 0, none⟩) k c5) ∧ Hid (Lp w l k v4 v5 wr))
        (fun _ _ i _ => l.length - (intOf i).toNat)
      case atStart =>
        exact ⟨0, Nat.zero_le _, rfl, ⟨w.heap.size, 0, 0, rfl, by simp [recsL]⟩, ⟨w.heap.size + 1, 0, rfl⟩, mkHid ⟨(below_alloc1 w _).alloc (by simp) _, by simp, by simp,
          (World.ownsRow_made (base := w.heap.size) (size := 1) w #[] 0 (Nat.le_refl _) (by decide) rfl).alloc _, by
            have h := World.ownsRow_made (base := w.heap.size) (size := 1) (e := 9) (w.alloc (.cells #[] 5)) #[] 0 (by simp) (by decide) rfl
            simpa using h⟩⟩
      case round =>
        obtain ⟨k, hk, rfl, ⟨g4, n4, c4, rfl, hn4⟩, ⟨g5, c5, rfl⟩, hL⟩ := hrel
        subst hn4
        by_cases hlt : k < l.length
        · have hlti : (k : Int) < (l.length : Int) := by omega
          obtain ⟨⟨bk, bt⟩, hx⟩ : ∃ z, l[k]? = some z := ⟨_, List.getElem?_eq_getElem hlt⟩
          obtain ⟨g1, o1, rfl, c1, c2, l1⟩ := hr.blob hx
          have HC := mkHid (fun (X : World) (hb : Below w.heap.size w X) => And.intro ((hb.cell (p := ⟨g1, o1 + k * 2, none⟩) l1).trans c1) ((hb.cell (p := ⟨g1, o1 + k * 2 + 1, none⟩) l1).trans c2))
          obtain ⟨e1, e2⟩ := HC.out wr hL.out.below
          have HR := mkHid (fun wx => right_spec bk bt wx)
          have HX := mkHid hx
          clear c1 c2 hx hr
          go_wp2_with fail
          refine (HR.out _).mono ?_
          rintro e w1 ⟨rfl, hb1⟩
          have L1 := mkHid (hL.out.next hb1)
          clear hb1 hL HR e1 e2
          cases hR : bRight (bk, bt)
          · have E := mkHid (pack_bad HX.out hR)
            go_wp2
            exact bodyPost_ret (v := .tuple #[.string ⟨#[]⟩, .bool false]) (by simp [results, Tryz.results69, go_sem]) rfl (PkPost.no E.out L1.out.below)
          · have HK := mkHid (fun wx => key_spec bk bt wx)
            obtain ⟨e1, e2⟩ := HC.out w1 L1.out.below
            go_wp2_with fail
            refine (HK.out _).mono ?_
            rintro e w2 ⟨rfl, hb2⟩
            have L2 := mkHid (L1.out.next hb2)
            clear hb2 L1 HK e1 e2
            have hkl : ((l.take k).map bKey).length = k := by simp; omega
            have HI : Hid (∀ bb, (bb = true ↔ bKey (bk, bt) ∈ (l.take k).map bKey) → Calls Tryz.prog 86 #[.slice (some ⟨g5, 0, none⟩) k c5, .string (bKey (bk, bt))] w2 fun e w' => e = .returned (.bool bb) ∧ Below w2.heap.size w2 w') := mkHid (fun bb hbb => by
              have h := in_any (some ⟨g5, 0, none⟩) c5 ((l.take k).map bKey) (bKey (bk, bt)) w2 (by omega) (OwnT.owns (n := k) (c := c5) L2.out.keys).rd bb hbb
              rw [hkl] at h
              exact h)
            by_cases hin : bKey (bk, bt) ∈ (l.take k).map bKey
            · have E := mkHid (pack_dup HX.out hin)
              have HII := mkHid (HI.out true ⟨fun _ => hin, fun _ => rfl⟩)
              clear HI hkl hin
              go_wp2_with fail
              refine HII.out.mono ?_
              rintro e w3 ⟨rfl, hb3⟩
              have B3 := mkHid (L2.out.next hb3).below
              go_wp2
              exact bodyPost_ret (v := .tuple #[.string ⟨#[]⟩, .bool false]) (by simp [results, Tryz.results69, go_sem]) rfl (PkPost.no E.out B3.out)
            · have HII := mkHid (HI.out false ⟨fun h => (by cases h), fun h => absurd h hin⟩)
              have HN := mkHid hin
              clear HI hkl hin
              go_wp2_with fail
              refine HII.out.mono ?_
              rintro e w3 ⟨rfl, hb3⟩
              have L3 := mkHid (L2.out.next hb3)
              clear hb3 L2 HII
              obtain ⟨g, cc, w4, hrun, L4⟩ := L3.out.key (bKey (bk, bt)) (by omega) hk
              obtain ⟨e1, e2⟩ := HC.out w4 L4.below
              have L4' := mkHid L4
              have HRec := mkHid (fun wx => record_any bk bt wx hR)
              have HA := mkHid (And.intro L3.out.right L3.out.nodup)
              clear L3 L4
              go_wp2_with fail
              refine (HRec.out _).mono ?_
              rintro e w5 ⟨rfl, hb5⟩
              obtain ⟨g6, c6, w6, hrun6, hlen6, L6⟩ := (L4'.out.next hb5).put HX.out hR HN.out HA.out.1 HA.out.2 (by omega)
              have N1 := mkHid L6
              clear hb5 L4' HRec HA HN HX L6 hR HC e1 e2 hrun
              go_wp2
              exact ⟨⟨k + 1, by omega, by go_num, ⟨g6, _, c6, rfl, hlen6.symm⟩, ⟨g, cc, rfl⟩, N1⟩, by simp [intOf]; omega⟩
        · obtain rfl : k = l.length := by omega
          have ht : l.take l.length = l := List.take_of_length_le (Nat.le_refl _)
          have HL : Hid (Below w.heap.size w wr ∧ packR l = decide ((recsL l).length ≤ 12000)) := mkHid ⟨hL.out.below, by
            have h1 := hL.out.right
            have h2 := hL.out.nodup
            rw [ht] at h1 h2
            unfold packR
            by_cases h3 : (recsL l).length ≤ 12000
            · rw [decide_eq_true h3]
              exact decide_eq_true ⟨by omega, by omega, h1, h2, h3⟩
            · rw [decide_eq_false h3]
              exact decide_eq_false (fun h => h3 h.2.2.2.2)⟩
          have hrow := hL.out.bytes
          rw [ht] at hrow ⊢
          have hlen := (recsL_len l (by have h1 := hL.out.right; rw [ht] at h1; exact h1))
          have hz0 : 0 < (recsL l).length := by omega
          have hz1 : ((recsL l).length : Int) ≤ 1048576 := by omega
          obtain ⟨g', cap', hv, hconv⟩ := owns_string (P := Tryz.prog) (src := 22) (dst := 9) Tryz.underlying22 Tryz.underlying5 Tryz.underlying9 hrow hz0
          simp at hv
          obtain ⟨rfl, rfl⟩ := hv
          clear hL hrow hlen hr
          have HE : Hid (packR l = decide (((recsL l).length : Int) ≤ 12000)) := mkHid (by rw [HL.out.2]; congr 1; exact propext ⟨fun h => by omega, fun h => by omega⟩)
          go_wp2
          exact bodyPost_ret (v := .tuple #[.string ⟨(recsL l).toArray⟩, .bool (decide (((recsL l).length : Int) ≤ 12000))]) (by simp [results, Tryz.results69, go_sem]) rfl ⟨_, by rw [HE.out], fun _ => rfl, HL.out.1⟩
end Go.Proofs.YtmoojhnblakdhaaGreat.pack
namespace Go.Proofs.YtmoojhnblakdhaaGreat.lwb
open Go.RowKit Go.Joins
open Go.Proofs.YtmoojhnblakdhaaGreat.base Go.Proofs.YtmoojhnblakdhaaGreat.blk Go.Proofs.YtmoojhnblakdhaaGreat.aid
set_option linter.unusedVariables false

theorem below2 (w : World) (o1 o2 : Obj) : Below w.heap.size w ((w.alloc o1).alloc o2) := (below_alloc1 w o1).alloc (by simp) _
theorem below3 (w : World) (o1 o2 o3 : Obj) : Below w.heap.size w (((w.alloc o1).alloc o2).alloc o3) := (below2 w o1 o2).alloc (by simp; omega) _

end Go.Proofs.YtmoojhnblakdhaaGreat.lwb
namespace Go.Proofs.YtmoojhnblakdhaaGreat.pack
open Go.RowKit Go.Joins
open Go.Proofs.YtmoojhnblakdhaaGreat.base Go.Proofs.YtmoojhnblakdhaaGreat.blk Go.Proofs.YtmoojhnblakdhaaGreat.aid
open Go.Proofs.YtmoojhnblakdhaaGreat.sha (digest GV)
set_option linter.unusedVariables false

def entV (x : ByteArray) (k a n : Int) : Value := .agg #[.string x, .int .i64 k, .int .i64 a, .int .i64 n]
/-- what PackGet tells: kind, text, code -/
def getP (s x : ByteArray) (k a n : Int) : Int × ByteArray × Int :=
  if 20000 < s.size then (0, ⟨#[]⟩, 2)
  else if a < 0 ∨ n < 0 ∨ 2000 < n ∨ (s.size : Int) - n < a then (0, ⟨#[]⟩, 9)
  else if bRight (k, s.extract a.toNat (a.toNat + n.toNat)) = true ∧ bKey (k, s.extract a.toNat (a.toNat + n.toNat)) = x then (k, s.extract a.toNat (a.toNat + n.toNat), 0)
  else (0, ⟨#[]⟩, 5)
def outV (o : Int × ByteArray × Int) : Value := .agg #[.int .i64 o.1, .string o.2.1, .int .i64 o.2.2]

theorem bytes_ne {r s : ByteArray} (h : ¬ r = s) : (r.toList == s.toList) = false := by
  rw [ByteArray.toList_eq, ByteArray.toList_eq]
  simp
  intro e
  apply h
  apply ByteArray.ext
  exact e
theorem four {a n m : Int} (h : a < 0 ∨ n < 0 ∨ 2000 < n ∨ m - n < a) : a < 0 ∨ (0 ≤ a ∧ n < 0) ∨ (0 ≤ a ∧ 0 ≤ n ∧ 2000 < n) ∨ (0 ≤ a ∧ 0 ≤ n ∧ n ≤ 2000 ∧ m - n < a) := by omega

end Go.Proofs.YtmoojhnblakdhaaGreat.pack
namespace Go.Proofs.YtmoojhnblakdhaaGreat.pack
open Go.RowKit Go.Joins
open Go.Proofs.YtmoojhnblakdhaaGreat.base Go.Proofs.YtmoojhnblakdhaaGreat.blk Go.Proofs.YtmoojhnblakdhaaGreat.aid
open Go.Proofs.YtmoojhnblakdhaaGreat.sha (digest GV)
set_option linter.unusedVariables false

end Go.Proofs.YtmoojhnblakdhaaGreat.pack
namespace Go.Proofs.YtmoojhnblakdhaaGreat.rdr
open Go.RowKit Go.Joins
open Go.Proofs.YtmoojhnblakdhaaGreat.base Go.Proofs.YtmoojhnblakdhaaGreat.blk Go.Proofs.YtmoojhnblakdhaaGreat.aid
open Go.Proofs.YtmoojhnblakdhaaGreat.pack (bKey bRight recAt keyAt reads)
open Go.Proofs.YtmoojhnblakdhaaGreat.row (bl en Rd Own OwnV appSem app_fold app1)
open Go.Proofs.YtmoojhnblakdhaaGreat.sha (digest GV)
set_option linter.unusedVariables false
attribute [local go_sem ↓] app_fold

/-- a row of blobs of its own is the answer -/
def BPost (w : World) (l : List (Int × ByteArray)) (e : Ending) (w' : World) : Prop :=
  ∃ a c, e = .returned (.slice a l.length c) ∧ OwnV 110 w' a (bl l) ∧ (∀ b o s, a = some ⟨b, o, s⟩ → w.heap.size ≤ b) ∧ Below w.heap.size w w'
theorem infoB : (Tryz.prog.info? 110).map (fun i => (i.zero, i.size, i.bytes)) = some (some (.agg #[.int .i64 0, .string ⟨#[]⟩]), 2, 24) := by kernel_rfl
theorem appB (W : World) (base : Nat) (v : Value) (n : Nat) (acc : List (Int × ByteArray)) (k : Int) (t : ByteArray) (hn : acc.length = n) (hown : W.ownsRow base 110 2 v n (bl acc)) (hb : base ≤ W.heap.size) (hl : n ≤ 1048576) :
    ∃ g c w2, (appSem #[81, 81] 81 #[v, .slice (some ⟨W.heap.size, 0, none⟩) 1 1]).run Tryz.prog (W.alloc (.cells #[.int .i64 k, .string t] 110)) = .ok (.slice (some ⟨g, 0, none⟩) (n + 1) c) w2 ∧ w2.ownsRow base 110 2 (.slice (some ⟨g, 0, none⟩) (n + 1) c) (n + 1) (bl (acc ++ [(k, t)])) ∧ (W.alloc (.cells #[.int .i64 k, .string t] 110)).grownBy w2 v.ownBlock := by
  obtain ⟨g, c, w2, h1, h2, h3⟩ := app1 (W := W) (base := base) (S := 81) (T := 110) (size := 2) (bytes := 24) Tryz.underlying81 infoB rfl (by decide) v n (bl acc) [.int .i64 k, .string t] rfl (by intro u hu; simp at hu; rcases hu with rfl | rfl <;> rfl) hown hb hl (by decide)
  exact ⟨g, c, w2, h1, by rw [row.bl_snoc]; exact h2, h3⟩

def lenOf : Value → Nat
  | .slice _ n _ => n
  | _ => 0
theorem row_grew {W W' : World} {base T size n g : Nat} {v : Value} {xs : List Value} (h : W.ownsRow base T size v n xs) (hg : W.grownBy W' (some g)) (hlt : g < base) : W'.ownsRow base T size v n xs :=
  h.kept hg (by
    by_cases hne : v.ownBlock = none
    · exact .inl hne
    · refine .inr (fun e => ?_)
      have := (h.lt g e).1
      omega)
end Go.Proofs.YtmoojhnblakdhaaGreat.rdr
namespace Go.Proofs.YtmoojhnblakdhaaGreat.lwb
open Go.RowKit Go.Joins
open Go.Proofs.YtmoojhnblakdhaaGreat.base Go.Proofs.YtmoojhnblakdhaaGreat.blk Go.Proofs.YtmoojhnblakdhaaGreat.aid
open Go.Proofs.YtmoojhnblakdhaaGreat.row (bl en Rd Own OwnV)
open Go.Proofs.YtmoojhnblakdhaaGreat.strs (mk)
set_option linter.unusedVariables false

/-- marks from m on, n blobs -/
def mb (m n : Nat) : List (Int × ByteArray) := (List.range n).map fun (i : Nat) => (((m + 2 * i : Nat) : Int), mk (m + 2 * i + 1))
theorem mb_len (m n : Nat) : (mb m n).length = n := by simp [mb]
theorem mb_at (m n i : Nat) (h : i < n) : (mb m n)[i]? = some (((m + 2 * i : Nat) : Int), mk (m + 2 * i + 1)) := by simp [mb, h]
def mkd (m : Nat) (l : List (Int × ByteArray)) (i : Nat) : List (Int × ByteArray) := (mb m l.length).take i ++ l.drop i
theorem mkd_zero (m : Nat) (l : List (Int × ByteArray)) : mkd m l 0 = l := by simp [mkd]
theorem mkd_all (m : Nat) (l : List (Int × ByteArray)) : mkd m l l.length = mb m l.length := by
  unfold mkd
  rw [List.take_of_length_le (by rw [mb_len]; exact Nat.le_refl _)]
  simp
theorem mkd_len (m : Nat) (l : List (Int × ByteArray)) (i : Nat) (h : i ≤ l.length) : (mkd m l i).length = l.length := by simp [mkd, mb_len]; omega
theorem mkd_next (m : Nat) (l : List (Int × ByteArray)) (i : Nat) (h : i < l.length) : (mkd m l i).set i (((m + 2 * i : Nat) : Int), mk (m + 2 * i + 1)) = mkd m l (i + 1) := by
  unfold mkd
  have e2 : ((mb m l.length).take i).length = i := by simp [mb_len]; omega
  rw [List.set_append_right _ _ (by rw [e2]; exact Nat.le_refl _), e2, Nat.sub_self, List.drop_eq_getElem_cons h, List.set_cons_zero, List.take_add_one, mb_at m _ i h]
  simp
theorem bl_set : ∀ (l : List (Int × ByteArray)) (i : Nat) (x : Int) (y : ByteArray), i < l.length → ((bl l).set (i * 2) (.int .i64 x)).set (i * 2 + 1) (.string y) = bl (l.set i (x, y))
  | [], i, x, y, h => by simp at h
  | c :: l, 0, x, y, h => by simp [row.bl_cons]
  | c :: l, i + 1, x, y, h => by
    rw [row.bl_cons, List.set_cons_succ, row.bl_cons, ← bl_set l i x y (by simpa using h)]
    have e : (i + 1) * 2 = i * 2 + 1 + 1 := by omega
    rw [e]
    simp only [List.set_cons_succ]
theorem bl_set1 : ∀ (l : List (Int × ByteArray)) (i : Nat) (x : Int) (z : Int × ByteArray), l[i]? = some z → (bl l).set (i * 2) (.int .i64 x) = bl (l.set i (x, z.2))
  | [], i, x, z, h => by simp at h
  | c :: l, 0, x, z, h => by
    simp at h
    subst h
    simp [row.bl_cons]
  | c :: l, i + 1, x, z, h => by
    rw [row.bl_cons, List.set_cons_succ, row.bl_cons, ← bl_set1 l i x z (by simpa using h)]
    have e : (i + 1) * 2 = i * 2 + 1 + 1 := by omega
    rw [e]
    simp only [List.set_cons_succ]

theorem set_same {xs : List Value} {i : Nat} {v : Value} (h : xs[i]? = some v) : xs.set i v = xs := by
  apply List.ext_getElem?
  intro j
  by_cases e : i = j
  · subst e
    rw [List.getElem?_set_self (List.getElem?_eq_some_iff.1 h).1, h]
  · rw [List.getElem?_set_ne e]

end Go.Proofs.YtmoojhnblakdhaaGreat.lwb
namespace Go.Proofs.YtmoojhnblakdhaaGreat.pack
open Go.RowKit Go.Joins
open Go.Proofs.YtmoojhnblakdhaaGreat.base Go.Proofs.YtmoojhnblakdhaaGreat.blk Go.Proofs.YtmoojhnblakdhaaGreat.aid
open Go.Proofs.YtmoojhnblakdhaaGreat.row (bl en Rd Own OwnV)
set_option linter.unusedVariables false

set_option maxRecDepth 100000 in
theorem bytes_spec (a : Option Addr) (c : Nat) (l : List (Int × ByteArray)) (w : World) (hl : l.length ≤ 1048576) (hr : Rd w a (bl l)) :
    Calls Tryz.prog 45 #[.slice a l.length c] w fun e w' => e = .returned (.string (packB l)) ∧ Below w.heap.size w w' := by
  by_cases h4 : (400 : Int) < (l.length : Int)
  · have E : packB l = ⟨#[]⟩ := (packB_empty l).2 (decide_eq_false (fun h => by omega))
    go_enter Tryz.func45, Tryz.ntmps45
    go_wp2
    go_ret
    exact ⟨ret_eq (by rw [E]; rfl), Below.refl _ _⟩
  · have h4' : (l.length : Int) ≤ 400 := by omega
    have HP := mkHid (pack_any a c l w hl hr)
    unfold PkPost at HP
    clear hr
    cases hp : packR l
    · have E := mkHid ((packB_empty l).2 hp)
      rw [hp] at HP
      go_enter Tryz.func45, Tryz.ntmps45
      go_wp2_with fail
      refine HP.out.mono ?_
      rintro e w1 ⟨t, rfl, _, hb1⟩
      have B1 := mkHid hb1
      clear hb1 HP
      go_wp2
      go_ret
      exact ⟨ret_eq (by rw [E.out]; rfl), B1.out⟩
    · have E := mkHid (show packB l = ⟨(recsL l).toArray⟩ by unfold packB; rw [if_pos hp])
      rw [hp] at HP
      go_enter Tryz.func45, Tryz.ntmps45
      go_wp2_with fail
      refine HP.out.mono ?_
      rintro e w1 ⟨t, rfl, ht, hb1⟩
      have T := mkHid (ht (by trivial))
      have B1 := mkHid hb1
      clear hb1 HP ht
      go_wp2
      go_ret
      exact ⟨ret_eq (by rw [E.out, ← T.out]; rfl), B1.out⟩

/-- what szBlobS leaves of what is left -/
def szL : List (Int × ByteArray) → Int → Int
  | [], m => m
  | b :: r, m => if m < (b.2.size : Int) then -1 else szL r (m - b.2.size)
def szF (l : List (Int × ByteArray)) (m : Int) : Int := if m < (l.length : Int) then -1 else szL l (m - l.length)

theorem szL_small : ∀ (l : List (Int × ByteArray)) (m : Int), 0 ≤ szL l m → m ≤ 1048576 → ∀ b ∈ l, b.2.size ≤ 1048576
  | [], m, h, hm => by simp
  | b :: r, m, h, hm => by
    unfold szL at h
    split at h
    · omega
    · rename_i hb
      intro x hx
      rcases List.mem_cons.1 hx with rfl | hx
      · omega
      · exact szL_small r _ h (by omega) x hx

def noB : Int × ByteArray := (0, ⟨#[]⟩)
theorem made_blobs (n : Nat) : madeCells #[.int .i64 0, .string ⟨#[]⟩] (n * 2) = (bl (List.replicate n noB)).toArray := by
  apply Array.ext
  · rw [size_madeCells, List.size_toArray, row.bl_len, List.length_replicate]
    omega
  · intro i h1 h2
    rw [size_madeCells] at h1
    have hj : i / 2 < n := by omega
    have hr : (List.replicate n noB)[i / 2]? = some noB := by simp [hj]
    obtain ⟨b0, b1⟩ := row.bl_at _ _ _ hr
    rcases Nat.mod_two_eq_zero_or_one i with h | h
    · have e : i / 2 * 2 = i := by omega
      rw [e] at b0
      have hb := (List.getElem?_eq_some_iff.1 b0).2
      simp only [List.getElem_toArray, hb]
      simp [madeCells, h, noB]
    · have e : i / 2 * 2 + 1 = i := by omega
      rw [e] at b1
      have hb := (List.getElem?_eq_some_iff.1 b1).2
      simp only [List.getElem_toArray, hb]
      simp [madeCells, h, noB]
theorem run_make_blobs (n : Nat) (hn : n ≤ 1048576) (u : World) : (Instr.makeSlice 81 (.int .i64 (n : Int)) (.int .i64 (n : Int))).run Tryz.prog u =
    .ok (.slice (some ⟨u.heap.size, 0, none⟩) n n) (u.alloc (.cells (bl (List.replicate n noB)).toArray 110)) := by
  obtain ⟨i0, hi, hz0, hz1, hz2⟩ := info_parts rdr.infoB
  have h := run_make (P := Tryz.prog) u 81 110 i0 (.agg #[.int .i64 0, .string ⟨#[]⟩]) Tryz.underlying81 hi hz0 .i64 .i64 (n : Int) (n : Int) (by omega) (Int.le_refl _) (by rw [hz2]; omega) (by omega)
  have e : (n : Int).toNat = n := by omega
  rw [e] at h
  rw [← made_blobs]
  simpa [hz1, Value.cells] using h
/-- k blobs are there, the rest is nothing yet -/
def partB (l : List (Int × ByteArray)) (k : Nat) : List (Int × ByteArray) := l.take k ++ List.replicate (l.length - k) noB
theorem partB_zero (l : List (Int × ByteArray)) : partB l 0 = List.replicate l.length noB := by simp [partB]
theorem partB_all (l : List (Int × ByteArray)) : partB l l.length = l := by simp [partB]
theorem partB_len (l : List (Int × ByteArray)) (k : Nat) (h : k ≤ l.length) : (partB l k).length = l.length := by simp [partB]; omega
theorem partB_next (l : List (Int × ByteArray)) (k : Nat) (b : Int × ByteArray) (h : l[k]? = some b) : (partB l k).set k b = partB l (k + 1) := by
  have hlt := (List.getElem?_eq_some_iff.1 h).1
  unfold partB
  have e1 : (l.take k).length = k := by simp; omega
  rw [List.set_append_right _ _ (by omega), e1, Nat.sub_self, show l.length - k = (l.length - (k + 1)) + 1 by omega, List.replicate_succ, List.set_cons_zero, List.take_add_one, h]
  simp

end Go.Proofs.YtmoojhnblakdhaaGreat.pack
