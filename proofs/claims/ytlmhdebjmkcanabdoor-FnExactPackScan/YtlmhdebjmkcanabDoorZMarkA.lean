/-
  Rows of texts in memory: what laws.markText, eqStringS, markStringS and heldStringS answer and leave. Conditions: at most 1,048,576 texts, which lie in memory; a row that is written lies in a block of its own, maybe with room behind it.
  What laws.markBlobS and laws.heldBlobS answer and leave. Conditions: at most 1,048,576 blobs, which lie in memory; a row that is written lies in a block of its own.
  What laws.markEntryS and laws.heldEntryS answer and leave. Conditions: at most 100,000 entries, which lie in memory; a row that is written lies in a block of its own.
-/
import Derived.Test.YtlmhdebjmkcanabDoorZGround
import Derived.Test.YtlmhdebjmkcanabDoorZCellA
import Derived.Deep.RegionHeld3
import Derived.Deep.QuietTactic
import Derived.BigQuiet
namespace Go.Proofs.YtlmhdebjmkcanabDoor.strs
open Go.RowKit Go.Joins
open Go.Proofs.YtlmhdebjmkcanabDoor.base Go.Proofs.YtlmhdebjmkcanabDoor.blk
set_option linter.unusedVariables false

theorem ret_eq {a b : Value} (h : a = b) : Ending.returned a = Ending.returned b := by rw [h]
/-- digits of ten ahead of what is there -/
def dg : Nat → Nat → List UInt8 → List UInt8
  | 0, _, acc => acc
  | f + 1, n, acc => if n = 0 then acc else dg f (n / 10) (UInt8.ofNat (48 + n % 10) :: acc)
theorem dg_fuel : ∀ f n acc, n ≤ f → dg f n acc = dg n n acc := by
  intro f
  induction f using Nat.strongRecOn with
  | _ f ih =>
    intro n acc h
    cases f with
    | zero => obtain rfl : n = 0 := by omega
              rfl
    | succ f =>
      cases n with
      | zero => rfl
      | succ n =>
        rw [dg, dg, if_neg (by omega), if_neg (by omega)]
        rw [ih f (by omega) _ _ (by omega)]
        by_cases hn : n < f
        · rw [ih n (by omega) _ _ (by omega)]
        · obtain rfl : n = f := by omega
          rw [ih n (by omega) _ _ (by omega)]
def digs (n : Nat) (acc : List UInt8) : List UInt8 := dg n n acc
theorem digs_zero (acc : List UInt8) : digs 0 acc = acc := rfl
theorem digs_next (n : Nat) (acc : List UInt8) (h : 0 < n) : digs n acc = digs (n / 10) (UInt8.ofNat (48 + n % 10) :: acc) := by
  cases n with
  | zero => omega
  | succ n =>
    unfold digs
    rw [dg, if_neg (by omega), dg_fuel n _ _ (by omega)]
/-- the mark of a number -/
def mk (k : Nat) : ByteArray := if k = 0 then ⟨#[109, 48]⟩ else ⟨(109 :: digs k []).toArray⟩

theorem one_str (b : UInt8) (l : List UInt8) : (⟨#[b]⟩ : ByteArray) ++ ⟨l.toArray⟩ = ⟨(b :: l).toArray⟩ := by
  apply ByteArray.ext
  simp

set_option maxRecDepth 100000 in
theorem markText_any (k : Nat) (w : World) (hk : k ≤ 1000000000) : Calls Tryd.prog 31 #[.int .i64 k] w fun e w' => e = .returned (.string (mk k)) ∧ Below w.heap.size w w' := by
  have hki : (k : Int) ≤ 1000000000 := by omega
  go_enter Tryd.func31, Tryd.ntmps31
  by_cases h0 : (k : Int) ≤ 0
  · have E := mkHid (show mk k = ⟨#[109, 48]⟩ by unfold mk; rw [if_pos (by omega)])
    go_wp2
    go_ret
    exact ⟨ret_eq (by rw [E.out]; rfl), Below.refl _ _⟩
  · have h0' : 0 < (k : Int) := by omega
    go_wp2
    go_loopw [0, 3] (fun v o wr => ∃ (n : Nat) (acc : List UInt8), n ≤ k ∧ v = .int .i64 n ∧ o = .string ⟨acc.toArray⟩ ∧ acc.length ≤ 10 ∧ Hid (digs n acc = digs k []) ∧ Hid (n * 10 ^ acc.length ≤ k) ∧ Hid (Below w.heap.size w wr))
      (fun v _ _ => (intOf v).toNat)
    case atStart => exact ⟨k, [], by omega, rfl, rfl, by simp, mkHid rfl, mkHid (by simp), mkHid (Below.refl _ _)⟩
    case round =>
      obtain ⟨n, acc, hn, rfl, rfl, hl, hd, hp, hb⟩ := hrel
      by_cases hlt : 0 < n
      · have hlti : 0 < (n : Int) := by omega
        have hni : (n : Int) ≤ 1000000000 := by omega
        have hl9 : acc.length ≤ 9 := by
          rcases Nat.lt_or_ge 9 acc.length with h9 | h9
          · have q1 : 10 ^ 10 ≤ 10 ^ acc.length := Nat.pow_le_pow_right (by omega) (by omega)
            have q2 : 1 * 10 ^ acc.length ≤ n * 10 ^ acc.length := Nat.mul_le_mul_right _ (by omega)
            have q3 := hp.out
            omega
          · exact h9
        obtain ⟨b, hbv⟩ : ∃ b : UInt8, b = UInt8.ofNat (48 + n % 10) := ⟨_, rfl⟩
        have hbn : (b.toNat : Int) = 48 + (n : Int) % 10 := by rw [hbv, toNat_ofNat (by omega)]; omega
        have N1 : Hid (digs (n / 10) (b :: acc) = digs k []) := mkHid (by rw [← hd.out, digs_next n acc hlt, hbv])
        have N2 : Hid (n / 10 * 10 ^ (b :: acc).length ≤ k) := mkHid (by
          have := hp.out
          rw [List.length_cons, Nat.pow_succ, Nat.mul_comm (10 ^ acc.length) 10, ← Nat.mul_assoc]
          exact Nat.le_trans (Nat.mul_le_mul_right _ (Nat.div_mul_le_self n 10)) this)
        have hconv0 := run_convert_bytes_back (P := Tryd.prog) (wr.alloc (.cells #[.int .u8 (b.toNat : Int)] 5)) 71 9 5 ⟨wr.heap.size, 0, none⟩ 1 [b] Tryd.underlying71 Tryd.underlying5 Tryd.underlying9 (by
          intro j hj
          match j, hj with
          | 0, hj => simp [Addr.add])
        have hconv : (convert 71 9 (.slice (some ⟨wr.heap.size, 0, none⟩) 1 1)).run Tryd.prog (wr.alloc (.cells #[.int .u8 (48 + (n : Int) % 10)] 5)) = .ok (.string ⟨#[b]⟩) (wr.alloc (.cells #[.int .u8 (48 + (n : Int) % 10)] 5)) := by rw [← hbn]; exact hconv0
        have B2 := mkHid (hb.out.alloc hb.out.size (.cells #[.int .u8 (48 + (n : Int) % 10)] 5))
        have hs2 : ((⟨#[b]⟩ : ByteArray).size : Int) + ((⟨acc.toArray⟩ : ByteArray).size : Int) ≤ 20 := by
          show ((#[b] : Array UInt8).size : Int) + (acc.toArray.size : Int) ≤ 20
          simp
          omega
        have E := one_str b acc
        clear hconv0 hd hp hb hbv hbn
        go_wp2
        exact ⟨⟨n / 10, b :: acc, by omega, by go_num, rfl, by simp; omega, N1, N2, B2⟩, by simp [intOf]; omega⟩
      · have hn0 : n = 0 := by omega
        subst hn0
        have E := mkHid (show (⟨(109 :: acc).toArray⟩ : ByteArray) = mk k by
          have h := hd.out
          rw [digs_zero] at h
          unfold mk
          rw [if_neg (by omega), h])
        have E2 := one_str 109 acc
        have hs2 : ((⟨#[109]⟩ : ByteArray).size : Int) + ((⟨acc.toArray⟩ : ByteArray).size : Int) ≤ 20 := by
          show ((#[109] : Array UInt8).size : Int) + (acc.toArray.size : Int) ≤ 20
          simp
          omega
        clear hd hp
        go_wp2
        go_ret
        exact ⟨ret_eq (by rw [← E.out]; rfl), hb.out⟩

/-- a text as a cell -/
def strV (t : ByteArray) : Value := .string t
/-- the texts of a slice lie in memory -/
def RdT (w : World) (a : Option Addr) (ts : List ByteArray) : Prop :=
  ∀ i t, ts[i]? = some t → ∃ b off, a = some ⟨b, off, none⟩ ∧ w.cell? ⟨b, off + i, none⟩ = some (.string t)
theorem RdT.block {w w' : World} {a : Option Addr} {ts : List ByteArray} (h : RdT w a ts) (hb : ∀ b off, a = some ⟨b, off, none⟩ → b < w.heap.size → w'.heap[b]? = w.heap[b]?) : RdT w' a ts := by
  intro i z hz
  obtain ⟨b, off, e1, e2⟩ := h i z hz
  refine ⟨b, off, e1, ?_⟩
  rw [World.cell?_of_block (w := w) (a := ⟨b, off + i, none⟩) (hb b off e1 (World.block_lt_of_cell? w _ e2))]
  exact e2
theorem RdT.below {w w' : World} {a : Option Addr} {ts : List ByteArray} (h : RdT w a ts) (hb : Below w.heap.size w w') : RdT w' a ts := h.block fun b _ _ hl => hb.block b hl
theorem RdT.alloc {w : World} {a : Option Addr} {ts : List ByteArray} (h : RdT w a ts) (o : Obj) : RdT (w.alloc o) a ts := h.below ((Below.refl _ _).alloc (Nat.le_refl _) o)
theorem RdT.nil (w : World) (a : Option Addr) : RdT w a [] := by intro i z h; simp at h

/-- a row in a block of its own, with room behind it -/
def OwnT (w : World) (g : Nat) (ts : List ByteArray) : Prop := ∃ ex : List Value, w.heap[g]? = some (.cells (ts.map strV ++ ex).toArray 9 (0, 0))
theorem OwnT.lt {w : World} {g : Nat} {ts : List ByteArray} (h : OwnT w g ts) : g < w.heap.size := by
  obtain ⟨ex, h⟩ := h
  exact (Array.getElem?_eq_some_iff.1 h).1
theorem OwnT.block {w w' : World} {g : Nat} {ts : List ByteArray} (h : OwnT w g ts) (hb : w'.heap[g]? = w.heap[g]?) : OwnT w' g ts := by
  obtain ⟨ex, h⟩ := h
  exact ⟨ex, hb.trans h⟩
theorem OwnT.below {w w' : World} {g : Nat} {ts : List ByteArray} (h : OwnT w g ts) (hb : Below w.heap.size w w') : OwnT w' g ts := h.block (hb.block g h.lt)
theorem OwnT.cell {w : World} {g : Nat} {ts : List ByteArray} (h : OwnT w g ts) {i : Nat} {z : ByteArray} (hz : ts[i]? = some z) : w.cell? ⟨g, i, none⟩ = some (.string z) := by
  obtain ⟨ex, h⟩ := h
  have hi : i < ts.length := (List.getElem?_eq_some_iff.1 hz).1
  rw [cell_of_block h]
  simp [List.getElem?_append, hi, strV]
  exact (List.getElem?_eq_some_iff.1 hz).2
theorem OwnT.free {w : World} {g : Nat} {ts : List ByteArray} (h : OwnT w g ts) (i : Nat) : w.frozen? ⟨g, i, none⟩ = false := by
  obtain ⟨ex, h⟩ := h
  exact unfrozen_of_block h i
theorem OwnT.rd {w : World} {g : Nat} {ts : List ByteArray} (h : OwnT w g ts) : RdT w (some ⟨g, 0, none⟩) ts := by
  intro i z hz
  exact ⟨g, 0, rfl, by simpa using h.cell hz⟩
theorem OwnT.set {w : World} {g : Nat} {ts : List ByteArray} (h : OwnT w g ts) (i : Nat) (hi : i < ts.length) (z : ByteArray) : OwnT (w.setCell ⟨g, i, none⟩ (.string z)) g (ts.set i z) := by
  obtain ⟨ex, h⟩ := h
  refine ⟨ex, ?_⟩
  rw [block_setCell (i := i) h (.string z)]
  congr 2
  simp [strV, List.map_set, hi]
theorem OwnT.owns {w : World} {base g n c : Nat} {ts : List ByteArray} (h : w.ownsRow base 9 1 (.slice (some ⟨g, 0, none⟩) n c) n (ts.map strV)) : OwnT w g ts := by
  obtain ⟨_, h2⟩ := h
  rcases h2 with ⟨e, _⟩ | ⟨g', cap, cur, e, hB, hg, _, _, _, ht⟩
  · cases e
  · simp at e
    obtain ⟨rfl, rfl⟩ := e
    refine ⟨cur.toList.drop (n * 1), ?_⟩
    rw [← ht, List.take_append_drop]
    exact hg

theorem bytes_ne {r s : ByteArray} (h : ¬ r = s) : (r.toList == s.toList) = false := by
  rw [ByteArray.toList_eq, ByteArray.toList_eq]
  simp
  intro e
  apply h
  apply ByteArray.ext
  exact e

/-- marks from k on, n of them -/
def from_ (k : Nat) (n : Nat) : List ByteArray := (List.range n).map fun (i : Nat) => mk (k + i)
theorem from_len (k : Nat) (n : Nat) : (from_ k n).length = n := by simp [from_]
theorem from_at (k : Nat) (n i : Nat) (h : i < n) : (from_ k n)[i]? = some (mk (k + i)) := by simp [from_, h]
def marked (k : Nat) (ts : List ByteArray) (i : Nat) : List ByteArray := (from_ k ts.length).take i ++ ts.drop i
theorem marked_zero (k : Nat) (ts : List ByteArray) : marked k ts 0 = ts := by simp [marked]
theorem marked_all (k : Nat) (ts : List ByteArray) : marked k ts ts.length = from_ k ts.length := by
  unfold marked
  rw [List.take_of_length_le (by rw [from_len]; exact Nat.le_refl _)]
  simp
theorem marked_len (k : Nat) (ts : List ByteArray) (i : Nat) (h : i ≤ ts.length) : (marked k ts i).length = ts.length := by simp [marked, from_len]; omega
theorem marked_next (k : Nat) (ts : List ByteArray) (i : Nat) (h : i < ts.length) : (marked k ts i).set i (mk (k + i)) = marked k ts (i + 1) := by
  unfold marked
  have e2 : ((from_ k ts.length).take i).length = i := by simp [from_len]; omega
  rw [List.set_append_right _ _ (by rw [e2]; exact Nat.le_refl _), e2, Nat.sub_self, List.drop_eq_getElem_cons h, List.set_cons_zero, List.take_add_one, from_at k _ i h]
  simp

theorem grew_below {w w' w2 : World} {g : Nat} (h : w.grownBy w' (some g)) (hb : Below w'.heap.size w' w2) : w.grownBy w2 (some g) :=
  ⟨hb.os.trans h.os, hb.tape.trans h.tape, hb.output.trans h.output, Nat.le_trans h.size hb.size, fun k hk hne => (hb.block k (Nat.lt_of_lt_of_le hk h.size)).trans (h.block k hk hne)⟩
theorem grew_set {w w' : World} {g i : Nat} {v : Value} (h : w.grownBy w' (some g)) : w.grownBy (w'.setCell ⟨g, i, none⟩ v) (some g) :=
  ⟨h.os, h.tape, h.output, by simpa using h.size, fun k hk hne => (Below.heap_setCell w' ⟨g, i, none⟩ v k (fun e => hne (by simp at e; rw [e]))).trans (h.block k hk hne)⟩
theorem grew_refl (w : World) (r : Option Nat) : w.grownBy w r := ⟨rfl, rfl, rfl, Nat.le_refl _, fun _ _ _ => rfl⟩

end Go.Proofs.YtlmhdebjmkcanabDoor.strs
namespace Go.Proofs.YtlmhdebjmkcanabDoor.lwb
open Go.RowKit Go.Joins
open Go.Proofs.YtlmhdebjmkcanabDoor.base Go.Proofs.YtlmhdebjmkcanabDoor.blk Go.Proofs.YtlmhdebjmkcanabDoor.aid
open Go.Proofs.YtlmhdebjmkcanabDoor.row (bl en Rd Own OwnV)
open Go.Proofs.YtlmhdebjmkcanabDoor.strs (mk)
set_option linter.unusedVariables false

/-- marks from m on, n blobs -/
def mb (m n : Nat) : List (Int × ByteArray) := (List.range n).map fun (i : Nat) => (((m + 2 * i : Nat) : Int), mk (m + 2 * i + 1))
theorem mb_len (m n : Nat) : (mb m n).length = n := by simp [mb]
theorem mb_at (m n i : Nat) (h : i < n) : (mb m n)[i]? = some (((m + 2 * i : Nat) : Int), mk (m + 2 * i + 1)) := by simp [mb, h]
def mkd (m : Nat) (l : List (Int × ByteArray)) (i : Nat) : List (Int × ByteArray) := (mb m l.length).take i ++ l.drop i
theorem mkd_zero (m : Nat) (l : List (Int × ByteArray)) : mkd m l 0 = l := by simp [mkd]
theorem mkd_all (m : Nat) (l : List (Int × ByteArray)) : mkd m l l.length = mb m l.length := by
  unfold mkd
  rw [List.take_of_length_le (by rw [mb_len]; exact Nat.le_refl _)]
  simp
theorem mkd_len (m : Nat) (l : List (Int × ByteArray)) (i : Nat) (h : i ≤ l.length) : (mkd m l i).length = l.length := by simp [mkd, mb_len]; omega
theorem mkd_next (m : Nat) (l : List (Int × ByteArray)) (i : Nat) (h : i < l.length) : (mkd m l i).set i (((m + 2 * i : Nat) : Int), mk (m + 2 * i + 1)) = mkd m l (i + 1) := by
  unfold mkd
  have e2 : ((mb m l.length).take i).length = i := by simp [mb_len]; omega
  rw [List.set_append_right _ _ (by rw [e2]; exact Nat.le_refl _), e2, Nat.sub_self, List.drop_eq_getElem_cons h, List.set_cons_zero, List.take_add_one, mb_at m _ i h]
  simp
theorem bl_set : ∀ (l : List (Int × ByteArray)) (i : Nat) (x : Int) (y : ByteArray), i < l.length → ((bl l).set (i * 2) (.int .i64 x)).set (i * 2 + 1) (.string y) = bl (l.set i (x, y))
  | [], i, x, y, h => by simp at h
  | c :: l, 0, x, y, h => by simp [row.bl_cons]
  | c :: l, i + 1, x, y, h => by
    rw [row.bl_cons, List.set_cons_succ, row.bl_cons, ← bl_set l i x y (by simpa using h)]
    have e : (i + 1) * 2 = i * 2 + 1 + 1 := by omega
    rw [e]
    simp only [List.set_cons_succ]
theorem bl_set1 : ∀ (l : List (Int × ByteArray)) (i : Nat) (x : Int) (z : Int × ByteArray), l[i]? = some z → (bl l).set (i * 2) (.int .i64 x) = bl (l.set i (x, z.2))
  | [], i, x, z, h => by simp at h
  | c :: l, 0, x, z, h => by
    simp at h
    subst h
    simp [row.bl_cons]
  | c :: l, i + 1, x, z, h => by
    rw [row.bl_cons, List.set_cons_succ, row.bl_cons, ← bl_set1 l i x z (by simpa using h)]
    have e : (i + 1) * 2 = i * 2 + 1 + 1 := by omega
    rw [e]
    simp only [List.set_cons_succ]

theorem set_same {xs : List Value} {i : Nat} {v : Value} (h : xs[i]? = some v) : xs.set i v = xs := by
  apply List.ext_getElem?
  intro j
  by_cases e : i = j
  · subst e
    rw [List.getElem?_set_self (List.getElem?_eq_some_iff.1 h).1, h]
  · rw [List.getElem?_set_ne e]

set_option maxRecDepth 100000 in
theorem markB_any (g cap : Nat) (l : List (Int × ByteArray)) (m : Nat) (w : World) (hl : l.length ≤ 1048576) (hm1 : m ≤ 3000000) (hr : Own 37 w g (bl l)) :
    Calls Tryd.prog 27 #[.slice (some ⟨g, 0, none⟩) l.length cap, .int .i64 m] w fun e w' => e = .returned (.int .i64 ((m : Int) + 2 * l.length)) ∧ Own 37 w' g (bl (mb m l.length)) ∧ w.grownBy w' (some g) := by
  have hmi : (m : Int) ≤ 3000000 := by omega
  go_enter Tryd.func27, Tryd.ntmps27
  go_wp2
  go_loopw [1, 5] (fun c i wr => ∃ k : Nat, k ≤ l.length ∧ i = .int .i64 k ∧ c = .int .i64 ((m : Int) + 2 * k) ∧ Hid (Own 37 wr g (bl (mkd m l k)) ∧ w.grownBy wr (some g)))
    (fun _ i _ => l.length - (intOf i).toNat)
  case atStart => exact ⟨0, Nat.zero_le _, rfl, by simp, mkHid ⟨by rw [mkd_zero]; exact hr, grew_refl _ _⟩⟩
  case round =>
    obtain ⟨k, hk, rfl, rfl, hrow⟩ := hrel
    by_cases hlt : k < l.length
    · have hlti : (k : Int) < (l.length : Int) := by omega
      have hki : (k : Int) ≤ 1048576 := by omega
      have HT : Hid (∀ wx, Calls Tryd.prog 31 #[.int .i64 ((m : Int) + 2 * k + 1)] wx fun e w' => e = .returned (.string (mk (m + 2 * k + 1))) ∧ Below wx.heap.size wx w') := mkHid (fun wx => by
        have h := strs.markText_any (m + 2 * k + 1) wx (by omega)
        simpa using h)
      obtain ⟨y, hy⟩ : ∃ y, (mkd m l k)[k]? = some y := ⟨_, List.getElem?_eq_getElem (by rw [mkd_len m l k hk]; exact hlt)⟩
      obtain ⟨b0, b1⟩ := row.bl_at _ _ _ hy
      have c0 := hrow.out.1.cell b0
      have c1 := hrow.out.1.cell b1
      have hf : ∀ j, wr.frozen? ⟨g, j, none⟩ = false := hrow.out.1.free
      have hkl : k * 2 < (bl (mkd m l k)).length := by rw [row.bl_len, mkd_len m l k hk]; omega
      have O1 : Hid (Own 37 (wr.setCell ⟨g, k * 2, none⟩ (.int .i64 ((m : Int) + 2 * k))) g (bl ((mkd m l k).set k (((m + 2 * k : Nat) : Int), y.2))) ∧ w.grownBy (wr.setCell ⟨g, k * 2, none⟩ (.int .i64 ((m : Int) + 2 * k))) (some g)) := mkHid ⟨by
        have h := hrow.out.1.set (k * 2) hkl (.int .i64 ((m : Int) + 2 * k))
        rw [← bl_set1 _ _ _ _ hy]
        simpa using h, grew_grew hrow.out.2 (grew_cell _ _ _ _)⟩
      have HL : Hid (((mkd m l k).set k (((m + 2 * k : Nat) : Int), y.2)).length = l.length) := mkHid (by rw [List.length_set, mkd_len m l k hk])
      have HX : Hid (((mkd m l k).set k (((m + 2 * k : Nat) : Int), y.2)).set k (((m + 2 * k : Nat) : Int), mk (m + 2 * k + 1)) = mkd m l (k + 1)) := mkHid (by rw [List.set_set, mkd_next m l k hlt])
      have HY : Hid (((mkd m l k).set k (((m + 2 * k : Nat) : Int), y.2))[k]? = some (((m + 2 * k : Nat) : Int), y.2)) := mkHid (by rw [List.getElem?_set_self (by rw [mkd_len m l k hk]; exact hlt)])
      generalize (mkd m l k).set k (((m + 2 * k : Nat) : Int), y.2) = l1 at *
      clear hr hrow b0 b1 hy hkl
      go_wp2_with fail
      refine (HT.out _).mono ?_
      rintro e w1 ⟨rfl, hb1⟩
      have O2 := mkHid (And.intro (O1.out.1.below hb1) (grew_below O1.out.2 hb1))
      obtain ⟨b0, b1⟩ := row.bl_at _ _ _ HY.out
      have c3 := O2.out.1.cell b1
      have hf3 : ∀ j, w1.frozen? ⟨g, j, none⟩ = false := O2.out.1.free
      have N1 : Hid (Own 37 (w1.setCell ⟨g, k * 2 + 1, none⟩ (.string (mk (m + 2 * k + 1)))) g (bl (mkd m l (k + 1))) ∧ w.grownBy (w1.setCell ⟨g, k * 2 + 1, none⟩ (.string (mk (m + 2 * k + 1)))) (some g)) := mkHid ⟨by
        have h := O2.out.1.set (k * 2 + 1) (by rw [row.bl_len, HL.out]; omega) (.string (mk (m + 2 * k + 1)))
        have e0 : (bl l1).set (k * 2 + 1) (.string (mk (m + 2 * k + 1))) = bl (mkd m l (k + 1)) := by
          rw [← HX.out, ← bl_set l1 k _ _ (by rw [HL.out]; exact hlt), set_same b0]
        rw [e0] at h
        exact h, grew_grew O2.out.2 (grew_cell _ _ _ _)⟩
      clear hb1 O1 O2 b0 b1 c0 c1 hf HL HX HY HT
      go_wp2
      go_roundw
      case rel => exact ⟨k + 1, by omega, by go_num, by go_num, N1⟩
      case measure => simp [intOf]; omega
    · obtain rfl : k = l.length := by omega
      have R := hrow.out
      rw [mkd_all] at R
      have R' := mkHid R
      clear R hrow hr
      go_wp2
      go_ret
      exact ⟨rfl, R'.out.1, R'.out.2⟩
set_option maxRecDepth 100000 in
theorem heldB_any (a : Option Addr) (cap n : Nat) (m : Nat) (w : World) (hl : n ≤ 1048576) (hm1 : m ≤ 3000000) (hr : Rd w a (bl (mb m n))) :
    Calls Tryd.prog 28 #[.slice a n cap, .int .i64 m] w fun e w' => e = .returned (.int .i64 ((m : Int) + 2 * n)) ∧ Below w.heap.size w w' := by
  have hmi : (m : Int) ≤ 3000000 := by omega
  go_enter Tryd.func28, Tryd.ntmps28
  go_wp2
  go_loopw [1, 5] (fun c i wr => ∃ k : Nat, k ≤ n ∧ i = .int .i64 k ∧ c = .int .i64 ((m : Int) + 2 * k) ∧ Hid (Below w.heap.size w wr))
    (fun _ i _ => n - (intOf i).toNat)
  case atStart => exact ⟨0, Nat.zero_le _, rfl, by simp, mkHid (Below.refl _ _)⟩
  case round =>
    obtain ⟨k, hk, rfl, rfl, hb⟩ := hrel
    by_cases hlt : k < n
    · obtain ⟨b, off, rfl, c0, c1, hbl⟩ := hr.blob (mb_at m n k hlt)
      have hlti : (k : Int) < (n : Int) := by omega
      have hki : (k : Int) ≤ 1048576 := by omega
      have e0 : wr.cell? ⟨b, off + k * 2, none⟩ = some (.int .i64 ((m : Int) + 2 * k)) := by
        have h := (hb.out.cell (p := ⟨b, off + k * 2, none⟩) hbl).trans c0
        simpa using h
      have HC := mkHid ((hb.out.cell (p := ⟨b, off + k * 2 + 1, none⟩) hbl).trans c1)
      have HT : Hid (∀ wx, Calls Tryd.prog 31 #[.int .i64 ((m : Int) + 2 * k + 1)] wx fun e w' => e = .returned (.string (mk (m + 2 * k + 1))) ∧ Below wx.heap.size wx w') := mkHid (fun wx => by
        have h := strs.markText_any (m + 2 * k + 1) wx (by omega)
        simpa using h)
      have e1 := HC.out
      generalize mk (m + 2 * k + 1) = t at *
      have hk0 : ((m : Int) + 2 * k != (m : Int) + 2 * k) = false := by simp
      have ht0 : (!t.toList == t.toList) = false := by simp
      clear hr c0 c1
      go_wp2_with fail
      go_region_held3 (fun w' => w'.cell? ⟨b, off + k * 2 + 1, none⟩ = some (.string t)) (go_keep)
        ((go_at_call 31; refine Calls.mono (HT.out _) ?_; rintro e w1 ⟨rfl, hb1⟩; have hr1 := re (w := wr) hb1 rfl rfl rfl rfl; have B1 := mkHid (hb.out.trans (hr1.mono hb.out.size)); have q1 := (hr1.cell (p := ⟨b, off + k * 2 + 1, none⟩) (World.block_lt_of_cell? wr _ HC.out)).trans HC.out; clear hb1 hr1))
      go_wp2
      go_roundw
      case rel => exact ⟨k + 1, by omega, by go_num, by go_num, B1⟩
      case measure => simp [intOf]; omega
    · obtain rfl : k = n := by omega
      clear hr
      go_wp2
      go_ret
      exact ⟨rfl, hb.out⟩

theorem markB_nil (cap : Nat) (a : Option Addr) (m : Nat) (w : World) :
    Calls Tryd.prog 27 #[.slice a 0 cap, .int .i64 m] w fun e w' => e = .returned (.int .i64 m) ∧ w' = w := by
  go_enter Tryd.func27, Tryd.ntmps27
  go_wp2
  go_loopw [1, 5] (fun c i wr => i = .int .i64 0 ∧ c = .int .i64 m ∧ wr = w) (fun _ i _ => 0)
  case atStart => exact ⟨rfl, rfl, rfl⟩
  case round =>
    obtain ⟨rfl, rfl, rfl⟩ := hrel
    go_wp2
    go_ret
    exact ⟨rfl, rfl⟩

theorem markVB_any (a : Option Addr) (cap : Nat) (l : List (Int × ByteArray)) (m : Nat) (w : World) (hl : l.length ≤ 1048576) (hm1 : m ≤ 3000000) (hr : OwnV 37 w a (bl l)) :
    Calls Tryd.prog 27 #[.slice a l.length cap, .int .i64 m] w fun e w' => e = .returned (.int .i64 ((m : Int) + 2 * l.length)) ∧ OwnV 37 w' a (bl (mb m l.length)) ∧ w.grownBy w' (a.map (·.block)) := by
  rcases hr with h0 | ⟨g, rfl, ho⟩
  · have hl0 : l = [] := by
      cases l with
      | nil => rfl
      | cons b r => rw [row.bl_cons] at h0; cases h0
    subst hl0
    refine (markB_nil cap a m w).mono ?_
    rintro e w1 ⟨rfl, rfl⟩
    exact ⟨by simp, .inl rfl, grew_refl _ _⟩
  · refine (markB_any g cap l m w hl hm1 ho).mono ?_
    rintro e w1 ⟨rfl, h1, h2⟩
    exact ⟨rfl, .inr ⟨g, rfl, h1⟩, h2⟩
end Go.Proofs.YtlmhdebjmkcanabDoor.lwb
namespace Go.Proofs.YtlmhdebjmkcanabDoor.lwb
open Go.RowKit Go.Joins
open Go.Proofs.YtlmhdebjmkcanabDoor.base Go.Proofs.YtlmhdebjmkcanabDoor.blk Go.Proofs.YtlmhdebjmkcanabDoor.aid
open Go.Proofs.YtlmhdebjmkcanabDoor.row (bl en Rd Own OwnV)
open Go.Proofs.YtlmhdebjmkcanabDoor.strs (mk)
set_option linter.unusedVariables false

/-- marks from m on, n entries -/
def me1 (m i : Nat) : ByteArray × Int × Int × Int := (mk (m + 4 * i), (m : Int) + 4 * i + 1, (m : Int) + 4 * i + 1 + 1, (m : Int) + 4 * i + 1 + 1 + 1)
def me (m n : Nat) : List (ByteArray × Int × Int × Int) := (List.range n).map (me1 m)
theorem me_len (m n : Nat) : (me m n).length = n := by simp [me]
theorem me_at (m n i : Nat) (h : i < n) : (me m n)[i]? = some (me1 m i) := by simp [me, h]
def mkE (m : Nat) (l : List (ByteArray × Int × Int × Int)) (i : Nat) : List (ByteArray × Int × Int × Int) := (me m l.length).take i ++ l.drop i
theorem mkE_zero (m : Nat) (l : List (ByteArray × Int × Int × Int)) : mkE m l 0 = l := by simp [mkE]
theorem mkE_all (m : Nat) (l : List (ByteArray × Int × Int × Int)) : mkE m l l.length = me m l.length := by
  unfold mkE
  rw [List.take_of_length_le (by rw [me_len]; exact Nat.le_refl _)]
  simp
theorem mkE_len (m : Nat) (l : List (ByteArray × Int × Int × Int)) (i : Nat) (h : i ≤ l.length) : (mkE m l i).length = l.length := by simp [mkE, me_len]; omega
theorem mkE_next (m : Nat) (l : List (ByteArray × Int × Int × Int)) (i : Nat) (h : i < l.length) : (mkE m l i).set i (me1 m i) = mkE m l (i + 1) := by
  unfold mkE
  have e2 : ((me m l.length).take i).length = i := by simp [me_len]; omega
  rw [List.set_append_right _ _ (by rw [e2]; exact Nat.le_refl _), e2, Nat.sub_self, List.drop_eq_getElem_cons h, List.set_cons_zero, List.take_add_one, me_at m _ i h]
  simp
theorem en_set : ∀ (l : List (ByteArray × Int × Int × Int)) (i : Nat) (x : ByteArray) (a b c : Int), i < l.length → ((((en l).set (i * 4) (.string x)).set (i * 4 + 1) (.int .i64 a)).set (i * 4 + 2) (.int .i64 b)).set (i * 4 + 3) (.int .i64 c) = en (l.set i (x, a, b, c))
  | [], i, x, a, b, c, h => by simp at h
  | z :: l, 0, x, a, b, c, h => by simp [row.en_cons]
  | z :: l, i + 1, x, a, b, c, h => by
    rw [row.en_cons, List.set_cons_succ, row.en_cons, ← en_set l i x a b c (by simpa using h)]
    have e : (i + 1) * 4 = i * 4 + 1 + 1 + 1 + 1 := by omega
    rw [e]
    simp only [List.set_cons_succ]

set_option maxRecDepth 100000 in
theorem markE_any (g cap : Nat) (l : List (ByteArray × Int × Int × Int)) (m : Nat) (w : World) (hl : l.length ≤ 100000) (hm1 : m ≤ 3000000) (hr : Own 41 w g (en l)) :
    Calls Tryd.prog 14 #[.slice (some ⟨g, 0, none⟩) l.length cap, .int .i64 m] w fun e w' => e = .returned (.int .i64 ((m : Int) + 4 * l.length)) ∧ Own 41 w' g (en (me m l.length)) ∧ w.grownBy w' (some g) := by
  have hmi : (m : Int) ≤ 3000000 := by omega
  go_enter Tryd.func14, Tryd.ntmps14
  go_wp2
  go_loopw [1, 5] (fun c i wr => ∃ k : Nat, k ≤ l.length ∧ i = .int .i64 k ∧ c = .int .i64 ((m : Int) + 4 * k) ∧ Hid (Own 41 wr g (en (mkE m l k)) ∧ w.grownBy wr (some g)))
    (fun _ i _ => l.length - (intOf i).toNat)
  case atStart => exact ⟨0, Nat.zero_le _, rfl, by simp, mkHid ⟨by rw [mkE_zero]; exact hr, grew_refl _ _⟩⟩
  case round =>
    obtain ⟨k, hk, rfl, rfl, hrow⟩ := hrel
    by_cases hlt : k < l.length
    · have hlti : (k : Int) < (l.length : Int) := by omega
      have hki : (k : Int) ≤ 100000 := by omega
      have HT : Hid (∀ wx, Calls Tryd.prog 31 #[.int .i64 ((m : Int) + 4 * k)] wx fun e w' => e = .returned (.string (mk (m + 4 * k))) ∧ Below wx.heap.size wx w') := mkHid (fun wx => by
        have h := strs.markText_any (m + 4 * k) wx (by omega)
        simpa using h)
      obtain ⟨y, hy⟩ : ∃ y, (mkE m l k)[k]? = some y := ⟨_, List.getElem?_eq_getElem (by rw [mkE_len m l k hk]; exact hlt)⟩
      have HY := mkHid hy
      clear hr hy
      go_wp2_with fail
      refine (HT.out _).mono ?_
      rintro e w1 ⟨rfl, hb1⟩
      have O2 := mkHid (And.intro (hrow.out.1.below hb1) (grew_below hrow.out.2 hb1))
      obtain ⟨b0, b1, b2, b3⟩ := row.en_at _ _ _ HY.out
      have c0 := O2.out.1.cell b0
      have c1 := O2.out.1.cell b1
      have c2 := O2.out.1.cell b2
      have c3 := O2.out.1.cell b3
      have hf3 : ∀ j, w1.frozen? ⟨g, j, none⟩ = false := O2.out.1.free
      have hkl : (en (mkE m l k)).length = 4 * l.length := by rw [row.en_len, mkE_len m l k hk]
      have N1 : Hid (Own 41 ((((w1.setCell ⟨g, k * 4, none⟩ (.string (mk (m + 4 * k)))).setCell ⟨g, k * 4 + 1, none⟩ (.int .i64 ((m : Int) + 4 * k + 1))).setCell ⟨g, k * 4 + 2, none⟩ (.int .i64 ((m : Int) + 4 * k + 1 + 1))).setCell ⟨g, k * 4 + 3, none⟩ (.int .i64 ((m : Int) + 4 * k + 1 + 1 + 1))) g (en (mkE m l (k + 1))) ∧
          w.grownBy ((((w1.setCell ⟨g, k * 4, none⟩ (.string (mk (m + 4 * k)))).setCell ⟨g, k * 4 + 1, none⟩ (.int .i64 ((m : Int) + 4 * k + 1))).setCell ⟨g, k * 4 + 2, none⟩ (.int .i64 ((m : Int) + 4 * k + 1 + 1))).setCell ⟨g, k * 4 + 3, none⟩ (.int .i64 ((m : Int) + 4 * k + 1 + 1 + 1))) (some g)) := mkHid ⟨by
        have h := (((O2.out.1.set (k * 4) (by omega) (.string (mk (m + 4 * k)))).set (k * 4 + 1) (by simp; omega) (.int .i64 ((m : Int) + 4 * k + 1))).set (k * 4 + 2) (by simp; omega) (.int .i64 ((m : Int) + 4 * k + 1 + 1))).set (k * 4 + 3) (by simp; omega) (.int .i64 ((m : Int) + 4 * k + 1 + 1 + 1))
        rw [en_set _ _ _ _ _ _ (by rw [mkE_len m l k hk]; exact hlt)] at h
        have e0 := mkE_next m l k hlt
        unfold me1 at e0
        rw [e0] at h
        exact h, grew_grew (grew_grew (grew_grew (grew_grew O2.out.2 (grew_cell _ _ _ _)) (grew_cell _ _ _ _)) (grew_cell _ _ _ _)) (grew_cell _ _ _ _)⟩
      clear hb1 O2 b0 b1 b2 b3 HY HT hrow hkl
      go_wp2
      exact ⟨⟨k + 1, by omega, by go_num, by go_num, N1⟩, by simp [intOf]; omega⟩
    · obtain rfl : k = l.length := by omega
      have R := hrow.out
      rw [mkE_all] at R
      have R' := mkHid R
      clear R hrow hr
      go_wp2
      go_ret
      exact ⟨rfl, R'.out.1, R'.out.2⟩

set_option maxRecDepth 100000 in
theorem heldE_any (a : Option Addr) (cap n : Nat) (m : Nat) (w : World) (hl : n ≤ 100000) (hm1 : m ≤ 3000000) (hr : Rd w a (en (me m n))) :
    Calls Tryd.prog 15 #[.slice a n cap, .int .i64 m] w fun e w' => e = .returned (.int .i64 ((m : Int) + 4 * n)) ∧ Below w.heap.size w w' := by
  have hmi : (m : Int) ≤ 3000000 := by omega
  go_enter Tryd.func15, Tryd.ntmps15
  go_wp2
  go_loopw [1, 5] (fun c i wr => ∃ k : Nat, k ≤ n ∧ i = .int .i64 k ∧ c = .int .i64 ((m : Int) + 4 * k) ∧ Hid (Below w.heap.size w wr))
    (fun _ i _ => n - (intOf i).toNat)
  case atStart => exact ⟨0, Nat.zero_le _, rfl, by simp, mkHid (Below.refl _ _)⟩
  case round =>
    obtain ⟨k, hk, rfl, rfl, hb⟩ := hrel
    by_cases hlt : k < n
    · obtain ⟨b, off, rfl, c0, c1, c2, c3, hbl⟩ := hr.entry (me_at m n k hlt)
      have hlti : (k : Int) < (n : Int) := by omega
      have hki : (k : Int) ≤ 100000 := by omega
      simp only [me1] at c0 c1 c2 c3
      have HC := mkHid (And.intro ((hb.out.cell (p := ⟨b, off + k * 4, none⟩) hbl).trans c0) (And.intro ((hb.out.cell (p := ⟨b, off + k * 4 + 1, none⟩) hbl).trans c1) (And.intro ((hb.out.cell (p := ⟨b, off + k * 4 + 2, none⟩) hbl).trans c2) ((hb.out.cell (p := ⟨b, off + k * 4 + 3, none⟩) hbl).trans c3))))
      have HT : Hid (∀ wx, Calls Tryd.prog 31 #[.int .i64 ((m : Int) + 4 * k)] wx fun e w' => e = .returned (.string (mk (m + 4 * k))) ∧ Below wx.heap.size wx w') := mkHid (fun wx => by
        have h := strs.markText_any (m + 4 * k) wx (by omega)
        simpa using h)
      generalize mk (m + 4 * k) = t at *
      have e0 := HC.out.1
      have hk1 : ((m : Int) + 4 * k + 1 != (m : Int) + 4 * k + 1) = false := by simp
      have hk2 : ((m : Int) + 4 * k + 1 + 1 != (m : Int) + 4 * k + 1 + 1) = false := by simp
      have hk3 : ((m : Int) + 4 * k + 1 + 1 + 1 != (m : Int) + 4 * k + 1 + 1 + 1) = false := by simp
      have ht0 : (!t.toList == t.toList) = false := by simp
      clear hr c0 c1 c2 c3
      go_wp2_with fail
      go_region_held3 (fun w' => w'.cell? ⟨b, off + k * 4, none⟩ = some (.string t)) (go_keep)
        ((go_at_call 31; refine Calls.mono (HT.out _) ?_; rintro e w1 ⟨rfl, hb1⟩; have hr1 := re (w := wr) hb1 rfl rfl rfl rfl; have B1 := mkHid (hb.out.trans (hr1.mono hb.out.size)); have q0 := (hr1.cell (p := ⟨b, off + k * 4, none⟩) (World.block_lt_of_cell? wr _ HC.out.1)).trans HC.out.1; have q1 := (hr1.cell (p := ⟨b, off + k * 4 + 1, none⟩) (World.block_lt_of_cell? wr _ HC.out.2.1)).trans HC.out.2.1; have q2 := (hr1.cell (p := ⟨b, off + k * 4 + 2, none⟩) (World.block_lt_of_cell? wr _ HC.out.2.2.1)).trans HC.out.2.2.1; have q3 := (hr1.cell (p := ⟨b, off + k * 4 + 3, none⟩) (World.block_lt_of_cell? wr _ HC.out.2.2.2)).trans HC.out.2.2.2; clear hb1 hr1))
      go_wp2
      exact ⟨⟨k + 1, by omega, by go_num, by go_num, B1⟩, by simp [intOf]; omega⟩
    · obtain rfl : k = n := by omega
      clear hr
      go_wp2
      go_ret
      exact ⟨rfl, hb.out⟩

theorem markE_nil (cap : Nat) (a : Option Addr) (m : Nat) (w : World) :
    Calls Tryd.prog 14 #[.slice a 0 cap, .int .i64 m] w fun e w' => e = .returned (.int .i64 m) ∧ w' = w := by
  go_enter Tryd.func14, Tryd.ntmps14
  go_wp2
  go_loopw [1, 5] (fun c i wr => i = .int .i64 0 ∧ c = .int .i64 m ∧ wr = w) (fun _ i _ => 0)
  case atStart => exact ⟨rfl, rfl, rfl⟩
  case round =>
    obtain ⟨rfl, rfl, rfl⟩ := hrel
    go_wp2
    go_ret
    exact ⟨rfl, rfl⟩

theorem markVE_any (a : Option Addr) (cap : Nat) (l : List (ByteArray × Int × Int × Int)) (m : Nat) (w : World) (hl : l.length ≤ 100000) (hm1 : m ≤ 3000000) (hr : OwnV 41 w a (en l)) :
    Calls Tryd.prog 14 #[.slice a l.length cap, .int .i64 m] w fun e w' => e = .returned (.int .i64 ((m : Int) + 4 * l.length)) ∧ OwnV 41 w' a (en (me m l.length)) ∧ w.grownBy w' (a.map (·.block)) := by
  rcases hr with h0 | ⟨g, rfl, ho⟩
  · have hl0 : l = [] := by
      cases l with
      | nil => rfl
      | cons b r => rw [row.en_cons] at h0; cases h0
    subst hl0
    refine (markE_nil cap a m w).mono ?_
    rintro e w1 ⟨rfl, rfl⟩
    exact ⟨by simp, .inl rfl, grew_refl _ _⟩
  · refine (markE_any g cap l m w hl hm1 ho).mono ?_
    rintro e w1 ⟨rfl, h1, h2⟩
    exact ⟨rfl, .inr ⟨g, rfl, h1⟩, h2⟩
end Go.Proofs.YtlmhdebjmkcanabDoor.lwb
