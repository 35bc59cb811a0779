/-
  Rows of texts in memory: what laws.markText, eqStringS, markStringS and heldStringS answer and leave. Conditions: at most 1,048,576 texts, which lie in memory; a row that is written lies in a block of its own, maybe with room behind it.
-/
import Derived.Test.YtlcdbkelonbcfaaBlk
import Derived.Deep.RegionHeld3
import Derived.Deep.QuietTactic
import Derived.BigQuiet
namespace Go.Proofs.Ytlcdbkelonbcfaa.strs
open Go.RowKit Go.Joins
open Go.Proofs.Ytlcdbkelonbcfaa.base Go.Proofs.Ytlcdbkelonbcfaa.blk
set_option linter.unusedVariables false

theorem ret_eq {a b : Value} (h : a = b) : Ending.returned a = Ending.returned b := by rw [h]
/-- digits of ten ahead of what is there -/
def dg : Nat → Nat → List UInt8 → List UInt8
  | 0, _, acc => acc
  | f + 1, n, acc => if n = 0 then acc else dg f (n / 10) (UInt8.ofNat (48 + n % 10) :: acc)
theorem dg_fuel : ∀ f n acc, n ≤ f → dg f n acc = dg n n acc := by
  intro f
  induction f using Nat.strongRecOn with
  | _ f ih =>
    intro n acc h
    cases f with
    | zero => obtain rfl : n = 0 := by omega
              rfl
    | succ f =>
      cases n with
      | zero => rfl
      | succ n =>
        rw [dg, dg, if_neg (by omega), if_neg (by omega)]
        rw [ih f (by omega) _ _ (by omega)]
        by_cases hn : n < f
        · rw [ih n (by omega) _ _ (by omega)]
        · obtain rfl : n = f := by omega
          rw [ih n (by omega) _ _ (by omega)]
def digs (n : Nat) (acc : List UInt8) : List UInt8 := dg n n acc
theorem digs_zero (acc : List UInt8) : digs 0 acc = acc := rfl
theorem digs_next (n : Nat) (acc : List UInt8) (h : 0 < n) : digs n acc = digs (n / 10) (UInt8.ofNat (48 + n % 10) :: acc) := by
  cases n with
  | zero => omega
  | succ n =>
    unfold digs
    rw [dg, if_neg (by omega), dg_fuel n _ _ (by omega)]
/-- the mark of a number -/
def mk (k : Nat) : ByteArray := if k = 0 then ⟨#[109, 48]⟩ else ⟨(109 :: digs k []).toArray⟩

theorem one_str (b : UInt8) (l : List UInt8) : (⟨#[b]⟩ : ByteArray) ++ ⟨l.toArray⟩ = ⟨(b :: l).toArray⟩ := by
  apply ByteArray.ext
  simp

set_option maxRecDepth 100000 in
theorem markText_any (k : Nat) (w : World) (hk : k ≤ 1000000000) : Calls Try.prog 40 #[.int .i64 k] w fun e w' => e = .returned (.string (mk k)) ∧ Below w.heap.size w w' := by
  have hki : (k : Int) ≤ 1000000000 := by omega
  go_enter Try.func40, Try.ntmps40
  by_cases h0 : (k : Int) ≤ 0
  · have E := mkHid (show mk k = ⟨#[109, 48]⟩ by unfold mk; rw [if_pos (by omega)])
    go_wp2
    go_ret
    exact ⟨ret_eq (by rw [E.out]; rfl), Below.refl _ _⟩
  · have h0' : 0 < (k : Int) := by omega
    go_wp2
    go_loopw [0, 3] (fun v o wr => ∃ (n : Nat) (acc : List UInt8), n ≤ k ∧ v = .int .i64 n ∧ o = .string ⟨acc.toArray⟩ ∧ acc.length ≤ 10 ∧ Hid (digs n acc = digs k []) ∧ Hid (n * 10 ^ acc.length ≤ k) ∧ Hid (Below w.heap.size w wr))
      (fun v _ _ => (intOf v).toNat)
    case atStart => exact ⟨k, [], by omega, rfl, rfl, by simp, mkHid rfl, mkHid (by simp), mkHid (Below.refl _ _)⟩
    case round =>
      obtain ⟨n, acc, hn, rfl, rfl, hl, hd, hp, hb⟩ := hrel
      by_cases hlt : 0 < n
      · have hlti : 0 < (n : Int) := by omega
        have hni : (n : Int) ≤ 1000000000 := by omega
        have hl9 : acc.length ≤ 9 := by
          rcases Nat.lt_or_ge 9 acc.length with h9 | h9
          · have q1 : 10 ^ 10 ≤ 10 ^ acc.length := Nat.pow_le_pow_right (by omega) (by omega)
            have q2 : 1 * 10 ^ acc.length ≤ n * 10 ^ acc.length := Nat.mul_le_mul_right _ (by omega)
            have q3 := hp.out
            omega
          · exact h9
        obtain ⟨b, hbv⟩ : ∃ b : UInt8, b = UInt8.ofNat (48 + n % 10) := ⟨_, rfl⟩
        have hbn : (b.toNat : Int) = 48 + (n : Int) % 10 := by rw [hbv, toNat_ofNat (by omega)]; omega
        have N1 : Hid (digs (n / 10) (b :: acc) = digs k []) := mkHid (by rw [← hd.out, digs_next n acc hlt, hbv])
        have N2 : Hid (n / 10 * 10 ^ (b :: acc).length ≤ k) := mkHid (by
          have := hp.out
          rw [List.length_cons, Nat.pow_succ, Nat.mul_comm (10 ^ acc.length) 10, ← Nat.mul_assoc]
          exact Nat.le_trans (Nat.mul_le_mul_right _ (Nat.div_mul_le_self n 10)) this)
        have hconv0 := run_convert_bytes_back (P := Try.prog) (wr.alloc (.cells #[.int .u8 (b.toNat : Int)] 5)) 102 9 5 ⟨wr.heap.size, 0, none⟩ 1 [b] Try.underlying102 Try.underlying5 Try.underlying9 (by
          intro j hj
          match j, hj with
          | 0, hj => simp [Addr.add])
        have hconv : (convert 102 9 (.slice (some ⟨wr.heap.size, 0, none⟩) 1 1)).run Try.prog (wr.alloc (.cells #[.int .u8 (48 + (n : Int) % 10)] 5)) = .ok (.string ⟨#[b]⟩) (wr.alloc (.cells #[.int .u8 (48 + (n : Int) % 10)] 5)) := by rw [← hbn]; exact hconv0
        have B2 := mkHid (hb.out.alloc hb.out.size (.cells #[.int .u8 (48 + (n : Int) % 10)] 5))
        have hs2 : ((⟨#[b]⟩ : ByteArray).size : Int) + ((⟨acc.toArray⟩ : ByteArray).size : Int) ≤ 20 := by
          show ((#[b] : Array UInt8).size : Int) + (acc.toArray.size : Int) ≤ 20
          simp
          omega
        have E := one_str b acc
        clear hconv0 hd hp hb hbv hbn
        go_wp2
        exact ⟨⟨n / 10, b :: acc, by omega, by go_num, rfl, by simp; omega, N1, N2, B2⟩, by simp [intOf]; omega⟩
      · have hn0 : n = 0 := by omega
        subst hn0
        have E := mkHid (show (⟨(109 :: acc).toArray⟩ : ByteArray) = mk k by
          have h := hd.out
          rw [digs_zero] at h
          unfold mk
          rw [if_neg (by omega), h])
        have E2 := one_str 109 acc
        have hs2 : ((⟨#[109]⟩ : ByteArray).size : Int) + ((⟨acc.toArray⟩ : ByteArray).size : Int) ≤ 20 := by
          show ((#[109] : Array UInt8).size : Int) + (acc.toArray.size : Int) ≤ 20
          simp
          omega
        clear hd hp
        go_wp2
        go_ret
        exact ⟨ret_eq (by rw [← E.out]; rfl), hb.out⟩

/-- a text as a cell -/
def strV (t : ByteArray) : Value := .string t
/-- the texts of a slice lie in memory -/
def RdT (w : World) (a : Option Addr) (ts : List ByteArray) : Prop :=
  ∀ i t, ts[i]? = some t → ∃ b off, a = some ⟨b, off, none⟩ ∧ w.cell? ⟨b, off + i, none⟩ = some (.string t)
theorem RdT.block {w w' : World} {a : Option Addr} {ts : List ByteArray} (h : RdT w a ts) (hb : ∀ b off, a = some ⟨b, off, none⟩ → b < w.heap.size → w'.heap[b]? = w.heap[b]?) : RdT w' a ts := by
  intro i z hz
  obtain ⟨b, off, e1, e2⟩ := h i z hz
  refine ⟨b, off, e1, ?_⟩
  rw [World.cell?_of_block (w := w) (a := ⟨b, off + i, none⟩) (hb b off e1 (World.block_lt_of_cell? w _ e2))]
  exact e2
theorem RdT.below {w w' : World} {a : Option Addr} {ts : List ByteArray} (h : RdT w a ts) (hb : Below w.heap.size w w') : RdT w' a ts := h.block fun b _ _ hl => hb.block b hl
theorem RdT.alloc {w : World} {a : Option Addr} {ts : List ByteArray} (h : RdT w a ts) (o : Obj) : RdT (w.alloc o) a ts := h.below ((Below.refl _ _).alloc (Nat.le_refl _) o)
theorem RdT.nil (w : World) (a : Option Addr) : RdT w a [] := by intro i z h; simp at h

/-- a row in a block of its own, with room behind it -/
def OwnT (w : World) (g : Nat) (ts : List ByteArray) : Prop := ∃ ex : List Value, w.heap[g]? = some (.cells (ts.map strV ++ ex).toArray 9 (0, 0))
theorem OwnT.lt {w : World} {g : Nat} {ts : List ByteArray} (h : OwnT w g ts) : g < w.heap.size := by
  obtain ⟨ex, h⟩ := h
  exact (Array.getElem?_eq_some_iff.1 h).1
theorem OwnT.block {w w' : World} {g : Nat} {ts : List ByteArray} (h : OwnT w g ts) (hb : w'.heap[g]? = w.heap[g]?) : OwnT w' g ts := by
  obtain ⟨ex, h⟩ := h
  exact ⟨ex, hb.trans h⟩
theorem OwnT.below {w w' : World} {g : Nat} {ts : List ByteArray} (h : OwnT w g ts) (hb : Below w.heap.size w w') : OwnT w' g ts := h.block (hb.block g h.lt)
theorem OwnT.cell {w : World} {g : Nat} {ts : List ByteArray} (h : OwnT w g ts) {i : Nat} {z : ByteArray} (hz : ts[i]? = some z) : w.cell? ⟨g, i, none⟩ = some (.string z) := by
  obtain ⟨ex, h⟩ := h
  have hi : i < ts.length := (List.getElem?_eq_some_iff.1 hz).1
  rw [cell_of_block h]
  simp [List.getElem?_append, hi, strV]
  exact (List.getElem?_eq_some_iff.1 hz).2
theorem OwnT.free {w : World} {g : Nat} {ts : List ByteArray} (h : OwnT w g ts) (i : Nat) : w.frozen? ⟨g, i, none⟩ = false := by
  obtain ⟨ex, h⟩ := h
  exact unfrozen_of_block h i
theorem OwnT.rd {w : World} {g : Nat} {ts : List ByteArray} (h : OwnT w g ts) : RdT w (some ⟨g, 0, none⟩) ts := by
  intro i z hz
  exact ⟨g, 0, rfl, by simpa using h.cell hz⟩
theorem OwnT.set {w : World} {g : Nat} {ts : List ByteArray} (h : OwnT w g ts) (i : Nat) (hi : i < ts.length) (z : ByteArray) : OwnT (w.setCell ⟨g, i, none⟩ (.string z)) g (ts.set i z) := by
  obtain ⟨ex, h⟩ := h
  refine ⟨ex, ?_⟩
  rw [block_setCell (i := i) h (.string z)]
  congr 2
  simp [strV, List.map_set, hi]
theorem OwnT.owns {w : World} {base g n c : Nat} {ts : List ByteArray} (h : w.ownsRow base 9 1 (.slice (some ⟨g, 0, none⟩) n c) n (ts.map strV)) : OwnT w g ts := by
  obtain ⟨_, h2⟩ := h
  rcases h2 with ⟨e, _⟩ | ⟨g', cap, cur, e, hB, hg, _, _, _, ht⟩
  · cases e
  · simp at e
    obtain ⟨rfl, rfl⟩ := e
    refine ⟨cur.toList.drop (n * 1), ?_⟩
    rw [← ht, List.take_append_drop]
    exact hg

theorem bytes_ne {r s : ByteArray} (h : ¬ r = s) : (r.toList == s.toList) = false := by
  rw [ByteArray.toList_eq, ByteArray.toList_eq]
  simp
  intro e
  apply h
  apply ByteArray.ext
  exact e

set_option maxRecDepth 100000 in
theorem eqT_any (a b : Option Addr) (ca cb : Nat) (xs ys : List ByteArray) (w : World) (hx : xs.length ≤ 1048576) (hy : ys.length ≤ 1048576) (ha : RdT w a xs) (hb : RdT w b ys) :
    Calls Try.prog 12 #[.slice a xs.length ca, .slice b ys.length cb] w fun e w' => e = .returned (.bool (decide (xs = ys))) ∧ Below w.heap.size w w' := by
  go_enter Try.func12, Try.ntmps12
  by_cases hl : xs.length = ys.length
  · have hli : (xs.length : Int) = (ys.length : Int) := by omega
    go_wp2
    go_loopw [5] (fun i wr => ∃ k : Nat, k ≤ xs.length ∧ i = .int .i64 k ∧ Hid (xs.take k = ys.take k) ∧ Below w.heap.size w wr)
      (fun i _ => xs.length - (intOf i).toNat)
    case atStart => exact ⟨0, Nat.zero_le _, rfl, mkHid (by simp), Below.refl _ _⟩
    case round =>
      obtain ⟨k, hk, rfl, heq, hbel⟩ := hrel
      by_cases hlt : k < xs.length
      · obtain ⟨x, hxk⟩ : ∃ z, xs[k]? = some z := ⟨_, List.getElem?_eq_getElem hlt⟩
        obtain ⟨y, hyk⟩ : ∃ z, ys[k]? = some z := ⟨_, List.getElem?_eq_getElem (by omega)⟩
        obtain ⟨b1, off1, rfl, hc1⟩ := ha k x hxk
        obtain ⟨b2, off2, rfl, hc2⟩ := hb k y hyk
        have hcell1 : wr.cell? ⟨b1, off1 + k, none⟩ = some (.string x) := (hbel.cell (p := ⟨b1, off1 + k, none⟩) (World.block_lt_of_cell? w _ hc1)).trans hc1
        have hcell2 : wr.cell? ⟨b2, off2 + k, none⟩ = some (.string y) := (hbel.cell (p := ⟨b2, off2 + k, none⟩) (World.block_lt_of_cell? w _ hc2)).trans hc2
        have hlti : (k : Int) < (xs.length : Int) := by omega
        have hlti2 : (k : Int) < (ys.length : Int) := by omega
        by_cases hxy : x = y
        · have N : Hid (xs.take (k + 1) = ys.take (k + 1)) := by
            show xs.take (k + 1) = ys.take (k + 1)
            rw [List.take_add_one, List.take_add_one, heq.out, hxk, hyk, hxy]
          subst hxy
          clear heq hc1 hc2 hxk hyk
          go_wp2
          go_region
          go_wp2
          go_roundw
          case rel => exact ⟨k + 1, by omega, by go_num, N, by repeat (first | exact hbel | apply Below.drew)⟩
          case measure => simp [intOf]; omega
        · have hne : decide (xs = ys) = false := by
            apply decide_eq_false
            intro e
            subst e
            rw [hxk] at hyk
            exact hxy (Option.some.inj hyk)
          have hxy' := bytes_ne hxy
          clear heq hc1 hc2 hxk hyk
          go_wp2
          go_region
          go_wp2
          go_ret
          exact ⟨ret_eq (by rw [hne]; rfl), by repeat (first | exact hbel | apply Below.drew)⟩
      · obtain rfl : k = xs.length := by omega
        have e : decide (xs = ys) = true := by
          have h := heq.out
          rw [List.take_of_length_le (Nat.le_refl _), List.take_of_length_le (by omega)] at h
          exact decide_eq_true h
        clear heq
        go_wp2
        go_ret
        exact ⟨ret_eq (by rw [e]; rfl), hbel⟩
  · have hli : ¬ ((xs.length : Int) = (ys.length : Int)) := by omega
    have e : decide (xs = ys) = false := decide_eq_false (fun e => hl (by rw [e]))
    go_wp2
    go_ret
    exact ⟨ret_eq (by rw [e]; rfl), Below.refl _ _⟩

/-- marks from k on, n of them -/
def from_ (k : Nat) (n : Nat) : List ByteArray := (List.range n).map fun (i : Nat) => mk (k + i)
theorem from_len (k : Nat) (n : Nat) : (from_ k n).length = n := by simp [from_]
theorem from_at (k : Nat) (n i : Nat) (h : i < n) : (from_ k n)[i]? = some (mk (k + i)) := by simp [from_, h]
def marked (k : Nat) (ts : List ByteArray) (i : Nat) : List ByteArray := (from_ k ts.length).take i ++ ts.drop i
theorem marked_zero (k : Nat) (ts : List ByteArray) : marked k ts 0 = ts := by simp [marked]
theorem marked_all (k : Nat) (ts : List ByteArray) : marked k ts ts.length = from_ k ts.length := by
  unfold marked
  rw [List.take_of_length_le (by rw [from_len]; exact Nat.le_refl _)]
  simp
theorem marked_len (k : Nat) (ts : List ByteArray) (i : Nat) (h : i ≤ ts.length) : (marked k ts i).length = ts.length := by simp [marked, from_len]; omega
theorem marked_next (k : Nat) (ts : List ByteArray) (i : Nat) (h : i < ts.length) : (marked k ts i).set i (mk (k + i)) = marked k ts (i + 1) := by
  unfold marked
  have e2 : ((from_ k ts.length).take i).length = i := by simp [from_len]; omega
  rw [List.set_append_right _ _ (by rw [e2]; exact Nat.le_refl _), e2, Nat.sub_self, List.drop_eq_getElem_cons h, List.set_cons_zero, List.take_add_one, from_at k _ i h]
  simp

theorem grew_below {w w' w2 : World} {g : Nat} (h : w.grownBy w' (some g)) (hb : Below w'.heap.size w' w2) : w.grownBy w2 (some g) :=
  ⟨hb.os.trans h.os, hb.tape.trans h.tape, hb.output.trans h.output, Nat.le_trans h.size hb.size, fun k hk hne => (hb.block k (Nat.lt_of_lt_of_le hk h.size)).trans (h.block k hk hne)⟩
theorem grew_set {w w' : World} {g i : Nat} {v : Value} (h : w.grownBy w' (some g)) : w.grownBy (w'.setCell ⟨g, i, none⟩ v) (some g) :=
  ⟨h.os, h.tape, h.output, by simpa using h.size, fun k hk hne => (Below.heap_setCell w' ⟨g, i, none⟩ v k (fun e => hne (by simp at e; rw [e]))).trans (h.block k hk hne)⟩
theorem grew_refl (w : World) (r : Option Nat) : w.grownBy w r := ⟨rfl, rfl, rfl, Nat.le_refl _, fun _ _ _ => rfl⟩

set_option maxRecDepth 100000 in
theorem markT_any (g cap : Nat) (ts : List ByteArray) (m : Nat) (w : World) (hl : ts.length ≤ 1048576) (hm1 : m ≤ 3000000) (hr : OwnT w g ts) :
    Calls Try.prog 15 #[.slice (some ⟨g, 0, none⟩) ts.length cap, .int .i64 m] w fun e w' => e = .returned (.int .i64 ((m : Int) + ts.length)) ∧ OwnT w' g (from_ m ts.length) ∧ w.grownBy w' (some g) := by
  have hmi : (m : Int) ≤ 3000000 := by omega
  go_enter Try.func15, Try.ntmps15
  go_wp2
  go_loopw [1, 5] (fun c i wr => ∃ k : Nat, k ≤ ts.length ∧ i = .int .i64 k ∧ c = .int .i64 ((m : Int) + k) ∧ Hid (OwnT wr g (marked m ts k) ∧ w.grownBy wr (some g)))
    (fun _ i _ => ts.length - (intOf i).toNat)
  case atStart => exact ⟨0, Nat.zero_le _, rfl, by simp, mkHid ⟨by rw [marked_zero]; exact hr, grew_refl _ _⟩⟩
  case round =>
    obtain ⟨k, hk, rfl, rfl, hrow⟩ := hrel
    by_cases hlt : k < ts.length
    · have hlti : (k : Int) < (ts.length : Int) := by omega
      have hki : (k : Int) ≤ 1048576 := by omega
      have HT : Hid (∀ wx, Calls Try.prog 40 #[.int .i64 ((m : Int) + k)] wx fun e w' => e = .returned (.string (mk (m + k))) ∧ Below wx.heap.size wx w') := mkHid (fun wx => by
        have h := markText_any (m + k) wx (by omega)
        simpa using h)
      go_wp2_with fail
      refine (HT.out _).mono ?_
      rintro e w1 ⟨rfl, hb1⟩
      obtain ⟨y, hy⟩ : ∃ y, (marked m ts k)[k]? = some y := ⟨_, List.getElem?_eq_getElem (by rw [marked_len m ts k hk]; exact hlt)⟩
      have o1 := hrow.out.1.below hb1
      have hcell2 : w1.cell? ⟨g, k, none⟩ = some (.string y) := o1.cell hy
      have hf : w1.frozen? ⟨g, k, none⟩ = false := o1.free k
      have N1 : Hid (OwnT (w1.setCell ⟨g, k, none⟩ (.string (mk (m + k)))) g (marked m ts (k + 1)) ∧ w.grownBy (w1.setCell ⟨g, k, none⟩ (.string (mk (m + k)))) (some g)) := by
        refine mkHid ⟨?_, grew_set (grew_below hrow.out.2 hb1)⟩
        rw [← marked_next m ts k hlt]; exact o1.set k (by rw [marked_len m ts k hk]; exact hlt) _
      clear hrow hy hr o1 hb1 HT
      go_wp2
      go_roundw
      case rel => exact ⟨k + 1, by omega, by go_num, by go_num, N1⟩
      case measure => simp [intOf]; omega
    · obtain rfl : k = ts.length := by omega
      have R := hrow.out
      rw [marked_all] at R
      have R' := mkHid R
      clear R hrow hr
      go_wp2
      go_ret
      exact ⟨rfl, R'.out.1, R'.out.2⟩
end Go.Proofs.Ytlcdbkelonbcfaa.strs
