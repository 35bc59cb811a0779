/-
  Rows of Storeds in memory, as cells; what laws.szStored, toStored, eqStored and szStoredS, toStoredS, eqStoredS, markStoredS, heldStoredS answer and leave. Conditions: at most 1,048,576 of them (100,000 where they are marked), which lie in memory; a row that is written lies in a block of its own.
-/
import Derived.Test.YtlcdbkelonbcfaaCells
import Derived.Test.YtlcdbkelonbcfaaStrs
import Derived.Laws.MakeOwn
namespace Go.Proofs.Ytlcdbkelonbcfaa.rwStored
open Go.RowKit Go.Joins
open Go.Proofs.Ytlcdbkelonbcfaa.base Go.Proofs.Ytlcdbkelonbcfaa.blk Go.Proofs.Ytlcdbkelonbcfaa.aid
open Go.Proofs.Ytlcdbkelonbcfaa.row (Rd Own OwnV appSem app_fold app1)
open Go.Proofs.Ytlcdbkelonbcfaa.strs (mk)
set_option linter.unusedVariables false
attribute [local go_sem ↓] app_fold

/-- as cells -/
def cs (l : List (ByteArray × ByteArray × Int)) : List Value := l.flatMap fun b => [.string b.1, .string b.2.1, .int .i64 b.2.2]
theorem cs_nil : cs [] = [] := rfl
theorem cs_snoc (l : List (ByteArray × ByteArray × Int)) (b : ByteArray × ByteArray × Int) : cs (l ++ [b]) = cs l ++ [.string b.1, .string b.2.1, .int .i64 b.2.2] := by simp [cs]
theorem cs_app (l r : List (ByteArray × ByteArray × Int)) : cs (l ++ r) = cs l ++ cs r := by simp [cs]
theorem cs_cons (b : ByteArray × ByteArray × Int) (l : List (ByteArray × ByteArray × Int)) : cs (b :: l) = .string b.1 :: .string b.2.1 :: .int .i64 b.2.2 :: cs l := by simp [cs]
theorem cs_len : ∀ l : List (ByteArray × ByteArray × Int), (cs l).length = 3 * l.length
  | [] => rfl
  | b :: l => by rw [cs_cons]; simp only [List.length_cons]; rw [cs_len l]; omega
theorem cs_zero {l : List (ByteArray × ByteArray × Int)} (h : cs l = []) : l = [] := by
  cases l with
  | nil => rfl
  | cons b r => rw [cs_cons] at h; cases h
theorem cs_at : ∀ (l : List (ByteArray × ByteArray × Int)) (i : Nat) (b : ByteArray × ByteArray × Int), l[i]? = some b → (cs l)[i * 3]? = some (.string b.1) ∧ (cs l)[i * 3 + 1]? = some (.string b.2.1) ∧ (cs l)[i * 3 + 2]? = some (.int .i64 b.2.2)
  | [], i, b, h => by simp at h
  | c :: l, 0, b, h => by
    simp at h
    subst h
    rw [cs_cons]
    exact ⟨rfl, rfl, rfl⟩
  | c :: l, i + 1, b, h => by
    rw [cs_cons]
    have e : (i + 1) * 3 = i * 3 + 1 + 1 + 1 := by omega
    rw [e]
    exact cs_at l i b (by simpa using h)
theorem cs_set : ∀ (l : List (ByteArray × ByteArray × Int)) (i : Nat) (x0 : ByteArray) (x1 : ByteArray) (x2 : Int), i < l.length → (((cs l).set (i * 3) (.string x0)).set (i * 3 + 1) (.string x1)).set (i * 3 + 2) (.int .i64 x2) = cs (l.set i (x0, x1, x2))
  | [], i, x0, x1, x2, h => by simp at h
  | z :: l, 0, x0, x1, x2, h => by simp [cs_cons]
  | z :: l, i + 1, x0, x1, x2, h => by
    rw [cs_cons, List.set_cons_succ, cs_cons, ← cs_set l i x0 x1 x2 (by simpa using h)]
    have e : (i + 1) * 3 = i * 3 + 1 + 1 + 1 := by omega
    rw [e]
    simp only [List.set_cons_succ]
/-- one of a row -/
theorem el {w : World} {a : Option Addr} {l : List (ByteArray × ByteArray × Int)} (h : Rd w a (cs l)) {i : Nat} {b : ByteArray × ByteArray × Int} (hb : l[i]? = some b) : ∃ g off, a = some ⟨g, off, none⟩ ∧ w.cell? ⟨g, off + i * 3, none⟩ = some (.string b.1) ∧ w.cell? ⟨g, off + i * 3 + 1, none⟩ = some (.string b.2.1) ∧ w.cell? ⟨g, off + i * 3 + 2, none⟩ = some (.int .i64 b.2.2) ∧ g < w.heap.size := by
  obtain ⟨h0, h1, h2⟩ := cs_at l i b hb
  obtain ⟨g, off, e, c0⟩ := h _ _ h0
  obtain ⟨g1, off1, e1, c1⟩ := h _ _ h1
  rw [e] at e1
  simp at e1
  obtain ⟨rfl, rfl⟩ := e1
  obtain ⟨g2, off2, e2, c2⟩ := h _ _ h2
  rw [e] at e2
  simp at e2
  obtain ⟨rfl, rfl⟩ := e2
  exact ⟨g, off, e, c0, by rw [Nat.add_assoc]; exact c1, by rw [Nat.add_assoc]; exact c2, World.block_lt_of_cell? w _ c0⟩

theorem info : (Try.prog.info? 94).map (fun i => (i.zero, i.size, i.bytes)) = some (some (.agg #[.string ⟨#[]⟩, .string ⟨#[]⟩, .int .i64 0]), 3, 40) := by kernel_rfl
theorem app (W : World) (base : Nat) (v : Value) (k : Nat) (acc : List (ByteArray × ByteArray × Int)) (x0 : ByteArray) (x1 : ByteArray) (x2 : Int) (hn : acc.length = k) (hown : W.ownsRow base 94 3 v k (cs acc)) (hb : base ≤ W.heap.size) (hl : k ≤ 1048576) :
    ∃ g c w2, (appSem #[90, 90] 90 #[v, .slice (some ⟨W.heap.size, 0, none⟩) 1 1]).run Try.prog (W.alloc (.cells #[.string x0, .string x1, .int .i64 x2] 94)) = .ok (.slice (some ⟨g, 0, none⟩) (k + 1) c) w2 ∧ w2.ownsRow base 94 3 (.slice (some ⟨g, 0, none⟩) (k + 1) c) (k + 1) (cs (acc ++ [(x0, x1, x2)])) ∧ (W.alloc (.cells #[.string x0, .string x1, .int .i64 x2] 94)).grownBy w2 v.ownBlock := by
  obtain ⟨g, c, w2, h1, h2, h3⟩ := app1 (W := W) (base := base) (S := 90) (T := 94) (size := 3) (bytes := 40) Try.underlying90 info rfl (by decide) v k (cs acc) [.string x0, .string x1, .int .i64 x2] rfl (by intro u hu; simp at hu; rcases hu with rfl | rfl | rfl <;> rfl) hown hb hl (by decide)
  exact ⟨g, c, w2, h1, by rw [cs_snoc]; exact h2, h3⟩

def noE : ByteArray × ByteArray × Int := (⟨#[]⟩, ⟨#[]⟩, 0)
theorem made (k : Nat) : madeCells #[.string ⟨#[]⟩, .string ⟨#[]⟩, .int .i64 0] (k * 3) = (cs (List.replicate k noE)).toArray := by
  apply Array.ext
  · rw [size_madeCells, List.size_toArray, cs_len, List.length_replicate]
    omega
  · intro i h1 h2
    rw [size_madeCells] at h1
    have hj : i / 3 < k := by omega
    have hr : (List.replicate k noE)[i / 3]? = some noE := by simp [hj]
    obtain ⟨b0, b1, b2⟩ := cs_at _ _ _ hr
    rcases (show i % 3 = 0 ∨ i % 3 = 1 ∨ i % 3 = 2 by omega) with h | h | h
    · have e : i / 3 * 3 = i := by omega
      rw [e] at b0
      have hb := (List.getElem?_eq_some_iff.1 b0).2
      simp only [List.getElem_toArray, hb]
      simp [madeCells, h, noE]
    · have e : i / 3 * 3 + 1 = i := by omega
      rw [e] at b1
      have hb := (List.getElem?_eq_some_iff.1 b1).2
      simp only [List.getElem_toArray, hb]
      simp [madeCells, h, noE]
    · have e : i / 3 * 3 + 2 = i := by omega
      rw [e] at b2
      have hb := (List.getElem?_eq_some_iff.1 b2).2
      simp only [List.getElem_toArray, hb]
      simp [madeCells, h, noE]
theorem run_make_rows (k : Nat) (hn : k ≤ 1048576) (u : World) : (Instr.makeSlice 90 (.int .i64 (k : Int)) (.int .i64 (k : Int))).run Try.prog u =
    .ok (.slice (some ⟨u.heap.size, 0, none⟩) k k) (u.alloc (.cells (cs (List.replicate k noE)).toArray 94)) := by
  obtain ⟨i0, hi, hz0, hz1, hz2⟩ := info_parts info
  have h := run_make (P := Try.prog) u 90 94 i0 (.agg #[.string ⟨#[]⟩, .string ⟨#[]⟩, .int .i64 0]) Try.underlying90 hi hz0 .i64 .i64 (k : Int) (k : Int) (by omega) (Int.le_refl _) (by rw [hz2]; omega) (by omega)
  have e : (k : Int).toNat = k := by omega
  rw [e] at h
  rw [← made]
  simpa [hz1, Value.cells] using h
/-- k are there, the rest is nothing yet -/
def part (l : List (ByteArray × ByteArray × Int)) (k : Nat) : List (ByteArray × ByteArray × Int) := l.take k ++ List.replicate (l.length - k) noE
theorem part_zero (l : List (ByteArray × ByteArray × Int)) : part l 0 = List.replicate l.length noE := by simp [part]
theorem part_all (l : List (ByteArray × ByteArray × Int)) : part l l.length = l := by simp [part]
theorem part_len (l : List (ByteArray × ByteArray × Int)) (k : Nat) (h : k ≤ l.length) : (part l k).length = l.length := by simp [part]; omega
theorem part_next (l : List (ByteArray × ByteArray × Int)) (k : Nat) (b : ByteArray × ByteArray × Int) (h : l[k]? = some b) : (part l k).set k b = part l (k + 1) := by
  have hlt := (List.getElem?_eq_some_iff.1 h).1
  unfold part
  have e1 : (l.take k).length = k := by simp; omega
  rw [List.set_append_right _ _ (by omega), e1, Nat.sub_self, show l.length - k = (l.length - (k + 1)) + 1 by omega, List.replicate_succ, List.set_cons_zero, List.take_add_one, h]
  simp
theorem below2 (w : World) (o1 o2 : Obj) : Below w.heap.size w ((w.alloc o1).alloc o2) := (below_alloc1 w o1).alloc (by simp) _
theorem below3 (w : World) (o1 o2 o3 : Obj) : Below w.heap.size w (((w.alloc o1).alloc o2).alloc o3) := (below2 w o1 o2).alloc (by simp; omega) _

/-- the bytes of one -/
def tot (b : ByteArray × ByteArray × Int) : Int := (b.1.size : Int) + (b.2.1.size : Int)
set_option maxRecDepth 100000 in
theorem sz_any (x0 : ByteArray) (x1 : ByteArray) (x2 : Int) (m : Int) (w : World) (h0 : (x0.size : Int) ≤ 9223372036854775807) (h1 : (x1.size : Int) ≤ 9223372036854775807) (hm : 0 ≤ m) (hm1 : m ≤ 1048576) :
    Calls Try.prog 107 #[.agg #[.string x0, .string x1, .int .i64 x2], .int .i64 m] w fun e w' => e = .returned (.int .i64 (if m < tot (x0, x1, x2) then -1 else m - tot (x0, x1, x2))) ∧ Below w.heap.size w w' := by
  have et : tot (x0, x1, x2) = (x0.size : Int) + (x1.size : Int) := rfl
  rw [et]
  clear et
  by_cases g0 : m < (x0.size : Int)
  · rw [if_pos (by omega)]
    go_enter Try.func107, Try.ntmps107
    go_wp2
    go_ret
    exact ⟨rfl, below_alloc1 _ _⟩
  by_cases g1 : m - (x0.size : Int) < (x1.size : Int)
  · rw [if_pos (by omega)]
    go_enter Try.func107, Try.ntmps107
    go_wp2
    go_ret
    exact ⟨rfl, below_alloc1 _ _⟩
  rw [if_neg (by omega), show m - ((x0.size : Int) + (x1.size : Int)) = m - (x0.size : Int) - (x1.size : Int) by omega]
  have gz : 0 ≤ m - (x0.size : Int) - (x1.size : Int) := by omega
  go_enter Try.func107, Try.ntmps107
  go_wp2
  go_ret
  exact ⟨rfl, below_alloc1 _ _⟩

set_option maxRecDepth 100000 in
theorem to_any (x0 : ByteArray) (x1 : ByteArray) (x2 : Int) (w : World) :
    Calls Try.prog 108 #[.agg #[.string x0, .string x1, .int .i64 x2]] w fun e w' => e = .returned (.agg #[.string x0, .string x1, .int .i64 x2]) ∧ Below w.heap.size w w' := by
  go_enter Try.func108, Try.ntmps108
  go_wp2
  exact bodyPost_ret (v := .agg #[.string x0, .string x1, .int .i64 x2]) (by simp [results, Try.results108, go_sem]) rfl ⟨rfl, below3 _ _ _ _⟩
set_option maxRecDepth 100000 in
theorem eq_same (x0 : ByteArray) (x1 : ByteArray) (x2 : Int) (w : World) :
    Calls Try.prog 120 #[.agg #[.string x0, .string x1, .int .i64 x2], .agg #[.string x0, .string x1, .int .i64 x2]] w fun e w' => e = .returned (.bool true) ∧ Below w.heap.size w w' := by
  have h0 : (!x0.toList == x0.toList) = false := by simp
  have h1 : (!x1.toList == x1.toList) = false := by simp
  have h2 : (x2 != x2) = false := by simp
  go_enter Try.func120, Try.ntmps120
  go_wp2
  go_ret
  exact ⟨rfl, below2 _ _ _⟩

/-- what szStoredS leaves of what is left -/
def szL : List (ByteArray × ByteArray × Int) → Int → Int
  | [], m => m
  | b :: r, m => if m < tot b then -1 else szL r (m - tot b)
def szF (l : List (ByteArray × ByteArray × Int)) (m : Int) : Int := if m < (l.length : Int) then -1 else szL l (m - l.length)
theorem tot_pos (b : ByteArray × ByteArray × Int) : 0 ≤ tot b := by unfold tot; omega

set_option maxRecDepth 100000 in
theorem szS_any (a : Option Addr) (c : Nat) (l : List (ByteArray × ByteArray × Int)) (w : World) (hl : (l.length : Int) ≤ 9223372036854775807) (hs : ∀ b ∈ l, (b.1.size : Int) ≤ 9223372036854775807 ∧ (b.2.1.size : Int) ≤ 9223372036854775807) (hr : Rd w a (cs l)) :
    Calls Try.prog 89 #[.slice a l.length c, .int .i64 1048576] w fun e w' => e = .returned (.int .i64 (szF l 1048576)) ∧ Below w.heap.size w w' := by
  by_cases h0 : (1048576 : Int) < (l.length : Int)
  · have E : szF l 1048576 = -1 := by unfold szF; rw [if_pos h0]
    go_enter Try.func89, Try.ntmps89
    go_wp2
    go_ret
    exact ⟨ret_eq (by rw [E]; rfl), Below.refl _ _⟩
  · have h0' : (l.length : Int) ≤ 1048576 := by omega
    have E0 : Hid (szF l 1048576 = szL l (1048576 - l.length)) := mkHid (by unfold szF; rw [if_neg h0])
    go_enter Try.func89, Try.ntmps89
    go_wp2_with fail
    go_loopw [1, 5] (fun m i wr => ∃ (k : Nat) (z : Int), k ≤ l.length ∧ i = .int .i64 k ∧ m = .int .i64 z ∧ 0 ≤ z ∧ z ≤ 1048576 ∧ Hid (szL (l.drop k) z = szL l (1048576 - l.length)) ∧ Hid (Below w.heap.size w wr))
      (fun _ i _ => l.length - (intOf i).toNat)
    case atStart => exact ⟨0, 1048576 - l.length, Nat.zero_le _, rfl, rfl, by omega, by omega, mkHid (by simp), mkHid (Below.refl _ _)⟩
    case round =>
      obtain ⟨k, z, hk, rfl, rfl, hz0, hz1, hE, hB⟩ := hrel
      by_cases hlt : k < l.length
      · have hlti : (k : Int) < (l.length : Int) := by omega
        obtain ⟨⟨x0, x1, x2⟩, hx⟩ : ∃ y, l[k]? = some y := ⟨_, List.getElem?_eq_getElem hlt⟩
        obtain ⟨g1, o1, rfl, c0, c1, c2, l1⟩ := el hr hx
        have e0 := (hB.out.cell (p := ⟨g1, o1 + k * 3, none⟩) l1).trans c0
        have e1 := (hB.out.cell (p := ⟨g1, o1 + k * 3 + 1, none⟩) l1).trans c1
        have e2 := (hB.out.cell (p := ⟨g1, o1 + k * 3 + 2, none⟩) l1).trans c2
        have hbt := hs _ (List.mem_of_getElem? hx)
        simp only at hbt
        have hdr : l.drop k = (x0, x1, x2) :: l.drop (k + 1) := by rw [List.drop_eq_getElem_cons hlt, (List.getElem?_eq_some_iff.1 hx).2]
        have HZ := mkHid (fun wx => sz_any x0 x1 x2 z wx (by omega) (by omega) hz0 hz1)
        have htp := tot_pos (x0, x1, x2)
        by_cases hzt : z < tot (x0, x1, x2)
        · have EE : Hid (szF l 1048576 = -1) := mkHid (by rw [E0.out, ← hE.out, hdr, szL, if_pos hzt])
          rw [if_pos hzt] at HZ
          generalize tot (x0, x1, x2) = tt at *
          clear hE c0 c1 c2 hx hr hdr hs hbt
          go_wp2_with fail
          refine (HZ.out _).mono ?_
          rintro e w1 ⟨rfl, hb1⟩
          have B1 := mkHid (hB.out.trans (hb1.mono hB.out.size))
          clear hb1 HZ
          go_wp2
          go_ret
          exact ⟨ret_eq (by rw [EE.out]; rfl), B1.out⟩
        · rw [if_neg hzt] at HZ
          have N1 : Hid (szL (l.drop (k + 1)) (z - tot (x0, x1, x2)) = szL l (1048576 - l.length)) := mkHid (by rw [← hE.out, hdr, szL, if_neg hzt])
          have hz2 : 0 ≤ z - tot (x0, x1, x2) := by omega
          have hz3 : z - tot (x0, x1, x2) ≤ 1048576 := by omega
          generalize z - tot (x0, x1, x2) = z' at *
          clear hE c0 c1 c2 hx hr hdr hs hbt hzt htp
          go_wp2_with fail
          refine (HZ.out _).mono ?_
          rintro e w1 ⟨rfl, hb1⟩
          have B1 := mkHid (hB.out.trans (hb1.mono hB.out.size))
          clear hb1 HZ
          go_wp2
          exact ⟨⟨k + 1, z', by omega, by go_num, rfl, hz2, hz3, N1, B1⟩, by simp [intOf]; omega⟩
      · obtain rfl : k = l.length := by omega
        have EE : Hid (szF l 1048576 = z) := mkHid (by have := hE.out; rw [List.drop_of_length_le (Nat.le_refl _)] at this; rw [E0.out, ← this]; rfl)
        clear hE hr hs
        go_wp2
        go_ret
        exact ⟨ret_eq (by rw [EE.out]; rfl), hB.out⟩
theorem szF_len {l : List (ByteArray × ByteArray × Int)} (h : 0 ≤ szF l 1048576) : l.length ≤ 1048576 := by
  unfold szF at h
  split at h <;> omega
theorem szL_small : ∀ (l : List (ByteArray × ByteArray × Int)) (m : Int), 0 ≤ szL l m → m ≤ 1048576 → ∀ b ∈ l, b.1.size ≤ 1048576 ∧ b.2.1.size ≤ 1048576
  | [], m, h, hm => by simp
  | b :: r, m, h, hm => by
    unfold szL at h
    split at h
    · omega
    · rename_i hb
      unfold tot at hb
      intro x hx
      rcases List.mem_cons.1 hx with rfl | hx
      · exact ⟨by omega, by omega⟩
      · exact szL_small r _ h (by unfold tot; omega) x hx
theorem szF_small {l : List (ByteArray × ByteArray × Int)} (h : 0 ≤ szF l 1048576) : ∀ b ∈ l, b.1.size ≤ 1048576 ∧ b.2.1.size ≤ 1048576 := by
  unfold szF at h
  split at h
  · omega
  · exact szL_small l _ h (by omega)

/-- a row of its own is the answer -/
def SPost (w : World) (l : List (ByteArray × ByteArray × Int)) (e : Ending) (w' : World) : Prop :=
  ∃ a c, e = .returned (.slice a l.length c) ∧ OwnV 94 w' a (cs l) ∧ (∀ b o s, a = some ⟨b, o, s⟩ → w.heap.size ≤ b) ∧ Below w.heap.size w w' ∧ l.length ≤ c
set_option maxRecDepth 100000 in
theorem toS_any (a : Option Addr) (c : Nat) (l : List (ByteArray × ByteArray × Int)) (w : World) (hl : l.length ≤ 1048576) (hr : Rd w a (cs l)) :
    Calls Try.prog 91 #[.slice a l.length c] w (SPost w l) := by
  have hmk := run_make_rows l.length hl
  go_enter Try.func91, Try.ntmps91
  go_wp2_with fail
  go_loopw [4] (fun i wr => ∃ k : Nat, k ≤ l.length ∧ i = .int .i64 k ∧ Hid (Own 94 wr w.heap.size (cs (part l k)) ∧ Below w.heap.size w wr))
    (fun i _ => l.length - (intOf i).toNat)
  case atStart => exact ⟨0, Nat.zero_le _, rfl, mkHid ⟨⟨[], by rw [part_zero, List.append_nil]; exact blk_new w _ _ rfl⟩, below_alloc1 _ _⟩⟩
  case round =>
    obtain ⟨k, hk, rfl, hO⟩ := hrel
    by_cases hlt : k < l.length
    · have hlti : (k : Int) < (l.length : Int) := by omega
      obtain ⟨⟨x0, x1, x2⟩, hx⟩ : ∃ y, l[k]? = some y := ⟨_, List.getElem?_eq_getElem hlt⟩
      obtain ⟨g1, o1, rfl, c0, c1, c2, l1⟩ := el hr hx
      have e0 := (hO.out.2.cell (p := ⟨g1, o1 + k * 3, none⟩) l1).trans c0
      have e1 := (hO.out.2.cell (p := ⟨g1, o1 + k * 3 + 1, none⟩) l1).trans c1
      have e2 := (hO.out.2.cell (p := ⟨g1, o1 + k * 3 + 2, none⟩) l1).trans c2
      have HT := mkHid (fun wx => to_any x0 x1 x2 wx)
      have HX := mkHid hx
      clear c0 c1 c2 hx hr
      go_wp2_with fail
      refine (HT.out _).mono ?_
      rintro e w1 ⟨rfl, hb1⟩
      have O1 := mkHid (And.intro (hO.out.1.below hb1) (hO.out.2.trans (hb1.mono hO.out.2.size)))
      obtain ⟨y, hy⟩ : ∃ y, (part l k)[k]? = some y := ⟨_, List.getElem?_eq_getElem (by rw [part_len l k hk]; exact hlt)⟩
      obtain ⟨b0, b1, b2⟩ := cs_at _ _ _ hy
      have d0 := O1.out.1.cell b0
      have d1 := O1.out.1.cell b1
      have d2 := O1.out.1.cell b2
      have hf := O1.out.1.free
      have hlen : (cs (part l k)).length = 3 * l.length := by rw [cs_len, part_len l k hk]
      have N1 : Hid (Own 94 (((w1.setCell ⟨w.heap.size, k * 3, none⟩ (.string x0)).setCell ⟨w.heap.size, k * 3 + 1, none⟩ (.string x1)).setCell ⟨w.heap.size, k * 3 + 2, none⟩ (.int .i64 x2)) w.heap.size (cs (part l (k + 1))) ∧ Below w.heap.size w (((w1.setCell ⟨w.heap.size, k * 3, none⟩ (.string x0)).setCell ⟨w.heap.size, k * 3 + 1, none⟩ (.string x1)).setCell ⟨w.heap.size, k * 3 + 2, none⟩ (.int .i64 x2))) := mkHid ⟨by
        have h := (((O1.out.1.set (k * 3) (by omega) (.string x0)).set (k * 3 + 1) (by simp; omega) (.string x1)).set (k * 3 + 2) (by simp; omega) (.int .i64 x2))
        rw [cs_set _ _ _ _ _ (by rw [part_len l k hk]; exact hlt), part_next l k _ HX.out] at h
        exact h, (((O1.out.2.setCell (by simp) _).setCell (by simp) _).setCell (by simp) _)⟩
      clear hb1 hO O1 hy b0 b1 b2 hlen HX HT e0 e1 e2
      go_wp2
      exact ⟨⟨k + 1, by omega, by go_num, N1⟩, by simp [intOf]; omega⟩
    · obtain rfl : k = l.length := by omega
      have R := hO.out
      rw [part_all] at R
      have R' := mkHid R
      clear R hO hr
      go_wp2
      go_ret
      exact ⟨_, _, rfl, .inr ⟨_, rfl, R'.out.1⟩, fun b o s e => by simp at e; omega, R'.out.2, Nat.le_refl _⟩

set_option maxRecDepth 100000 in
set_option maxHeartbeats 1000000 in
theorem eqS_same (a b : Option Addr) (ca cb : Nat) (l : List (ByteArray × ByteArray × Int)) (w : World) (hl : l.length ≤ 1048576) (ha : Rd w a (cs l)) (hb : Rd w b (cs l)) :
    Calls Try.prog 98 #[.slice a l.length ca, .slice b l.length cb] w fun e w' => e = .returned (.bool true) ∧ Below w.heap.size w w' := by
  go_enter Try.func98, Try.ntmps98
  go_wp2
  go_loopw [5] (fun i wr => ∃ k : Nat, k ≤ l.length ∧ i = .int .i64 k ∧ Below w.heap.size w wr)
    (fun i _ => l.length - (intOf i).toNat)
  case atStart => exact ⟨0, Nat.zero_le _, rfl, Below.refl _ _⟩
  case round =>
    obtain ⟨k, hk, rfl, hbel⟩ := hrel
    by_cases hlt : k < l.length
    · obtain ⟨⟨x0, x1, x2⟩, hx⟩ : ∃ z, l[k]? = some z := ⟨_, List.getElem?_eq_getElem hlt⟩
      obtain ⟨g1, o1, rfl, c0, c1, c2, l1⟩ := el ha hx
      obtain ⟨g2, o2, rfl, d0, d1, d2, l2⟩ := el hb hx
      have e0 := (hbel.cell (p := ⟨g1, o1 + k * 3, none⟩) l1).trans c0
      have e1 := (hbel.cell (p := ⟨g1, o1 + k * 3 + 1, none⟩) l1).trans c1
      have e2 := (hbel.cell (p := ⟨g1, o1 + k * 3 + 2, none⟩) l1).trans c2
      have f0 := (hbel.cell (p := ⟨g2, o2 + k * 3, none⟩) l2).trans d0
      have f1 := (hbel.cell (p := ⟨g2, o2 + k * 3 + 1, none⟩) l2).trans d1
      have f2 := (hbel.cell (p := ⟨g2, o2 + k * 3 + 2, none⟩) l2).trans d2
      have hlti : (k : Int) < (l.length : Int) := by omega
      have HE := mkHid (fun wx => eq_same x0 x1 x2 wx)
      have HB := mkHid hbel
      have C := mkHid (And.intro e0 (And.intro e1 (And.intro e2 (And.intro f0 (And.intro f1 f2)))))
      clear ha hb hx c0 d0 c1 d1 c2 d2 hbel
      go_wp2_with fail
      go_region_held3 (fun w' => w'.cell? ⟨g1, o1 + k * 3, none⟩ = some (.string x0) ∧ w'.cell? ⟨g1, o1 + k * 3 + 1, none⟩ = some (.string x1) ∧ w'.cell? ⟨g1, o1 + k * 3 + 2, none⟩ = some (.int .i64 x2) ∧ w'.cell? ⟨g2, o2 + k * 3, none⟩ = some (.string x0) ∧ w'.cell? ⟨g2, o2 + k * 3 + 1, none⟩ = some (.string x1) ∧ w'.cell? ⟨g2, o2 + k * 3 + 2, none⟩ = some (.int .i64 x2)) (go_keep)
        ((go_at_call 120; refine Calls.mono (HE.out _) ?_; rintro e w1 ⟨rfl, hb1⟩; have hr1 := re (w := wr) hb1 rfl rfl rfl rfl; have B1 := mkHid (HB.out.trans (hr1.mono HB.out.size)); have q0 := (hr1.cell (p := ⟨g1, o1 + k * 3, none⟩) (World.block_lt_of_cell? wr _ C.out.1)).trans C.out.1; have q1 := (hr1.cell (p := ⟨g1, o1 + k * 3 + 1, none⟩) (World.block_lt_of_cell? wr _ C.out.2.1)).trans C.out.2.1; have q2 := (hr1.cell (p := ⟨g1, o1 + k * 3 + 2, none⟩) (World.block_lt_of_cell? wr _ C.out.2.2.1)).trans C.out.2.2.1; have q3 := (hr1.cell (p := ⟨g2, o2 + k * 3, none⟩) (World.block_lt_of_cell? wr _ C.out.2.2.2.1)).trans C.out.2.2.2.1; have q4 := (hr1.cell (p := ⟨g2, o2 + k * 3 + 1, none⟩) (World.block_lt_of_cell? wr _ C.out.2.2.2.2.1)).trans C.out.2.2.2.2.1; have q5 := (hr1.cell (p := ⟨g2, o2 + k * 3 + 2, none⟩) (World.block_lt_of_cell? wr _ C.out.2.2.2.2.2)).trans C.out.2.2.2.2.2; clear hb1 hr1))
      go_wp2
      exact ⟨⟨k + 1, by omega, by go_num, B1.out⟩, by simp [intOf]; omega⟩
    · obtain rfl : k = l.length := by omega
      go_wp2
      go_ret
      exact ⟨rfl, hbel⟩

/-- marks from m on -/
def me1 (m i : Nat) : ByteArray × ByteArray × Int := (mk (m + 3 * i), mk (m + 3 * i + 1), (m : Int) + 3 * i + 1 + 1)
def me (m k : Nat) : List (ByteArray × ByteArray × Int) := (List.range k).map (me1 m)
theorem me_len (m k : Nat) : (me m k).length = k := by simp [me]
theorem me_at (m k i : Nat) (h : i < k) : (me m k)[i]? = some (me1 m i) := by simp [me, h]
def mkE (m : Nat) (l : List (ByteArray × ByteArray × Int)) (i : Nat) : List (ByteArray × ByteArray × Int) := (me m l.length).take i ++ l.drop i
theorem mkE_zero (m : Nat) (l : List (ByteArray × ByteArray × Int)) : mkE m l 0 = l := by simp [mkE]
theorem mkE_all (m : Nat) (l : List (ByteArray × ByteArray × Int)) : mkE m l l.length = me m l.length := by
  unfold mkE
  rw [List.take_of_length_le (by rw [me_len]; exact Nat.le_refl _)]
  simp
theorem mkE_len (m : Nat) (l : List (ByteArray × ByteArray × Int)) (i : Nat) (h : i ≤ l.length) : (mkE m l i).length = l.length := by simp [mkE, me_len]; omega
theorem mkE_next (m : Nat) (l : List (ByteArray × ByteArray × Int)) (i : Nat) (h : i < l.length) : (mkE m l i).set i (me1 m i) = mkE m l (i + 1) := by
  unfold mkE
  have e2 : ((me m l.length).take i).length = i := by simp [me_len]; omega
  rw [List.set_append_right _ _ (by rw [e2]; exact Nat.le_refl _), e2, Nat.sub_self, List.drop_eq_getElem_cons h, List.set_cons_zero, List.take_add_one, me_at m _ i h]
  simp

set_option maxRecDepth 100000 in
set_option maxHeartbeats 1000000 in
theorem mark_own (g cap : Nat) (l : List (ByteArray × ByteArray × Int)) (m : Nat) (w : World) (hl : l.length ≤ 1048576) (hm1 : m ≤ 3000000) (hr : Own 94 w g (cs l)) :
    Calls Try.prog 74 #[.slice (some ⟨g, 0, none⟩) l.length cap, .int .i64 m] w fun e w' => e = .returned (.int .i64 ((m : Int) + 3 * l.length)) ∧ Own 94 w' g (cs (me m l.length)) ∧ w.grownBy w' (some g) := by
  have hmi : (m : Int) ≤ 3000000 := by omega
  go_enter Try.func74, Try.ntmps74
  go_wp2
  go_loopw [1, 5] (fun c i wr => ∃ k : Nat, k ≤ l.length ∧ i = .int .i64 k ∧ c = .int .i64 ((m : Int) + 3 * k) ∧ Hid (Own 94 wr g (cs (mkE m l k)) ∧ w.grownBy wr (some g)))
    (fun _ i _ => l.length - (intOf i).toNat)
  case atStart => exact ⟨0, Nat.zero_le _, rfl, by simp, mkHid ⟨by rw [mkE_zero]; exact hr, grew_refl _ _⟩⟩
  case round =>
    obtain ⟨k, hk, rfl, rfl, hrow⟩ := hrel
    by_cases hlt : k < l.length
    · have hlti : (k : Int) < (l.length : Int) := by omega
      have hki : (k : Int) ≤ 1048576 := by omega
      have HT0 : Hid (∀ wx, Calls Try.prog 40 #[.int .i64 ((m : Int) + 3 * k)] wx fun e w' => e = .returned (.string (mk (m + 3 * k))) ∧ Below wx.heap.size wx w') := mkHid (fun wx => by
        have h := strs.markText_any (m + 3 * k) wx (by omega)
        have e : ((m + 3 * k : Nat) : Int) = (m : Int) + 3 * k := by omega
        rw [e] at h
        exact h)
      have HT1 : Hid (∀ wx, Calls Try.prog 40 #[.int .i64 ((m : Int) + 3 * k + 1)] wx fun e w' => e = .returned (.string (mk (m + 3 * k + 1))) ∧ Below wx.heap.size wx w') := mkHid (fun wx => by
        have h := strs.markText_any (m + 3 * k + 1) wx (by omega)
        have e : ((m + 3 * k + 1 : Nat) : Int) = (m : Int) + 3 * k + 1 := by omega
        rw [e] at h
        exact h)
      obtain ⟨y, hy⟩ : ∃ y, (mkE m l k)[k]? = some y := ⟨_, List.getElem?_eq_getElem (by rw [mkE_len m l k hk]; exact hlt)⟩
      obtain ⟨b0, b1, b2⟩ := cs_at _ _ _ hy
      have hkl : (cs (mkE m l k)).length = 3 * l.length := by rw [cs_len, mkE_len m l k hk]
      have HE : Hid ((((cs (mkE m l k)).set (k * 3) (.string (mk (m + 3 * k)))).set (k * 3 + 1) (.string (mk (m + 3 * k + 1)))).set (k * 3 + 2) (.int .i64 ((m : Int) + 3 * k + 1 + 1)) = cs (mkE m l (k + 1))) := mkHid (by
        rw [cs_set _ _ _ _ _ (by rw [mkE_len m l k hk]; exact hlt)]
        have e0 := mkE_next m l k hlt
        unfold me1 at e0
        rw [e0])
      generalize cs (mkE m l k) = xs at *
      clear hr hy
      go_wp2_with fail
      refine (HT0.out _).mono ?_
      rintro e w1 ⟨rfl, hb1⟩
      have O1 := mkHid (And.intro (hrow.out.1.below hb1) (grew_below hrow.out.2 hb1))
      have c0_w1 := O1.out.1.cell (i := k * 3) (z := .string y.1) (by exact b0)
      have c1_w1 := O1.out.1.cell (i := k * 3 + 1) (z := .string y.2.1) (by exact b1)
      have c2_w1 := O1.out.1.cell (i := k * 3 + 2) (z := .int .i64 y.2.2) (by exact b2)
      have hf_w1 : ∀ j, w1.frozen? ⟨g, j, none⟩ = false := O1.out.1.free
      clear hb1 HT0 hrow
      have P0 : Hid (Own 94 (w1.setCell ⟨g, k * 3, none⟩ (.string (mk (m + 3 * k)))) g (xs.set (k * 3) (.string (mk (m + 3 * k)))) ∧ w.grownBy (w1.setCell ⟨g, k * 3, none⟩ (.string (mk (m + 3 * k)))) (some g)) := mkHid ⟨O1.out.1.set (k * 3) (by omega) (.string (mk (m + 3 * k))), grew_grew O1.out.2 (grew_cell _ _ _ _)⟩
      go_wp2_with fail
      refine (HT1.out _).mono ?_
      rintro e w2 ⟨rfl, hb2⟩
      have O2 := mkHid (And.intro (P0.out.1.below hb2) (grew_below P0.out.2 hb2))
      have c1_w2 := O2.out.1.cell (i := k * 3 + 1) (z := .string y.2.1) (by simp [List.getElem?_set_ne, b1])
      have c2_w2 := O2.out.1.cell (i := k * 3 + 2) (z := .int .i64 y.2.2) (by simp [List.getElem?_set_ne, b2])
      have hf_w2 : ∀ j, w2.frozen? ⟨g, j, none⟩ = false := O2.out.1.free
      clear hb2 HT1 c0_w1 c1_w1 c2_w1 hf_w1 P0
      have P1 : Hid (Own 94 (w2.setCell ⟨g, k * 3 + 1, none⟩ (.string (mk (m + 3 * k + 1)))) g ((xs.set (k * 3) (.string (mk (m + 3 * k)))).set (k * 3 + 1) (.string (mk (m + 3 * k + 1)))) ∧ w.grownBy (w2.setCell ⟨g, k * 3 + 1, none⟩ (.string (mk (m + 3 * k + 1)))) (some g)) := mkHid ⟨O2.out.1.set (k * 3 + 1) (by simp; omega) (.string (mk (m + 3 * k + 1))), grew_grew O2.out.2 (grew_cell _ _ _ _)⟩
      have P2 : Hid (Own 94 ((w2.setCell ⟨g, k * 3 + 1, none⟩ (.string (mk (m + 3 * k + 1)))).setCell ⟨g, k * 3 + 2, none⟩ (.int .i64 ((m : Int) + 3 * k + 1 + 1))) g (((xs.set (k * 3) (.string (mk (m + 3 * k)))).set (k * 3 + 1) (.string (mk (m + 3 * k + 1)))).set (k * 3 + 2) (.int .i64 ((m : Int) + 3 * k + 1 + 1))) ∧ w.grownBy ((w2.setCell ⟨g, k * 3 + 1, none⟩ (.string (mk (m + 3 * k + 1)))).setCell ⟨g, k * 3 + 2, none⟩ (.int .i64 ((m : Int) + 3 * k + 1 + 1))) (some g)) := mkHid ⟨P1.out.1.set (k * 3 + 2) (by simp; omega) (.int .i64 ((m : Int) + 3 * k + 1 + 1)), grew_grew P1.out.2 (grew_cell _ _ _ _)⟩
      have N1 := P2.out
      rw [HE.out] at N1
      have N2 := mkHid N1
      clear N1 HE P1 P2
      go_wp2
      exact ⟨⟨k + 1, by omega, by go_num, by go_num, N2⟩, by simp [intOf]; omega⟩
    · obtain rfl : k = l.length := by omega
      have R := hrow.out
      rw [mkE_all] at R
      have R' := mkHid R
      clear R hrow hr
      go_wp2
      go_ret
      exact ⟨rfl, R'.out.1, R'.out.2⟩

theorem mark_nil (cap : Nat) (a : Option Addr) (m : Nat) (w : World) :
    Calls Try.prog 74 #[.slice a 0 cap, .int .i64 m] w fun e w' => e = .returned (.int .i64 m) ∧ w' = w := by
  go_enter Try.func74, Try.ntmps74
  go_wp2
  go_loopw [1, 5] (fun c i wr => i = .int .i64 0 ∧ c = .int .i64 m ∧ wr = w) (fun _ i _ => 0)
  case atStart => exact ⟨rfl, rfl, rfl⟩
  case round =>
    obtain ⟨rfl, rfl, rfl⟩ := hrel
    go_wp2
    go_ret
    exact ⟨rfl, rfl⟩
theorem mark_any (a : Option Addr) (cap : Nat) (l : List (ByteArray × ByteArray × Int)) (m : Nat) (w : World) (hl : l.length ≤ 1048576) (hm1 : m ≤ 3000000) (hr : OwnV 94 w a (cs l)) :
    Calls Try.prog 74 #[.slice a l.length cap, .int .i64 m] w fun e w' => e = .returned (.int .i64 ((m : Int) + 3 * l.length)) ∧ OwnV 94 w' a (cs (me m l.length)) ∧ ∃ r, w.grownBy w' r ∧ ∀ b, r = some b → cs l ≠ [] ∧ ∃ o s, a = some ⟨b, o, s⟩ := by
  by_cases h0 : cs l = []
  · have hl0 := cs_zero h0
    subst hl0
    refine (mark_nil cap a m w).mono ?_
    rintro e w1 ⟨rfl, rfl⟩
    exact ⟨by simp, .inl rfl, none, grew_refl _ _, fun b e => by cases e⟩
  · rcases hr with h | ⟨g, rfl, ho⟩
    · exact absurd h h0
    · refine (mark_own g cap l m w hl hm1 ho).mono ?_
      rintro e w1 ⟨rfl, h1, h2⟩
      exact ⟨rfl, .inr ⟨g, rfl, h1⟩, some g, h2, fun b e => by cases e; exact ⟨h0, 0, none, rfl⟩⟩
end Go.Proofs.Ytlcdbkelonbcfaa.rwStored
