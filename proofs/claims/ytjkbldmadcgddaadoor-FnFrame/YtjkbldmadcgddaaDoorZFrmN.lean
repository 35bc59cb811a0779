/-
  Numbers that are read are told by just these bytes; several that stand one behind the other, in plain words. No condition.
  What impl.readNums answers and leaves: numbers that stand one behind the other are read into the cells of one block. Conditions: a text of at most 20,000 bytes; the places that are handed in lie in another block than the cells.
  What impl.readFrame and impl.FrameRead answer and leave. Conditions: a text of at most 1,048,576 bytes; the numbers of the rounds are there.
-/
import Derived.Test.YtjkbldmadcgddaaDoorPutNum
import Derived.Test.YtjkbldmadcgddaaDoorGetP
import Derived.Test.YtjkbldmadcgddaaDoorGetR
import Derived.Test.YtjkbldmadcgddaaDoorCells
import Derived.Test.YtjkbldmadcgddaaDoorFrmB
import Derived.Test.YtjkbldmadcgddaaDoorFrmQ
import Derived.Test.YtjkbldmadcgddaaDoorClone
import Derived.Test.YtjkbldmadcgddaaDoorStrs
import Derived.Lib.Walk
namespace Go.Proofs.YtjkbldmadcgddaaDoor.nbk
open Go.RowKit
open Go.Proofs.YtjkbldmadcgddaaDoor.base
set_option linter.unusedVariables false

/-- the bytes of a number that is not below 0 -/
def numB (k : Int) : ByteArray := ⟨(num (2 * k.toNat)).toArray⟩
theorem num_len : ∀ (n u : Nat), u < 128 ^ (n + 1) → (num u).length ≤ n + 1
  | 0, u, h => by rw [num_small (by omega)]; simp
  | n + 1, u, h => by
    by_cases hu : u < 128
    · rw [num_small hu]; simp
    · rw [num_big (by omega)]
      have h1 : u / 128 < 128 ^ (n + 1) := by
        rw [Nat.div_lt_iff_lt_mul (by omega)]
        rw [Nat.pow_succ] at h
        exact h
      have := num_len n (u / 128) h1
      simp
      omega
theorem num_pos (u : Nat) : 1 ≤ (num u).length := by
  by_cases hu : u < 128
  · rw [num_small hu]; simp
  · rw [num_big (by omega)]; simp
theorem numB_len {k : Int} (h1 : k ≤ 12000) : (numB k).size ≤ 3 := by
  have h2 : 2 * k.toNat < 128 ^ (2 + 1) := by have : (128 : Nat) ^ (2 + 1) = 2097152 := by decide
                                              omega
  have := num_len 2 _ h2
  show (num (2 * k.toNat)).toArray.size ≤ 3
  rw [List.size_toArray]
  omega
theorem rd_code : ∀ (l : List UInt8) (j u : Nat) (c : Int), num.rd l j u = .error c → c ≠ 0
  | [], j, u, c, h => by simp [num.rd] at h; omega
  | b :: r, j, u, c, h => by
    unfold num.rd at h
    split at h
    · simp at h; omega
    · split at h
      · split at h
        · simp at h; omega
        · simp at h
      · exact rd_code r _ _ c h
theorem G_code {s : ByteArray} {a : Int} {c : Int} (h : num.G s a = .error c) : c ≠ 0 := by
  unfold num.G at h
  split at h
  · simp at h; omega
  · split at h
    · simp at h; omega
    · cases hr : num.rd (s.data.toList.drop a.toNat) 0 0 with
      | error d => rw [hr] at h; simp at h; subst h; exact rd_code _ _ _ _ hr
      | ok x => rw [hr] at h; simp at h
theorem rd_back : ∀ (l : List UInt8) (j u u' m : Nat), num.rd l j u = .ok (u', m) → ∃ v, l.take (m - j) = base.num v ∧ u' = u + v * 128 ^ j ∧ (0 < j → 0 < v) ∧ j < m ∧ m ≤ j + l.length
  | [], j, u, u', m, h => by simp [num.rd] at h
  | c :: r, j, u, u', m, h => by
    unfold num.rd at h
    split at h
    · cases h
    · split at h
      · rename_i hc
        split at h
        · cases h
        · rename_i h0
          simp only [Except.ok.injEq, Prod.mk.injEq] at h
          obtain ⟨rfl, rfl⟩ := h
          refine ⟨c.toNat, ?_, rfl, fun hj => ?_, by omega, by simp⟩
          · rw [num_small hc]
            simp
          · rcases Nat.eq_zero_or_pos c.toNat with h1 | h1
            · exact absurd ⟨h1, hj⟩ h0
            · exact h1
      · rename_i hc
        obtain ⟨v, h1, h2, h3, h4, h5⟩ := rd_back r (j + 1) _ u' m h
        have hv := h3 (by omega)
        refine ⟨c.toNat % 128 + 128 * v, ?_, ?_, fun _ => by omega, by omega, by simp; omega⟩
        · rw [num_big (by omega)]
          have e1 : (c.toNat % 128 + 128 * v) / 128 = v := by omega
          have e2 : (c.toNat % 128 + 128 * v) % 128 = c.toNat % 128 := by omega
          have hc2 := c.toNat_lt
          have e3 : c.toNat % 128 + 128 = c.toNat := by omega
          rw [e1, e2, e3, ← h1]
          have e4 : m - j = (m - (j + 1)) + 1 := by omega
          rw [e4, List.take_succ_cons]
          simp
        · rw [h2, Nat.pow_succ, Nat.add_mul, Nat.add_assoc]
          congr 1
          congr 1
          rw [Nat.mul_comm 128 v, Nat.mul_assoc, Nat.mul_comm 128]
theorem G_nat {s : ByteArray} {a : Nat} {n p : Int} (h : num.G s a = .ok (n, p)) : ∃ P : Nat, p = P ∧ a < P ∧ P ≤ s.size ∧ (0 ≤ n → s.extract a P = numB n) := by
  unfold num.G at h
  split at h
  · cases h
  · split at h
    · cases h
    · split at h
      · cases h
      · rename_i u k hr
        simp only [Except.ok.injEq, Prod.mk.injEq] at h
        obtain ⟨rfl, rfl⟩ := h
        have e0 : (a : Int).toNat = a := by omega
        rw [e0] at hr
        obtain ⟨v, h1, h2, _, h4, h5⟩ := rd_back _ _ _ _ _ hr
        simp at h1 h2 h5
        refine ⟨a + k, by omega, by omega, by have : s.data.size = s.size := rfl; omega, fun hn => ?_⟩
        subst h2
        unfold num.unfold at hn ⊢
        unfold numB
        split at hn
        · omega
        · rename_i hp
          rw [if_neg hp]
          have e1 : 2 * ((u / 2 : Nat) : Int).toNat = u := by omega
          rw [e1, ← h1]
          apply ByteArray.ext
          apply Array.ext'
          simp [List.extract_eq_take_drop]
/-- n numbers are read from a place on
-/
def rdA (s : ByteArray) : Nat → Nat → List Int → Option (List Int × Nat)
  | 0, p, l => some (l, p)
  | n + 1, p, l => match num.G s p with | .error _ => none | .ok (z, q) => rdA s n q.toNat (l ++ [z])
theorem rdA_err {s : ByteArray} {n p : Nat} {l : List Int} {c : Int} (h : num.G s p = .error c) : rdA s (n + 1) p l = none := by
  rw [rdA, h]
theorem rdA_ok {s : ByteArray} {n p q : Nat} {l : List Int} {z : Int} (h : num.G s p = .ok (z, (q : Int))) : rdA s (n + 1) p l = rdA s n q (l ++ [z]) := by
  rw [rdA, h]
  simp
theorem cat (s : ByteArray) {a b c : Nat} (h1 : a ≤ b) (h2 : b ≤ c) : s.extract a b ++ s.extract b c = s.extract a c := by
  apply ByteArray.ext
  simp
  rw [Nat.min_eq_left h1, Nat.max_eq_right h2]
end Go.Proofs.YtjkbldmadcgddaaDoor.nbk
namespace Go.Proofs.YtjkbldmadcgddaaDoor.rdn
open Go.RowKit Go.Joins
open Go.Proofs.YtjkbldmadcgddaaDoor.base Go.Proofs.YtjkbldmadcgddaaDoor.blk Go.Proofs.YtjkbldmadcgddaaDoor.aid
open Go.Proofs.YtjkbldmadcgddaaDoor.row (Rd)
open Go.Proofs.YtjkbldmadcgddaaDoor.nbk (rdA rdA_ok rdA_err G_nat)
set_option linter.unusedVariables false

/-- these numbers lie in the cells from o on -/
def setL (w : World) (g o : Nat) (l : List Int) : World := l.foldl (fun (q : World × Nat) z => (q.1.setCell ⟨g, q.2, none⟩ (.int .i64 z), q.2 + 1)) (w, o) |>.1
theorem setL_nil (w : World) (g o : Nat) : setL w g o [] = w := rfl
theorem fold_snd : ∀ (l : List Int) (w : World) (g o : Nat), (l.foldl (fun (q : World × Nat) z => (q.1.setCell ⟨g, q.2, none⟩ (.int .i64 z), q.2 + 1)) (w, o)).2 = o + l.length
  | [], w, g, o => rfl
  | z :: l, w, g, o => by
    rw [List.foldl_cons, fold_snd l]
    simp only [List.length_cons]
    omega
theorem setL_snoc (w : World) (g o : Nat) (l : List Int) (z : Int) : setL w g o (l ++ [z]) = (setL w g o l).setCell ⟨g, o + l.length, none⟩ (.int .i64 z) := by
  unfold setL
  rw [List.foldl_append]
  simp only [List.foldl_cons, List.foldl_nil]
  rw [fold_snd]
theorem snoc_cases (l : List Int) : l = [] ∨ ∃ r z, l = r ++ [z] := by
  rcases List.eq_nil_or_concat l with h | ⟨r, z, h⟩
  · exact .inl h
  · exact .inr ⟨r, z, by simpa using h⟩
theorem setL_block (w : World) (g o : Nat) (l : List Int) (j : Nat) (hj : j ≠ g) : (setL w g o l).heap[j]? = w.heap[j]? := by
  induction h : l.length generalizing l with
  | zero =>
    have := List.eq_nil_of_length_eq_zero h
    subst this
    rfl
  | succ n ih =>
    rcases snoc_cases l with rfl | ⟨r, z, rfl⟩
    · cases h
    · rw [setL_snoc]
      exact (Below.heap_setCell _ ⟨g, o + r.length, none⟩ _ j hj).trans (ih r (by simpa using h))
theorem setL_cells (w : World) (g o : Nat) (l : List Int) (cs : Array Value) (T : TypeId) (hb : w.heap[g]? = some (.cells cs T)) : ∃ cs', (setL w g o l).heap[g]? = some (.cells cs' T) ∧ cs'.size = cs.size := by
  induction h : l.length generalizing l with
  | zero =>
    have := List.eq_nil_of_length_eq_zero h
    subst this
    exact ⟨cs, hb, rfl⟩
  | succ n ih =>
    rcases snoc_cases l with rfl | ⟨r, z, rfl⟩
    · cases h
    · obtain ⟨cs', h1, h2⟩ := ih r (by simpa using h)
      rw [setL_snoc]
      exact ⟨_, heap_setCell_same _ g (o + r.length) _ _ _ h1, by simpa using h2⟩
/-- the places of n cells from o on -/
def ptrL (g o n : Nat) : List Value := (List.range n).map (fun i => .pointer (some ⟨g, o + i, none⟩))
theorem ptrL_at (g o n i : Nat) (h : i < n) : (ptrL g o n)[i]? = some (.pointer (some ⟨g, o + i, none⟩)) := by simp [ptrL, h]
/-- what readNums answers: n numbers are read from p on -/
def NsPost (s : ByteArray) (n p : Nat) (w : World) (g o : Nat) (e : Ending) (w' : World) : Prop :=
  (∃ (q : Nat) (l : List Int), e = .returned (.tuple #[.int .i64 q, .nilIface]) ∧ rdA s n p [] = some (l, q) ∧ l.length = n ∧ q ≤ s.size ∧ w' = setL w g o l) ∨
  (∃ (T : TypeId) (v : Value) (l : List Int), e = .returned (.tuple #[.int .i64 0, .iface T v]) ∧ rdA s n p [] = none ∧ l.length ≤ n ∧ w' = setL w g o l)
set_option maxRecDepth 100000 in
set_option maxHeartbeats 2000000 in
theorem nums_any (s : ByteArray) (p hb n cap g o : Nat) (cs : Array Value) (T : TypeId) (w : World) (hs : s.size ≤ 20000) (hp : p ≤ s.size) (hn : n ≤ 100) (hr : Rd w (some ⟨hb, 0, none⟩) (ptrL g o n)) (hne : hb ≠ g) (hbl : w.heap[g]? = some (.cells cs T)) (hcs : o + n ≤ cs.size) :
    Calls Tryd.prog 44 #[.string s, .int .i64 (p : Int), .slice (some ⟨hb, 0, none⟩) n cap] w (NsPost s n p w g o) := by
  have HRd := mkHid (fun (p : Nat) wx (hp : (p : Int) ≤ 9223372036854775807) => num.read_any s p wx hs hp)
  have hs' : (s.size : Int) ≤ 20000 := by omega
  have hn' : (n : Int) ≤ 100 := by omega
  have HR := mkHid hr
  have HB := mkHid hbl
  clear hr hbl
  go_enter Tryd.func44, Tryd.ntmps44
  go_wp2
  go_loopw [1, 13] (fun a i wr => ∃ (k p' : Nat) (l : List Int), k ≤ n ∧ i = .int .i64 k ∧ a = .int .i64 p' ∧ p' ≤ s.size ∧ Hid (l.length = k ∧ rdA s n p [] = rdA s (n - k) p' l ∧ wr = setL w g o l))
    (fun _ i _ => n - (intOf i).toNat)
  case atStart => exact ⟨0, p, [], by omega, rfl, rfl, hp, mkHid ⟨rfl, rfl, rfl⟩⟩
  case round =>
    obtain ⟨k, p', l, hk, rfl, rfl, hp', hl⟩ := hrel
    have hpi : (p' : Int) ≤ 20000 := by omega
    by_cases hlt : k < n
    · have hki : (k : Int) < (n : Int) := by omega
      obtain ⟨b, off, e0, c0⟩ := HR.out k _ (ptrL_at g o n k hlt)
      simp at e0
      obtain ⟨rfl, rfl⟩ := e0
      have g0 : wr.cell? ⟨hb, k, none⟩ = some (.pointer (some ⟨g, o + k, none⟩)) := by
        rw [hl.out.2.2, World.cell?_of_block (w := w) (a := ⟨hb, k, none⟩) (setL_block w g o l hb hne)]
        simpa using c0
      obtain ⟨cs', hcb, hcz⟩ := setL_cells w g o l cs T HB.out
      rw [← hl.out.2.2] at hcb
      have e1 := unfrozen hcb
      have g1 : ∃ v, wr.cell? ⟨g, o + k, none⟩ = some v := by
        have h1 : o + k < cs'.size := by omega
        rw [cell_of_block hcb]
        exact ⟨_, Array.getElem?_eq_getElem h1⟩
      obtain ⟨g1v, g1⟩ := g1
      cases hq : num.G s p' with
      | error c =>
        have hN := mkHid (show rdA s n p [] = none by rw [hl.out.2.1, show n - k = (n - k - 1) + 1 by omega, rdA_err hq])
        have HW := mkHid (show wr.setCell ⟨g, o + k, none⟩ (.int .i64 0) = setL w g o (l ++ [0]) by rw [setL_snoc, hl.out.1, ← hl.out.2.2])
        have HL := mkHid (show (l ++ [(0 : Int)]).length ≤ n by simp; have := hl.out.1; omega)
        have HRd1 := HRd.out p' wr (by omega)
        rw [hq] at HRd1
        unfold num.tup at HRd1
        have HRd1 := mkHid HRd1
        clear HRd hl hq hcb c0 HR HB
        go_wp2_with fail
        refine HRd1.out.mono ?_
        rintro e w2 ⟨rfl, rfl⟩
        go_wp2
        refine bodyPost_ret (v := .tuple #[.int .i64 0, .iface 88 (.agg #[.int .i64 c])]) (by simp [results, Tryd.results44, go_sem]) rfl ?_
        exact .inr ⟨_, _, _, rfl, hN.out, HL.out, HW.out⟩
      | ok oo =>
        obtain ⟨z, q⟩ := oo
        obtain ⟨Q, rfl, hQ1, hQ2, _⟩ := G_nat hq
        have HRd1 := HRd.out p' wr (by omega)
        rw [hq] at HRd1
        unfold num.tup at HRd1
        have HRd1 := mkHid HRd1
        have N1 : Hid ((l ++ [z]).length = k + 1 ∧ rdA s n p [] = rdA s (n - (k + 1)) Q (l ++ [z]) ∧ wr.setCell ⟨g, o + k, none⟩ (.int .i64 z) = setL w g o (l ++ [z])) := mkHid ⟨by have := hl.out.1; simp; omega, by rw [hl.out.2.1, show n - k = (n - (k + 1)) + 1 by omega, rdA_ok hq], by rw [setL_snoc, hl.out.1, ← hl.out.2.2]⟩
        clear HRd hl hq hcb c0
        go_wp2_with fail
        refine HRd1.out.mono ?_
        rintro e w2 ⟨rfl, rfl⟩
        go_wp2
        go_roundw
        case rel => exact ⟨k + 1, Q, l ++ [z], by omega, by go_num, rfl, hQ2, N1⟩
        case measure => simp [intOf]; omega
    · obtain rfl : k = n := by omega
      have hN := mkHid (show rdA s k p [] = some (l, p') by rw [hl.out.2.1, Nat.sub_self]; rfl)
      have HL := mkHid hl.out.1
      have HW := mkHid hl.out.2.2
      clear hl HRd HR HB
      go_wp2
      refine bodyPost_ret (v := .tuple #[.int .i64 (p' : Int), .nilIface]) (by simp [results, Tryd.results44, go_sem]) rfl ?_
      exact .inl ⟨_, _, rfl, hN.out, HL.out, hp', HW.out⟩
end Go.Proofs.YtjkbldmadcgddaaDoor.rdn
namespace Go.Proofs.YtjkbldmadcgddaaDoor.frm
open Go.RowKit Go.Joins
open Go.Proofs.YtjkbldmadcgddaaDoor.base Go.Proofs.YtjkbldmadcgddaaDoor.blk Go.Proofs.YtjkbldmadcgddaaDoor.aid
open Go.Proofs.YtjkbldmadcgddaaDoor.sha (digest GV)
set_option linter.unusedVariables false

set_option maxHeartbeats 1000000 in
theorem prefix_any (s p : ByteArray) (w : World) :
    Calls Tryd.prog 43 #[.string s, .string p] w fun e w' => e = .returned (.bool (decide (p.size ≤ s.size) && ((s.extract 0 p.size).toList == p.toList))) ∧ w' = w := by
  go_enter Tryd.func43, Tryd.ntmps43
  go_wp2
  · rename_i h
    go_ret
    refine ⟨?_, rfl⟩
    simp [h]
  · rename_i h
    go_ret
    refine ⟨?_, rfl⟩
    simp [h]
/-- begins with F -/
def markB (s : ByteArray) : Bool := decide (1 ≤ s.size ∧ s.data.toList[0]? = some 70)
theorem mark_any (s : ByteArray) (w : World) :
    Calls Tryd.prog 43 #[.string s, .string ⟨#[70]⟩] w fun e w' => e = .returned (.bool (markB s)) ∧ w' = w := by
  refine (prefix_any s ⟨#[70]⟩ w).mono ?_
  rintro e w' ⟨rfl, rfl⟩
  refine ⟨aid.ret_eq ?_, rfl⟩
  congr 1
  unfold markB
  rw [Lib.toList_data, Lib.toList_data]
  obtain ⟨⟨l⟩⟩ := s
  cases l with
  | nil => decide
  | cons b r =>
    have h1 : ((⟨⟨b :: r⟩⟩ : ByteArray).extract 0 (⟨#[70]⟩ : ByteArray).size).data.toList = [b] := by
      show ((⟨⟨b :: r⟩⟩ : ByteArray).extract 0 1).data.toList = [b]
      simp
    have h2 : (⟨#[70]⟩ : ByteArray).data.toList = [70] := rfl
    have h3 : (⟨#[70]⟩ : ByteArray).size = 1 := rfl
    have h4 : (⟨⟨b :: r⟩⟩ : ByteArray).size = r.length + 1 := by show (⟨b :: r⟩ : Array UInt8).size = _; simp
    rw [h1, h2, h3, h4]
    by_cases hb : b = 70
    · subst hb; simp
    · simp [hb]
/-- the numbers that are read already -/
def box (l : List Int) : Obj := .cells #[.int .i64 (l.getD 0 0), .int .i64 (l.getD 1 0), .int .i64 (l.getD 2 0), .int .i64 (l.getD 3 0), .string ⟨#[]⟩, .string ⟨#[]⟩] 24
def ptrs (g : Nat) : Obj := .cells #[.pointer (some ⟨g, 0, none⟩), .pointer (some ⟨g, 1, none⟩), .pointer (some ⟨g, 2, none⟩), .pointer (some ⟨g, 3, none⟩)] 66
def zeroF : Obj := .cells #[.int .i64 0, .int .i64 0, .int .i64 0, .int .i64 0, .string ⟨#[]⟩, .string ⟨#[]⟩] 24
structure Rm (w : World) (l : List Int) (wr : World) : Prop where
  below : Below w.heap.size w wr
  b2 : wr.heap[w.heap.size]? = some zeroF
  b4 : wr.heap[w.heap.size + 1]? = some (box l)
  bg : wr.heap[w.heap.size + 2]? = some (ptrs (w.heap.size + 1))
theorem Rm.next {w wr w1 : World} {l : List Int} (h : Rm w l wr) (hb : Below wr.heap.size wr w1) : Rm w l w1 :=
  ⟨h.below.trans (hb.mono h.below.size), blk_below h.b2 hb, blk_below h.b4 hb, blk_below h.bg hb⟩
theorem Rm.put {w wr : World} {l : List Int} (h : Rm w l wr) (z : Int) (hl : l.length ≤ 3) : Rm w (l ++ [z]) (wr.setCell ⟨w.heap.size + 1, l.length, none⟩ (.int .i64 z)) := by
  refine ⟨h.below.setCell (p := ⟨w.heap.size + 1, l.length, none⟩) (by simp) _, blk_set h.b2 _ _ (by simp), ?_, blk_set h.bg _ _ (by simp)⟩
  have h1 := heap_setCell_same wr (w.heap.size + 1) l.length _ _ (.int .i64 z) h.b4
  rw [h1]
  unfold box
  congr 1
  match l, hl with
  | [], _ => rfl
  | [a], _ => rfl
  | [a, b], _ => rfl
  | [a, b, c], _ => rfl
theorem Rm.setL {w wr : World} (h : Rm w [] wr) : ∀ l : List Int, l.length ≤ 4 → Rm w l (rdn.setL wr (w.heap.size + 1) 0 l) := by
  intro l
  induction hn : l.length generalizing l with
  | zero =>
    intro _
    have := List.eq_nil_of_length_eq_zero hn
    subst this
    exact h
  | succ n ih =>
    intro hl
    rcases rdn.snoc_cases l with rfl | ⟨r, z, rfl⟩
    · cases hn
    · rw [rdn.setL_snoc, Nat.zero_add]
      have hr : r.length = n := by simpa using hn
      exact (ih r hr (by omega)).put z (by simp at hl; omega)
theorem Rm.ptrs {w wr : World} {l : List Int} (h : Rm w l wr) : row.Rd wr (some ⟨w.heap.size + 2, 0, none⟩) (rdn.ptrL (w.heap.size + 1) 0 4) := by
  intro i u hi
  refine ⟨w.heap.size + 2, 0, rfl, ?_⟩
  have h1 := cel4 h.bg
  have hlt : i < 4 := by have := (List.getElem?_eq_some_iff.1 hi).1; simpa [rdn.ptrL] using this
  rw [rdn.ptrL_at _ _ _ _ hlt] at hi
  cases hi
  rcases (show i = 0 ∨ i = 1 ∨ i = 2 ∨ i = 3 by omega) with rfl | rfl | rfl | rfl
  · exact h1.1
  · exact h1.2.1
  · exact h1.2.2.1
  · exact h1.2.2.2
theorem rdA_same (s : ByteArray) : ∀ (n p : Nat) (l : List Int), rdA s n p l = nbk.rdA s n p l
  | 0, p, l => rfl
  | n + 1, p, l => by
    rw [rdA, nbk.rdA]
    cases num.G s p with
    | error c => rfl
    | ok o => exact rdA_same s n _ _
/-- a frame that is put together -/
structure Fm (w : World) (a b c d : Int) (h x : ByteArray) (wr : World) : Prop where
  below : Below w.heap.size w wr
  b2 : wr.heap[w.heap.size]? = some zeroF
  b4 : wr.heap[w.heap.size + 1]? = some (.cells #[.int .i64 a, .int .i64 b, .int .i64 c, .int .i64 d, .string h, .string x] 24)
theorem Fm.next {w wr w1 : World} {a b c d : Int} {h x : ByteArray} (f : Fm w a b c d h x wr) (hb : Below wr.heap.size wr w1) : Fm w a b c d h x w1 :=
  ⟨f.below.trans (hb.mono f.below.size), blk_below f.b2 hb, blk_below f.b4 hb⟩
theorem Fm.put4 {w wr : World} {a b c d : Int} {h x : ByteArray} (f : Fm w a b c d h x wr) (h' : ByteArray) : Fm w a b c d h' x (wr.setCell ⟨w.heap.size + 1, 4, none⟩ (.string h')) :=
  ⟨f.below.setCell (p := ⟨w.heap.size + 1, 4, none⟩) (by simp) _, blk_set f.b2 _ _ (by simp), by have h1 := heap_setCell_same wr (w.heap.size + 1) 4 _ _ (.string h') f.b4; simpa using h1⟩
theorem Fm.put5 {w wr : World} {a b c d : Int} {h x : ByteArray} (f : Fm w a b c d h x wr) (x' : ByteArray) : Fm w a b c d h x' (wr.setCell ⟨w.heap.size + 1, 5, none⟩ (.string x')) :=
  ⟨f.below.setCell (p := ⟨w.heap.size + 1, 5, none⟩) (by simp) _, blk_set f.b2 _ _ (by simp), by have h1 := heap_setCell_same wr (w.heap.size + 1) 5 _ _ (.string x') f.b4; simpa using h1⟩
theorem cut_front (s : ByteArray) (p : Nat) (h : p + 64 ≤ s.size) : (s.extract p s.size).extract 0 32 = s.extract p (p + 32) := by
  apply ByteArray.ext
  simp
  rw [Nat.min_eq_left (by omega)]
theorem cut_back (s : ByteArray) (p : Nat) (h : p + 64 ≤ s.size) : (s.extract p s.size).extract 64 (s.size - p) = s.extract (p + 64) s.size := by
  apply ByteArray.ext
  simp
  congr 1
  omega
theorem cut_len (s : ByteArray) (p : Nat) (h : p ≤ s.size) : (s.extract p s.size).size = s.size - p := by simp
/-- what readFrame answers -/
def RdPost (w : World) (s : ByteArray) (e : Ending) (w' : World) : Prop :=
  (∃ (b : Bool) (k m i z : Int) (h x : ByteArray), e = .returned (.tuple #[.agg #[.int .i64 k, .int .i64 m, .int .i64 i, .int .i64 z, .string h, .string x], .bool b]) ∧ (b = true → readF s = some (k, m, i, z, h, x)) ∧ (b = false → readF s = none)) ∧ Below w.heap.size w w'
theorem rd_no {w w' : World} {s : ByteArray} {k m i z : Int} {h x : ByteArray} (hn : readF s = none) (hb : Below w.heap.size w w') : RdPost w s (.returned (.tuple #[.agg #[.int .i64 k, .int .i64 m, .int .i64 i, .int .i64 z, .string h, .string x], .bool false])) w' :=
  ⟨⟨false, k, m, i, z, h, x, rfl, (fun e => by cases e), (fun _ => hn)⟩, hb⟩
theorem set6 {w : World} {g : Nat} {a b c d e f : Value} {T : TypeId} (h : w.heap[g]? = some (.cells #[a, b, c, d, e, f] T)) (x0 x1 x2 x3 x4 x5 : Value) : ((((((w.setCell ⟨g, 0, none⟩ x0).setCell ⟨g, 1, none⟩ x1).setCell ⟨g, 2, none⟩ x2).setCell ⟨g, 3, none⟩ x3).setCell ⟨g, 4, none⟩ x4).setCell ⟨g, 5, none⟩ x5).heap[g]? = some (.cells #[x0, x1, x2, x3, x4, x5] T) := by
  have h1 := heap_setCell_same _ g 5 _ _ x5 (heap_setCell_same _ g 4 _ _ x4 (heap_setCell_same _ g 3 _ _ x3 (heap_setCell_same _ g 2 _ _ x2 (heap_setCell_same _ g 1 _ _ x1 (heap_setCell_same w g 0 _ _ x0 h)))))
  simpa using h1
theorem below6 {w w1 : World} {g : Nat} (hb : Below w.heap.size w w1) (hg : w.heap.size ≤ g) (x0 x1 x2 x3 x4 x5 : Value) : Below w.heap.size w ((((((w1.setCell ⟨g, 0, none⟩ x0).setCell ⟨g, 1, none⟩ x1).setCell ⟨g, 2, none⟩ x2).setCell ⟨g, 3, none⟩ x3).setCell ⟨g, 4, none⟩ x4).setCell ⟨g, 5, none⟩ x5) :=
  (((((hb.setCell (p := ⟨g, 0, none⟩) hg x0).setCell (p := ⟨g, 1, none⟩) hg x1).setCell (p := ⟨g, 2, none⟩) hg x2).setCell (p := ⟨g, 3, none⟩) hg x3).setCell (p := ⟨g, 4, none⟩) hg x4).setCell (p := ⟨g, 5, none⟩) hg x5

set_option maxRecDepth 100000 in
set_option maxHeartbeats 4000000 in
theorem readI_any (s : ByteArray) (w : World) (hs : s.size ≤ 20000) (HD : himpl.IDigest) (hG : GV w) :
    Calls Tryd.prog 22 #[.string s] w (RdPost w s) := by
  have HMk := mkHid (fun wx => mark_any s wx)
  have HG := mkHid (fun wx (hb : Below w.heap.size w wx) => hG.below hb hG.lt)
  cases hm : markB s with
  | false =>
    rw [hm] at HMk
    have hN := mkHid (show readF s = none by
      unfold readF
      rw [if_pos]
      unfold markB at hm
      have h1 := of_decide_eq_false hm
      by_cases h2 : s.size < 1
      · exact .inl h2
      · exact .inr (fun h3 => h1 ⟨by omega, h3⟩))
    have B1 := mkHid (below_alloc1 w zeroF)
    have b1 := mkHid (blk_new w zeroF w.heap.size rfl)
    unfold zeroF at B1 b1
    have e1 := unfrozen b1.out
    obtain ⟨c0, c1, c2, c3, c4, c5⟩ := cel6 b1.out
    clear hm hG hs
    go_enter Tryd.func22, Tryd.ntmps22
    go_wp2_with fail
    refine (HMk.out _).mono ?_
    rintro e w1 ⟨rfl, rfl⟩
    go_wp2
    refine bodyPost_ret (v := .tuple #[.agg #[.int .i64 0, .int .i64 0, .int .i64 0, .int .i64 0, .string ⟨#[]⟩, .string ⟨#[]⟩], .bool false]) ?_ rfl ?_
    rotate_left
    · exact rd_no hN.out B1.out
    · simp [results, Tryd.results22, go_sem]
  | true =>
    rw [hm] at HMk
    unfold markB at hm
    have HM0 := mkHid (of_decide_eq_true hm)
    have R0 : Hid (Rm w [] (((w.alloc zeroF).alloc (box [])).alloc (ptrs (w.heap.size + 1)))) := mkHid ⟨allocs3 w _ _ _, blk_old (blk_old (blk_new w _ _ rfl) _) _, blk_old (blk_new _ _ _ (by simp)) _, blk_new _ _ _ (by simp)⟩
    have HNs : Hid (∀ wx, Rm w [] wx → Calls Tryd.prog 44 #[.string s, .int .i64 1, .slice (some ⟨w.heap.size + 2, 0, none⟩) 4 4] wx (rdn.NsPost s 4 1 wx (w.heap.size + 1) 0)) := mkHid (fun wx hR => rdn.nums_any s 1 (w.heap.size + 2) 4 4 (w.heap.size + 1) 0 _ _ wx hs HM0.out.1 (by omega) hR.ptrs (by omega) hR.b4 (by simp))
    unfold zeroF box frm.ptrs at R0
    have hs' : (s.size : Int) ≤ 20000 := by omega
    clear hm hG
    go_enter Tryd.func22, Tryd.ntmps22
    go_wp2_with fail
    refine (HMk.out _).mono ?_
    rintro e w1 ⟨rfl, rfl⟩
    clear HMk
    go_wp2_with fail
    refine (HNs.out _ R0.out).mono ?_
    rintro e wr (⟨p, l, rfl, hrd0, hl4, hp, hw⟩ | ⟨T, v, l, rfl, hrd0, hl4, hw⟩)
    rotate_left
    · have hN := mkHid (show readF s = none by
        unfold readF
        rw [if_neg (fun h => h.elim (fun h => absurd HM0.out.1 (by omega)) (fun h => h HM0.out.2)), rdA_same, hrd0])
      have hR := mkHid (R0.out.setL l hl4)
      rw [← hw] at hR
      obtain ⟨c0, c1, c2, c3, c4, c5⟩ := cel6 hR.out.b2
      have e1 := unfrozen hR.out.b2
      have HP := mkHid (rd_no hN.out (below6 hR.out.below (Nat.le_refl _) (.int .i64 0) (.int .i64 0) (.int .i64 0) (.int .i64 0) (.string ⟨#[]⟩) (.string ⟨#[]⟩)) (k := 0) (m := 0) (i := 0) (z := 0) (h := ⟨#[]⟩) (x := ⟨#[]⟩))
      clear hw hrd0 HNs HD HG HM0 hN hR R0
      go_wp2
      refine bodyPost_ret (v := .tuple #[.agg #[.int .i64 0, .int .i64 0, .int .i64 0, .int .i64 0, .string ⟨#[]⟩, .string ⟨#[]⟩], .bool false]) ?_ rfl ?_
      rotate_left
      · exact HP.out
      · simp [results, Tryd.results22, go_sem, c0, c1, c2, c3, c4, c5]
    · obtain ⟨a, b, c, d, rfl⟩ : ∃ a b c d, l = [a, b, c, d] := by
        match l, hl4 with
        | [a, b, c, d], _ => exact ⟨a, b, c, d, rfl⟩
      have hrd := mkHid (show rdA s 4 1 [] = some ([a, b, c, d], p) by rw [rdA_same]; exact hrd0)
      have F1 : Hid (Fm w a b c d ⟨#[]⟩ ⟨#[]⟩ wr) := by
        have hR := R0.out.setL [a, b, c, d] (by simp)
        rw [← hw] at hR
        exact mkHid ⟨hR.below, hR.b2, hR.b4⟩
      have hcl := cut_len s p hp
      clear hw hrd0 HNs R0 hl4
      by_cases h64 : s.size < p + 64
      · have hN := mkHid (show readF s = none by
          unfold readF
          rw [if_neg (fun h => h.elim (fun h => absurd HM0.out.1 (by omega)) (fun h => h HM0.out.2)), hrd.out]
          simp only
          rw [if_pos h64])
        have hr : ((s.size - p : Nat) : Int) < 64 := by omega
        have hr3 : (((s.size - p : Nat) : Int) < 64) = True := eq_true hr
        have hpl : (p : Int) ≤ (s.size : Int) := by omega
        obtain ⟨c0, c1, c2, c3, c4, c5⟩ := cel6 F1.out.b2
        have e1 := unfrozen F1.out.b2
        have HP := mkHid (rd_no hN.out (below6 F1.out.below (Nat.le_refl _) (.int .i64 0) (.int .i64 0) (.int .i64 0) (.int .i64 0) (.string ⟨#[]⟩) (.string ⟨#[]⟩)) (k := 0) (m := 0) (i := 0) (z := 0) (h := ⟨#[]⟩) (x := ⟨#[]⟩))
        clear hrd h64 HD HG HM0 F1 hN hcl
        go_wp2
        refine bodyPost_ret (v := .tuple #[.agg #[.int .i64 0, .int .i64 0, .int .i64 0, .int .i64 0, .string ⟨#[]⟩, .string ⟨#[]⟩], .bool false]) ?_ rfl ?_
        rotate_left
        · exact HP.out
        · simp [results, Tryd.results22, go_sem, c0, c1, c2, c3, c4, c5]
      · have hr : (64 : Int) ≤ ((s.size - p : Nat) : Int) := by omega
        have hpl : (p : Int) ≤ (s.size : Int) := by omega
        have hC1 := mkHid (fun wx => clone.clone_any ((s.extract p s.size).extract 0 32) wx (by rw [cut_front s p (by omega)]; simp; omega))
        have hC2 := mkHid (fun wx => clone.clone_any ((s.extract p s.size).extract 64 (s.size - p)) wx (by rw [cut_back s p (by omega)]; simp; omega))
        have TI := mkHid (text_iff HM0.out.2 hrd.out (by omega))
        have hRF := mkHid (show readF s = if frmB a b c d (s.extract p (p + 32)) (s.extract (p + 64) s.size) = true ∧ digest (s.extract 0 (p + 32) ++ s.extract (p + 64) s.size) = s.extract (p + 32) (p + 64) then some (a, b, c, d, s.extract p (p + 32), s.extract (p + 64) s.size) else none by
          unfold readF
          rw [if_neg (fun h => h.elim (fun h => absurd HM0.out.1 (by omega)) (fun h => h HM0.out.2)), hrd.out]
          simp only
          rw [if_neg h64])
        have HFB := mkHid (fun wx (hb : Below w.heap.size w wx) => bytesI_any a b c d (s.extract p (p + 32)) (s.extract (p + 64) s.size) wx (by simp; omega) (by simp; omega) HD (HG.out wx hb))
        have HEnd : Hid (∀ w' bb, (bb = true ↔ fbytes a b c d (s.extract p (p + 32)) (s.extract (p + 64) s.size) = s) → Below w.heap.size w w' → RdPost w s (.returned (.tuple #[.agg #[.int .i64 a, .int .i64 b, .int .i64 c, .int .i64 d, .string (s.extract p (p + 32)), .string (s.extract (p + 64) s.size)], .bool bb])) w') := mkHid (by
          intro w' bb hbb hb
          refine ⟨⟨bb, a, b, c, d, _, _, rfl, fun e => ?_, fun e => ?_⟩, hb⟩
          · rw [hRF.out, if_pos (TI.out.1 (hbb.1 e))]
          · rw [hRF.out, if_neg (fun h => by have := hbb.2 (TI.out.2 h); rw [e] at this; cases this)])
        rw [cut_front s p (by omega)] at hC1
        rw [cut_back s p (by omega)] at hC2
        have q1 := cut_front s p (by omega)
        have q2 := cut_back s p (by omega)
        obtain ⟨c0, c1, c2, c3, c4, c5⟩ := cel6 F1.out.b4
        have e1 := unfrozen F1.out.b4
        clear hRF TI hrd h64 HD HG HM0 hcl
        go_wp2_with fail
        refine (hC1.out _).mono ?_
        rintro e w2 ⟨rfl, hb⟩
        have F2 := mkHid (F1.out.next hb)
        have F3 := mkHid (F2.out.put4 (s.extract p (p + 32)))
        have f1 := unfrozen F2.out.b4
        have f2 := (cel6 F2.out.b4).2.2.2.2.1
        clear hb hC1 F1 c0 c1 c2 c3 c4 c5 e1
        go_wp2_with fail
        refine (hC2.out _).mono ?_
        rintro e w3 ⟨rfl, hb⟩
        have F4 := mkHid (F3.out.next hb)
        have F5 := mkHid (F4.out.put5 (s.extract (p + 64) s.size))
        have f3 := unfrozen F4.out.b4
        have f4 := (cel6 F4.out.b4).2.2.2.2.2
        clear hb hC2 F2 F3 f1 f2
        obtain ⟨c0, c1, c2, c3, c4, c5⟩ := cel6 F5.out.b4
        clear F4
        by_cases hfb : fbytes a b c d (s.extract p (p + 32)) (s.extract (p + 64) s.size) = s
        · have HP := mkHid (fun w' (hb : Below w.heap.size w w') => HEnd.out w' true ⟨(fun _ => hfb), (fun _ => rfl)⟩ hb)
          clear HEnd
          rw [hfb] at HFB
          have he : (s.toList == s.toList) = true := by simp
          clear hfb
          go_wp2_with fail
          generalize w3.setCell ⟨w.heap.size + 1, 5, none⟩ (.string (s.extract (p + 64) s.size)) = V at *
          go_region_held3 (fun w' => w'.cell? ⟨w.heap.size + 1, 0, none⟩ = some (.int .i64 a) ∧ w'.cell? ⟨w.heap.size + 1, 1, none⟩ = some (.int .i64 b) ∧ w'.cell? ⟨w.heap.size + 1, 2, none⟩ = some (.int .i64 c) ∧ w'.cell? ⟨w.heap.size + 1, 3, none⟩ = some (.int .i64 d) ∧ w'.cell? ⟨w.heap.size + 1, 4, none⟩ = some (.string (s.extract p (p + 32))) ∧ w'.cell? ⟨w.heap.size + 1, 5, none⟩ = some (.string (s.extract (p + 64) s.size))) (go_keep)
            ((go_at_call 6; refine Calls.mono (HFB.out _ (by first | exact F5.out.below | exact F5.out.below.drew)) ?_; rintro e w6 ⟨rfl, hb⟩; have F6 := mkHid (F5.out.next (re hb rfl rfl rfl rfl)); obtain ⟨d0, d1, d2, d3, d4, d5⟩ := cel6 F6.out.b4; obtain ⟨r0, r1, r2, r3, r4, r5⟩ := cel6 F6.out.b2; have r6 := unfrozen F6.out.b2; clear hb))
          have HB := mkHid (below6 F6.out.below (Nat.le_refl _) (.int .i64 a) (.int .i64 b) (.int .i64 c) (.int .i64 d) (.string (s.extract p (p + 32))) (.string (s.extract (p + 64) s.size)))
          clear F5 HFB
          go_wp2
          refine bodyPost_ret (v := .tuple #[.agg #[.int .i64 a, .int .i64 b, .int .i64 c, .int .i64 d, .string (s.extract p (p + 32)), .string (s.extract (p + 64) s.size)], .bool true]) ?_ rfl ?_
          rotate_left
          · exact HP.out _ HB.out
          · simp [results, Tryd.results22, go_sem, r0, r1, r2, r3, r4, r5]
        · have HP := mkHid (fun w' (hb : Below w.heap.size w w') => HEnd.out w' false ⟨(fun h => by cases h), (fun h => absurd h hfb)⟩ hb)
          clear HEnd
          have he := strs.bytes_ne hfb
          generalize fbytes a b c d (s.extract p (p + 32)) (s.extract (p + 64) s.size) = fb at *
          clear hfb
          go_wp2_with fail
          generalize w3.setCell ⟨w.heap.size + 1, 5, none⟩ (.string (s.extract (p + 64) s.size)) = V at *
          go_region_held3 (fun w' => w'.cell? ⟨w.heap.size + 1, 0, none⟩ = some (.int .i64 a) ∧ w'.cell? ⟨w.heap.size + 1, 1, none⟩ = some (.int .i64 b) ∧ w'.cell? ⟨w.heap.size + 1, 2, none⟩ = some (.int .i64 c) ∧ w'.cell? ⟨w.heap.size + 1, 3, none⟩ = some (.int .i64 d) ∧ w'.cell? ⟨w.heap.size + 1, 4, none⟩ = some (.string (s.extract p (p + 32))) ∧ w'.cell? ⟨w.heap.size + 1, 5, none⟩ = some (.string (s.extract (p + 64) s.size))) (go_keep)
            ((go_at_call 6; refine Calls.mono (HFB.out _ (by first | exact F5.out.below | exact F5.out.below.drew)) ?_; rintro e w6 ⟨rfl, hb⟩; have F6 := mkHid (F5.out.next (re hb rfl rfl rfl rfl)); obtain ⟨d0, d1, d2, d3, d4, d5⟩ := cel6 F6.out.b4; obtain ⟨r0, r1, r2, r3, r4, r5⟩ := cel6 F6.out.b2; have r6 := unfrozen F6.out.b2; clear hb))
          have HB := mkHid (below6 F6.out.below (Nat.le_refl _) (.int .i64 a) (.int .i64 b) (.int .i64 c) (.int .i64 d) (.string (s.extract p (p + 32))) (.string (s.extract (p + 64) s.size)))
          clear F5 HFB
          go_wp2
          refine bodyPost_ret (v := .tuple #[.agg #[.int .i64 a, .int .i64 b, .int .i64 c, .int .i64 d, .string (s.extract p (p + 32)), .string (s.extract (p + 64) s.size)], .bool false]) ?_ rfl ?_
          rotate_left
          · exact HP.out _ HB.out
          · simp [results, Tryd.results22, go_sem, r0, r1, r2, r3, r4, r5]
end Go.Proofs.YtjkbldmadcgddaaDoor.frm
