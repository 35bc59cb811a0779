/-
  What spec.l11NodeRight, impl.nodeRight, spec.NodesRight and impl.NodesRight answer and leave. Conditions: nodes that lie in memory, of texts of at most 1,048,576 bytes.
-/
import Derived.Test.YtmmmadehifajlaaNdP
import Derived.Test.YtmmmadehifajlaaZNodA
import Derived.Shelf.SlSortCmp.QuietGrown
namespace Go.Proofs.Ytmmmadehifajlaa.nod
open Go.RowKit Go.Joins Go.Sort
open Go.Proofs.Ytmmmadehifajlaa.base Go.Proofs.Ytmmmadehifajlaa.blk Go.Proofs.Ytmmmadehifajlaa.aid
open Go.Proofs.Ytmmmadehifajlaa.ord
open Go.Proofs.Ytmmmadehifajlaa.obj (nameB)
open Go.Proofs.Ytmmmadehifajlaa.row (Rd Own OwnV)
open Go.Proofs.Ytmmmadehifajlaa.strs (tx)
set_option linter.unusedVariables false
set_option linter.unusedSimpArgs false

theorem alloc_grown (w : World) (o : Obj) : ∃ q os', w.alloc o = grow (w.drewN q) os' := ⟨0, #[o], by rw [alloc_eq_grow]; rfl⟩
theorem mixed : Try.prog.follows .mixedOrders = true := by kernel_rfl
theorem below_grow {B n : Nat} {w V : World} (os : Array Obj) (h : Below B w V) (hs : B ≤ V.heap.size) : Below B w (grow (V.drewN n) os) :=
  ⟨h.os, h.tape, h.output, by have := h.size; simp; omega, fun k hk => by rw [heap_grow_old _ _ (by show k < V.heap.size; omega)]; exact h.block k hk⟩
/-- a node as a value -/
def ndV (x0 : ByteArray) (x1 : Bool) (x2 : Int) (a : Option Addr) (n c : Nat) : Value := .agg #[.string x0, .bool x1, .int .i64 x2, .slice a n c]
def ndO (x0 : ByteArray) (x1 : Bool) (x2 : Int) (a : Option Addr) (n c : Nat) : Obj := .cells #[.string x0, .bool x1, .int .i64 x2, .slice a n c] 59
theorem nodeB_name {x0 : ByteArray} {x1 : Bool} {x2 : Int} {l : Tx} (h : nameB x0 = false) : nodeB (x0, x1, x2, l) = false := by simp [nodeB, h]
theorem nodeB_keys {x0 : ByteArray} {x1 : Bool} {x2 : Int} {l : Tx} (h : keysB l = false) : nodeB (x0, x1, x2, l) = false := by simp [nodeB, h]
theorem nodeB_many {x0 : ByteArray} {x1 : Bool} {x2 : Int} {l : Tx} (h : 100 < l.length) : nodeB (x0, x1, x2, l) = false := by simp [nodeB]; omega
theorem nodeB_dir {x0 : ByteArray} {x2 : Int} {l : Tx} (h : ¬ (x2 = 0 ∧ l.length = 1)) : nodeB (x0, true, x2, l) = false := by
  simp [nodeB, dirB]
  omega
theorem nodeB_low {x0 : ByteArray} {x1 : Bool} {x2 : Int} {l : Tx} (h : x2 < 0 ∨ 1500 < x2) : nodeB (x0, x1, x2, l) = false := by
  simp [nodeB]
  omega
theorem nodeB_yes {x0 : ByteArray} {x1 : Bool} {x2 : Int} {l : Tx} (h1 : nameB x0 = true) (h2 : l.length ≤ 100) (h3 : x1 = true → x2 = 0 ∧ l.length = 1) (h4 : 0 ≤ x2) (h5 : x2 ≤ 1500) (h6 : keysB l = true) : nodeB (x0, x1, x2, l) = true := by
  have h7 : dirB (x0, x1, x2, l) = true := by
    cases x1 with
    | false => rfl
    | true => have := h3 rfl; simp [dirB, this]
  simp [nodeB, h1, h2, h4, h5, h6, h7]

set_option maxRecDepth 100000 in
set_option maxHeartbeats 2000000 in
theorem nodeI_any (x0 : ByteArray) (x1 : Bool) (x2 : Int) (a : Option Addr) (c : Nat) (l : Tx) (w : World) (h0 : x0.size ≤ 1048576) (hl : l.length ≤ 1048576) (hs : FitT l) (hr : Rd w a (tx l)) :
    Calls Try.prog 35 #[.agg #[.string x0, .bool x1, .int .i64 x2, .slice a l.length c]] w fun e w' => e = .returned (.bool (nodeB (x0, x1, x2, l))) ∧ w' = w.alloc (.cells #[.string x0, .bool x1, .int .i64 x2, .slice a l.length c] 59) := by
  have HN := mkHid (fun wx => obj.name_impl x0 wx h0)
  have hli : (l.length : Int) ≤ 1048576 := by omega
  have HR := mkHid (hr.alloc (.cells #[.string x0, .bool x1, .int .i64 x2, .slice a l.length c] 59))
  obtain ⟨c0, c1, c2, c3⟩ := cel4 (blk_new w (.cells #[.string x0, .bool x1, .int .i64 x2, .slice a l.length c] 59) w.heap.size rfl)
  have HS := mkHid hs
  clear hr hs
  go_enter Try.func35, Try.ntmps35
  go_wp2_with fail
  go_loopw [4, 8] (fun t i wr => ∃ k : Nat, k ≤ l.length ∧ i = .int .i64 k ∧ Hid (keysB l = keysB (l.drop k)) ∧ wr = w.alloc (.cells #[.string x0, .bool x1, .int .i64 x2, .slice a l.length c] 59))
    (fun _ i _ => l.length - (intOf i).toNat)
  case atStart => exact ⟨0, Nat.zero_le _, rfl, mkHid (by simp), rfl⟩
  case round =>
    obtain ⟨k, hk, rfl, hF, rfl⟩ := hrel
    by_cases hlt : k < l.length
    · have hlti : (k : Int) < (l.length : Int) := by omega
      obtain ⟨t, hx⟩ : ∃ y, l[k]? = some y := ⟨_, List.getElem?_eq_getElem hlt⟩
      obtain ⟨g1, o1, rfl, d0, l1⟩ := tx_el HR.out hx
      have hst := keysB_step l k t hx
      have hti := HS.out t (List.mem_of_getElem? hx)
      by_cases h32 : t.size = 32
      · have h32i : ((t.size : Int) != 32) = false := by simp; omega
        have N1 : Hid (keysB l = keysB (l.drop (k + 1))) := mkHid (by rw [hF.out, hst, decide_eq_true h32, Bool.true_and])
        clear hF hst hx h32
        go_wp2
        exact ⟨⟨k + 1, by omega, by go_num, N1, by first | rfl | trivial⟩, by simp [intOf]; omega⟩
      · have h32i : ((t.size : Int) != 32) = true := by simp; omega
        have E := mkHid (nodeB_keys (x0 := x0) (x1 := x1) (x2 := x2) (keysB_no (List.mem_of_getElem? hx) h32))
        clear hF hst hx h32
        go_wp2
        go_ret
        exact ⟨ret_eq (by rw [E.out]; rfl), rfl⟩
    · obtain rfl : k = l.length := by omega
      have HK : Hid (keysB l = true) := mkHid (by rw [hF.out, List.drop_of_length_le (Nat.le_refl _)]; rfl)
      clear hF
      cases hn : nameB x0 with
      | false =>
        rw [hn] at HN
        have E := mkHid (nodeB_name (x1 := x1) (x2 := x2) (l := l) hn)
        cases x1 with
        | true =>
          go_wp2_with fail
          refine (HN.out _).mono ?_
          rintro e w1 ⟨rfl, rfl⟩
          go_wp2
          go_ret
          exact ⟨ret_eq (by rw [E.out]; rfl), rfl⟩
        | false =>
          go_wp2_with fail
          refine (HN.out _).mono ?_
          rintro e w1 ⟨rfl, rfl⟩
          go_wp2
          go_ret
          exact ⟨ret_eq (by rw [E.out]; rfl), rfl⟩
      | true =>
        rw [hn] at HN
        cases x1 with
        | true =>
          by_cases s1 : x2 = 0
          · subst s1
            by_cases s2 : l.length = 1
            · have E := mkHid (nodeB_yes (x1 := true) (x2 := 0) hn (show l.length ≤ 100 by omega) (fun _ => ⟨rfl, s2⟩) (by omega) (by omega) HK.out)
              have s2i : ((l.length : Int) == 1) = true := by simp; omega
              clear hn HK s2
              go_wp2_with fail
              refine (HN.out _).mono ?_
              rintro e w1 ⟨rfl, rfl⟩
              go_wp2
              go_ret
              exact ⟨ret_eq (by rw [E.out]; rfl), rfl⟩
            · have E := mkHid (nodeB_dir (x0 := x0) (x2 := 0) (l := l) (fun h => s2 h.2))
              have s2i : ((l.length : Int) == 1) = false := by simp; omega
              clear hn HK s2
              go_wp2_with fail
              refine (HN.out _).mono ?_
              rintro e w1 ⟨rfl, rfl⟩
              go_wp2
              go_ret
              exact ⟨ret_eq (by rw [E.out]; rfl), rfl⟩
          · have E := mkHid (nodeB_dir (x0 := x0) (x2 := x2) (l := l) (fun h => s1 h.1))
            have s1i : (x2 == 0) = false := by simp [s1]
            clear hn HK
            go_wp2_with fail
            refine (HN.out _).mono ?_
            rintro e w1 ⟨rfl, rfl⟩
            go_wp2
            go_ret
            exact ⟨ret_eq (by rw [E.out]; rfl), rfl⟩
        | false =>
          by_cases s1 : x2 < 0
          · have E := mkHid (nodeB_low (x0 := x0) (x1 := false) (x2 := x2) (l := l) (.inl s1))
            clear hn HK
            go_wp2_with fail
            refine (HN.out _).mono ?_
            rintro e w1 ⟨rfl, rfl⟩
            go_wp2
            go_ret
            exact ⟨ret_eq (by rw [E.out]; rfl), rfl⟩
          have s1' : 0 ≤ x2 := by omega
          by_cases s2 : 1500 < x2
          · have E := mkHid (nodeB_low (x0 := x0) (x1 := false) (x2 := x2) (l := l) (.inr s2))
            clear hn HK s1
            go_wp2_with fail
            refine (HN.out _).mono ?_
            rintro e w1 ⟨rfl, rfl⟩
            go_wp2
            go_ret
            exact ⟨ret_eq (by rw [E.out]; rfl), rfl⟩
          have s2' : x2 ≤ 1500 := by omega
          by_cases s3 : 100 < l.length
          · have E := mkHid (nodeB_many (x0 := x0) (x1 := false) (x2 := x2) s3)
            have s3i : 100 < (l.length : Int) := by omega
            clear hn HK s1 s2
            go_wp2_with fail
            refine (HN.out _).mono ?_
            rintro e w1 ⟨rfl, rfl⟩
            go_wp2
            go_ret
            exact ⟨ret_eq (by rw [E.out]; simp; omega), rfl⟩
          · have E := mkHid (nodeB_yes (x1 := false) (x2 := x2) hn (show l.length ≤ 100 by omega) (fun h => by cases h) s1' s2' HK.out)
            have s3i : (l.length : Int) ≤ 100 := by omega
            clear hn HK s1 s2
            go_wp2_with fail
            refine (HN.out _).mono ?_
            rintro e w1 ⟨rfl, rfl⟩
            go_wp2
            go_ret
            exact ⟨ret_eq (by rw [E.out]; rfl), rfl⟩
end Go.Proofs.Ytmmmadehifajlaa.nod
