/-
  What spec.l11NodeRight, impl.nodeRight, spec.NodesRight and impl.NodesRight answer and leave. Conditions: nodes that lie in memory, of texts of at most 1,048,576 bytes.
  What spec.l11NodeRight answers and leaves. Conditions: a node that lies in memory, of texts of at most 1,048,576 bytes.
  What spec.NodesRight and impl.NodesRight answer and leave. Conditions: nodes that lie in memory, of texts of at most 1,048,576 bytes.
-/
import Derived.Test.YtmmmadehifajlaaNdP
import Derived.Test.YtmmmadehifajlaaZNodA
import Derived.Shelf.SlSortCmp.QuietGrown
import Derived.Laws.Cover1
namespace Go.Proofs.Ytmmmadehifajlaa.nod
open Go.RowKit Go.Joins Go.Sort
open Go.Proofs.Ytmmmadehifajlaa.base Go.Proofs.Ytmmmadehifajlaa.blk Go.Proofs.Ytmmmadehifajlaa.aid
open Go.Proofs.Ytmmmadehifajlaa.ord
open Go.Proofs.Ytmmmadehifajlaa.obj (nameB)
open Go.Proofs.Ytmmmadehifajlaa.row (Rd Own OwnV)
open Go.Proofs.Ytmmmadehifajlaa.strs (tx)
set_option linter.unusedVariables false
set_option linter.unusedSimpArgs false

theorem alloc_grown (w : World) (o : Obj) : ∃ q os', w.alloc o = grow (w.drewN q) os' := ⟨0, #[o], by rw [alloc_eq_grow]; rfl⟩
theorem mixed : Try.prog.follows .mixedOrders = true := by kernel_rfl
theorem below_grow {B n : Nat} {w V : World} (os : Array Obj) (h : Below B w V) (hs : B ≤ V.heap.size) : Below B w (grow (V.drewN n) os) :=
  ⟨h.os, h.tape, h.output, by have := h.size; simp; omega, fun k hk => by rw [heap_grow_old _ _ (by show k < V.heap.size; omega)]; exact h.block k hk⟩
/-- a node as a value -/
def ndV (x0 : ByteArray) (x1 : Bool) (x2 : Int) (a : Option Addr) (n c : Nat) : Value := .agg #[.string x0, .bool x1, .int .i64 x2, .slice a n c]
def ndO (x0 : ByteArray) (x1 : Bool) (x2 : Int) (a : Option Addr) (n c : Nat) : Obj := .cells #[.string x0, .bool x1, .int .i64 x2, .slice a n c] 59
theorem nodeB_name {x0 : ByteArray} {x1 : Bool} {x2 : Int} {l : Tx} (h : nameB x0 = false) : nodeB (x0, x1, x2, l) = false := by simp [nodeB, h]
theorem nodeB_keys {x0 : ByteArray} {x1 : Bool} {x2 : Int} {l : Tx} (h : keysB l = false) : nodeB (x0, x1, x2, l) = false := by simp [nodeB, h]
theorem nodeB_many {x0 : ByteArray} {x1 : Bool} {x2 : Int} {l : Tx} (h : 100 < l.length) : nodeB (x0, x1, x2, l) = false := by simp [nodeB]; omega
theorem nodeB_dir {x0 : ByteArray} {x2 : Int} {l : Tx} (h : ¬ (x2 = 0 ∧ l.length = 1)) : nodeB (x0, true, x2, l) = false := by
  simp [nodeB, dirB]
  omega
theorem nodeB_low {x0 : ByteArray} {x1 : Bool} {x2 : Int} {l : Tx} (h : x2 < 0 ∨ 1500 < x2) : nodeB (x0, x1, x2, l) = false := by
  simp [nodeB]
  omega
theorem nodeB_yes {x0 : ByteArray} {x1 : Bool} {x2 : Int} {l : Tx} (h1 : nameB x0 = true) (h2 : l.length ≤ 100) (h3 : x1 = true → x2 = 0 ∧ l.length = 1) (h4 : 0 ≤ x2) (h5 : x2 ≤ 1500) (h6 : keysB l = true) : nodeB (x0, x1, x2, l) = true := by
  have h7 : dirB (x0, x1, x2, l) = true := by
    cases x1 with
    | false => rfl
    | true => have := h3 rfl; simp [dirB, this]
  simp [nodeB, h1, h2, h4, h5, h6, h7]

set_option maxRecDepth 100000 in
set_option maxHeartbeats 2000000 in
theorem nodeI_any (x0 : ByteArray) (x1 : Bool) (x2 : Int) (a : Option Addr) (c : Nat) (l : Tx) (w : World) (h0 : x0.size ≤ 1048576) (hl : l.length ≤ 1048576) (hs : FitT l) (hr : Rd w a (tx l)) :
    Calls Try.prog 35 #[.agg #[.string x0, .bool x1, .int .i64 x2, .slice a l.length c]] w fun e w' => e = .returned (.bool (nodeB (x0, x1, x2, l))) ∧ w' = w.alloc (.cells #[.string x0, .bool x1, .int .i64 x2, .slice a l.length c] 59) := by
  have HN := mkHid (fun wx => obj.name_impl x0 wx h0)
  have hli : (l.length : Int) ≤ 1048576 := by omega
  have HR := mkHid (hr.alloc (.cells #[.string x0, .bool x1, .int .i64 x2, .slice a l.length c] 59))
  obtain ⟨c0, c1, c2, c3⟩ := cel4 (blk_new w (.cells #[.string x0, .bool x1, .int .i64 x2, .slice a l.length c] 59) w.heap.size rfl)
  have HS := mkHid hs
  clear hr hs
  go_enter Try.func35, Try.ntmps35
  go_wp2_with fail
  go_loopw [4, 8] (fun t i wr => ∃ k : Nat, k ≤ l.length ∧ i = .int .i64 k ∧ Hid (keysB l = keysB (l.drop k)) ∧ wr = w.alloc (.cells #[.string x0, .bool x1, .int .i64 x2, .slice a l.length c] 59))
    (fun _ i _ => l.length - (intOf i).toNat)
  case atStart => exact ⟨0, Nat.zero_le _, rfl, mkHid (by simp), rfl⟩
  case round =>
    obtain ⟨k, hk, rfl, hF, rfl⟩ := hrel
    by_cases hlt : k < l.length
    · have hlti : (k : Int) < (l.length : Int) := by omega
      obtain ⟨t, hx⟩ : ∃ y, l[k]? = some y := ⟨_, List.getElem?_eq_getElem hlt⟩
      obtain ⟨g1, o1, rfl, d0, l1⟩ := tx_el HR.out hx
      have hst := keysB_step l k t hx
      have hti := HS.out t (List.mem_of_getElem? hx)
      by_cases h32 : t.size = 32
      · have h32i : ((t.size : Int) != 32) = false := by simp; omega
        have N1 : Hid (keysB l = keysB (l.drop (k + 1))) := mkHid (by rw [hF.out, hst, decide_eq_true h32, Bool.true_and])
        clear hF hst hx h32
        go_wp2
        exact ⟨⟨k + 1, by omega, by go_num, N1, by first | rfl | trivial⟩, by simp [intOf]; omega⟩
      · have h32i : ((t.size : Int) != 32) = true := by simp; omega
        have E := mkHid (nodeB_keys (x0 := x0) (x1 := x1) (x2 := x2) (keysB_no (List.mem_of_getElem? hx) h32))
        clear hF hst hx h32
        go_wp2
        go_ret
        exact ⟨ret_eq (by rw [E.out]; rfl), rfl⟩
    · obtain rfl : k = l.length := by omega
      have HK : Hid (keysB l = true) := mkHid (by rw [hF.out, List.drop_of_length_le (Nat.le_refl _)]; rfl)
      clear hF
      cases hn : nameB x0 with
      | false =>
        rw [hn] at HN
        have E := mkHid (nodeB_name (x1 := x1) (x2 := x2) (l := l) hn)
        cases x1 with
        | true =>
          go_wp2_with fail
          refine (HN.out _).mono ?_
          rintro e w1 ⟨rfl, rfl⟩
          go_wp2
          go_ret
          exact ⟨ret_eq (by rw [E.out]; rfl), rfl⟩
        | false =>
          go_wp2_with fail
          refine (HN.out _).mono ?_
          rintro e w1 ⟨rfl, rfl⟩
          go_wp2
          go_ret
          exact ⟨ret_eq (by rw [E.out]; rfl), rfl⟩
      | true =>
        rw [hn] at HN
        cases x1 with
        | true =>
          by_cases s1 : x2 = 0
          · subst s1
            by_cases s2 : l.length = 1
            · have E := mkHid (nodeB_yes (x1 := true) (x2 := 0) hn (show l.length ≤ 100 by omega) (fun _ => ⟨rfl, s2⟩) (by omega) (by omega) HK.out)
              have s2i : ((l.length : Int) == 1) = true := by simp; omega
              clear hn HK s2
              go_wp2_with fail
              refine (HN.out _).mono ?_
              rintro e w1 ⟨rfl, rfl⟩
              go_wp2
              go_ret
              exact ⟨ret_eq (by rw [E.out]; rfl), rfl⟩
            · have E := mkHid (nodeB_dir (x0 := x0) (x2 := 0) (l := l) (fun h => s2 h.2))
              have s2i : ((l.length : Int) == 1) = false := by simp; omega
              clear hn HK s2
              go_wp2_with fail
              refine (HN.out _).mono ?_
              rintro e w1 ⟨rfl, rfl⟩
              go_wp2
              go_ret
              exact ⟨ret_eq (by rw [E.out]; rfl), rfl⟩
          · have E := mkHid (nodeB_dir (x0 := x0) (x2 := x2) (l := l) (fun h => s1 h.1))
            have s1i : (x2 == 0) = false := by simp [s1]
            clear hn HK
            go_wp2_with fail
            refine (HN.out _).mono ?_
            rintro e w1 ⟨rfl, rfl⟩
            go_wp2
            go_ret
            exact ⟨ret_eq (by rw [E.out]; rfl), rfl⟩
        | false =>
          by_cases s1 : x2 < 0
          · have E := mkHid (nodeB_low (x0 := x0) (x1 := false) (x2 := x2) (l := l) (.inl s1))
            clear hn HK
            go_wp2_with fail
            refine (HN.out _).mono ?_
            rintro e w1 ⟨rfl, rfl⟩
            go_wp2
            go_ret
            exact ⟨ret_eq (by rw [E.out]; rfl), rfl⟩
          have s1' : 0 ≤ x2 := by omega
          by_cases s2 : 1500 < x2
          · have E := mkHid (nodeB_low (x0 := x0) (x1 := false) (x2 := x2) (l := l) (.inr s2))
            clear hn HK s1
            go_wp2_with fail
            refine (HN.out _).mono ?_
            rintro e w1 ⟨rfl, rfl⟩
            go_wp2
            go_ret
            exact ⟨ret_eq (by rw [E.out]; rfl), rfl⟩
          have s2' : x2 ≤ 1500 := by omega
          by_cases s3 : 100 < l.length
          · have E := mkHid (nodeB_many (x0 := x0) (x1 := false) (x2 := x2) s3)
            have s3i : 100 < (l.length : Int) := by omega
            clear hn HK s1 s2
            go_wp2_with fail
            refine (HN.out _).mono ?_
            rintro e w1 ⟨rfl, rfl⟩
            go_wp2
            go_ret
            exact ⟨ret_eq (by rw [E.out]; simp; omega), rfl⟩
          · have E := mkHid (nodeB_yes (x1 := false) (x2 := x2) hn (show l.length ≤ 100 by omega) (fun h => by cases h) s1' s2' HK.out)
            have s3i : (l.length : Int) ≤ 100 := by omega
            clear hn HK s1 s2
            go_wp2_with fail
            refine (HN.out _).mono ?_
            rintro e w1 ⟨rfl, rfl⟩
            go_wp2
            go_ret
            exact ⟨ret_eq (by rw [E.out]; rfl), rfl⟩
end Go.Proofs.Ytmmmadehifajlaa.nod
namespace Go.Proofs.Ytmmmadehifajlaa.nod
open Go.RowKit Go.Joins Go.Sort
open Go.Proofs.Ytmmmadehifajlaa.base Go.Proofs.Ytmmmadehifajlaa.blk Go.Proofs.Ytmmmadehifajlaa.aid
open Go.Proofs.Ytmmmadehifajlaa.ord
open Go.Proofs.Ytmmmadehifajlaa.obj (nameB)
open Go.Proofs.Ytmmmadehifajlaa.row (Rd Own OwnV)
open Go.Proofs.Ytmmmadehifajlaa.strs (tx)
set_option linter.unusedVariables false
set_option linter.unusedSimpArgs false

set_option maxRecDepth 100000 in
set_option maxHeartbeats 2000000 in
theorem nodeS_any (x0 : ByteArray) (x1 : Bool) (x2 : Int) (a : Option Addr) (c : Nat) (l : Tx) (w : World) (h0 : x0.size ≤ 1048576) (hl : l.length ≤ 1048576) (hs : FitT l) (hr : Rd w a (tx l)) :
    Calls Try.prog 52 #[.agg #[.string x0, .bool x1, .int .i64 x2, .slice a l.length c]] w fun e w' => e = .returned (.bool (nodeB (x0, x1, x2, l))) ∧ w' = w.alloc (.cells #[.string x0, .bool x1, .int .i64 x2, .slice a l.length c] 59) := by
  have HN := mkHid (fun wx => obj.name_spec x0 wx h0)
  have hli : (l.length : Int) ≤ 1048576 := by omega
  have HR := mkHid (hr.alloc (.cells #[.string x0, .bool x1, .int .i64 x2, .slice a l.length c] 59))
  obtain ⟨c0, c1, c2, c3⟩ := cel4 (blk_new w (.cells #[.string x0, .bool x1, .int .i64 x2, .slice a l.length c] 59) w.heap.size rfl)
  have HS := mkHid hs
  clear hr hs
  cases hn : nameB x0 with
  | false =>
    rw [hn] at HN
    have E := mkHid (nodeB_name (x1 := x1) (x2 := x2) (l := l) hn)
    go_enter Try.func52, Try.ntmps52
    go_wp2_with fail
    refine (HN.out _).mono ?_
    rintro e w1 ⟨rfl, rfl⟩
    go_wp2
    go_ret
    exact ⟨ret_eq (by rw [E.out]; rfl), rfl⟩
  | true =>
  rw [hn] at HN
  by_cases s3 : 100 < l.length
  · have E := mkHid (nodeB_many (x0 := x0) (x1 := x1) (x2 := x2) s3)
    have s3i : 100 < (l.length : Int) := by omega
    go_enter Try.func52, Try.ntmps52
    go_wp2_with fail
    refine (HN.out _).mono ?_
    rintro e w1 ⟨rfl, rfl⟩
    go_wp2
    go_ret
    exact ⟨ret_eq (by rw [E.out]; rfl), rfl⟩
  have s3i : (l.length : Int) ≤ 100 := by omega
  by_cases hd : x1 = true → x2 = 0 ∧ l.length = 1
  rotate_left
  · have hx1 : x1 = true := by cases x1 with
      | true => rfl
      | false => exact absurd (fun h => by cases h) hd
    subst hx1
    have hd' : ¬ (x2 = 0 ∧ l.length = 1) := fun h => hd (fun _ => h)
    have E := mkHid (nodeB_dir (x0 := x0) (x2 := x2) (l := l) hd')
    by_cases s1 : x2 = 0
    · subst s1
      have s2 : ((l.length : Int) != 1) = true := by simp; omega
      clear hd hd' hn s3
      go_enter Try.func52, Try.ntmps52
      go_wp2_with fail
      refine (HN.out _).mono ?_
      rintro e w1 ⟨rfl, rfl⟩
      go_wp2
      go_ret
      exact ⟨ret_eq (by rw [E.out]; rfl), rfl⟩
    · have s1i : (x2 != 0) = true := by simp [s1]
      clear hd hd' hn s3
      go_enter Try.func52, Try.ntmps52
      go_wp2_with fail
      refine (HN.out _).mono ?_
      rintro e w1 ⟨rfl, rfl⟩
      go_wp2
      go_ret
      exact ⟨ret_eq (by rw [E.out]; rfl), rfl⟩
  have hgo : ∀ (P : Ending → World → Prop), (x1 = false ∨ (x1 = true ∧ x2 = 0 ∧ ((l.length : Int) != 1) = false ∧ (x2 != 0) = false)) := fun _ => by
    cases x1 with
    | false => exact .inl rfl
    | true =>
      obtain ⟨h1, h2⟩ := hd rfl
      exact .inr ⟨rfl, h1, by simp; omega, by simp [h1]⟩
  have hgo := hgo (fun _ _ => True)
  by_cases s1 : x2 < 0 ∨ 1500 < x2
  · have E := mkHid (nodeB_low (x0 := x0) (x1 := x1) (x2 := x2) (l := l) s1)
    have hx1 : x1 = false := by
      rcases hgo with h | ⟨_, h, _⟩
      · exact h
      · omega
    subst hx1
    by_cases u1 : x2 < 0
    · clear hd hgo hn s3 s1
      go_enter Try.func52, Try.ntmps52
      go_wp2_with fail
      refine (HN.out _).mono ?_
      rintro e w1 ⟨rfl, rfl⟩
      go_wp2
      go_ret
      exact ⟨ret_eq (by rw [E.out]; rfl), rfl⟩
    · have u1' : 0 ≤ x2 := by omega
      have u2 : 1500 < x2 := by omega
      clear hd hgo hn s3 s1
      go_enter Try.func52, Try.ntmps52
      go_wp2_with fail
      refine (HN.out _).mono ?_
      rintro e w1 ⟨rfl, rfl⟩
      go_wp2
      go_ret
      exact ⟨ret_eq (by rw [E.out]; rfl), rfl⟩
  have s1a : 0 ≤ x2 := by omega
  have s1b : x2 ≤ 1500 := by omega
  have HY := mkHid (fun h6 => nodeB_yes (x1 := x1) (x2 := x2) hn (show l.length ≤ 100 by omega) hd s1a s1b h6)
  have HB := mkHid (fun h6 => nodeB_keys (x0 := x0) (x1 := x1) (x2 := x2) (l := l) h6)
  clear hd hn s3 s1
  rcases hgo with rfl | ⟨rfl, rfl, t1, t2⟩ <;>
  (go_enter Try.func52, Try.ntmps52
   go_wp2_with fail
   refine (HN.out _).mono ?_
   rintro e w1 ⟨rfl, rfl⟩
   clear HN
   go_wp2_with fail
   go_loopw [3] (fun i wr => ∃ k : Nat, k ≤ l.length ∧ i = .int .i64 k ∧ Hid (keysB l = keysB (l.drop k)) ∧ wr = w.alloc (.cells #[.string x0, .bool _, .int .i64 _, .slice a l.length c] 59))
     (fun i _ => l.length - (intOf i).toNat)
   case atStart => exact ⟨0, Nat.zero_le _, rfl, mkHid (by simp), rfl⟩
   case round =>
     obtain ⟨k, hk, rfl, hF, rfl⟩ := hrel
     by_cases hlt : k < l.length
     · have hlti : (k : Int) < (l.length : Int) := by omega
       obtain ⟨t, hx⟩ : ∃ y, l[k]? = some y := ⟨_, List.getElem?_eq_getElem hlt⟩
       obtain ⟨g1, o1, rfl, d0, l1⟩ := tx_el HR.out hx
       have hst := keysB_step l k t hx
       have hti := HS.out t (List.mem_of_getElem? hx)
       by_cases h32 : t.size = 32
       · have h32i : ((t.size : Int) != 32) = false := by simp; omega
         have N1 : Hid (keysB l = keysB (l.drop (k + 1))) := mkHid (by rw [hF.out, hst, decide_eq_true h32, Bool.true_and])
         clear hF hst hx h32
         go_wp2
         exact ⟨⟨k + 1, by omega, by go_num, N1, by first | rfl | trivial⟩, by simp [intOf]; omega⟩
       · have h32i : ((t.size : Int) != 32) = true := by simp; omega
         have E := mkHid (HB.out (keysB_no (List.mem_of_getElem? hx) h32))
         clear hF hst hx h32
         go_wp2
         go_ret
         exact ⟨ret_eq (by rw [E.out]; rfl), rfl⟩
     · obtain rfl : k = l.length := by omega
       have E := mkHid (HY.out (by rw [hF.out, List.drop_of_length_le (Nat.le_refl _)]; rfl))
       clear hF
       go_wp2
       go_ret
       exact ⟨ret_eq (by rw [E.out]; rfl), rfl⟩)
end Go.Proofs.Ytmmmadehifajlaa.nod
namespace Go.Proofs.Ytmmmadehifajlaa.nod
open Go.RowKit Go.Joins Go.Sort
open Go.Proofs.Ytmmmadehifajlaa.base Go.Proofs.Ytmmmadehifajlaa.blk Go.Proofs.Ytmmmadehifajlaa.aid
open Go.Proofs.Ytmmmadehifajlaa.ord
open Go.Proofs.Ytmmmadehifajlaa.obj (nameB)
open Go.Proofs.Ytmmmadehifajlaa.row (Rd Own OwnV)
open Go.Proofs.Ytmmmadehifajlaa.strs (tx)
set_option linter.unusedVariables false
set_option linter.unusedSimpArgs false

theorem fitT_of {ds : List Nd} (hs : SmallN ds) {d : Nd} (h : d ∈ ds) : d.1.size ≤ 1048576 ∧ d.2.2.2.2.2.length ≤ 1048576 ∧ FitT d.2.2.2.2.2 := hs d h
theorem val_get {ds : List Nd} {k : Nat} {d : Nd} (h : ds[k]? = some d) : (ds.map val)[k]? = some (val d) := by rw [List.getElem?_map, h]; rfl
theorem nodesB_of {l : List Vn} (h : l.length ≤ 20) : nodesB l = nodsB none l := by unfold nodesB; rw [decide_eq_true h, Bool.true_and]
theorem rd_grow {V : World} {a : Option Addr} {xs : List Value} (h : Rd V a xs) (n : Nat) (os : Array Obj) : Rd (grow (V.drewN n) os) a xs := h.below (below_grow os (Below.refl _ _) (Nat.le_refl _))
set_option maxRecDepth 100000 in
set_option maxHeartbeats 4000000 in
theorem rightS_any (a : Option Addr) (c : Nat) (ds : List Nd) (w : World) (hl : ds.length ≤ 1048576) (hs : SmallN ds) (hr : RdN w a ds) :
    Calls Try.prog 21 #[.slice a ds.length c] w fun e w' => e = .returned (.bool (nodesB (ds.map val))) ∧ Below w.heap.size w w' := by
  by_cases h1 : 20 < ds.length
  · have E : Hid (nodesB (ds.map val) = false) := mkHid (by unfold nodesB; simp; omega)
    have h1i : (20 : Int) < (ds.length : Int) := by omega
    clear hr
    go_enter Try.func21, Try.ntmps21
    go_wp2_with fail
    go_ret
    exact ⟨ret_eq (by rw [E.out]; rfl), Below.refl _ _⟩
  have h1i : (ds.length : Int) ≤ 20 := by omega
  have HP := mkHid (nodesB_of (l := ds.map val) (by simp; omega))
  go_enter Try.func21, Try.ntmps21
  have hmx := mixed
  go_wp2_with fail
  go_loopw [3] (fun i wr => ∃ k : Nat, k ≤ ds.length ∧ i = .int .i64 k ∧ Hid (nodsB none (ds.map val) = nodsB (before (ds.map val) k) ((ds.map val).drop k)) ∧ Hid (Below w.heap.size w wr))
    (fun i _ => ds.length - (intOf i).toNat)
  case atStart => exact ⟨0, Nat.zero_le _, rfl, mkHid (by simp [before]), mkHid (Below.refl _ _)⟩
  case round =>
    obtain ⟨k, hk, rfl, hF, hbel⟩ := hrel
    have hr1 := hr.below hbel.out
    by_cases hlt : k < ds.length
    · have hlti : (k : Int) < (ds.length : Int) := by omega
      obtain ⟨d, hx⟩ : ∃ y, ds[k]? = some y := ⟨_, List.getElem?_eq_getElem hlt⟩
      have hdm := List.mem_of_getElem? hx
      obtain ⟨x0, x1, x2, da, dc, dl⟩ := d
      obtain ⟨g1, o1, rfl, c0, c1, c2, c3, l1⟩ := el hr1.top hx
      have hst := nodsB_step (ds.map val) k _ (val_get hx)
      have hev : val (x0, x1, x2, da, dc, dl) = (x0, x1, x2, dl) := rfl
      rw [hev] at hst
      have hsx := fitT_of hs hdm
      simp only at c0 c1 c2 c3 hsx
      have hwr := hbel.out.size
      have HV := hbel
      have hr3 := hr1
      have f0 := c0
      have f1 := c1
      have f2 := c2
      have f3 := c3
      have l2 := l1
      have hVs : w.heap.size ≤ wr.heap.size := hwr
      have hgo : True := trivial
      generalize wr = V at *
      have F0 := fun n os => cell_grown (n := n) (os := os) (a := ⟨g1, o1 + k * 4, none⟩) (by exact l2) f0
      have F1 := fun n os => cell_grown (n := n) (os := os) (a := ⟨g1, o1 + k * 4 + 1, none⟩) (by exact l2) f1
      have F2 := fun n os => cell_grown (n := n) (os := os) (a := ⟨g1, o1 + k * 4 + 2, none⟩) (by exact l2) f2
      have F3 := fun n os => cell_grown (n := n) (os := os) (a := ⟨g1, o1 + k * 4 + 3, none⟩) (by exact l2) f3
      have HS : Hid (∀ (n : Nat) (os : Array Obj), Calls Try.prog 52 #[.agg #[.string x0, .bool x1, .int .i64 x2, .slice da dl.length dc]] (grow (V.drewN n) os) fun e w' => e = .returned (.bool (nodeB (x0, x1, x2, dl))) ∧ ∃ q os', w' = grow ((grow (V.drewN n) os).drewN q) os') := mkHid (fun n os => (nodeS_any x0 x1 x2 da dc dl _ hsx.1 hsx.2.1 hsx.2.2 (rd_grow (hr3.each _ hdm) n os)).mono (fun e w' h => ⟨h.1, by rw [h.2]; exact alloc_grown _ _⟩))
      have HBad : Hid ((nodeB (x0, x1, x2, dl) && aft (before (ds.map val) k) (x0, x1, x2, dl)) = false → nodesB (ds.map val) = false) := mkHid (fun h => by rw [HP.out, hF.out, hst, h, Bool.false_and])
      have HGood : Hid ((nodeB (x0, x1, x2, dl) && aft (before (ds.map val) k) (x0, x1, x2, dl)) = true → nodsB none (ds.map val) = nodsB (before (ds.map val) (k + 1)) ((ds.map val).drop (k + 1))) := mkHid (fun h => by rw [hF.out, hst, h, Bool.true_and])
      have HO := mkHid (ahead (ds.map val) k (by simpa using hlt))
      have HB2 : Hid (∀ n os, Below w.heap.size w (grow (V.drewN n) os)) := mkHid (fun n os => below_grow os HV.out hVs)
      have HR := mkHid hr3
      clear hr1 c0 c1 c2 c3 hst hF hx hr3 f0 f1 f2 f3 hdm hev hgo
      cases hn : nodeB (x0, x1, x2, dl) with
      | false =>
        have E := mkHid (HBad.out (by rw [hn]; rfl))
        rw [hn] at HS
        clear HBad HGood HO HR hn
        go_wp2_with fail
        refine wp_region_quiet_grown mixed (by kernel_rfl) ?_
        repeat (go_big_quiet_step ((go_at_call 52; refine Calls.grown_of (HS.out _ _))))
        refine wpQuiet_nil ?_
        intro _ hw'
        obtain ⟨⟨nq, osq⟩, hw''⟩ := hw'
        subst hw''
        go_wp2
        go_ret
        exact ⟨ret_eq (by rw [E.out]; rfl), HB2.out _ _⟩
      | true =>
        rw [hn] at HS
        rw [hn, Bool.true_and] at HBad HGood
        rcases HO.out with ⟨k0, hb0⟩ | ⟨j, ⟨p0, p1, p2, pl⟩, k1, hp, hb0⟩
        · have z1 : (0 < k) = False := by simp [k0]
          have z2 : (0 < (k : Int)) = False := by simp [k0]
          have N1 := mkHid (HGood.out (by rw [hb0]; rfl))
          clear HO HBad HGood HR hn k0 hb0
          go_wp2_with fail
          refine wp_region_quiet_grown mixed (by kernel_rfl) ?_
          repeat (go_big_quiet_step ((go_at_call 52; refine Calls.grown_of (HS.out _ _))))
          refine wpQuiet_nil ?_
          intro _ hw'
          obtain ⟨⟨nq, osq⟩, hw''⟩ := hw'
          subst hw''
          go_wp2
          go_roundw
          case rel => exact ⟨k + 1, by omega, by go_num, N1, mkHid (HB2.out _ _)⟩
          case measure => simp [intOf]; omega
        · have z1 : (0 < k) = True := by simp [k1]
          have z2 : (0 < (k : Int)) = True := by simp [k1]
          have z3 : IntKind.i64.wrap ((k : Int) - 1) = (j : Int) := by rw [show (k : Int) - 1 = (j : Int) by omega, IntKind.wrap_i64]; omega
          have z4 : (j : Int) < (ds.length : Int) := by omega
          obtain ⟨pd, hpd, hpv⟩ : ∃ pd, ds[j]? = some pd ∧ val pd = (p0, p1, p2, pl) := by
            rw [List.getElem?_map] at hp
            obtain ⟨pd, h1, h2⟩ := Option.map_eq_some_iff.1 hp
            exact ⟨pd, h1, h2⟩
          obtain ⟨q0, q1, q2, qa, qc, ql⟩ := pd
          simp only [val, Prod.mk.injEq] at hpv
          obtain ⟨rfl, rfl, rfl, rfl⟩ := hpv
          obtain ⟨g2, o2, hg2, pc0, pc1, pc2, pc3, pl'⟩ := el HR.out.top hpd
          obtain ⟨rfl, rfl⟩ : g1 = g2 ∧ o1 = o2 := by injection hg2 with e; injection e with e1 e2; exact ⟨e1, e2⟩
          simp only at pc0
          have P0 := fun n os => cell_grown (n := n) (os := os) pl' pc0
          have hba : aft (before (ds.map val) k) (x0, x1, x2, dl) = blt q0 x0 := by rw [hb0]; rfl
          rw [hba] at HBad HGood
          cases hless : Op.bytesLess q0.toList x0.toList with
          | false =>
            have E := mkHid (HBad.out hless)
            clear HO hg2 hp hpd k1 HR pc0 pc1 pc2 pc3 HBad HGood hn hb0 hba
            go_wp2_with fail
            refine wp_region_quiet_grown mixed (by kernel_rfl) ?_
            repeat (go_big_quiet_step ((go_at_call 52; refine Calls.grown_of (HS.out _ _))))
            refine wpQuiet_nil ?_
            intro _ hw'
            obtain ⟨⟨nq, osq⟩, hw''⟩ := hw'
            subst hw''
            go_wp2
            go_ret
            exact ⟨ret_eq (by rw [E.out]; rfl), HB2.out _ _⟩
          | true =>
            have N1 := mkHid (HGood.out hless)
            clear HO hg2 hp hpd k1 HR pc0 pc1 pc2 pc3 HBad HGood hn hb0 hba
            go_wp2_with fail
            refine wp_region_quiet_grown mixed (by kernel_rfl) ?_
            repeat (go_big_quiet_step ((go_at_call 52; refine Calls.grown_of (HS.out _ _))))
            refine wpQuiet_nil ?_
            intro _ hw'
            obtain ⟨⟨nq, osq⟩, hw''⟩ := hw'
            subst hw''
            go_wp2
            go_roundw
            case rel => exact ⟨k + 1, by omega, by go_num, N1, mkHid (HB2.out _ _)⟩
            case measure => simp [intOf]; omega
    · obtain rfl : k = ds.length := by omega
      have E : Hid (nodesB (ds.map val) = true) := mkHid (by rw [HP.out, hF.out, List.drop_of_length_le (by simp), nodsB])
      clear hr1 hF
      go_wp2
      go_ret
      exact ⟨ret_eq (by rw [E.out]; rfl), hbel.out⟩
set_option maxRecDepth 100000 in
set_option maxHeartbeats 4000000 in
theorem rightI_any (a : Option Addr) (c : Nat) (ds : List Nd) (w : World) (hl : ds.length ≤ 1048576) (hs : SmallN ds) (hr : RdN w a ds) :
    Calls Try.prog 11 #[.slice a ds.length c] w fun e w' => e = .returned (.bool (nodesB (ds.map val))) ∧ Below w.heap.size w w' := by
  by_cases h1 : 20 < ds.length
  · have E : Hid (nodesB (ds.map val) = false) := mkHid (by unfold nodesB; simp; omega)
    have h1i : (20 : Int) < (ds.length : Int) := by omega
    clear hr
    go_enter Try.func11, Try.ntmps11
    go_wp2_with fail
    go_ret
    exact ⟨ret_eq (by rw [E.out]; rfl), Below.refl _ _⟩
  have h1i : (ds.length : Int) ≤ 20 := by omega
  have HP := mkHid (nodesB_of (l := ds.map val) (by simp; omega))
  go_enter Try.func11, Try.ntmps11
  have hmx := mixed
  go_wp2_with fail
  go_loopw [3, 4, 10] (fun i0 f i wr => ∃ k : Nat, k ≤ ds.length ∧ i = .int .i64 k ∧ Hid (nodsB none (ds.map val) = nodsB (before (ds.map val) k) ((ds.map val).drop k)) ∧ Hid (Below w.heap.size w wr))
    (fun _ _ i _ => ds.length - (intOf i).toNat)
  case atStart => exact ⟨0, Nat.zero_le _, rfl, mkHid (by simp [before]), mkHid (Below.refl _ _)⟩
  case round =>
    obtain ⟨k, hk, rfl, hF, hbel⟩ := hrel
    have hr1 := hr.below hbel.out
    by_cases hlt : k < ds.length
    · have hlti : (k : Int) < (ds.length : Int) := by omega
      obtain ⟨d, hx⟩ : ∃ y, ds[k]? = some y := ⟨_, List.getElem?_eq_getElem hlt⟩
      have hdm := List.mem_of_getElem? hx
      obtain ⟨x0, x1, x2, da, dc, dl⟩ := d
      obtain ⟨g1, o1, rfl, c0, c1, c2, c3, l1⟩ := el hr1.top hx
      have hst := nodsB_step (ds.map val) k _ (val_get hx)
      have hev : val (x0, x1, x2, da, dc, dl) = (x0, x1, x2, dl) := rfl
      rw [hev] at hst
      have hsx := fitT_of hs hdm
      simp only at c0 c1 c2 c3 hsx
      have hwr := hbel.out.size
      go_wp2_with fail
      obtain ⟨f0, f1, f2, f3⟩ := cel4 (blk_new wr (.cells #[.string x0, .bool x1, .int .i64 x2, .slice da dl.length dc] 59) wr.heap.size rfl)
      have HV := mkHid (hbel.out.alloc (by omega) (.cells #[.string x0, .bool x1, .int .i64 x2, .slice da dl.length dc] 59))
      have hr3 := hr1.alloc (.cells #[.string x0, .bool x1, .int .i64 x2, .slice da dl.length dc] 59)
      have hVs0 : (wr.alloc (.cells #[.string x0, .bool x1, .int .i64 x2, .slice da dl.length dc] 59)).heap.size = wr.heap.size + 1 := by simp
      generalize hV : wr.alloc (.cells #[.string x0, .bool x1, .int .i64 x2, .slice da dl.length dc] 59) = V at *
      have hVs : w.heap.size ≤ V.heap.size := by omega
      have l2 : wr.heap.size < V.heap.size := by omega
      have F0 := fun n os => cell_grown (n := n) (os := os) (a := ⟨wr.heap.size, 0, none⟩) (by exact l2) f0
      have F1 := fun n os => cell_grown (n := n) (os := os) (a := ⟨wr.heap.size, 1, none⟩) (by exact l2) f1
      have F2 := fun n os => cell_grown (n := n) (os := os) (a := ⟨wr.heap.size, 2, none⟩) (by exact l2) f2
      have F3 := fun n os => cell_grown (n := n) (os := os) (a := ⟨wr.heap.size, 3, none⟩) (by exact l2) f3
      have HS : Hid (∀ (n : Nat) (os : Array Obj), Calls Try.prog 35 #[.agg #[.string x0, .bool x1, .int .i64 x2, .slice da dl.length dc]] (grow (V.drewN n) os) fun e w' => e = .returned (.bool (nodeB (x0, x1, x2, dl))) ∧ ∃ q os', w' = grow ((grow (V.drewN n) os).drewN q) os') := mkHid (fun n os => (nodeI_any x0 x1 x2 da dc dl _ hsx.1 hsx.2.1 hsx.2.2 (rd_grow (hr3.each _ hdm) n os)).mono (fun e w' h => ⟨h.1, by rw [h.2]; exact alloc_grown _ _⟩))
      have HBad : Hid ((nodeB (x0, x1, x2, dl) && aft (before (ds.map val) k) (x0, x1, x2, dl)) = false → nodesB (ds.map val) = false) := mkHid (fun h => by rw [HP.out, hF.out, hst, h, Bool.false_and])
      have HGood : Hid ((nodeB (x0, x1, x2, dl) && aft (before (ds.map val) k) (x0, x1, x2, dl)) = true → nodsB none (ds.map val) = nodsB (before (ds.map val) (k + 1)) ((ds.map val).drop (k + 1))) := mkHid (fun h => by rw [hF.out, hst, h, Bool.true_and])
      have HO := mkHid (ahead (ds.map val) k (by simpa using hlt))
      have HB2 : Hid (∀ n os, Below w.heap.size w (grow (V.drewN n) os)) := mkHid (fun n os => below_grow os HV.out hVs)
      have HR := mkHid hr3
      clear hr1 c0 c1 c2 c3 hst hF hx hr3 f0 f1 f2 f3 hdm hev hV
      cases hn : nodeB (x0, x1, x2, dl) with
      | false =>
        have E := mkHid (HBad.out (by rw [hn]; rfl))
        rw [hn] at HS
        clear HBad HGood HO HR hn
        refine wp_region_quiet_grown mixed (by kernel_rfl) ?_
        repeat (go_big_quiet_step ((go_at_call 35; refine Calls.grown_of (HS.out _ _))))
        refine wpQuiet_nil ?_
        intro _ hw'
        obtain ⟨⟨nq, osq⟩, hw''⟩ := hw'
        subst hw''
        go_wp2
        go_ret
        exact ⟨ret_eq (by rw [E.out]; rfl), HB2.out _ _⟩
      | true =>
        rw [hn] at HS
        rw [hn, Bool.true_and] at HBad HGood
        rcases HO.out with ⟨k0, hb0⟩ | ⟨j, ⟨p0, p1, p2, pl⟩, k1, hp, hb0⟩
        · have z1 : (0 < k) = False := by simp [k0]
          have z2 : (0 < (k : Int)) = False := by simp [k0]
          have N1 := mkHid (HGood.out (by rw [hb0]; rfl))
          clear HO HBad HGood HR hn k0 hb0
          refine wp_region_quiet_grown mixed (by kernel_rfl) ?_
          repeat (go_big_quiet_step ((go_at_call 35; refine Calls.grown_of (HS.out _ _))))
          refine wpQuiet_nil ?_
          intro _ hw'
          obtain ⟨⟨nq, osq⟩, hw''⟩ := hw'
          subst hw''
          go_wp2
          go_roundw
          case rel => exact ⟨k + 1, by omega, by go_num, N1, mkHid (HB2.out _ _)⟩
          case measure => simp [intOf]; omega
        · have z1 : (0 < k) = True := by simp [k1]
          have z2 : (0 < (k : Int)) = True := by simp [k1]
          have z3 : IntKind.i64.wrap ((k : Int) - 1) = (j : Int) := by rw [show (k : Int) - 1 = (j : Int) by omega, IntKind.wrap_i64]; omega
          have z4 : (j : Int) < (ds.length : Int) := by omega
          obtain ⟨pd, hpd, hpv⟩ : ∃ pd, ds[j]? = some pd ∧ val pd = (p0, p1, p2, pl) := by
            rw [List.getElem?_map] at hp
            obtain ⟨pd, h1, h2⟩ := Option.map_eq_some_iff.1 hp
            exact ⟨pd, h1, h2⟩
          obtain ⟨q0, q1, q2, qa, qc, ql⟩ := pd
          simp only [val, Prod.mk.injEq] at hpv
          obtain ⟨rfl, rfl, rfl, rfl⟩ := hpv
          obtain ⟨g2, o2, hg2, pc0, pc1, pc2, pc3, pl'⟩ := el HR.out.top hpd
          obtain ⟨rfl, rfl⟩ : g1 = g2 ∧ o1 = o2 := by injection hg2 with e; injection e with e1 e2; exact ⟨e1, e2⟩
          simp only at pc0
          have P0 := fun n os => cell_grown (n := n) (os := os) pl' pc0
          have hba : aft (before (ds.map val) k) (x0, x1, x2, dl) = blt q0 x0 := by rw [hb0]; rfl
          rw [hba] at HBad HGood
          cases hless : Op.bytesLess q0.toList x0.toList with
          | false =>
            have E := mkHid (HBad.out hless)
            clear HO hg2 hp hpd k1 HR pc0 pc1 pc2 pc3 HBad HGood hn hb0 hba
            refine wp_region_quiet_grown mixed (by kernel_rfl) ?_
            repeat (go_big_quiet_step ((go_at_call 35; refine Calls.grown_of (HS.out _ _))))
            refine wpQuiet_nil ?_
            intro _ hw'
            obtain ⟨⟨nq, osq⟩, hw''⟩ := hw'
            subst hw''
            go_wp2
            go_ret
            exact ⟨ret_eq (by rw [E.out]; rfl), HB2.out _ _⟩
          | true =>
            have N1 := mkHid (HGood.out hless)
            clear HO hg2 hp hpd k1 HR pc0 pc1 pc2 pc3 HBad HGood hn hb0 hba
            refine wp_region_quiet_grown mixed (by kernel_rfl) ?_
            repeat (go_big_quiet_step ((go_at_call 35; refine Calls.grown_of (HS.out _ _))))
            refine wpQuiet_nil ?_
            intro _ hw'
            obtain ⟨⟨nq, osq⟩, hw''⟩ := hw'
            subst hw''
            go_wp2
            go_roundw
            case rel => exact ⟨k + 1, by omega, by go_num, N1, mkHid (HB2.out _ _)⟩
            case measure => simp [intOf]; omega
    · obtain rfl : k = ds.length := by omega
      have E : Hid (nodesB (ds.map val) = true) := mkHid (by rw [HP.out, hF.out, List.drop_of_length_le (by simp), nodsB])
      clear hr1 hF
      go_wp2
      go_ret
      exact ⟨ret_eq (by rw [E.out]; rfl), hbel.out⟩
end Go.Proofs.Ytmmmadehifajlaa.nod
