/-
  What '!=' of two Places, and of two PlaceOuts, that are alike answers; what laws.lwPlaces answers of rows that are alike. No condition.
  What impl.findKey and impl.PlacesFind answer and leave. Conditions: places that lie in memory, of texts of at most 1,048,576 bytes.
  What spec.PlacesDrop answers and leaves. Conditions: places that lie in memory, of texts of at most 1,048,576 bytes.
-/
import Derived.Test.YtmoojhnblakdhaaGreatZPlsA
import Derived.Test.YtmoojhnblakdhaaGreatZPlaB
import Derived.Laws.StructEq
namespace Go.Proofs.YtmoojhnblakdhaaGreat.plq
open Go.RowKit Go.Joins
set_option linter.unusedVariables false

theorem fr_fields : Tryz.prog.underlying 33 = some (.struct (Tryz.prog.fieldsOf 33)) := by kernel_rfl
theorem fr_names : ((Tryz.prog.fieldsOf 33).toList.map fun f => (f.name, f.type, f.offset)) = [("Key", 9, 0), ("Pack", 9, 1), ("Kind", 2, 2), ("At", 2, 3), ("Size", 2, 4)] := by kernel_rfl
theorem fr_held : Tryz.prog.stoodInHeld 33 = false := by kernel_rfl
theorem fo_fields : Tryz.prog.underlying 35 = some (.struct (Tryz.prog.fieldsOf 35)) := by kernel_rfl
theorem fo_names : ((Tryz.prog.fieldsOf 35).toList.map fun f => (f.name, f.type, f.offset)) = [("Place", 33, 0), ("Code", 2, 5)] := by kernel_rfl
theorem fo_held : Tryz.prog.stoodInHeld 35 = false := by kernel_rfl
theorem fo_guard : Tryz.prog.eqGuardType Tryz.prog.depth 35 = false := by kernel_rfl
abbrev FV (h x : ByteArray) (k m i : Int) : Array Value := #[.string h, .string x, .int .i64 k, .int .i64 m, .int .i64 i]
abbrev OV (h x : ByteArray) (k m i : Int) (c : Int) : Array Value := #[.string h, .string x, .int .i64 k, .int .i64 m, .int .i64 i, .int .i64 c]
theorem fr_parts (h x : ByteArray) (k m i : Int) (w : World) : (part 9 (FV h x k m i) 0).run Tryz.prog w = .ok (.string h) w ∧ (part 9 (FV h x k m i) 1).run Tryz.prog w = .ok (.string x) w ∧ (part 2 (FV h x k m i) 2).run Tryz.prog w = .ok (.int .i64 k) w ∧ (part 2 (FV h x k m i) 3).run Tryz.prog w = .ok (.int .i64 m) w ∧ (part 2 (FV h x k m i) 4).run Tryz.prog w = .ok (.int .i64 i) w := by
  refine ⟨?_, ?_, ?_, ?_, ?_⟩ <;> simp [go_sem]
theorem fo_parts (h x : ByteArray) (k m i : Int) (c : Int) (w : World) : (part 33 (OV h x k m i c) 0).run Tryz.prog w = .ok (.agg (FV h x k m i)) w ∧ (part 2 (OV h x k m i c) 5).run Tryz.prog w = .ok (.int .i64 c) w := by
  refine ⟨?_, ?_⟩ <;> simp [go_sem]
theorem fr_same (d : Nat) (h x : ByteArray) (k m i : Int) (w : World) : (Op.equalIn (d + 2) 33 (.agg (FV h x k m i)) (.agg (FV h x k m i))).run Tryz.prog w = .ok true w := by
  rw [run_equalIn_struct (d := d + 1) w _ _ _ fr_fields fr_held]
  have h' := fr_names
  generalize (Tryz.prog.fieldsOf 33).toList = fs at h'
  obtain ⟨f1, l1, rfl, e1, h'⟩ := List.map_eq_cons_iff.1 h'
  obtain ⟨f2, l2, rfl, e2, h'⟩ := List.map_eq_cons_iff.1 h'
  obtain ⟨f3, l3, rfl, e3, h'⟩ := List.map_eq_cons_iff.1 h'
  obtain ⟨f4, l4, rfl, e4, h'⟩ := List.map_eq_cons_iff.1 h'
  obtain ⟨f5, l5, rfl, e5, h'⟩ := List.map_eq_cons_iff.1 h'
  obtain rfl := List.map_eq_nil_iff.1 h'
  simp at e1 e2 e3 e4 e5
  obtain ⟨n1, t1, o1⟩ := e1
  obtain ⟨n2, t2, o2⟩ := e2
  obtain ⟨n3, t3, o3⟩ := e3
  obtain ⟨n4, t4, o4⟩ := e4
  obtain ⟨n5, t5, o5⟩ := e5
  have q1 : ∀ w, _ := fun w => (fr_parts h x k m i w).1
  have q2 : ∀ w, _ := fun w => (fr_parts h x k m i w).2.1
  have q3 : ∀ w, _ := fun w => (fr_parts h x k m i w).2.2.1
  have q4 : ∀ w, _ := fun w => (fr_parts h x k m i w).2.2.2.1
  have q5 : ∀ w, _ := fun w => (fr_parts h x k m i w).2.2.2.2
  have hu : Tryz.prog.underlying 2 = some (.int .i64) := by kernel_rfl
  have hv : Tryz.prog.underlying 9 = some .string := by kernel_rfl
  have hi : ∀ (x y : Int) (w : World), (Op.equalIn (d + 1) 2 (.int .i64 x) (.int .i64 y)).run Tryz.prog w = .ok (x == y) w := fun x y w => run_equalIn_int w d _ _ _ x y hu
  have hs : ∀ (x y : ByteArray) (w : World), (Op.equalIn (d + 1) 9 (.string x) (.string y)).run Tryz.prog w = .ok (x.toList == y.toList) w := fun x y w => run_equalIn_string w d _ x y hv
  simp [Op.eqFields, n1, t1, o1, n2, t2, o2, n3, t3, o3, n4, t4, o4, n5, t5, o5, q1, q2, q3, q4, q5, hi, hs]
theorem fo_same (h x : ByteArray) (k m i : Int) (c : Int) (w : World) : (Op.equalIn 10000 35 (.agg (OV h x k m i c)) (.agg (OV h x k m i c))).run Tryz.prog w = .ok true w := by
  rw [run_equalIn_struct (d := 9999) w _ _ _ fo_fields fo_held]
  have h' := fo_names
  generalize (Tryz.prog.fieldsOf 35).toList = fs at h'
  obtain ⟨f1, l1, rfl, e1, h'⟩ := List.map_eq_cons_iff.1 h'
  obtain ⟨f2, l2, rfl, e2, h'⟩ := List.map_eq_cons_iff.1 h'
  obtain rfl := List.map_eq_nil_iff.1 h'
  simp at e1 e2
  obtain ⟨n1, t1, o1⟩ := e1
  obtain ⟨n2, t2, o2⟩ := e2
  have q1 : ∀ w, _ := fun w => (fo_parts h x k m i c w).1
  have q2 : ∀ w, _ := fun w => (fo_parts h x k m i c w).2
  have hu : Tryz.prog.underlying 2 = some (.int .i64) := by kernel_rfl
  have hi : ∀ (x y : Int) (w : World), (Op.equalIn 9999 2 (.int .i64 x) (.int .i64 y)).run Tryz.prog w = .ok (x == y) w := fun x y w => run_equalIn_int w 9998 _ _ _ x y hu
  have hf : ∀ w, (Op.equalIn 9999 33 (.agg (FV h x k m i)) (.agg (FV h x k m i))).run Tryz.prog w = .ok true w := fun w => fr_same 9997 h x k m i w
  simp [Op.eqFields, n1, t1, o1, n2, t2, o2, q1, q2, hi, hf]
theorem fo_eq (h x : ByteArray) (k m i : Int) (c : Int) (w : World) : (binOp .eql 35 (.agg (OV h x k m i c)) (.agg (OV h x k m i c))).run Tryz.prog w = .ok (.bool true) w := by
  rw [run_eql_struct, fo_same]
  rfl
theorem fo_ne (h x : ByteArray) (k m i : Int) (c : Int) (w : World) : (binOp .neq 35 (.agg (OV h x k m i c)) (.agg (OV h x k m i c))).run Tryz.prog w = .ok (.bool false) w := by
  rw [run_neq_struct, fo_same]
  rfl
theorem fr_guard : Tryz.prog.eqGuardType Tryz.prog.depth 33 = false := by kernel_rfl
theorem fr_ne (h x : ByteArray) (k m i : Int) (w : World) : (binOp .neq 33 (.agg (FV h x k m i)) (.agg (FV h x k m i))).run Tryz.prog w = .ok (.bool false) w := by
  rw [run_neq_struct, fr_same 9998]
  rfl
open Go.Proofs.YtmoojhnblakdhaaGreat.base Go.Proofs.YtmoojhnblakdhaaGreat.blk Go.Proofs.YtmoojhnblakdhaaGreat.aid
open Go.Proofs.YtmoojhnblakdhaaGreat.row (Rd Own OwnV)
open Go.Proofs.YtmoojhnblakdhaaGreat.rwPlace (cs el)
set_option maxRecDepth 100000 in
set_option maxHeartbeats 1000000 in
theorem same_any (a : Option Addr) (ca : Nat) (b : Option Addr) (cb : Nat) (l : List (ByteArray × ByteArray × Int × Int × Int)) (w : World) (hl : l.length ≤ 1048576) (ha : Rd w a (cs l)) (hb : Rd w b (cs l)) :
    Calls Tryz.prog 10 #[.slice a l.length ca, .slice b l.length cb] w fun e w' => e = .returned (.bool true) ∧ Below w.heap.size w w' := by
  have hli : (l.length : Int) ≤ 1048576 := by omega
  have HA := mkHid (And.intro ha hb)
  clear ha hb
  go_enter Tryz.func10, Tryz.ntmps10
  go_wp2
  go_loopw [5] (fun i wr => ∃ k : Nat, k ≤ l.length ∧ i = .int .i64 k ∧ Hid (Below w.heap.size w wr)) (fun i _ => l.length - (intOf i).toNat)
  case atStart => exact ⟨0, Nat.zero_le _, rfl, mkHid (Below.refl _ _)⟩
  case round =>
    obtain ⟨k, hk, rfl, hB⟩ := hrel
    by_cases hlt : k < l.length
    · have hlti : (k : Int) < (l.length : Int) := by omega
      obtain ⟨⟨x0, x1, x2, x3, x4⟩, hx⟩ : ∃ y, l[k]? = some y := ⟨_, List.getElem?_eq_getElem hlt⟩
      obtain ⟨g1, o1, rfl, c0, c1, c2, c3, c4, l1⟩ := el (HA.out.1.below hB.out) hx
      obtain ⟨g2, o2, rfl, d0, d1, d2, d3, d4, l2⟩ := el (HA.out.2.below hB.out) hx
      simp only at c0 c1 c2 c3 c4 d0 d1 d2 d3 d4
      have he := fun wx => fr_ne x0 x1 x2 x3 x4 wx
      have hB2 := mkHid (show Below w.heap.size w wr.drew from ⟨hB.out.os, hB.out.tape, hB.out.output, hB.out.size, hB.out.block⟩)
      clear hx hB
      go_wp2_with fail
      go_region
      go_wp2
      go_roundw
      case rel => exact ⟨k + 1, by omega, by go_num, hB2⟩
      case measure => simp [intOf]; omega
    · obtain rfl : k = l.length := by omega
      go_wp2
      go_ret
      exact ⟨rfl, hB.out⟩
end Go.Proofs.YtmoojhnblakdhaaGreat.plq
namespace Go.Proofs.YtmoojhnblakdhaaGreat.plc
open Go.RowKit Go.Joins Go.Sort
open Go.Proofs.YtmoojhnblakdhaaGreat.base Go.Proofs.YtmoojhnblakdhaaGreat.blk Go.Proofs.YtmoojhnblakdhaaGreat.aid
open Go.Proofs.YtmoojhnblakdhaaGreat.ord
open Go.Proofs.YtmoojhnblakdhaaGreat.row (Rd Own OwnV)
open Go.Proofs.YtmoojhnblakdhaaGreat.rwPlace (cs el)
set_option linter.unusedVariables false
set_option linter.unusedSimpArgs false

theorem index_none (a : Option Addr) (c : Nat) (fv : Value) (w : World) :
    Calls Tryz.prog 62 #[.slice a 0 c, fv] w fun e w' => e = .returned (.int .i64 (-1)) ∧ w' = w := by
  go_enter Tryz.func62, Tryz.ntmps62
  go_wp2
  go_loopw [8] (fun i wr => i = .int .i64 0 ∧ wr = w) (fun i _ => 0)
  case atStart => exact ⟨rfl, rfl⟩
  case round =>
    obtain ⟨rfl, rfl⟩ := hrel
    go_wp2
    go_ret
    exact ⟨rfl, rfl⟩
/-- what IndexFunc tells: none, or the first that has the key -/
def IxPost (w : World) (l : List Pl) (k : ByteArray) (e : Ending) (w' : World) : Prop :=
  ((findP l k = none ∧ e = .returned (.int .i64 (-1))) ∨ ∃ (i : Nat) (p : Pl), findP l k = some p ∧ l[i]? = some p ∧ e = .returned (.int .i64 (i : Int))) ∧ Below w.heap.size w w'
theorem indexP_any (a : Option Addr) (c : Nat) (l : List Pl) (k : ByteArray) (B : Nat) (w : World) (hl : l.length ≤ 1048576) (hB : B < w.heap.size) (hcell : w.cell? ⟨B, 0, none⟩ = some (.string k)) (hr : Rd w a (cs l)) :
    Calls Tryz.prog 62 #[.slice a l.length c, .func (.func 63) #[] #[.pointer (some ⟨B, 0, none⟩)]] w (IxPost w l k) := by
  by_cases hne : l = []
  · subst hne
    refine (index_none a c _ w).mono ?_
    rintro e w' ⟨rfl, rfl⟩
    exact ⟨.inl ⟨rfl, rfl⟩, Below.refl _ _⟩
  · refine (index_any a c l k B w hl hne hB hcell hr).mono ?_
    rintro e w' ⟨rfl, hb⟩
    rcases idx_is l k with ⟨h1, h2⟩ | ⟨i, p, h1, h2, h3⟩
    · exact ⟨.inl ⟨h1, by rw [h2]⟩, hb⟩
    · exact ⟨.inr ⟨i, p, h1, h2, by rw [h3]⟩, hb⟩

set_option maxRecDepth 100000 in
set_option maxHeartbeats 1000000 in
theorem findKey_any (a : Option Addr) (c : Nat) (l : List Pl) (k : ByteArray) (w : World) (hl : l.length ≤ 1048576) (hr : Rd w a (cs l)) :
    Calls Tryz.prog 35 #[.slice a l.length c, .string k] w (IxPost w l k) := by
  have HB0 := mkHid (below_alloc1 w (.cells #[.string k] 9))
  have b1 := mkHid (blk_new w (.cells #[.string k] 9) w.heap.size rfl)
  have HF := mkHid (fun wx (hb : Below w.heap.size w wx) (hB : w.heap.size < wx.heap.size) (hc : wx.cell? ⟨w.heap.size, 0, none⟩ = some (.string k)) => indexP_any a c l k w.heap.size wx hl hB hc (hr.below hb))
  unfold IxPost at HF
  clear hr
  go_enter Tryz.func35, Tryz.ntmps35
  go_wp2_with fail
  refine (HF.out _ HB0.out (by simp) (cel1 b1.out)).mono ?_
  rintro e w2 ⟨⟨hf, rfl⟩ | ⟨i, ⟨x0, x1, x2, x3, x4⟩, hf, hi, rfl⟩, hbw⟩
  · have HB := mkHid (below_trans HB0.out hbw)
    clear hbw HF
    go_wp2
    go_ret
    exact ⟨.inl ⟨hf, rfl⟩, HB.out⟩
  · have HB := mkHid (below_trans HB0.out hbw)
    have HI := mkHid hi
    clear hbw HF hi
    go_wp2
    go_ret
    exact ⟨.inr ⟨i, _, hf, HI.out, rfl⟩, HB.out⟩

set_option maxRecDepth 100000 in
set_option maxHeartbeats 2000000 in
theorem placesFindI_any (a : Option Addr) (c : Nat) (l : List Pl) (k : ByteArray) (w : World) (hl : l.length ≤ 1048576) (hs : Small l) (hk : k.size ≤ 1048576) (hr : Rd w a (cs l)) :
    Calls Tryz.prog 11 #[.slice a l.length c, .string k] w fun e w' => e = .returned (outV (findA l k)) ∧ Below w.heap.size w w' := by
  have hki : (k.size : Int) ≤ 1048576 := by omega
  by_cases h1 : 400 < l.length
  · have E : Hid (outV (findA l k) = .agg #[.string ⟨#[]⟩, .string ⟨#[]⟩, .int .i64 0, .int .i64 0, .int .i64 0, .int .i64 2]) := mkHid (by unfold findA; rw [if_pos (.inl h1)]; rfl)
    have h1i : (400 : Int) < (l.length : Int) := by omega
    clear hr
    go_enter Tryz.func11, Tryz.ntmps11
    go_wp2
    refine bodyPost_ret (v := .agg #[.string ⟨#[]⟩, .string ⟨#[]⟩, .int .i64 0, .int .i64 0, .int .i64 0, .int .i64 2]) ?_ rfl ?_
    rotate_left
    · exact ⟨by rw [E.out], below_alloc1 _ _⟩
    · simp [results, Tryz.results11, go_sem]
  by_cases h2 : 20000 < k.size
  · have E : Hid (outV (findA l k) = .agg #[.string ⟨#[]⟩, .string ⟨#[]⟩, .int .i64 0, .int .i64 0, .int .i64 0, .int .i64 2]) := mkHid (by unfold findA; rw [if_pos (.inr h2)]; rfl)
    have h1i : (l.length : Int) ≤ 400 := by omega
    have h2i : (20000 : Int) < (k.size : Int) := by omega
    clear hr
    go_enter Tryz.func11, Tryz.ntmps11
    go_wp2
    refine bodyPost_ret (v := .agg #[.string ⟨#[]⟩, .string ⟨#[]⟩, .int .i64 0, .int .i64 0, .int .i64 0, .int .i64 2]) ?_ rfl ?_
    rotate_left
    · exact ⟨by rw [E.out], below_alloc1 _ _⟩
    · simp [results, Tryz.results11, go_sem]
  have h1i : (l.length : Int) ≤ 400 := by omega
  have h2i : (k.size : Int) ≤ 20000 := by omega
  have HR := mkHid (fun wx (hb : Below w.heap.size w wx) => rightI_any a c l wx hl hs (hr.below hb))
  have HB0 := mkHid (below_alloc1 w zeroR)
  have b2 := mkHid (blk_new w zeroR w.heap.size rfl)
  unfold zeroR at b2 HB0
  cases hp : placesB l with
  | false =>
    rw [hp] at HR
    have E : Hid (outV (findA l k) = .agg #[.string ⟨#[]⟩, .string ⟨#[]⟩, .int .i64 0, .int .i64 0, .int .i64 0, .int .i64 1]) := mkHid (by unfold findA; rw [if_neg (by omega), if_pos hp]; rfl)
    clear hr
    go_enter Tryz.func11, Tryz.ntmps11
    go_wp2_with fail
    refine (HR.out _ HB0.out).mono ?_
    rintro e w1 ⟨rfl, hbw⟩
    have hb2 := blk_below b2.out hbw
    have HB2 := mkHid (below_trans HB0.out hbw)
    obtain ⟨z0, z1, z2, z3, z4, z5⟩ := cel6 hb2
    have uf := unfrozen hb2
    have HB := mkHid (below6 HB2.out (g := w.heap.size) (Nat.le_refl _) (.string ⟨#[]⟩) (.string ⟨#[]⟩) (.int .i64 0) (.int .i64 0) (.int .i64 0) (.int .i64 1))
    clear hbw hb2 b2 HB0 HR
    go_wp2
    refine bodyPost_ret (v := .agg #[.string ⟨#[]⟩, .string ⟨#[]⟩, .int .i64 0, .int .i64 0, .int .i64 0, .int .i64 1]) ?_ rfl ?_
    rotate_left
    · exact ⟨by rw [E.out], HB.out⟩
    · simp [results, Tryz.results11, go_sem, z0, z1, z2, z3, z4, z5]
  | true =>
    rw [hp] at HR
    have HF := mkHid (fun wx (hb : Below w.heap.size w wx) => findKey_any a c l k wx hl (hr.below hb))
    unfold IxPost at HF
    have HRd := mkHid hr
    clear hr
    go_enter Tryz.func11, Tryz.ntmps11
    go_wp2_with fail
    refine (HR.out _ HB0.out).mono ?_
    rintro e w1 ⟨rfl, hbw⟩
    have d2 := mkHid (blk_below b2.out hbw)
    have HB2 := mkHid (below_trans HB0.out hbw)
    clear hbw b2 HB0 HR
    go_wp2_with fail
    refine (HF.out _ HB2.out).mono ?_
    rintro e w2 ⟨⟨hf, rfl⟩ | ⟨i, ⟨x0, x1, x2, x3, x4⟩, hf, hi, rfl⟩, hbw⟩
    · have E : Hid (outV (findA l k) = .agg #[.string ⟨#[]⟩, .string ⟨#[]⟩, .int .i64 0, .int .i64 0, .int .i64 0, .int .i64 8]) := mkHid (by unfold findA; rw [if_neg (by omega), if_neg (by rw [hp]; simp), hf]; rfl)
      have hb3 := blk_below d2.out hbw
      have HB3 := mkHid (below_trans HB2.out hbw)
      obtain ⟨z0, z1, z2, z3, z4, z5⟩ := cel6 hb3
      have uf := unfrozen hb3
      have HB := mkHid (below6 HB3.out (g := w.heap.size) (Nat.le_refl _) (.string ⟨#[]⟩) (.string ⟨#[]⟩) (.int .i64 0) (.int .i64 0) (.int .i64 0) (.int .i64 8))
      clear hbw hb3 HB2 HF hf HB3 d2 HRd
      go_wp2
      refine bodyPost_ret (v := .agg #[.string ⟨#[]⟩, .string ⟨#[]⟩, .int .i64 0, .int .i64 0, .int .i64 0, .int .i64 8]) ?_ rfl ?_
      rotate_left
      · exact ⟨by rw [E.out], HB.out⟩
      · simp [results, Tryz.results11, go_sem, z0, z1, z2, z3, z4, z5]
    · have E : Hid (outV (findA l k) = .agg #[.string x0, .string x1, .int .i64 x2, .int .i64 x3, .int .i64 x4, .int .i64 0]) := mkHid (by unfold findA; rw [if_neg (by omega), if_neg (by rw [hp]; simp), hf]; rfl)
      have HB3 := mkHid (below_trans HB2.out hbw)
      have d3 := mkHid (blk_below d2.out hbw)
      obtain ⟨g1, o1, rfl, c0, c1, c2, c3, c4, l1⟩ := el (HRd.out.below HB3.out) hi
      simp only at c0 c1 c2 c3 c4
      have hil : (i : Int) < (l.length : Int) := by have := (List.getElem?_eq_some_iff.1 hi).1; omega
      have hsx := hs _ (List.mem_of_getElem? hi)
      simp only at hsx
      have HC := mkHid (fun wx => copyPlace_any x0 x1 x2 x3 x4 wx hsx.1 hsx.2)
      have hneg : ((i : Int) < 0) = False := eq_false (by omega)
      clear hbw HB2 HF hf d2 HRd hi
      go_wp2_with fail
      refine (HC.out _).mono ?_
      rintro e w3 ⟨rfl, hbw⟩
      have hb3 := blk_below d3.out hbw
      have HB4 := mkHid (below_trans HB3.out hbw)
      obtain ⟨z0, z1, z2, z3, z4, z5⟩ := cel6 hb3
      have uf := unfrozen hb3
      have HB := mkHid (below6 HB4.out (g := w.heap.size) (Nat.le_refl _) (.string x0) (.string x1) (.int .i64 x2) (.int .i64 x3) (.int .i64 x4) (.int .i64 0))
      clear hbw hb3 HB3 HB4 HC d3 c0 c1 c2 c3 c4
      go_wp2
      refine bodyPost_ret (v := .agg #[.string x0, .string x1, .int .i64 x2, .int .i64 x3, .int .i64 x4, .int .i64 0]) ?_ rfl ?_
      rotate_left
      · exact ⟨by rw [E.out], HB.out⟩
      · simp [results, Tryz.results11, go_sem, z0, z1, z2, z3, z4, z5]
end Go.Proofs.YtmoojhnblakdhaaGreat.plc
namespace Go.Proofs.YtmoojhnblakdhaaGreat.plc
open Go.RowKit Go.Joins Go.Sort
open Go.Proofs.YtmoojhnblakdhaaGreat.base Go.Proofs.YtmoojhnblakdhaaGreat.blk Go.Proofs.YtmoojhnblakdhaaGreat.aid
open Go.Proofs.YtmoojhnblakdhaaGreat.row (Rd Own OwnV appSem app_fold)
open Go.Proofs.YtmoojhnblakdhaaGreat.rwPlace (cs el SPost)
set_option linter.unusedVariables false
set_option linter.unusedSimpArgs false
attribute [local go_sem ↓] app_fold

theorem empty_own (w : World) : (w.alloc (.cells #[] 33)).ownsRow w.heap.size 33 5 (.slice (some ⟨w.heap.size, 0, none⟩) 0 0) 0 (cs []) :=
  World.ownsRow_made (size := 5) w #[] 0 (Nat.le_refl _) (by unfold maxLen; omega) rfl
theorem filter_snoc (l : List Pl) (f : Pl → Bool) (k : Nat) (x : Pl) (h : l[k]? = some x) : (l.take (k + 1)).filter f = (l.take k).filter f ++ (if f x then [x] else []) := by
  rw [List.take_add_one, h]
  simp [List.filter_append, List.filter_cons]
set_option maxRecDepth 100000 in
set_option maxHeartbeats 4000000 in
theorem dropS_any (a : Option Addr) (c : Nat) (l : List Pl) (k : ByteArray) (w : World) (hl : l.length ≤ 1048576) (hs : Small l) (hk : k.size ≤ 1048576) (hr : Rd w a (cs l)) :
    Calls Tryz.prog 16 #[.slice a l.length c, .string k] w (SPost w (dropA l k)) := by
  have hki : (k.size : Int) ≤ 1048576 := by omega
  have HE := mkHid (empty_own w)
  have HB0 := mkHid (below_alloc1 w (.cells #[] 33))
  by_cases h1 : 400 < l.length
  · have E : Hid (dropA l k = []) := mkHid (by unfold dropA; rw [if_pos (.inr (by cases hp : placesB l with | false => rfl | true => have := ((placesB_iff l).1 hp).1; omega))])
    have h1i : (400 : Int) < (l.length : Int) := by omega
    rw [E.out]
    clear hr
    go_enter Tryz.func16, Tryz.ntmps16
    go_wp2
    go_ret
    exact spost_of HE.out HB0.out
  have h1i : (l.length : Int) ≤ 400 := by omega
  by_cases h2 : 20000 < k.size
  · have E : Hid (dropA l k = []) := mkHid (by unfold dropA; rw [if_pos (.inl h2)])
    have h2i : (20000 : Int) < (k.size : Int) := by omega
    rw [E.out]
    clear hr
    go_enter Tryz.func16, Tryz.ntmps16
    go_wp2
    go_ret
    exact spost_of HE.out HB0.out
  have h2i : (k.size : Int) ≤ 20000 := by omega
  have HR := mkHid (rightS_any a c l (w.alloc (.cells #[] 33)) hl hs (hr.alloc _))
  cases hp : placesB l with
  | false =>
    rw [hp] at HR
    have E : Hid (dropA l k = []) := mkHid (by unfold dropA; rw [if_pos (.inr hp)])
    rw [E.out]
    clear hr
    go_enter Tryz.func16, Tryz.ntmps16
    go_wp2_with fail
    refine HR.out.mono ?_
    rintro e w1 ⟨rfl, hbw⟩
    have F : Hid (SPost w [] (.returned (.slice (some ⟨w.heap.size, 0, none⟩) 0 0)) w1) := mkHid (spost_of (HE.out.kept (below_grew hbw none) (.inr (by simp [Value.ownBlock]))) (below_trans HB0.out hbw))
    clear hbw
    go_wp2
    go_ret
    exact F.out
  | true =>
    rw [hp] at HR
    have E : Hid (dropA l k = l.filter (other k)) := mkHid (by unfold dropA; rw [if_neg (by rw [hp]; simp; omega)])
    rw [E.out]
    have HRd := mkHid hr
    clear hr
    go_enter Tryz.func16, Tryz.ntmps16
    go_wp2_with fail
    refine HR.out.mono ?_
    rintro e w1 ⟨rfl, hbw⟩
    have S0 : Hid (w1.ownsRow w.heap.size 33 5 (.slice (some ⟨w.heap.size, 0, none⟩) 0 0) 0 (cs []) ∧ Below w.heap.size w w1) := mkHid ⟨HE.out.kept (below_grew hbw none) (.inr (by simp [Value.ownBlock])), below_trans HB0.out hbw⟩
    clear hbw HR HE HB0
    go_wp2_with fail
    go_loopw [5, 6] (fun v i wr => ∃ (q : Nat) (acc : List Pl) (a' : Option Addr) (c' : Nat), q ≤ l.length ∧ i = .int .i64 q ∧ v = .slice a' acc.length c' ∧ Hid (acc = (l.take q).filter (other k) ∧ wr.ownsRow w.heap.size 33 5 (.slice a' acc.length c') acc.length (cs acc) ∧ Below w.heap.size w wr))
      (fun _ i _ => l.length - (intOf i).toNat)
    case atStart => exact ⟨0, [], _, _, Nat.zero_le _, rfl, rfl, mkHid ⟨by simp, S0.out.1, S0.out.2⟩⟩
    case round =>
      obtain ⟨q, acc, a', c', hq, rfl, rfl, S⟩ := hrel
      clear S0
      by_cases hlt : q < l.length
      · have hlti : (q : Int) < (l.length : Int) := by omega
        obtain ⟨⟨x0, x1, x2, x3, x4⟩, hx⟩ : ∃ y, l[q]? = some y := ⟨_, List.getElem?_eq_getElem hlt⟩
        obtain ⟨g1, o1, rfl, e0, e1, e2, e3, e4, l1⟩ := el (HRd.out.below S.out.2.2) hx
        simp only at e0 e1 e2 e3 e4
        have hft := filter_snoc l (other k) q _ hx
        have hal : acc.length ≤ 400 := by
          have h := S.out.1
          have h3 : ((l.take q).filter (other k)).length ≤ (l.take q).length := List.length_filter_le _ _
          rw [List.length_take] at h3
          rw [h]
          omega
        have hali : (acc.length : Int) + 1 ≤ 1000 := by omega
        cases he : (x1.toList == k.toList) with
        | true =>
          have ho : other k (x0, x1, x2, x3, x4) = false := by unfold other; rw [he]; rfl
          rw [ho] at hft
          have N1 : Hid (acc = (l.take (q + 1)).filter (other k) ∧ wr.ownsRow w.heap.size 33 5 (.slice a' acc.length c') acc.length (cs acc) ∧ Below w.heap.size w wr) := mkHid ⟨by rw [hft]; simpa using S.out.1, S.out.2.1, S.out.2.2⟩
          clear S hx hft ho
          go_wp2
          go_roundw
          case rel => exact ⟨q + 1, acc, a', c', by omega, by go_num, rfl, N1⟩
          case measure => simp [intOf]; omega
        | false =>
          have ho : other k (x0, x1, x2, x3, x4) = true := by unfold other; rw [he]; rfl
          rw [ho] at hft
          have hsz := S.out.2.2.size
          obtain ⟨g, c2, w4, happ, hO4, hg4⟩ := rwPlace.app (W := wr) (base := w.heap.size) (.slice a' acc.length c') acc.length acc x0 x1 x2 x3 x4 rfl S.out.2.1 hsz (by omega)
          have hlen1 : (acc ++ [(x0, x1, x2, x3, x4)]).length = acc.length + 1 := by rw [List.length_append, List.length_singleton]
          have hB4 : Below w.heap.size w w4 := (S.out.2.2.alloc hsz (.cells #[.string x0, .string x1, .int .i64 x2, .int .i64 x3, .int .i64 x4] 33)).grown hg4 (by simp only [World.size_alloc]; omega) (fun j hj => (S.out.2.1.lt j hj).1)
          have hacc : acc ++ [(x0, x1, x2, x3, x4)] = (l.take (q + 1)).filter (other k) := by rw [hft, ← S.out.1]; rfl
          have N1 : Hid (acc ++ [(x0, x1, x2, x3, x4)] = (l.take (q + 1)).filter (other k) ∧ w4.ownsRow w.heap.size 33 5 (.slice (some ⟨g, 0, none⟩) (acc.length + 1) c2) (acc.length + 1) (cs (acc ++ [(x0, x1, x2, x3, x4)])) ∧ Below w.heap.size w w4) := mkHid ⟨hacc, hO4, hB4⟩
          rw [← hlen1] at N1
          have HLN := mkHid hlen1.symm
          clear S hx hft ho hO4 hg4 hB4 hacc hlen1
          go_wp2
          go_roundw
          case rel => exact ⟨q + 1, acc ++ [(x0, x1, x2, x3, x4)], some ⟨g, 0, none⟩, c2, by omega, by go_num, by rw [← HLN.out], N1⟩
          case measure => simp [intOf]; omega
      · obtain rfl : q = l.length := by omega
        have h := S.out
        rw [List.take_of_length_le (Nat.le_refl _)] at h
        obtain ⟨h3, h4, h5⟩ := h
        subst h3
        have F := mkHid (spost_of h4 h5)
        clear h4 h5 S
        go_wp2
        go_ret
        exact F.out
end Go.Proofs.YtmoojhnblakdhaaGreat.plc
