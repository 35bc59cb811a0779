/-
  What spec.DriveNames and impl.DriveNames answer and leave: a row of names of its own. Conditions: at most 1,048,576 files, which lie in memory, of texts of at most 1,048,576 bytes.
-/
import Derived.Test.YthjiilbfmhnlbaaDrvIR
import Derived.Test.YthjiilbfmhnlbaaClone
import Derived.Test.YthjiilbfmhnlbaaStrM
namespace Go.Proofs.Ythjiilbfmhnlbaa.drv
open Go.RowKit Go.Joins
open Go.Proofs.Ythjiilbfmhnlbaa.base Go.Proofs.Ythjiilbfmhnlbaa.blk Go.Proofs.Ythjiilbfmhnlbaa.aid
open Go.Proofs.Ythjiilbfmhnlbaa.row (Rd Own OwnV)
open Go.Proofs.Ythjiilbfmhnlbaa.rwStored (cs)
open Go.Proofs.Ythjiilbfmhnlbaa.strs (tx strV appSem app_fold appT)
set_option linter.unusedVariables false
attribute [local go_sem ↓] app_fold

theorem owns_next {w w' : World} {base e size n : Nat} {v : Value} {xs : List Value} (h : w.ownsRow base e size v n xs) (hb : Below w.heap.size w w') : w'.ownsRow base e size v n xs :=
  h.kept (row := none) ⟨hb.os, hb.tape, hb.output, hb.size, fun k hk _ => hb.block k hk⟩ (by cases hv : v.ownBlock <;> simp)
/-- names of its own are the answer -/
def NPost (w : World) (ts : List ByteArray) (e : Ending) (w' : World) : Prop :=
  ∃ a c, e = .returned (.slice a ts.length c) ∧ OwnV 9 w' a (tx ts) ∧ (∀ b o s, a = some ⟨b, o, s⟩ → w.heap.size ≤ b) ∧ Below w.heap.size w w'
/-- the row of names that grows, and the argument's variable -/
structure Nr (w : World) (box : Obj) (B : Nat) (v : Value) (k : Nat) (ts : List ByteArray) (wx : World) : Prop where
  below : Below w.heap.size w wx
  sz : B ≤ wx.heap.size
  bb : wx.heap[w.heap.size]? = some box
  own : wx.ownsRow B 9 1 v k (tx ts)
  hB : w.heap.size + 1 ≤ B
variable {w wx w' : World} {box : Obj} {B k : Nat} {v : Value} {ts : List ByteArray}
theorem Nr.next (h : Nr w box B v k ts wx) (hb : Below wx.heap.size wx w') : Nr w box B v k ts w' :=
  ⟨h.below.trans (hb.mono h.below.size), Nat.le_trans h.sz hb.size, blk_below h.bb hb, owns_next h.own hb, h.hB⟩
theorem Nr.app {o : Obj} {v' : Value} {us : List ByteArray} {k' : Nat} (h : Nr w box B v k ts wx) (hg : (wx.alloc o).grownBy w' v.ownBlock) (ho : w'.ownsRow B 9 1 v' k' (tx us)) : Nr w box B v' k' us w' := by
  have hk := fun j hj => (h.own.lt j hj).1
  have h2 := h.next (below_alloc1 wx o)
  have hB := h.hB
  exact ⟨h2.below.grown hg h2.below.size (fun j hj => by have := hk j hj; omega), Nat.le_trans h2.sz hg.size, (hg.block _ (Array.getElem?_eq_some_iff.1 h2.bb).1 (fun e2 => by have := hk _ e2.symm; omega)).trans h2.bb, ho, h.hB⟩
theorem Nr.post {ts' : List ByteArray} (h : Nr w box B v k ts wx) (hk : ts.length = k) (e : ts = ts') : NPost w ts' (.returned v) wx := by
  subst e
  obtain ⟨a, c, rfl, ho, hf⟩ := mem.own_of h.own
  exact ⟨a, c, by rw [hk], ho, fun b o s e => by have := hf b o s e; have := h.hB; omega, h.below⟩
/-- the names of the first k files -/
def nm (l : List (ByteArray × ByteArray × Int)) (k : Nat) : List ByteArray := (l.take k).map (fun f => f.1)
theorem nm_len (l : List (ByteArray × ByteArray × Int)) (k : Nat) (h : k ≤ l.length) : (nm l k).length = k := by simp [nm]; omega
theorem nm_next (l : List (ByteArray × ByteArray × Int)) (k : Nat) (f : ByteArray × ByteArray × Int) (h : l[k]? = some f) : nm l k ++ [f.1] = nm l (k + 1) := by
  unfold nm
  rw [List.take_add_one, h]
  simp
theorem nm_all (l : List (ByteArray × ByteArray × Int)) : nm l l.length = l.map (fun f => f.1) := by simp [nm]

set_option maxRecDepth 100000 in
set_option maxHeartbeats 1000000 in
theorem namesS_any (a : Option Addr) (c : Nat) (l : List (ByteArray × ByteArray × Int)) (r : Int) (w : World) (hl : l.length ≤ 1048576) (hs : Small l) (hr : Rd w a (cs l)) :
    Calls Try.prog 32 #[.agg #[.slice a l.length c, .int .i64 r]] w (NPost w (namesD l r)) := by
  have N0 : Hid (Nr w (.cells #[.slice a l.length c, .int .i64 r] 25) (w.heap.size + 1) (.slice (some ⟨w.heap.size + 1, 0, none⟩) 0 0) 0 [] ((w.alloc (.cells #[.slice a l.length c, .int .i64 r] 25)).alloc (.cells #[] 9))) :=
    mkHid ⟨rwStored.below2 _ _ _, by simp, blk_old (blk_new _ _ _ rfl) _, by simpa [tx] using World.ownsRow_made (base := w.heap.size + 1) (e := 9) (size := 1) (w.alloc (.cells #[.slice a l.length c, .int .i64 r] 25)) #[] 0 (by simp) (by decide) rfl, Nat.le_refl _⟩
  have HR := mkHid (fun wx (hx : Rd wx a (cs l)) => right_any a c l r wx hl hs hx)
  have HA := mkHid hr
  have hl2 : (l.length : Int) ≤ 1048576 := by omega
  have HN : Hid (namesD l r = if driveB l r = true then l.map (fun f => f.1) else []) := mkHid rfl
  clear hr hs
  generalize namesD l r = o at *
  cases hd : driveB l r with
  | false =>
    rw [hd] at HR HN
    go_enter Try.func32, Try.ntmps32
    go_wp2_with fail
    generalize (w.alloc (.cells #[.slice a l.length c, .int .i64 r] 25)).alloc (.cells #[] 9) = W at *
    go_loopw [3, 4] (fun out i wr => i = .int .i64 0 ∧ out = .slice (some ⟨w.heap.size + 1, 0, none⟩) 0 0 ∧ Hid (Nr w (.cells #[.slice a l.length c, .int .i64 r] 25) (w.heap.size + 1) (.slice (some ⟨w.heap.size + 1, 0, none⟩) 0 0) 0 [] wr)) (fun _ _ _ => 0)
    case atStart => exact ⟨rfl, rfl, N0⟩
    case round =>
      obtain ⟨rfl, rfl, hN⟩ := hrel
      obtain ⟨c0, c1⟩ := cel2 hN.out.bb
      by_cases h0 : 0 < l.length
      · have h0i : 0 < (l.length : Int) := by omega
        go_wp2_with fail
        refine (HR.out _ (HA.out.below hN.out.below)).mono ?_
        rintro e w1 ⟨rfl, hb1⟩
        have N1 := mkHid (hN.out.next hb1)
        clear hb1 c0 c1
        go_wp2
        go_ret
        exact N1.out.post rfl (by rw [HN.out]; rfl)
      · have h0i : (l.length : Int) = 0 := by omega
        go_wp2
        go_ret
        exact hN.out.post rfl (by rw [HN.out]; rfl)
  | true =>
    rw [hd] at HR HN
    go_enter Try.func32, Try.ntmps32
    go_wp2_with fail
    generalize (w.alloc (.cells #[.slice a l.length c, .int .i64 r] 25)).alloc (.cells #[] 9) = W at *
    go_loopw [3, 4] (fun out i wr => ∃ (k : Nat) (va : Option Addr) (vc : Nat), k ≤ l.length ∧ i = .int .i64 k ∧ out = .slice va k vc ∧ Hid (Nr w (.cells #[.slice a l.length c, .int .i64 r] 25) (w.heap.size + 1) (.slice va k vc) k (nm l k) wr))
      (fun _ i _ => l.length - (intOf i).toNat)
    case atStart => exact ⟨0, _, _, Nat.zero_le _, rfl, rfl, N0⟩
    case round =>
      obtain ⟨k, va, vc, hk, rfl, rfl, hN⟩ := hrel
      obtain ⟨c0, c1⟩ := cel2 hN.out.bb
      by_cases hlt : k < l.length
      · have hlti : (k : Int) < (l.length : Int) := by omega
        go_wp2_with fail
        refine (HR.out _ (HA.out.below hN.out.below)).mono ?_
        rintro e w1 ⟨rfl, hb1⟩
        have N1 := mkHid (hN.out.next hb1)
        obtain ⟨⟨x0, x1, x2⟩, hx⟩ : ∃ y, l[k]? = some y := ⟨_, List.getElem?_eq_getElem hlt⟩
        obtain ⟨g1, o1, rfl, e0, e1, e2, l1⟩ := rwStored.el (HA.out.below N1.out.below) hx
        simp only at e0 e1 e2
        obtain ⟨d0, d1⟩ := cel2 N1.out.bb
        obtain ⟨g, c3, w2, happ, hown2, hgr⟩ := appT w1 (w.heap.size + 1) (.slice va k vc) k (nm l k) x0 (nm_len l k hk) N1.out.own N1.out.sz (by omega)
        have hnx := nm_next l k _ hx
        simp only at hnx
        have hown2' : w2.ownsRow (w.heap.size + 1) 9 1 (.slice (some ⟨g, 0, none⟩) (k + 1) c3) (k + 1) (tx (nm l (k + 1))) := by rw [← hnx]; exact hown2
        have N2 := mkHid (N1.out.app hgr hown2')
        clear hown2'
        clear hb1 c0 c1 hgr hown2 hN N1 hx hnx
        go_wp2
        exact ⟨⟨k + 1, _, _, by omega, by go_num, rfl, N2⟩, by simp [intOf]; omega⟩
      · obtain rfl : k = l.length := by omega
        go_wp2
        go_ret
        exact hN.out.post (nm_len l _ (Nat.le_refl _)) (by rw [HN.out, nm_all]; rfl)

set_option maxRecDepth 100000 in
set_option maxHeartbeats 1000000 in
theorem namesI_any (a : Option Addr) (c : Nat) (l : List (ByteArray × ByteArray × Int)) (r : Int) (w : World) (hl : l.length ≤ 1048576) (hs : Small l) (hr : Rd w a (cs l)) :
    Calls Try.prog 33 #[.agg #[.slice a l.length c, .int .i64 r]] w (NPost w (namesD l r)) := by
  obtain ⟨hc0, hc1⟩ := (cel2 (blk_new w (.cells #[.slice a l.length c, .int .i64 r] 25) w.heap.size rfl))
  have HR := mkHid (rightI_any a c l r (w.alloc (.cells #[.slice a l.length c, .int .i64 r] 25)) hl hs (hr.alloc _))
  have HA := mkHid hr
  have hl2 : (l.length : Int) ≤ 1048576 := by omega
  have HN : Hid (namesD l r = if driveB l r = true then l.map (fun f => f.1) else []) := mkHid rfl
  clear hr
  generalize namesD l r = o at *
  cases hd : driveB l r with
  | false =>
    rw [hd] at HR HN
    go_enter Try.func33, Try.ntmps33
    go_wp2_with fail
    refine HR.out.mono ?_
    rintro e w1 ⟨rfl, hb1⟩
    have HB := mkHid (below_allocs (os := [_]) hb1)
    have E := mkHid (show o = [] by rw [HN.out]; rfl)
    clear hb1
    go_wp2
    go_ret
    rw [E.out]
    exact ⟨none, 0, rfl, .inl rfl, fun b o s e => by simp at e, HB.out⟩
  | true =>
    rw [hd] at HR HN
    have HCl := mkHid (fun f (hf : f ∈ l) wx => clone.clone_any f.1 wx (hs f hf).1)
    clear hs
    go_enter Try.func33, Try.ntmps33
    go_wp2_with fail
    refine HR.out.mono ?_
    rintro e w1 ⟨rfl, hb1⟩
    have N1 : Hid (Nr w (.cells #[.slice a l.length c, .int .i64 r] 25) (w.heap.size + 1) (.slice none 0 0) 0 [] w1) :=
      mkHid ⟨below_allocs (os := [_]) hb1, by have := hb1.size; simpa using this, blk_below (blk_new _ _ _ rfl) hb1, World.ownsRow_nil _ _ _ _, Nat.le_refl _⟩
    obtain ⟨d0, d1⟩ := cel2 N1.out.bb
    clear hb1 hc0 hc1
    go_wp2_with fail
    go_loopw [3, 5, 12] (fun out f i wr => ∃ (k : Nat) (va : Option Addr) (vc : Nat), k ≤ l.length ∧ i = .int .i64 k ∧ out = .slice va k vc ∧ Hid (Nr w (.cells #[.slice a l.length c, .int .i64 r] 25) (w.heap.size + 1) (.slice va k vc) k (nm l k) wr))
      (fun _ _ i _ => l.length - (intOf i).toNat)
    case atStart => exact ⟨0, _, _, Nat.zero_le _, rfl, rfl, N1⟩
    case round =>
      obtain ⟨k, va, vc, hk, rfl, rfl, hN⟩ := hrel
      by_cases hlt : k < l.length
      · have hlti : (k : Int) < (l.length : Int) := by omega
        obtain ⟨⟨x0, x1, x2⟩, hx⟩ : ∃ y, l[k]? = some y := ⟨_, List.getElem?_eq_getElem hlt⟩
        obtain ⟨g1, o1, rfl, e0, e1, e2, l1⟩ := rwStored.el (HA.out.below hN.out.below) hx
        simp only at e0 e1 e2
        have HC := mkHid (fun wx => HCl.out _ (List.mem_of_getElem? hx) wx)
        have hnx := nm_next l k _ hx
        simp only at hnx
        have HX := mkHid hnx
        clear hx hnx
        go_wp2_with fail
        refine (HC.out _).mono ?_
        rintro e w2 ⟨rfl, hb2⟩
        have N2 := mkHid ((hN.out.next (below_alloc1 wr _)).next hb2)
        obtain ⟨g, c3, w3, happ, hown3, hgr⟩ := appT w2 (w.heap.size + 1) (.slice va k vc) k (nm l k) x0 (nm_len l k hk) N2.out.own N2.out.sz (by omega)
        have hown3' : w3.ownsRow (w.heap.size + 1) 9 1 (.slice (some ⟨g, 0, none⟩) (k + 1) c3) (k + 1) (tx (nm l (k + 1))) := by rw [← HX.out]; exact hown3
        have N3 := mkHid (N2.out.app hgr hown3')
        clear hown3'
        clear hb2 hgr hown3 hN N2 e0 e1 e2
        go_wp2
        exact ⟨⟨k + 1, _, _, by omega, by go_num, rfl, N3⟩, by simp [intOf]; omega⟩
      · obtain rfl : k = l.length := by omega
        go_wp2
        go_ret
        exact hN.out.post (nm_len l _ (Nat.le_refl _)) (by rw [HN.out, nm_all]; rfl)
end Go.Proofs.Ythjiilbfmhnlbaa.drv
