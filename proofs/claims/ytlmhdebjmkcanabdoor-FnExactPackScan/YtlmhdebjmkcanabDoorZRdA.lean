/-
  What impl.PackScan answers and leaves: a row of its own of the entries. Conditions: at most 1,048,576 bytes; the numbers of the rounds are there.
  What impl.readBlobs answers and leaves: a row of its own of the blobs, or a panic that tells the place. Conditions: at most 20,000 bytes; the numbers of the rounds are there.
-/
import Derived.Test.YtlmhdebjmkcanabDoorZEntA
import Derived.Test.YtlmhdebjmkcanabDoorZPackA
import Derived.Test.YtlmhdebjmkcanabDoorZCellA
import Derived.Test.YtlmhdebjmkcanabDoorZGetA
namespace Go.Proofs.YtlmhdebjmkcanabDoor.rdr
open Go.RowKit Go.Joins
open Go.Proofs.YtlmhdebjmkcanabDoor.base Go.Proofs.YtlmhdebjmkcanabDoor.blk Go.Proofs.YtlmhdebjmkcanabDoor.aid
open Go.Proofs.YtlmhdebjmkcanabDoor.pack (bKey bRight recAt keyAt scan scanT)
open Go.Proofs.YtlmhdebjmkcanabDoor.row (bl en Rd Own OwnV appSem app_fold app1)
open Go.Proofs.YtlmhdebjmkcanabDoor.sha (digest GV)
set_option linter.unusedVariables false
attribute [local go_sem ↓] app_fold

/-- a row of entries of its own is the answer -/
def SPost (w : World) (l : List (ByteArray × Int × Int × Int)) (e : Ending) (w' : World) : Prop :=
  ∃ a c, e = .returned (.slice a l.length c) ∧ OwnV 41 w' a (en l) ∧ (∀ b o s, a = some ⟨b, o, s⟩ → w.heap.size ≤ b) ∧ Below w.heap.size w w'
theorem infoE : (Tryd.prog.info? 41).map (fun i => (i.zero, i.size, i.bytes)) = some (some (.agg #[.string ⟨#[]⟩, .int .i64 0, .int .i64 0, .int .i64 0]), 4, 40) := by kernel_rfl
theorem appE (W : World) (base : Nat) (v : Value) (n : Nat) (acc : List (ByteArray × Int × Int × Int)) (x : ByteArray) (k a m : Int) (hn : acc.length = n) (hown : W.ownsRow base 41 4 v n (en acc)) (hb : base ≤ W.heap.size) (hl : n ≤ 1048576) :
    ∃ g c w2, (appSem #[29, 29] 29 #[v, .slice (some ⟨W.heap.size, 0, none⟩) 1 1]).run Tryd.prog (W.alloc (.cells #[.string x, .int .i64 k, .int .i64 a, .int .i64 m] 41)) = .ok (.slice (some ⟨g, 0, none⟩) (n + 1) c) w2 ∧ w2.ownsRow base 41 4 (.slice (some ⟨g, 0, none⟩) (n + 1) c) (n + 1) (en (acc ++ [(x, k, a, m)])) ∧ (W.alloc (.cells #[.string x, .int .i64 k, .int .i64 a, .int .i64 m] 41)).grownBy w2 v.ownBlock := by
  obtain ⟨g, c, w2, h1, h2, h3⟩ := app1 (W := W) (base := base) (S := 29) (T := 41) (size := 4) (bytes := 40) Tryd.underlying29 infoE rfl (by decide) v n (en acc) [.string x, .int .i64 k, .int .i64 a, .int .i64 m] rfl (by intro u hu; simp at hu; rcases hu with rfl | rfl | rfl | rfl <;> rfl) hown hb hl (by decide)
  exact ⟨g, c, w2, h1, by rw [row.en_snoc]; exact h2, h3⟩

theorem own_v {w : World} {base T size n c : Nat} {a : Option Addr} {xs : List Value} (h : w.ownsRow base T size (.slice a n c) n xs) : OwnV T w a xs := by
  have h' := h
  obtain ⟨hl, h2⟩ := h
  rcases h2 with ⟨e, h0⟩ | ⟨g, cap, cur, e, _⟩
  · subst h0
    exact .inl (List.eq_nil_of_length_eq_zero (by simpa using hl))
  · simp at e
    obtain ⟨rfl, rfl⟩ := e
    exact .inr ⟨g, rfl, Own.owns h'⟩
theorem own_ge {w : World} {base T size n c : Nat} {a : Option Addr} {xs : List Value} (h : w.ownsRow base T size (.slice a n c) n xs) : ∀ b o s, a = some ⟨b, o, s⟩ → base ≤ b := by
  intro b o s e
  subst e
  exact (h.lt b rfl).1
theorem row_below {w wr w1 : World} {T size n : Nat} {v : Value} {xs : List Value} (h : wr.ownsRow w.heap.size T size v n xs) (hb : Below w.heap.size w wr) (h1 : Below wr.heap.size wr w1) : w1.ownsRow w.heap.size T size v n xs ∧ Below w.heap.size w w1 :=
  ⟨h.kept (row := none) ⟨h1.os, h1.tape, h1.output, h1.size, fun k hk _ => h1.block k hk⟩ (by
    by_cases hne : v.ownBlock = none
    · exact .inl hne
    · exact .inr hne), hb.trans (h1.mono hb.size)⟩

set_option maxRecDepth 100000 in
set_option maxHeartbeats 2000000 in
theorem scan_any (s : ByteArray) (w : World) (hs : s.size ≤ 20000) (I : himpl.IDigest) (hG : GV w) :
    Calls Tryd.prog 12 #[.string s] w (SPost w (scanT s)) := by
  have h1 : (s.size : Int) ≤ 20000 := by omega
  have ET : Hid (scanT s = scan s 0) := mkHid (by unfold scanT; rw [if_neg (by omega)])
  have HN := mkHid (fun wx (a : Nat) (ha : a ≤ s.size) (hb : Below w.heap.size w wx) (hR : recAt s a = none) => entryAt_no s a wx hs ha I (hG.below hb hG.lt) hR)
  have HY := mkHid (fun wx (a : Nat) (ha : a ≤ s.size) (hb : Below w.heap.size w wx) (k : Int) (q n : Nat) (hR : recAt s a = some (k, q, n)) => entryAt_yes s a k q n wx hs ha I (hG.below hb hG.lt) hR)
  clear I hG
  go_enter Tryd.func12, Tryd.ntmps12
  go_wp2_with fail
  go_loopw [3, 4] (fun v i wr => ∃ (a : Nat) (acc : List (ByteArray × Int × Int × Int)) (va : Option Addr) (vc : Nat), a ≤ s.size ∧ i = .int .i64 a ∧ v = .slice va acc.length vc ∧ acc.length ≤ a ∧ Hid (acc ++ scan s a = scan s 0) ∧ Hid (wr.ownsRow w.heap.size 41 4 (.slice va acc.length vc) acc.length (en acc) ∧ Below w.heap.size w wr))
    (fun _ i _ => s.size - (intOf i).toNat)
  case atStart => exact ⟨0, [], none, 0, Nat.zero_le _, rfl, rfl, by simp, mkHid (by simp), mkHid ⟨World.ownsRow_nil _ _ _ _, Below.refl _ _⟩⟩
  case round =>
    obtain ⟨a, acc, va, vc, ha, rfl, rfl, hacc, hsc, hrow⟩ := hrel
    by_cases hlt : a < s.size
    · have hlti : (a : Int) < (s.size : Int) := by omega
      cases hR : recAt s a with
      | none =>
        have N1 : Hid (acc ++ scan s (a + 1) = scan s 0) := mkHid (by rw [← pack.scan_no hlt hR]; exact hsc.out)
        go_wp2_with fail
        refine (HN.out _ a ha hrow.out.2 hR).mono ?_
        rintro e w1 ⟨rfl, hb1⟩
        have N2 : Hid ((w1.alloc (.cells #[.string ⟨#[]⟩, .int .i64 0, .int .i64 0, .int .i64 0] 41)).ownsRow w.heap.size 41 4 (.slice va acc.length vc) acc.length (en acc) ∧ Below w.heap.size w (w1.alloc (.cells #[.string ⟨#[]⟩, .int .i64 0, .int .i64 0, .int .i64 0] 41))) :=
          mkHid (row_below hrow.out.1 hrow.out.2 (hb1.trans ((below_alloc1 w1 _).mono hb1.size)))
        clear hb1 hrow hsc HN HY hR
        go_wp2
        exact ⟨⟨a + 1, acc, va, vc, by omega, by go_num, rfl, by omega, N1, N2⟩, by simp [intOf]; omega⟩
      | some x =>
        obtain ⟨k, q, n⟩ := x
        have hq := pack.rec_some hR
        have N1 : Hid ((acc ++ [(keyAt s a, k, (q : Int), (n : Int))]) ++ scan s (q + n) = scan s 0) := mkHid (by rw [← hsc.out, pack.scan_yes hlt hR]; simp)
        have HYY : Hid (∀ wx, Below w.heap.size w wx → Calls Tryd.prog 29 #[.string s, .int .i64 a] wx fun e w' => e = .returned (.tuple #[.agg #[.string (keyAt s a), .int .i64 k, .int .i64 (q : Int), .int .i64 (n : Int)], .bool true]) ∧ Below wx.heap.size wx w') := mkHid (fun wx hb => HY.out wx a ha hb k q n hR)
        have hqn : (q : Int) + (n : Int) ≤ (s.size : Int) := by omega
        generalize keyAt s a = ky at *
        clear HY HN hsc hR
        go_wp2_with fail
        refine (HYY.out _ hrow.out.2).mono ?_
        rintro e w1 ⟨rfl, hb1⟩
        have E1 := mkHid (And.intro (row_below hrow.out.1 hrow.out.2 (hb1.trans ((below_alloc1 w1 (.cells #[.string ky, .int .i64 k, .int .i64 (q : Int), .int .i64 (n : Int)] 41)).mono hb1.size))) (blk_new w1 (.cells #[.string ky, .int .i64 k, .int .i64 (q : Int), .int .i64 (n : Int)] 41) w1.heap.size rfl))
        obtain ⟨g, c, w2, hrun, hown2, hgr⟩ := appE (w1.alloc (.cells #[.string ky, .int .i64 k, .int .i64 (q : Int), .int .i64 (n : Int)] 41)) w.heap.size (.slice va acc.length vc) acc.length acc ky k q n rfl E1.out.1.1 E1.out.1.2.size (by omega)
        have hlt2 : ∀ x, (Value.slice va acc.length vc).ownBlock = some x → x < w1.heap.size := fun x hx => Nat.lt_of_lt_of_le (hrow.out.1.lt x hx).2 hb1.size
        have E2 : w2.heap[w1.heap.size]? = some (.cells #[.string ky, .int .i64 k, .int .i64 (q : Int), .int .i64 (n : Int)] 41) :=
          (hgr.block w1.heap.size (by simp; omega) (fun e => Nat.lt_irrefl _ (hlt2 _ e.symm))).trans (blk_old E1.out.2 _)
        obtain ⟨c0, c1, c2, c3⟩ := cel4 E2
        have N2 : Hid (w2.ownsRow w.heap.size 41 4 (.slice (some ⟨g, 0, none⟩) (acc.length + 1) c) (acc.length + 1) (en (acc ++ [(ky, k, (q : Int), (n : Int))])) ∧ Below w.heap.size w w2) :=
          mkHid ⟨hown2, (E1.out.1.2.alloc E1.out.1.2.size (.cells #[.string ky, .int .i64 k, .int .i64 (q : Int), .int .i64 (n : Int)] 41)).grown hgr (by have := E1.out.1.2.size; simp at this ⊢; omega) (fun x hx => (E1.out.1.1.lt x hx).1)⟩
        rw [show (w1.alloc (.cells #[.string ky, .int .i64 k, .int .i64 (q : Int), .int .i64 (n : Int)] 41)).heap.size = w1.heap.size + 1 by simp] at hrun
        clear hb1 hrow HYY hown2 hgr E1 E2 hlt2
        go_wp2
        exact ⟨⟨q + n, acc ++ [(ky, k, (q : Int), (n : Int))], some ⟨g, 0, none⟩, c, by omega, by go_num, by simp, by simp; omega, N1, by simpa using N2⟩, by simp [intOf]; omega⟩
    · have hlti : ¬ ((a : Int) < (s.size : Int)) := by omega
      have E : Hid (scanT s = acc) := mkHid (by rw [ET.out, ← hsc.out, pack.scan_end (by omega)]; simp)
      clear hsc
      go_wp2
      go_ret
      rw [E.out]
      exact ⟨va, vc, rfl, own_v hrow.out.1, own_ge hrow.out.1, hrow.out.2⟩
set_option maxRecDepth 100000 in
theorem scan_impl (s : ByteArray) (w : World) (hs : s.size ≤ 1048576) (I : himpl.IDigest) (hG : GV w) :
    Calls Tryd.prog 12 #[.string s] w (SPost w (scanT s)) := by
  by_cases h : 20000 < (s.size : Int)
  · have E : scanT s = [] := by unfold scanT; rw [if_pos (by omega)]
    rw [E]
    clear E
    go_enter Tryd.func12, Tryd.ntmps12
    go_wp2
    go_ret
    exact ⟨none, 0, rfl, .inl rfl, fun b o s e => by simp at e, Below.refl _ _⟩
  · exact scan_any s w (by omega) I hG
end Go.Proofs.YtlmhdebjmkcanabDoor.rdr
namespace Go.Proofs.YtlmhdebjmkcanabDoor.rdr
open Go.RowKit Go.Joins
open Go.Proofs.YtlmhdebjmkcanabDoor.base Go.Proofs.YtlmhdebjmkcanabDoor.blk Go.Proofs.YtlmhdebjmkcanabDoor.aid
open Go.Proofs.YtlmhdebjmkcanabDoor.pack (bKey bRight recAt keyAt reads)
open Go.Proofs.YtlmhdebjmkcanabDoor.row (bl en Rd Own OwnV appSem app_fold app1)
open Go.Proofs.YtlmhdebjmkcanabDoor.sha (digest GV)
set_option linter.unusedVariables false
attribute [local go_sem ↓] app_fold

/-- a row of blobs of its own is the answer -/
def BPost (w : World) (l : List (Int × ByteArray)) (e : Ending) (w' : World) : Prop :=
  ∃ a c, e = .returned (.slice a l.length c) ∧ OwnV 37 w' a (bl l) ∧ (∀ b o s, a = some ⟨b, o, s⟩ → w.heap.size ≤ b) ∧ Below w.heap.size w w'
def RPost (w : World) (s : ByteArray) (e : Ending) (w' : World) : Prop :=
  match reads s 0 with
  | .error a => e = noRec a ∧ Below w.heap.size w w'
  | .ok l => BPost w l e w'
theorem infoB : (Tryd.prog.info? 37).map (fun i => (i.zero, i.size, i.bytes)) = some (some (.agg #[.int .i64 0, .string ⟨#[]⟩]), 2, 24) := by kernel_rfl
theorem appB (W : World) (base : Nat) (v : Value) (n : Nat) (acc : List (Int × ByteArray)) (k : Int) (t : ByteArray) (hn : acc.length = n) (hown : W.ownsRow base 37 2 v n (bl acc)) (hb : base ≤ W.heap.size) (hl : n ≤ 1048576) :
    ∃ g c w2, (appSem #[22, 22] 22 #[v, .slice (some ⟨W.heap.size, 0, none⟩) 1 1]).run Tryd.prog (W.alloc (.cells #[.int .i64 k, .string t] 37)) = .ok (.slice (some ⟨g, 0, none⟩) (n + 1) c) w2 ∧ w2.ownsRow base 37 2 (.slice (some ⟨g, 0, none⟩) (n + 1) c) (n + 1) (bl (acc ++ [(k, t)])) ∧ (W.alloc (.cells #[.int .i64 k, .string t] 37)).grownBy w2 v.ownBlock := by
  obtain ⟨g, c, w2, h1, h2, h3⟩ := app1 (W := W) (base := base) (S := 22) (T := 37) (size := 2) (bytes := 24) Tryd.underlying22 infoB rfl (by decide) v n (bl acc) [.int .i64 k, .string t] rfl (by intro u hu; simp at hu; rcases hu with rfl | rfl <;> rfl) hown hb hl (by decide)
  exact ⟨g, c, w2, h1, by rw [row.bl_snoc]; exact h2, h3⟩

def lenOf : Value → Nat
  | .slice _ n _ => n
  | _ => 0
/-- while the blobs are read -/
structure Rb (w : World) (s : ByteArray) (a : Int) (f : Int) (acc : List (Int × ByteArray)) (v : Value) (W : World) : Prop where
  below : Below w.heap.size w W
  rd : W.heap[w.heap.size]? = some (rdO s a f)
  row : W.ownsRow (w.heap.size + 1) 37 2 v acc.length (bl acc)
theorem row_grew {W W' : World} {base T size n g : Nat} {v : Value} {xs : List Value} (h : W.ownsRow base T size v n xs) (hg : W.grownBy W' (some g)) (hlt : g < base) : W'.ownsRow base T size v n xs :=
  h.kept hg (by
    by_cases hne : v.ownBlock = none
    · exact .inl hne
    · refine .inr (fun e => ?_)
      have := (h.lt g e).1
      omega)
theorem Rb.entry {w W W' : World} {s : ByteArray} {a f a' f' : Int} {acc : List (Int × ByteArray)} {v : Value} (h : Rb w s a f acc v W) (hg : W.grownBy W' (some w.heap.size)) (ho : W'.heap[w.heap.size]? = some (rdO s a' f')) : Rb w s a' f' acc v W' :=
  ⟨below_of_grew h.below h.below.size hg (Nat.le_refl _), ho, row_grew h.row hg (by omega)⟩
theorem Rb.next {w W W' : World} {s : ByteArray} {a f : Int} {acc : List (Int × ByteArray)} {v : Value} (h : Rb w s a f acc v W) (hb : Below W.heap.size W W') : Rb w s a f acc v W' :=
  ⟨h.below.trans (hb.mono h.below.size), blk_below h.rd hb, h.row.kept (row := none) ⟨hb.os, hb.tape, hb.output, hb.size, fun k hk _ => hb.block k hk⟩ (by
    by_cases hne : v.ownBlock = none
    · exact .inl hne
    · exact .inr hne)⟩
theorem Rb.app {w W : World} {s : ByteArray} {a f : Int} {acc : List (Int × ByteArray)} {v : Value} (h : Rb w s a f acc v W) (k : Int) (t : ByteArray) (hl : acc.length ≤ 1048576) :
    ∃ g c w2, (appSem #[22, 22] 22 #[v, .slice (some ⟨W.heap.size, 0, none⟩) 1 1]).run Tryd.prog (W.alloc (.cells #[.int .i64 k, .string t] 37)) = .ok (.slice (some ⟨g, 0, none⟩) (acc.length + 1) c) w2 ∧ Rb w s a f (acc ++ [(k, t)]) (.slice (some ⟨g, 0, none⟩) (acc ++ [(k, t)]).length c) w2 := by
  have hs : w.heap.size + 1 ≤ W.heap.size := (Array.getElem?_eq_some_iff.1 h.rd).1
  obtain ⟨g, c, w2, h1, h2, h3⟩ := appB W (w.heap.size + 1) v acc.length acc k t rfl h.row hs hl
  refine ⟨g, c, w2, h1, ?_, ?_, by simpa using h2⟩
  · exact ((h.below.alloc h.below.size _).grown h3 (by simp; omega) (fun x hx => Nat.le_of_succ_le (h.row.lt x hx).1))
  · refine (h3.block w.heap.size (by simp; omega) (fun e => ?_)).trans (blk_old h.rd _)
    have := (h.row.lt w.heap.size e.symm).1
    omega

set_option maxRecDepth 100000 in
set_option maxHeartbeats 2000000 in
theorem readBlobs_any (s : ByteArray) (w : World) (hs : s.size ≤ 20000) (I : himpl.IDigest) (hG : GV w) :
    Calls Tryd.prog 24 #[.string s] w (RPost w s) := by
  have h1 : (s.size : Int) ≤ 20000 := by omega
  have h0 := hG.lt
  have HE := mkHid (fun wx (a : Nat) (f : Int) (ha : a ≤ s.size) (hb : Below w.heap.size w wx) (h : wx.heap[w.heap.size]? = some (rdO s a f)) => entry_any w.heap.size s a f wx h hs ha I (hG.below hb hG.lt) h0)
  clear I hG
  go_enter Tryd.func24, Tryd.ntmps24
  go_wp2
  go_loopw [3] (fun v wr => ∃ (a : Nat) (f : Int) (acc : List (Int × ByteArray)) (va : Option Addr) (vc : Nat), a ≤ s.size ∧ v = .slice va acc.length vc ∧ acc.length ≤ a ∧ wr.cell? ⟨w.heap.size, 1, none⟩ = some (.int .i64 a) ∧ Hid (pack.Read s acc a) ∧ Hid (Rb w s a f acc (.slice va acc.length vc) wr))
    (fun v _ => s.size - lenOf v)
  case atStart => exact ⟨0, 0, [], none, 0, Nat.zero_le _, rfl, by simp, by simp, mkHid (pack.Read.start s), mkHid ⟨below_alloc1 _ _, blk_new w _ _ rfl, World.ownsRow_nil _ _ _ _⟩⟩
  case round =>
    obtain ⟨a, f, acc, va, vc, ha, rfl, hacc, hcell, hrd, hR⟩ := hrel
    by_cases hlt : a < s.size
    · have hlti : (a : Int) < (s.size : Int) := by omega
      have HEE := mkHid (HE.out wr a f ha hR.out.below hR.out.rd)
      cases hr : recAt s a with
      | none =>
        have E := mkHid (hrd.out.no hlt hr)
        have HX : Hid (Calls Tryd.prog 40 #[.pointer (some ⟨w.heap.size, 0, none⟩)] wr fun e w' => e = .panicked [{ v := .iface 49 (.agg #[.int .i64 a]), recovered := false }] ∧ wr.grownBy w' (some w.heap.size)) :=
          mkHid (HEE.out.mono (by intro e w' h; unfold EPost at h; rw [hr] at h; exact h))
        clear HEE HE hrd
        go_wp2_with fail
        refine HX.out.mono ?_
        rintro e w1 ⟨rfl, hg1⟩
        refine ⟨rfl, ?_⟩
        unfold RPost
        rw [E.out]
        exact ⟨rfl, below_of_grew hR.out.below hR.out.below.size hg1 (Nat.le_refl _)⟩
      | some x =>
        obtain ⟨k, q, n⟩ := x
        have hq := pack.rec_some hr
        have N1 := mkHid (hrd.out.next hlt hr)
        have HX : Hid (Calls Tryd.prog 40 #[.pointer (some ⟨w.heap.size, 0, none⟩)] wr fun e w' => e = .returned (.agg #[.string (keyAt s a), .int .i64 k, .int .i64 (q : Int), .int .i64 (n : Int)]) ∧ w'.heap[w.heap.size]? = some (rdO s ((q + n : Nat) : Int) a) ∧ wr.grownBy w' (some w.heap.size)) :=
          mkHid (HEE.out.mono (by intro e w' h; unfold EPost at h; rw [hr] at h; exact h))
        have HB := mkHid (fun wx => pack.blobAt_any s (keyAt s a) k q n wx hs (by omega))
        generalize s.extract q (q + n) = tx at *
        clear HEE HE hrd hr
        go_wp2_with fail
        refine HX.out.mono ?_
        rintro e w1 ⟨rfl, ho1, hg1⟩
        have R1 := mkHid (hR.out.entry hg1 ho1)
        clear HX ho1 hg1 hR
        go_wp2_with fail
        refine (HB.out _).mono ?_
        rintro e w2 ⟨rfl, hb2⟩
        have R2 := mkHid (R1.out.next hb2)
        obtain ⟨g, c, w3, hrun, R3⟩ := R2.out.app k tx (by omega)
        have R3' := mkHid R3
        have hc3 : w3.cell? ⟨w.heap.size, 1, none⟩ = some (.int .i64 ((q + n : Nat) : Int)) := (cel3 R3.rd).2.1
        clear HB hb2 R1 R2 R3
        go_wp2
        exact ⟨⟨q + n, a, acc ++ [(k, tx)], some ⟨g, 0, none⟩, c, by omega, by simp, by simp; omega, hc3, N1, R3'⟩, by simp only [lenOf]; omega⟩
    · have hlti : ¬ ((a : Int) < (s.size : Int)) := by omega
      have E : Hid (reads s 0 = .ok acc) := mkHid (hrd.out.fin (by omega))
      clear hrd HE
      go_wp2
      go_ret
      unfold RPost
      rw [E.out]
      exact ⟨va, vc, rfl, own_v hR.out.row, fun b o s e => Nat.le_of_succ_le (own_ge hR.out.row b o s e), hR.out.below⟩
end Go.Proofs.YtlmhdebjmkcanabDoor.rdr
