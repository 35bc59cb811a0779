/-
  What impl.DriveDo answers and leaves. Conditions: at most 1,048,576 files, which lie in memory, of texts of at most 1,048,576 bytes; the op's texts have at most 1,048,576 bytes.
-/
import Derived.Test.YtfckgpmphcadeaaDrvAt
import Derived.Test.YtfckgpmphcadeaaDrvDs
namespace Go.Proofs.Ytfckgpmphcadeaa.drv
open Go.RowKit Go.Joins Go.Sort
open Go.Proofs.Ytfckgpmphcadeaa.base Go.Proofs.Ytfckgpmphcadeaa.blk Go.Proofs.Ytfckgpmphcadeaa.aid
open Go.Proofs.Ytfckgpmphcadeaa.row (Rd Own OwnV)
open Go.Proofs.Ytfckgpmphcadeaa.rwStored (cs)
set_option linter.unusedVariables false
set_option linter.unusedSimpArgs false

set_option maxRecDepth 100000 in
set_option maxHeartbeats 4000000 in
theorem doI_no1 (a : Option Addr) (c : Nat) (l : List File) (r : Int) (q : Int) (n t x : ByteArray) (w : World) (hl : l.length ≤ 1048576) (hs : Small l) (hn : n.size ≤ 1048576) (ht : t.size ≤ 1048576) (hx : x.size ≤ 1048576) (hd : driveB l r = false) (hr : Rd w a (cs l)) :
    Calls Try.prog 11 #[.agg #[.slice a l.length c, .int .i64 r], .agg #[.int .i64 q, .string n, .string t, .string x]] w (OPost w [] 0 1) := by
  have S0 := mkHid (((((mem.startR hr).var (.cells #[.slice a l.length c, .int .i64 r] 25)).var (.cells #[.int .i64 q, .string n, .string t, .string x] 27)).var (.cells #[.slice none 0 0, .int .i64 0, .int .i64 0] 31)))
  have hz : (w.alloc (.cells #[.slice a l.length c, .int .i64 r] 25)).heap.size = w.heap.size + 1 := by simp
  have hz2 : ((w.alloc (.cells #[.slice a l.length c, .int .i64 r] 25)).alloc (.cells #[.int .i64 q, .string n, .string t, .string x] 27)).heap.size = w.heap.size + 1 + 1 := by simp
  rw [hz, hz2] at S0
  have HR := mkHid (rightI_any a c l r _ hl hs S0.out.r0)
  have HCp := mkHid (fun wx (hq : Rd wx a (cs l)) => copy_any a c l r wx hl hs hq)
  unfold CPost at HCp
  rw [hd] at HR
  clear hr hs hz hz2 HCp
  go_enter Try.func11, Try.ntmps11
  go_wp2_with fail
  refine HR.out.mono ?_
  rintro e w1 ⟨rfl, hb1⟩
  have S1 := mkHid (S0.out.next hb1)
  have HP := mkHid (opost_code (q := 1) (.slice none 0 0) (.int .i64 0) (.int .i64 1) (B := w.heap.size + 1 + 1) (by omega) S1.out.below)
  obtain ⟨e0, e1, e2⟩ := cel3 S1.out.b0
  have ef := unfrozen S1.out.b0
  clear hb1 HR S0
  go_wp2
  refine bodyPost_ret (v := .agg #[.slice none 0 0, .int .i64 0, .int .i64 1]) ?_ rfl ?_
  rotate_left
  · exact HP.out
  · simp [results, Try.results11, go_sem, e0, e1, e2]
set_option maxRecDepth 100000 in
set_option maxHeartbeats 4000000 in
theorem doOp_no (W : World) (B D : Nat) (r : Int) (l : List File) (v : Value) (q : Int) (n t x : ByteArray) (w : World) (hn : n.size ≤ 1048576) (ht : t.size ≤ 1048576) (hx : x.size ≤ 1048576) (ho : opB q n t x = false) (h : Dr W B D r l v w) :
    Calls Try.prog 57 #[.pointer (some ⟨D, 0, none⟩), .agg #[.int .i64 q, .string n, .string t, .string x]] w (APost W B D r l 1) := by
  have HOp := mkHid (fun wx => opI_any q n t x wx hn ht hx)
  rw [ho] at HOp
  have D1 := mkHid (h.next (below_alloc1 w (.cells #[.int .i64 q, .string n, .string t, .string x] 27)))
  obtain ⟨f0, f1, f2, f3⟩ := cel4 (blk_new w (.cells #[.int .i64 q, .string n, .string t, .string x] 27) w.heap.size rfl)
  clear h
  go_enter Try.func57, Try.ntmps57
  go_wp2_with fail
  refine (HOp.out _).mono ?_
  rintro e w1 ⟨rfl, hb1⟩
  have HP : Hid (APost W B D r l 1 (.returned (.int .i64 1)) w1) := mkHid ⟨rfl, l, v, D1.out.next hb1, fun e => by simp at e⟩
  clear hb1 D1 HOp
  go_wp2
  go_ret
  exact HP.out
set_option maxRecDepth 100000 in
set_option maxHeartbeats 4000000 in
theorem doOp_yes (W : World) (B D : Nat) (r : Int) (l : List File) (v : Value) (q : Int) (n t x : ByteArray) (w : World) (hn : n.size ≤ 1048576) (ht : t.size ≤ 1048576) (hx : x.size ≤ 1048576) (ho : opB q n t x = true) (T : TypeId) (HA : ∀ wx, Calls Try.prog 102 #[.agg #[.int .i64 q, .string n, .string t, .string x]] wx fun e w' => e = .returned (.tuple #[.iface T (.agg #[.int .i64 q, .string n, .string t, .string x]), .bool true]) ∧ w' = wx.alloc (.cells #[.int .i64 q, .string n, .string t, .string x] 27)) (l2 : List File) (q2 : Int) (HAt : ∀ (W w : World) (B D : Nat) (v : Value), Dr W B D r l v w → Calls Try.prog 103 #[.pointer (some ⟨D, 0, none⟩), .iface T (.agg #[.int .i64 q, .string n, .string t, .string x])] w (APost W B D r l2 q2)) (h : Dr W B D r l v w) :
    Calls Try.prog 57 #[.pointer (some ⟨D, 0, none⟩), .agg #[.int .i64 q, .string n, .string t, .string x]] w (APost W B D r l2 q2) := by
  have HOp := mkHid (fun wx => opI_any q n t x wx hn ht hx)
  rw [ho] at HOp
  have HA := mkHid HA
  have HAt := mkHid HAt
  have D1 := mkHid (h.next (below_alloc1 w (.cells #[.int .i64 q, .string n, .string t, .string x] 27)))
  have K1 := mkHid (blk_new w (.cells #[.int .i64 q, .string n, .string t, .string x] 27) w.heap.size rfl)
  obtain ⟨f0, f1, f2, f3⟩ := cel4 K1.out
  clear h
  go_enter Try.func57, Try.ntmps57
  go_wp2_with fail
  refine (HOp.out _).mono ?_
  rintro e w1 ⟨rfl, hb1⟩
  have D2 := mkHid (D1.out.next hb1)
  have K2 := mkHid (blk_below K1.out hb1)
  obtain ⟨f0, f1, f2, f3⟩ := cel4 K2.out
  clear hb1 D1 K1 HOp
  go_wp2_with fail
  refine (HA.out _).mono ?_
  rintro e w4 ⟨rfl, rfl⟩
  have D4 := mkHid (D2.out.next (below_alloc1 _ (.cells #[.int .i64 q, .string n, .string t, .string x] 27)))
  clear f0 f1 f2 f3 K2 HA D2
  go_wp2_with fail
  refine (HAt.out _ _ _ _ _ D4.out).mono ?_
  intro e w5 hP
  have HP := mkHid hP
  obtain ⟨rfl, _⟩ := hP
  clear D4 HAt
  go_wp2
  go_ret
  exact HP.out
set_option maxRecDepth 100000 in
set_option maxHeartbeats 4000000 in
theorem doI_yes (a : Option Addr) (c : Nat) (l : List File) (r : Int) (q : Int) (n t x : ByteArray) (w : World) (hl : l.length ≤ 1048576) (hs : Small l) (hd : driveB l r = true) (l2 : List File) (q2 : Int) (HDo : ∀ (W w : World) (B D : Nat) (v : Value), Dr W B D r l v w → Calls Try.prog 57 #[.pointer (some ⟨D, 0, none⟩), .agg #[.int .i64 q, .string n, .string t, .string x]] w (APost W B D r l2 q2)) (hq2 : q2 = 0) (hr : Rd w a (cs l)) :
    Calls Try.prog 11 #[.agg #[.slice a l.length c, .int .i64 r], .agg #[.int .i64 q, .string n, .string t, .string x]] w (OPost w l2 r 0) := by
  have S0 := mkHid (((((mem.startR hr).var (.cells #[.slice a l.length c, .int .i64 r] 25)).var (.cells #[.int .i64 q, .string n, .string t, .string x] 27)).var (.cells #[.slice none 0 0, .int .i64 0, .int .i64 0] 31)))
  have hz : (w.alloc (.cells #[.slice a l.length c, .int .i64 r] 25)).heap.size = w.heap.size + 1 := by simp
  have hz2 : ((w.alloc (.cells #[.slice a l.length c, .int .i64 r] 25)).alloc (.cells #[.int .i64 q, .string n, .string t, .string x] 27)).heap.size = w.heap.size + 1 + 1 := by simp
  rw [hz, hz2] at S0
  have HR := mkHid (rightI_any a c l r _ hl hs S0.out.r0)
  have HCp := mkHid (fun wx (hq : Rd wx a (cs l)) => copy_any a c l r wx hl hs hq)
  unfold CPost at HCp
  subst hq2
  have HDo := mkHid HDo
  unfold APost at HDo
  rw [hd] at HR
  clear hr hs hz hz2
  go_enter Try.func11, Try.ntmps11
  go_wp2_with fail
  refine HR.out.mono ?_
  rintro e w2 ⟨rfl, hb1⟩
  have S2 := mkHid (S0.out.next hb1)
  clear hb1 HR S0
  obtain ⟨d0, d1⟩ := cel2 S2.out.b2
  go_wp2_with fail
  refine (HCp.out _ S2.out.r0).mono ?_
  rintro e w3 ⟨v, rfl, hown, hb3⟩
  have S3 := mkHid (S2.out.next hb3)
  obtain ⟨va, vc, rfl, _, _⟩ := mem.own_of hown
  have D3 : Hid (Dr w2 w2.heap.size w3.heap.size r l (.slice va l.length vc) (w3.alloc (.cells #[.slice va l.length vc, .int .i64 r] 25))) := mkHid ⟨hb3.alloc hb3.size _, blk_new w3 _ w3.heap.size rfl, hown.alloc _, hb3.size⟩
  have S4 := mkHid (S3.out.var (.cells #[.slice va l.length vc, .int .i64 r] 25))
  obtain ⟨f0, f1, f2, f3⟩ := cel4 S4.out.b2
  clear hb3 hown S3 HCp d0 d1
  go_wp2_with fail
  refine (HDo.out _ _ _ _ _ D3.out).mono ?_
  rintro e w5 ⟨rfl, l5, v5, h5, hl5⟩
  have hB : w.heap.size + 3 ≤ w2.heap.size := (Array.getElem?_eq_some_iff.1 S2.out.b0).1
  have hbel : Below w.heap.size w w5 := S2.out.below.trans (h5.bel.mono (by omega))
  have hb0 := (h5.bel.block (w.heap.size + 1 + 1) (by omega)).trans S2.out.b0
  obtain rfl := hl5 (by trivial)
  obtain ⟨v5a, v5c, rfl, ho5, hf5⟩ := mem.own_of h5.o
  have hcap := own_cap h5.o
  have HP := mkHid (opost_put (n := l5.length) (r := r) (q := 0) (.slice v5a l5.length v5c) (.int .i64 r) (.int .i64 0) (B := w.heap.size + 1 + 1) (by omega) ho5 (fun b o s e => by have := hf5 b o s e; omega) hbel rfl hcap)
  obtain ⟨c0, c1⟩ := cel2 h5.b
  obtain ⟨e0, e1, e2⟩ := cel3 hb0
  have ef := unfrozen hb0
  clear D3 S4 S2 HDo h5 hb0 hbel ho5 hf5 hl5 f0 f1 f2 f3
  cases v5a with
  | none =>
    go_wp2
    refine bodyPost_ret (v := .agg #[.slice none l5.length v5c, .int .i64 r, .int .i64 0]) ?_ rfl ?_
    rotate_left
    · exact HP.out
    · simp [results, Try.results11, go_sem, e0, e1, e2]
  | some ad =>
    go_wp2
    refine bodyPost_ret (v := .agg #[.slice (some ad) l5.length v5c, .int .i64 r, .int .i64 0]) ?_ rfl ?_
    rotate_left
    · exact HP.out
    · simp [results, Try.results11, go_sem, e0, e1, e2]
set_option maxRecDepth 100000 in
set_option maxHeartbeats 4000000 in
theorem doI_code (a : Option Addr) (c : Nat) (l : List File) (r : Int) (q : Int) (n t x : ByteArray) (w : World) (hl : l.length ≤ 1048576) (hs : Small l) (hd : driveB l r = true) (l2 : List File) (q2 : Int) (HDo : ∀ (W w : World) (B D : Nat) (v : Value), Dr W B D r l v w → Calls Try.prog 57 #[.pointer (some ⟨D, 0, none⟩), .agg #[.int .i64 q, .string n, .string t, .string x]] w (APost W B D r l2 q2)) (hq2 : q2 ≠ 0) (hr : Rd w a (cs l)) :
    Calls Try.prog 11 #[.agg #[.slice a l.length c, .int .i64 r], .agg #[.int .i64 q, .string n, .string t, .string x]] w (OPost w [] 0 q2) := by
  have S0 := mkHid (((((mem.startR hr).var (.cells #[.slice a l.length c, .int .i64 r] 25)).var (.cells #[.int .i64 q, .string n, .string t, .string x] 27)).var (.cells #[.slice none 0 0, .int .i64 0, .int .i64 0] 31)))
  have hz : (w.alloc (.cells #[.slice a l.length c, .int .i64 r] 25)).heap.size = w.heap.size + 1 := by simp
  have hz2 : ((w.alloc (.cells #[.slice a l.length c, .int .i64 r] 25)).alloc (.cells #[.int .i64 q, .string n, .string t, .string x] 27)).heap.size = w.heap.size + 1 + 1 := by simp
  rw [hz, hz2] at S0
  have HR := mkHid (rightI_any a c l r _ hl hs S0.out.r0)
  have HCp := mkHid (fun wx (hq : Rd wx a (cs l)) => copy_any a c l r wx hl hs hq)
  unfold CPost at HCp
  have HDo := mkHid HDo
  unfold APost at HDo
  rw [hd] at HR
  clear hr hs hz hz2
  go_enter Try.func11, Try.ntmps11
  go_wp2_with fail
  refine HR.out.mono ?_
  rintro e w2 ⟨rfl, hb1⟩
  have S2 := mkHid (S0.out.next hb1)
  clear hb1 HR S0
  obtain ⟨d0, d1⟩ := cel2 S2.out.b2
  go_wp2_with fail
  refine (HCp.out _ S2.out.r0).mono ?_
  rintro e w3 ⟨v, rfl, hown, hb3⟩
  have S3 := mkHid (S2.out.next hb3)
  obtain ⟨va, vc, rfl, _, _⟩ := mem.own_of hown
  have D3 : Hid (Dr w2 w2.heap.size w3.heap.size r l (.slice va l.length vc) (w3.alloc (.cells #[.slice va l.length vc, .int .i64 r] 25))) := mkHid ⟨hb3.alloc hb3.size _, blk_new w3 _ w3.heap.size rfl, hown.alloc _, hb3.size⟩
  have S4 := mkHid (S3.out.var (.cells #[.slice va l.length vc, .int .i64 r] 25))
  obtain ⟨f0, f1, f2, f3⟩ := cel4 S4.out.b2
  clear hb3 hown S3 HCp d0 d1
  go_wp2_with fail
  refine (HDo.out _ _ _ _ _ D3.out).mono ?_
  rintro e w5 ⟨rfl, l5, v5, h5, hl5⟩
  have hB : w.heap.size + 3 ≤ w2.heap.size := (Array.getElem?_eq_some_iff.1 S2.out.b0).1
  have hbel : Below w.heap.size w w5 := S2.out.below.trans (h5.bel.mono (by omega))
  have hb0 := (h5.bel.block (w.heap.size + 1 + 1) (by omega)).trans S2.out.b0
  have HP := mkHid (opost_code (q := q2) (.slice none 0 0) (.int .i64 0) (.int .i64 q2) (B := w.heap.size + 1 + 1) (by omega) hbel)
  obtain ⟨e0, e1, e2⟩ := cel3 hb0
  have ef := unfrozen hb0
  have hqn : (q2 == 0) = false := by simpa using hq2
  clear D3 S4 S2 HDo h5 hb0 hbel hl5 f0 f1 f2 f3
  go_wp2
  refine bodyPost_ret (v := .agg #[.slice none 0 0, .int .i64 0, .int .i64 q2]) ?_ rfl ?_
  rotate_left
  · exact HP.out
  · simp [results, Try.results11, go_sem, e0, e1, e2]
theorem opB_kind {k : Int} {n t x : ByteArray} (h : opB k n t x = true) : k = 1 ∨ k = 2 ∨ k = 3 ∨ k = 4 := by
  unfold opB at h
  by_cases h1 : k = 1
  · exact .inl h1
  · by_cases h3 : k = 3
    · exact .inr (.inr (.inl h3))
    · rw [if_neg h1, if_neg h3] at h
      simp at h
      omega
theorem driveDoI_any (a : Option Addr) (c : Nat) (l : List File) (r : Int) (q : Int) (n t x : ByteArray) (w : World) (hl : l.length ≤ 1048576) (hs : Small l) (hn : n.size ≤ 1048576) (ht : t.size ≤ 1048576) (hx : x.size ≤ 1048576) (hr : Rd w a (cs l)) :
    Calls Try.prog 11 #[.agg #[.slice a l.length c, .int .i64 r], .agg #[.int .i64 q, .string n, .string t, .string x]] w (OPost w (doT l r q n t x).1 (doT l r q n t x).2.1 (doT l r q n t x).2.2) := by
  cases hd : driveB l r with
  | false =>
    have E : doT l r q n t x = ([], 0, 1) := by unfold doT; rw [hd]; rfl
    rw [E]
    exact doI_no1 a c l r q n t x w hl hs hn ht hx hd hr
  | true =>
    cases ho : opB q n t x with
    | false =>
      have E : doT l r q n t x = ([], 0, 1) := by unfold doT; rw [hd, ho]; rfl
      rw [E]
      exact doI_code a c l r q n t x w hl hs hd l 1 (fun W w B D v h => doOp_no W B D r l v q n t x w hn ht hx ho h) (by decide) hr
    | true =>
      have E : doT l r q n t x = doR l r q n t x := by unfold doT; rw [hd, ho]; rfl
      rw [E]
      have hR := drive_rising hd
      have hl6 := (driveB_parts hd).1
      have hfs := find_spot hR n
      cases hth : there l n with
      | false =>
        have hfm : find l n = -1 := by rw [hfs, hth]; rfl
        rcases opB_kind ho with rfl | rfl | rfl | rfl
        · by_cases hfit : fitsB (ins l (spot n l 0) (n, x, 0)) r = true
          · have hE : doR l r 1 n t x = (ins l (spot n l 0) (n, x, 0), r, 0) := by
              have h1 := (fits_ins n x 0 (spot_le n l)).1 hfit
              have h2 : put l (n, x, 0) = ins l (spot n l 0) (n, x, 0) := put_ins hth
              rw [← h2]
              unfold doR
              simp [hfm]
              omega
            rw [hE]
            exact doI_yes a c l r 1 n t x w hl hs hd _ 0 (fun W w B D v h => doOp_yes W B D r l v 1 n t x w hn ht hx ho _ (act_w n t x) _ 0 (fun W w B D v h => attempt_w_yes W B D r l v 1 n t x w hl6 hs hn ht hx hR hth hfit h) h) rfl hr
          · have hE : doR l r 1 n t x = ([], 0, 11) := by
              have h1 : 60 ≤ l.length ∨ r < bytes l + x.size := Classical.byContradiction (fun h2 => hfit ((fits_ins n x 0 (spot_le n l)).2 h2))
              unfold doR
              simp [hfm]
              omega
            rw [hE]
            exact doI_code a c l r 1 n t x w hl hs hd _ 11 (fun W w B D v h => doOp_yes W B D r l v 1 n t x w hn ht hx ho _ (act_w n t x) _ 11 (fun W w B D v h => attempt_w_full W B D r l v 1 n t x w hl6 hs hn ht hx hR hth (by simpa using hfit) h) h) (by decide) hr
        · have hE : doR l r 2 n t x = ([], 0, 8) := by unfold doR; simp [hfm]
          rw [hE]
          exact doI_code a c l r 2 n t x w hl hs hd _ 8 (fun W w B D v h => doOp_yes W B D r l v 2 n t x w hn ht hx ho _ (act_s n t x) _ 8 (fun W w B D v h => attempt_s_no W B D r l v 2 n t x w hl6 hs hn ht hx hR hth h) h) (by decide) hr
        · have hE : doR l r 3 n t x = ([], 0, 8) := by unfold doR; simp [hfm]
          rw [hE]
          exact doI_code a c l r 3 n t x w hl hs hd _ 8 (fun W w B D v h => doOp_yes W B D r l v 3 n t x w hn ht hx ho _ (act_r n t x) _ 8 (fun W w B D v h => attempt_r_no W B D r l v 3 n t x w hl6 hs hn ht hx hR hth h) h) (by decide) hr
        · have hE : doR l r 4 n t x = ([], 0, 8) := by unfold doR; simp [hfm]
          rw [hE]
          exact doI_code a c l r 4 n t x w hl hs hd _ 8 (fun W w B D v h => doOp_yes W B D r l v 4 n t x w hn ht hx ho _ (act_d n t x) _ 8 (fun W w B D v h => attempt_d_no W B D r l v 4 n t x w hl6 hs hn ht hx hR hth h) h) (by decide) hr
      | true =>
        have hfp : find l n = (spot n l 0 : Nat) := by rw [hfs, hth]; rfl
        obtain ⟨f, hf, hfn⟩ := there_at hth
        have htn : (find l n).toNat = spot n l 0 := by omega
        have hn0 : ¬ find l n < 0 := by omega
        have hn1 : 0 ≤ find l n := by omega
        rcases opB_kind ho with rfl | rfl | rfl | rfl
        · have hE : doR l r 1 n t x = ([], 0, 7) := by unfold doR; simp [hn1]
          rw [hE]
          exact doI_code a c l r 1 n t x w hl hs hd _ 7 (fun W w B D v h => doOp_yes W B D r l v 1 n t x w hn ht hx ho _ (act_w n t x) _ 7 (fun W w B D v h => attempt_w_no W B D r l v 1 n t x w hl6 hs hn ht hx hR hth h) h) (by decide) hr
        · have hE : doR l r 2 n t x = (syncL l n, r, 0) := by unfold doR syncL; simp [hn0, htn, hf]
          rw [hE]
          exact doI_yes a c l r 2 n t x w hl hs hd _ 0 (fun W w B D v h => doOp_yes W B D r l v 2 n t x w hn ht hx ho _ (act_s n t x) _ 0 (fun W w B D v h => attempt_s_yes W B D r l v 2 n t x w hl6 hs hn ht hx hR hth hd h) h) rfl hr
        · have hE : doR l r 3 n t x = (renL l n t, r, 0) := by
            by_cases h4 : t = n
            · subst h4
              rw [ren_same hR hth]
              unfold doR
              simp [hn0, htn, hf]
            · unfold doR renL
              simp [hn0, htn, hf, h4]
          rw [hE]
          exact doI_yes a c l r 3 n t x w hl hs hd _ 0 (fun W w B D v h => doOp_yes W B D r l v 3 n t x w hn ht hx ho _ (act_r n t x) _ 0 (fun W w B D v h => attempt_r_yes W B D r l v 3 n t x w hl6 hs hn ht hx hR hth hd h) h) rfl hr
        · have hE : doR l r 4 n t x = (outL l n, r, 0) := by unfold doR outL; simp [hn0, htn, hf]
          rw [hE]
          exact doI_yes a c l r 4 n t x w hl hs hd _ 0 (fun W w B D v h => doOp_yes W B D r l v 4 n t x w hn ht hx ho _ (act_d n t x) _ 0 (fun W w B D v h => attempt_d_yes W B D r l v 4 n t x w hl6 hs hn ht hx hR hth hd h) h) rfl hr
end Go.Proofs.Ytfckgpmphcadeaa.drv
