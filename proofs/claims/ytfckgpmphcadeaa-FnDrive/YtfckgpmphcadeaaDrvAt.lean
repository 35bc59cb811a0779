/-
  What (impl.writing).undo and impl.attempt answer and leave. Conditions: a drive of our own that was right, and an op whose texts have at most 1,048,576 bytes.
-/
import Derived.Test.YtfckgpmphcadeaaDrvPl
import Derived.Stop.Asserts
namespace Go.Proofs.Ytfckgpmphcadeaa.drv
open Go.RowKit Go.Joins Go.Sort
open Go.Proofs.Ytfckgpmphcadeaa.base Go.Proofs.Ytfckgpmphcadeaa.blk Go.Proofs.Ytfckgpmphcadeaa.aid
open Go.Proofs.Ytfckgpmphcadeaa.row (Rd Own OwnV)
open Go.Proofs.Ytfckgpmphcadeaa.rwStored (cs)
set_option linter.unusedVariables false
set_option linter.unusedSimpArgs false

theorem meth_wu (v : Value) (w : World) : (method 311 163 v "loop.example/g00259/impl.undo").run Try.prog w = .ok (175, v) w := by kernel_rfl
theorem as_wu (v : Value) (w : World) : (Instr.typeAssert (.iface 163 v) 141 168 true).run Try.prog w = .ok (.tuple #[.iface 163 v, .bool true]) w := run_typeAssert_hasB Try.underlying168 (by kernel_rfl) v 141 w
/-- taking back leaves a drive of our own -/
def UPost (W : World) (B D : Nat) (r : Int) (e : Ending) (w' : World) : Prop := e = .returned (.tuple #[]) ∧ ∃ l v, Dr W B D r l v w'
set_option maxRecDepth 100000 in
theorem undo_any (W : World) (B D : Nat) (r : Int) (l : List File) (v : Value) (k : Int) (n t x : ByteArray) (w : World) (hl : l.length ≤ 1048576) (hs : Small l) (hn : n.size ≤ 1048576) (hR : Rising l) (h : Dr W B D r l v w) :
    Calls Try.prog 175 #[.agg #[.int .i64 k, .string n, .string t, .string x], .pointer (some ⟨D, 0, none⟩)] w (UPost W B D r) := by
  have HC : Hid (Calls Try.prog 129 #[.pointer (some ⟨D, 0, none⟩), .iface 166 (.agg #[.int .i64 0, .string n, .string ⟨#[]⟩, .string ⟨#[]⟩])] (w.alloc (.cells #[.int .i64 k, .string n, .string t, .string x] 163)) (fun e w' => (∃ q, e = .returned (.int .i64 q)) ∧ ∃ l v, Dr W B D r l v w')) := mkHid (by
    have h1 := h.next (below_alloc1 w (.cells #[.int .i64 k, .string n, .string t, .string x] 163))
    have h0 : (⟨#[]⟩ : ByteArray).size ≤ 1048576 := Nat.zero_le _
    cases hth : there l n with
    | true =>
      refine (change_d_true W B D r l v 0 n ⟨#[]⟩ ⟨#[]⟩ _ hl hs hn h0 h0 hR hth h1).mono ?_
      rintro e w' ⟨rfl, v', h2⟩
      exact ⟨⟨_, rfl⟩, _, _, h2⟩
    | false =>
      refine (change_d_false W B D r l v 0 n ⟨#[]⟩ ⟨#[]⟩ _ hl hs hn h0 h0 hR hth h1).mono ?_
      rintro e w' ⟨rfl, v', h2⟩
      exact ⟨⟨_, rfl⟩, _, _, h2⟩)
  clear h hs hR
  go_enter Try.func175, Try.ntmps175
  go_wp2_with fail
  refine HC.out.mono ?_
  rintro e w1 ⟨⟨q, rfl⟩, l', v', h1⟩
  have HP : Hid (UPost W B D r (.returned (.tuple #[])) w1) := mkHid ⟨rfl, l', v', h1⟩
  clear h1 HC
  go_wp2
  refine bodyPost_ret (v := .tuple #[]) ?_ rfl ?_
  rotate_left
  · exact HP.out
  · simp [results, Try.results175, go_sem]
/-- a code is the answer; where it is 0, the drive of our own is such -/
def APost (W : World) (B D : Nat) (r : Int) (l : List File) (q : Int) (e : Ending) (w' : World) : Prop :=
  e = .returned (.int .i64 q) ∧ ∃ l' v, Dr W B D r l' v w' ∧ (q = 0 → l' = l)
attribute [local go_sem] as_wu
set_option maxRecDepth 100000 in
theorem attempt_w_no (W : World) (B D : Nat) (r : Int) (l : List File) (v : Value) (k : Int) (n t x : ByteArray) (w : World) (hl : l.length ≤ 60) (hs : Small l) (hn : n.size ≤ 1048576) (ht : t.size ≤ 1048576) (hx : x.size ≤ 1048576) (hR : Rising l) (hth : there l n = true) (h : Dr W B D r l v w) :
    Calls Try.prog 103 #[.pointer (some ⟨D, 0, none⟩), .iface 163 (.agg #[.int .i64 k, .string n, .string t, .string x])] w (APost W B D r [] 7) := by
  have HC := mkHid (change_w_true W B D r l v k n t x w (by omega) hs hn ht hx hR hth h)
  unfold HPost at HC
  clear h hs hR hth
  go_enter Try.func103, Try.ntmps103
  go_wp2_with fail
  refine HC.out.mono ?_
  rintro e w1 ⟨rfl, v1, h1⟩
  have HP : Hid (APost W B D r [] 7 (.returned (.int .i64 7)) w1) := mkHid ⟨rfl, l, v1, h1, fun e => by simp at e⟩
  clear h1 HC
  go_wp2
  go_ret
  exact HP.out
set_option maxRecDepth 100000 in
theorem attempt_s_no (W : World) (B D : Nat) (r : Int) (l : List File) (v : Value) (k : Int) (n t x : ByteArray) (w : World) (hl : l.length ≤ 60) (hs : Small l) (hn : n.size ≤ 1048576) (ht : t.size ≤ 1048576) (hx : x.size ≤ 1048576) (hR : Rising l) (hth : there l n = false) (h : Dr W B D r l v w) :
    Calls Try.prog 103 #[.pointer (some ⟨D, 0, none⟩), .iface 164 (.agg #[.int .i64 k, .string n, .string t, .string x])] w (APost W B D r [] 8) := by
  have HC := mkHid (change_s_false W B D r l v k n t x w (by omega) hs hn ht hx hR hth h)
  unfold HPost at HC
  clear h hs hR hth
  go_enter Try.func103, Try.ntmps103
  go_wp2_with fail
  refine HC.out.mono ?_
  rintro e w1 ⟨rfl, v1, h1⟩
  have HP : Hid (APost W B D r [] 8 (.returned (.int .i64 8)) w1) := mkHid ⟨rfl, l, v1, h1, fun e => by simp at e⟩
  clear h1 HC
  go_wp2
  go_ret
  exact HP.out
set_option maxRecDepth 100000 in
theorem attempt_r_no (W : World) (B D : Nat) (r : Int) (l : List File) (v : Value) (k : Int) (n t x : ByteArray) (w : World) (hl : l.length ≤ 60) (hs : Small l) (hn : n.size ≤ 1048576) (ht : t.size ≤ 1048576) (hx : x.size ≤ 1048576) (hR : Rising l) (hth : there l n = false) (h : Dr W B D r l v w) :
    Calls Try.prog 103 #[.pointer (some ⟨D, 0, none⟩), .iface 165 (.agg #[.int .i64 k, .string n, .string t, .string x])] w (APost W B D r [] 8) := by
  have HC := mkHid (change_r_false W B D r l v k n t x w (by omega) hs hn ht hx hR hth h)
  unfold HPost at HC
  clear h hs hR hth
  go_enter Try.func103, Try.ntmps103
  go_wp2_with fail
  refine HC.out.mono ?_
  rintro e w1 ⟨rfl, v1, h1⟩
  have HP : Hid (APost W B D r [] 8 (.returned (.int .i64 8)) w1) := mkHid ⟨rfl, l, v1, h1, fun e => by simp at e⟩
  clear h1 HC
  go_wp2
  go_ret
  exact HP.out
set_option maxRecDepth 100000 in
theorem attempt_d_no (W : World) (B D : Nat) (r : Int) (l : List File) (v : Value) (k : Int) (n t x : ByteArray) (w : World) (hl : l.length ≤ 60) (hs : Small l) (hn : n.size ≤ 1048576) (ht : t.size ≤ 1048576) (hx : x.size ≤ 1048576) (hR : Rising l) (hth : there l n = false) (h : Dr W B D r l v w) :
    Calls Try.prog 103 #[.pointer (some ⟨D, 0, none⟩), .iface 166 (.agg #[.int .i64 k, .string n, .string t, .string x])] w (APost W B D r [] 8) := by
  have HC := mkHid (change_d_false W B D r l v k n t x w (by omega) hs hn ht hx hR hth h)
  unfold HPost at HC
  clear h hs hR hth
  go_enter Try.func103, Try.ntmps103
  go_wp2_with fail
  refine HC.out.mono ?_
  rintro e w1 ⟨rfl, v1, h1⟩
  have HP : Hid (APost W B D r [] 8 (.returned (.int .i64 8)) w1) := mkHid ⟨rfl, l, v1, h1, fun e => by simp at e⟩
  clear h1 HC
  go_wp2
  go_ret
  exact HP.out
set_option maxRecDepth 100000 in
theorem attempt_s_yes (W : World) (B D : Nat) (r : Int) (l : List File) (v : Value) (k : Int) (n t x : ByteArray) (w : World) (hl : l.length ≤ 60) (hs : Small l) (hn : n.size ≤ 1048576) (ht : t.size ≤ 1048576) (hx : x.size ≤ 1048576) (hR : Rising l) (hth : there l n = true) (hd : driveB l r = true) (h : Dr W B D r l v w) :
    Calls Try.prog 103 #[.pointer (some ⟨D, 0, none⟩), .iface 164 (.agg #[.int .i64 k, .string n, .string t, .string x])] w (APost W B D r (syncL l n) 0) := by
  have HC := mkHid (change_s_true W B D r l v k n t x w (by omega) hs hn ht hx hR hth h)
  unfold HPost at HC
  have hl2 : (syncL l n).length ≤ 1048576 := by rw [len_sync]; omega
  have hs2 : Small (syncL l n) := small_sync hs n
  have hfit : fitsB (syncL l n) r = true := fits_sync hd n
  generalize syncL l n = l2 at *
  clear h hs hR hth
  go_enter Try.func103, Try.ntmps103
  go_wp2_with fail
  refine HC.out.mono ?_
  rintro e w1 ⟨rfl, v1, h1⟩
  obtain ⟨va, vc, rfl⟩ := h1.form
  have D1 := mkHid h1
  obtain ⟨c0, c1⟩ := cel2 D1.out.b
  have HF := mkHid (fits_any va vc l2 r w1 hl2 hs2 D1.out.rd)
  rw [hfit] at HF
  clear h1 HC
  go_wp2_with fail
  refine HF.out.mono ?_
  rintro e w2 ⟨rfl, hb2⟩
  have D2 := mkHid (D1.out.next hb2)
  clear hb2 c0 c1 D1 HF
  have HP : Hid (APost W B D r l2 0 (.returned (.int .i64 0)) w2) := mkHid ⟨rfl, l2, _, D2.out, fun _ => rfl⟩
  go_wp2
  go_ret
  exact HP.out
set_option maxRecDepth 100000 in
theorem attempt_d_yes (W : World) (B D : Nat) (r : Int) (l : List File) (v : Value) (k : Int) (n t x : ByteArray) (w : World) (hl : l.length ≤ 60) (hs : Small l) (hn : n.size ≤ 1048576) (ht : t.size ≤ 1048576) (hx : x.size ≤ 1048576) (hR : Rising l) (hth : there l n = true) (hd : driveB l r = true) (h : Dr W B D r l v w) :
    Calls Try.prog 103 #[.pointer (some ⟨D, 0, none⟩), .iface 166 (.agg #[.int .i64 k, .string n, .string t, .string x])] w (APost W B D r (outL l n) 0) := by
  have HC := mkHid (change_d_true W B D r l v k n t x w (by omega) hs hn ht hx hR hth h)
  unfold HPost at HC
  have hl2 : (outL l n).length ≤ 1048576 := by have := len_out l n; omega
  have hs2 : Small (outL l n) := small_out hs _
  have hfit : fitsB (outL l n) r = true := fits_out hd n hth
  generalize outL l n = l2 at *
  clear h hs hR hth
  go_enter Try.func103, Try.ntmps103
  go_wp2_with fail
  refine HC.out.mono ?_
  rintro e w1 ⟨rfl, v1, h1⟩
  obtain ⟨va, vc, rfl⟩ := h1.form
  have D1 := mkHid h1
  obtain ⟨c0, c1⟩ := cel2 D1.out.b
  have HF := mkHid (fits_any va vc l2 r w1 hl2 hs2 D1.out.rd)
  rw [hfit] at HF
  clear h1 HC
  go_wp2_with fail
  refine HF.out.mono ?_
  rintro e w2 ⟨rfl, hb2⟩
  have D2 := mkHid (D1.out.next hb2)
  clear hb2 c0 c1 D1 HF
  have HP : Hid (APost W B D r l2 0 (.returned (.int .i64 0)) w2) := mkHid ⟨rfl, l2, _, D2.out, fun _ => rfl⟩
  go_wp2
  go_ret
  exact HP.out
set_option maxRecDepth 100000 in
theorem attempt_r_yes (W : World) (B D : Nat) (r : Int) (l : List File) (v : Value) (k : Int) (n t x : ByteArray) (w : World) (hl : l.length ≤ 60) (hs : Small l) (hn : n.size ≤ 1048576) (ht : t.size ≤ 1048576) (hx : x.size ≤ 1048576) (hR : Rising l) (hth : there l n = true) (hd : driveB l r = true) (h : Dr W B D r l v w) :
    Calls Try.prog 103 #[.pointer (some ⟨D, 0, none⟩), .iface 165 (.agg #[.int .i64 k, .string n, .string t, .string x])] w (APost W B D r (renL l n t) 0) := by
  have HC := mkHid (change_r_true W B D r l v k n t x w (by omega) hs hn ht hx hR hth h)
  unfold HPost at HC
  have hl2 : (renL l n t).length ≤ 1048576 := by have := len_ren l n t; omega
  have hs2 : Small (renL l n t) := small_ren hs n t ht
  have hfit : fitsB (renL l n t) r = true := fits_ren hd n t
  generalize renL l n t = l2 at *
  clear h hs hR hth
  go_enter Try.func103, Try.ntmps103
  go_wp2_with fail
  refine HC.out.mono ?_
  rintro e w1 ⟨rfl, v1, h1⟩
  obtain ⟨va, vc, rfl⟩ := h1.form
  have D1 := mkHid h1
  obtain ⟨c0, c1⟩ := cel2 D1.out.b
  have HF := mkHid (fits_any va vc l2 r w1 hl2 hs2 D1.out.rd)
  rw [hfit] at HF
  clear h1 HC
  go_wp2_with fail
  refine HF.out.mono ?_
  rintro e w2 ⟨rfl, hb2⟩
  have D2 := mkHid (D1.out.next hb2)
  clear hb2 c0 c1 D1 HF
  have HP : Hid (APost W B D r l2 0 (.returned (.int .i64 0)) w2) := mkHid ⟨rfl, l2, _, D2.out, fun _ => rfl⟩
  go_wp2
  go_ret
  exact HP.out
set_option maxRecDepth 100000 in
theorem attempt_w_yes (W : World) (B D : Nat) (r : Int) (l : List File) (v : Value) (k : Int) (n t x : ByteArray) (w : World) (hl : l.length ≤ 60) (hs : Small l) (hn : n.size ≤ 1048576) (ht : t.size ≤ 1048576) (hx : x.size ≤ 1048576) (hR : Rising l) (hth : there l n = false) (hfit0 : fitsB (ins l (spot n l 0) (n, x, 0)) r = true) (h : Dr W B D r l v w) :
    Calls Try.prog 103 #[.pointer (some ⟨D, 0, none⟩), .iface 163 (.agg #[.int .i64 k, .string n, .string t, .string x])] w (APost W B D r (ins l (spot n l 0) (n, x, 0)) 0) := by
  have HC := mkHid (change_w_false W B D r l v k n t x w (by omega) hs hn ht hx hR hth h)
  unfold HPost at HC
  have hl2 : (ins l (spot n l 0) (n, x, 0)).length ≤ 1048576 := by rw [ins_len (spot_le n l)]; omega
  have hs2 : Small (ins l (spot n l 0) (n, x, 0)) := small_ins hs ⟨hn, hx⟩ _
  have hfit : fitsB (ins l (spot n l 0) (n, x, 0)) r = true := hfit0
  generalize ins l (spot n l 0) (n, x, 0) = l2 at *
  clear h hs hR hth
  go_enter Try.func103, Try.ntmps103
  go_wp2_with fail
  refine HC.out.mono ?_
  rintro e w1 ⟨rfl, v1, h1⟩
  obtain ⟨va, vc, rfl⟩ := h1.form
  have D1 := mkHid h1
  obtain ⟨c0, c1⟩ := cel2 D1.out.b
  have HF := mkHid (fits_any va vc l2 r w1 hl2 hs2 D1.out.rd)
  rw [hfit] at HF
  clear h1 HC
  go_wp2_with fail
  refine HF.out.mono ?_
  rintro e w2 ⟨rfl, hb2⟩
  have D2 := mkHid (D1.out.next hb2)
  clear hb2 c0 c1 D1 HF
  have HP : Hid (APost W B D r l2 0 (.returned (.int .i64 0)) w2) := mkHid ⟨rfl, l2, _, D2.out, fun _ => rfl⟩
  go_wp2
  go_ret
  exact HP.out
set_option maxRecDepth 100000 in
theorem attempt_w_full (W : World) (B D : Nat) (r : Int) (l : List File) (v : Value) (k : Int) (n t x : ByteArray) (w : World) (hl : l.length ≤ 60) (hs : Small l) (hn : n.size ≤ 1048576) (ht : t.size ≤ 1048576) (hx : x.size ≤ 1048576) (hR : Rising l) (hth : there l n = false) (hfit : fitsB (ins l (spot n l 0) (n, x, 0)) r = false) (h : Dr W B D r l v w) :
    Calls Try.prog 103 #[.pointer (some ⟨D, 0, none⟩), .iface 163 (.agg #[.int .i64 k, .string n, .string t, .string x])] w (APost W B D r [] 11) := by
  have HC := mkHid (change_w_false W B D r l v k n t x w (by omega) hs hn ht hx hR hth h)
  unfold HPost at HC
  have hl2 : (ins l (spot n l 0) (n, x, 0)).length ≤ 1048576 := by rw [ins_len (spot_le n l)]; omega
  have hs2 : Small (ins l (spot n l 0) (n, x, 0)) := small_ins hs ⟨hn, hx⟩ _
  have HR2 := mkHid (rising_put_in (f := (n, x, 0)) hR hth)
  simp only at HR2
  have HU := mkHid (fun w2 v2 (h2 : Dr W B D r (ins l (spot n l 0) (n, x, 0)) v2 w2) => undo_any W B D r _ v2 k n t x w2 hl2 hs2 hn HR2.out h2)
  unfold UPost at HU
  have m1 := meth_wu (.agg #[.int .i64 k, .string n, .string t, .string x])
  generalize ins l (spot n l 0) (n, x, 0) = l2 at *
  clear h hs hR hth
  go_enter Try.func103, Try.ntmps103
  go_wp2_with fail
  refine HC.out.mono ?_
  rintro e w1 ⟨rfl, v1, h1⟩
  obtain ⟨va, vc, rfl⟩ := h1.form
  have D1 := mkHid h1
  obtain ⟨c0, c1⟩ := cel2 D1.out.b
  have HF := mkHid (fits_any va vc l2 r w1 hl2 hs2 D1.out.rd)
  rw [hfit] at HF
  clear h1 HC
  go_wp2_with fail
  refine HF.out.mono ?_
  rintro e w2 ⟨rfl, hb2⟩
  have D2 := mkHid (D1.out.next hb2)
  clear hb2 c0 c1 D1 HF
  go_wp2_with fail
  refine (HU.out _ _ D2.out).mono ?_
  rintro e w3 ⟨rfl, l3, v3, h3⟩
  have HP : Hid (APost W B D r [] 11 (.returned (.int .i64 11)) w3) := mkHid ⟨rfl, l3, v3, h3, fun e => by simp at e⟩
  clear h3 HU D2
  go_wp2
  go_ret
  exact HP.out
end Go.Proofs.Ytfckgpmphcadeaa.drv
