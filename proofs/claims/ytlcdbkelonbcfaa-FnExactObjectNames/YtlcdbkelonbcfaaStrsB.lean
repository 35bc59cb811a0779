/-
  Rows of texts in memory: what laws.heldStringS and laws.markStringS answer of a row, or of none; append of a text to a row of our own. Conditions: at most 1,048,576 texts.
-/
import Derived.Test.YtlcdbkelonbcfaaStrs
namespace Go.Proofs.Ytlcdbkelonbcfaa.strs
open Go.RowKit Go.Joins
open Go.Proofs.Ytlcdbkelonbcfaa.base Go.Proofs.Ytlcdbkelonbcfaa.blk
set_option linter.unusedVariables false

set_option maxRecDepth 100000 in
theorem heldT_any (a : Option Addr) (cap n : Nat) (m : Nat) (w : World) (hl : n ≤ 1048576) (hm1 : m ≤ 3000000) (hr : RdT w a (from_ m n)) :
    Calls Try.prog 16 #[.slice a n cap, .int .i64 m] w fun e w' => e = .returned (.int .i64 ((m : Int) + n)) ∧ Below w.heap.size w w' := by
  have hmi : (m : Int) ≤ 3000000 := by omega
  go_enter Try.func16, Try.ntmps16
  go_wp2
  go_loopw [1, 5] (fun c i wr => ∃ k : Nat, k ≤ n ∧ i = .int .i64 k ∧ c = .int .i64 ((m : Int) + k) ∧ Hid (Below w.heap.size w wr))
    (fun _ i _ => n - (intOf i).toNat)
  case atStart => exact ⟨0, Nat.zero_le _, rfl, by simp, mkHid (Below.refl _ _)⟩
  case round =>
    obtain ⟨k, hk, rfl, rfl, hb⟩ := hrel
    by_cases hlt : k < n
    · obtain ⟨b, off, rfl, hc⟩ := hr k _ (from_at m n k hlt)
      have hlti : (k : Int) < (n : Int) := by omega
      have hki : (k : Int) ≤ 1048576 := by omega
      have hbl : b < w.heap.size := World.block_lt_of_cell? w ⟨b, off + k, none⟩ hc
      have hcell : wr.cell? ⟨b, off + k, none⟩ = some (.string (mk (m + k))) := (hb.out.cell (p := ⟨b, off + k, none⟩) hbl).trans hc
      have HT : Hid (∀ wx, Calls Try.prog 40 #[.int .i64 ((m : Int) + k)] wx fun e w' => e = .returned (.string (mk (m + k))) ∧ Below wx.heap.size wx w') := mkHid (fun wx => by
        have h := markText_any (m + k) wx (by omega)
        simpa using h)
      have HC := mkHid hc
      generalize mk (m + k) = t at *
      clear hr hc
      go_wp2_with fail
      go_region_held3 (fun w' => w'.cell? ⟨b, off + k, none⟩ = some (.string t)) (go_keep)
        ((go_at_call 40; refine Calls.mono (HT.out _) ?_; rintro e w1 ⟨rfl, hb1⟩; have B1 := mkHid (hb.out.trans (Below.mono ⟨hb1.os, hb1.tape, hb1.output, hb1.size, hb1.block⟩ hb.out.size)); have hcell1 : w1.cell? ⟨b, off + k, none⟩ = some (.string t) := (B1.out.cell (p := ⟨b, off + k, none⟩) hbl).trans HC.out; clear hb1))
      go_wp2
      go_roundw
      case rel => exact ⟨k + 1, by omega, by go_num, by go_num, B1⟩
      case measure => simp [intOf]; omega
    · obtain rfl : k = n := by omega
      clear hr
      go_wp2
      go_ret
      exact ⟨rfl, hb.out⟩

theorem markT_nil (cap : Nat) (a : Option Addr) (m : Nat) (w : World) :
    Calls Try.prog 15 #[.slice a 0 cap, .int .i64 m] w fun e w' => e = .returned (.int .i64 m) ∧ w' = w := by
  go_enter Try.func15, Try.ntmps15
  go_wp2
  go_loopw [1, 5] (fun c i wr => i = .int .i64 0 ∧ c = .int .i64 m ∧ wr = w) (fun _ i _ => 0)
  case atStart => exact ⟨rfl, rfl, rfl⟩
  case round =>
    obtain ⟨rfl, rfl, rfl⟩ := hrel
    go_wp2
    go_ret
    exact ⟨rfl, rfl⟩

/-- texts that may be written: none, or a block of their own -/
def OwnVT (w : World) (a : Option Addr) (ts : List ByteArray) : Prop := ts = [] ∨ ∃ g, a = some ⟨g, 0, none⟩ ∧ OwnT w g ts
theorem OwnVT.rd {w : World} {a : Option Addr} {ts : List ByteArray} (h : OwnVT w a ts) : RdT w a ts := by
  rcases h with rfl | ⟨g, rfl, ho⟩
  · exact RdT.nil w a
  · exact ho.rd
theorem OwnVT.below {w w' : World} {a : Option Addr} {ts : List ByteArray} (h : OwnVT w a ts) (hb : Below w.heap.size w w') : OwnVT w' a ts := by
  rcases h with rfl | ⟨g, rfl, ho⟩
  · exact .inl rfl
  · exact .inr ⟨g, rfl, ho.below hb⟩
theorem OwnVT.alloc {w : World} {a : Option Addr} {ts : List ByteArray} (h : OwnVT w a ts) (o : Obj) : OwnVT (w.alloc o) a ts := h.below ((Below.refl _ _).alloc (Nat.le_refl _) o)
def GrewT (w w' : World) (a : Option Addr) : Prop := w.grownBy w' (a.map (·.block))
theorem grew_none {w w' : World} {r : Option Nat} (h : w' = w) : w.grownBy w' r := by subst h; exact grew_refl _ _

theorem markVT_any (a : Option Addr) (cap : Nat) (ts : List ByteArray) (m : Nat) (w : World) (hl : ts.length ≤ 1048576) (hm1 : m ≤ 3000000) (hr : OwnVT w a ts) :
    Calls Try.prog 15 #[.slice a ts.length cap, .int .i64 m] w fun e w' => e = .returned (.int .i64 ((m : Int) + ts.length)) ∧ OwnVT w' a (from_ m ts.length) ∧ GrewT w w' a := by
  rcases hr with rfl | ⟨g, rfl, ho⟩
  · refine (markT_nil cap a m w).mono ?_
    rintro e w1 ⟨rfl, rfl⟩
    exact ⟨by simp, .inl rfl, grew_refl _ _⟩
  · refine (markT_any g cap ts m w hl hm1 ho).mono ?_
    rintro e w1 ⟨rfl, h1, h2⟩
    exact ⟨rfl, .inr ⟨g, rfl, h1⟩, h2⟩

def appSem (ts : Array TypeId) (ty : TypeId) (vs : Array Value) : Sem Value := Builtin.append_ ts ty vs
theorem app_fold (ts : Array TypeId) (ty : TypeId) (vs : Array Value) : Builtin.append_ ts ty vs = appSem ts ty vs := rfl
theorem info_parts {o : Option TypeInfo} {z : Option Value} {s b : Nat} (h : o.map (fun i => (i.zero, i.size, i.bytes)) = some (z, s, b)) : ∃ i, o = some i ∧ i.zero = z ∧ i.size = s ∧ i.bytes = b := by
  cases o with
  | none => simp at h
  | some i => simp at h; exact ⟨i, rfl, h.1, h.2.1, h.2.2⟩
theorem infoS : (Try.prog.info? 9).map (fun i => (i.zero, i.size, i.bytes)) = some (some (.string ⟨#[]⟩), 1, 16) := by kernel_rfl
theorem ownsRow_form {w : World} {base e n : Nat} {v : Value} {xs : List Value} (h : w.ownsRow base e 1 v n xs) (hn : 0 < n) : ∃ g c, v = .slice (some ⟨g, 0, none⟩) n c := by
  obtain ⟨_, h2⟩ := h
  rcases h2 with ⟨_, h0⟩ | ⟨g, cap, cur, rfl, _⟩
  · omega
  · exact ⟨g, cap, rfl⟩

/-- append of one text to a row of our own -/
theorem appT (W : World) (base : Nat) (v : Value) (n : Nat) (acc : List ByteArray) (t : ByteArray) (hn : acc.length = n) (hown : W.ownsRow base 9 1 v n (acc.map strV)) (hb : base ≤ W.heap.size) (hl : n ≤ 1048576) :
    ∃ g c w2, (appSem #[26, 26] 26 #[v, .slice (some ⟨W.heap.size, 0, none⟩) 1 1]).run Try.prog (W.alloc (.cells #[.string t] 9)) = .ok (.slice (some ⟨g, 0, none⟩) (n + 1) c) w2 ∧ w2.ownsRow base 9 1 (.slice (some ⟨g, 0, none⟩) (n + 1) c) (n + 1) ((acc ++ [t]).map strV) ∧ (W.alloc (.cells #[.string t] 9)).grownBy w2 v.ownBlock := by
  subst hn
  obtain ⟨i0, hi, hz0, hz1, hz2⟩ := info_parts infoS
  obtain ⟨v', w2, happ0, hown2, hgrow, _⟩ := run_append_own (P := Try.prog) (W.alloc (.cells #[.string t] 9)) base 26 26 9 i0 (.string ⟨#[]⟩) 1 16 Try.underlying26 hi hz0 hz1 hz2 rfl (by decide) v acc.length (acc.map strV) (hown.alloc _) ⟨W.heap.size, 0, none⟩ 1 1 [.string t] rfl (by intro j u hj; match j, hj with | 0, hj => simp at hj; subst hj; simp [Addr.add]) (by intro u hu; simp at hu; subst hu; rfl) (by unfold maxLen; omega) (by omega) (by simp; omega)
  obtain ⟨g, c, rfl⟩ := ownsRow_form hown2 (by omega)
  exact ⟨g, c, w2, happ0, by rw [List.map_append]; exact hown2, hgrow⟩
end Go.Proofs.Ytlcdbkelonbcfaa.strs
