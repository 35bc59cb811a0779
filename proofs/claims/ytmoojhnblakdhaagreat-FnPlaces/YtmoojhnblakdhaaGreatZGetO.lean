/-
  A scope in which the run jumps to several labels: what holds at each jump, and a measure that each pass lowers. No program is named.
  impl.readNum answers what 'G' says, by jumps from label to label. No condition.
  impl.readNum answers what 'G' says, at every place and text. Condition: at most 1,048,576 bytes.
  spec.GetNum answers what 'G' says. No condition.
-/
import Derived.Test.YtmoojhnblakdhaaGreatZNumA
import Derived.Scope
import Derived.ScopeJumps
import Derived.WalkMore
import Derived.Laws.DeepNot64
namespace Go.Proofs.YtmoojhnblakdhaaGreat.jump
open Go

/-- by a jump to a label: J of that label; else Q -/
def Jumps (J : Nat → Act → World → Prop) (Q : Exit → Act → World → Prop) : Exit → Act → World → Prop
  | .goto l, a, w => J l a w
  | e, a, w => Q e a w

theorem wp_labels {P : Program} {a : Act} {w : World} {Q : Exit → Act → World → Prop} {c : Code} (J : Nat → Act → World → Prop) (μ : Nat → Act → World → Nat)
    (first : c.wp P (Jumps J Q) a w)
    (pass : ∀ l a w, J l a w → ∃ rest, findLabel c l = some rest ∧ rest.wp P (Jumps (fun l' a' w' => J l' a' w' ∧ μ l' a' w' < μ l a w) Q) a w) : (Code.scope c).wp P Q a w := by
  intro b k cs
  have key : ∀ n l a w rest, μ l a w = n → J l a w → findLabel c l = some rest →
      ∃ e a' w', Q e a' w' ∧ Arrives P (lone (b.at a (.code rest :: .inScope c :: k)) cs w) b k cs e a' w' := by
    intro n
    induction n using Nat.strongRecOn with
    | _ n ih =>
      intro l a w rest hn hJ hf
      obtain ⟨rest', hf', hp⟩ := pass l a w hJ
      obtain rfl : rest' = rest := Option.some.inj (hf'.symm.trans hf)
      obtain ⟨e, a₁, w₁, hq, harr⟩ := hp b (.inScope c :: k) cs
      cases e with
      | normal => exact ⟨.normal, a₁, w₁, hq, Steps.trans harr (.one step_inScope)⟩
      | exit id => exact ⟨.exit id, a₁, w₁, hq, fun k' hk => harr k' (by simp [exitTo, hk])⟩
      | goto l' =>
        obtain ⟨hJ', hlt⟩ := hq
        obtain ⟨rest₂, hf₂, _⟩ := pass l' a₁ w₁ hJ'
        have hg : gotoIn l' (.inScope c :: k) = some (.code rest₂ :: .inScope c :: k) := by simp [gotoIn, hf₂]
        obtain ⟨e₂, a₂, w₂, hq₂, harr₂⟩ := ih _ (by omega) l' a₁ w₁ rest₂ rfl hJ' hf₂
        exact ⟨e₂, a₂, w₂, hq₂, .of_steps (harr _ hg) harr₂⟩
      | ret => exact ⟨_, a₁, w₁, hq, harr⟩
      | panic ch => exact ⟨_, a₁, w₁, hq, harr⟩
      | outgrown => exact ⟨_, a₁, w₁, hq, harr⟩
  obtain ⟨e, a₁, w₁, hq, harr⟩ := first b (.inScope c :: k) cs
  cases e with
  | normal => exact ⟨.normal, a₁, w₁, hq, .head step_scope (Steps.trans harr (.one step_inScope))⟩
  | exit id => exact ⟨.exit id, a₁, w₁, hq, fun k' hk => .head step_scope (harr k' (by simp [exitTo, hk]))⟩
  | goto l' =>
    have hJ' : J l' a₁ w₁ := hq
    obtain ⟨rest₂, hf₂, _⟩ := pass l' a₁ w₁ hJ'
    have hg : gotoIn l' (.inScope c :: k) = some (.code rest₂ :: .inScope c :: k) := by simp [gotoIn, hf₂]
    obtain ⟨e₂, a₂, w₂, hq₂, harr₂⟩ := key _ l' a₁ w₁ rest₂ rfl hJ' hf₂
    exact ⟨e₂, a₂, w₂, hq₂, .of_steps (.head step_scope (harr _ hg)) harr₂⟩
  | ret => exact ⟨_, a₁, w₁, hq, .of_steps (.one step_scope) harr⟩
  | panic ch => exact ⟨_, a₁, w₁, hq, .of_steps (.one step_scope) harr⟩
  | outgrown => exact ⟨_, a₁, w₁, hq, .of_steps (.one step_scope) harr⟩

end Go.Proofs.YtmoojhnblakdhaaGreat.jump
namespace Go.Proofs.YtmoojhnblakdhaaGreat.num
open Go.RowKit Go.Proofs.YtmoojhnblakdhaaGreat.jump
set_option linter.unusedVariables false

theorem place_ok (s : ByteArray) (a : Int) (w : World) (h : s.size ≤ 20000) (ha : 0 ≤ a) :
    Calls Tryz.prog 77 #[.string s, .int .i64 a] w fun e w' => e = .returned .nilIface ∧ w = w' := by
  go_enter Tryz.func77, Tryz.ntmps77
  go_wp2
  go_ret
  exact ⟨rfl, rfl⟩
theorem place_neg (s : ByteArray) (a : Int) (w : World) (h : s.size ≤ 20000) (ha : a < 0) :
    Calls Tryz.prog 77 #[.string s, .int .i64 a] w fun e w' => e = .returned (.iface 120 (.agg #[.int .i64 1])) ∧ w = w' := by
  go_enter Tryz.func77, Tryz.ntmps77
  go_wp2
  go_ret
  exact ⟨rfl, rfl⟩
theorem place_big (s : ByteArray) (a : Int) (w : World) (h : 20000 < s.size) (h2 : s.size ≤ 1048576) :
    Calls Tryz.prog 77 #[.string s, .int .i64 a] w fun e w' => e = .returned (.iface 120 (.agg #[.int .i64 2])) ∧ w = w' := by
  go_enter Tryz.func77, Tryz.ntmps77
  go_wp2
  go_ret
  exact ⟨rfl, rfl⟩

theorem xor_swap (a b : Int) : bits BinOp.xor IntKind.i64 a b = bits BinOp.xor IntKind.i64 b a := by
  show IntKind.i64.wrap ((BitVec.ofInt 64 a ^^^ BitVec.ofInt 64 b).toNat : Int) = IntKind.i64.wrap ((BitVec.ofInt 64 b ^^^ BitVec.ofInt 64 a).toNat : Int)
  rw [BitVec.xor_comm]
theorem xor_zero (a : Nat) (h : a < 9223372036854775808) : bits BinOp.xor IntKind.i64 (a : Int) 0 = (a : Int) := by
  show IntKind.i64.wrap ((BitVec.ofInt 64 (a : Int) ^^^ BitVec.ofInt 64 0).toNat : Int) = _
  have e : BitVec.ofInt 64 0 = 0#64 := rfl
  rw [e, BitVec.xor_zero, ofInt_u64 a (by omega)]
  simp [IntKind.wrap, IntKind.bits, IntKind.signed]
  omega
theorem and_one (u : Nat) (h : u < 18446744073709551616) : bits BinOp.and IntKind.u64 (u : Int) 1 = ((u % 2 : Nat) : Int) := by
  have e := u64_and_nat u 1 h (by omega)
  rw [nat_mask1] at e
  exact e
theorem unfold_bits (u : Nat) (h : u < 18446744073709551616) :
    bits BinOp.xor IntKind.i64 ((u : Int) / 2) (wrap64 (-wrap64 (bits BinOp.and IntKind.u64 (u : Int) 1))) = unfold u := by
  rw [and_one u h]
  have e0 : (u : Int) / 2 = ((u / 2 : Nat) : Int) := by omega
  rw [e0]
  unfold num.unfold
  by_cases ho : u % 2 = 1
  · rw [if_pos ho, ho]
    have e1 : wrap64 (-wrap64 ((1 : Nat) : Int)) = -1 := by simp only [wrap64]; omega
    rw [e1, xor_swap, i64_not _ (by omega)]
    omega
  · have h0 : u % 2 = 0 := by omega
    rw [if_neg ho, h0]
    have e1 : wrap64 (-wrap64 ((0 : Nat) : Int)) = 0 := by simp only [wrap64]; omega
    rw [e1, xor_zero _ (by omega)]

theorem unfold_any (u : Nat) (w : World) (h : u < 18446744073709551616) :
    Calls Tryz.prog 78 #[.int .u64 u] w fun e w' => e = .returned (.int .i64 (unfold u)) ∧ w = w' := by
  rw [← unfold_bits u h]
  have h' : (u : Int) ≤ 18446744073709551615 := by omega
  clear h
  go_enter Tryz.func78, Tryz.ntmps78
  go_wp2
  go_ret
  exact ⟨rfl, rfl⟩

/-- what readNum answers -/
def tup : Except Int (Int × Int) → Value
  | .error c => .tuple #[.int .i64 0, .int .i64 0, .iface 120 (.agg #[.int .i64 c])]
  | .ok (n, p) => .tuple #[.int .i64 n, .int .i64 p, .nilIface]

def Wrong (s : ByteArray) (a : Nat) (x : Act) : Prop := ∃ (p c : Int) (y b z : Value) (u12 u13 u14 u15 u16 u17 u18 u19 u20 u21 u22 u23 u24 u25 u26 u27 u28 u29 u30 u31 u32 u33 u34 u35 u36 u37 u38 u39 u40 u41 u42 u43 u44 u45 u46 u47 u48 u49 u50 u51 u52 u53 u54 u55 u56 u57 u58 u59 u60 : Value), G s a = .error c ∧ x = { tmps := #[.string s, .int .i64 p, undef, undef, .int .i64 0, .int .i64 0, .nilIface, y, b, z, .int .i64 c, .nilIface, u12, u13, u14, u15, u16, u17, u18, u19, u20, u21, u22, u23, u24, u25, u26, u27, u28, u29, u30, u31, u32, u33, u34, u35, u36, u37, u38, u39, u40, u41, u42, u43, u44, u45, u46, u47, u48, u49, u50, u51, u52, u53, u54, u55, u56, u57, u58, u59, u60], defers := [] }
def More (s : ByteArray) (a : Nat) (x : Act) : Prop := ∃ (j u : Nat) (b : Value) (u12 u13 u14 u15 u16 u17 u18 u19 u20 u21 u22 u23 u24 u25 u26 u27 u28 u29 u30 u31 u32 u33 u34 u35 u36 u37 u38 u39 u40 u41 u42 u43 u44 u45 u46 u47 u48 u49 u50 u51 u52 u53 u54 u55 u56 u57 u58 u59 u60 : Value), j ≤ 9 ∧ At s a j u ∧ x = { tmps := #[.string s, .int .i64 ((a : Int) + (j : Int)), undef, undef, .int .i64 0, .int .i64 0, .nilIface, .int .u64 (u : Int), b, .int .u64 (7 * (j : Int)), .int .i64 3, .nilIface, u12, u13, u14, u15, u16, u17, u18, u19, u20, u21, u22, u23, u24, u25, u26, u27, u28, u29, u30, u31, u32, u33, u34, u35, u36, u37, u38, u39, u40, u41, u42, u43, u44, u45, u46, u47, u48, u49, u50, u51, u52, u53, u54, u55, u56, u57, u58, u59, u60], defers := [] }
def Last (s : ByteArray) (a : Nat) (x : Act) : Prop := ∃ (j u : Nat) (c : UInt8) (u12 u13 u14 u15 u16 u17 u18 u19 u20 u21 u22 u23 u24 u25 u26 u27 u28 u29 u30 u31 u32 u33 u34 u35 u36 u37 u38 u39 u40 u41 u42 u43 u44 u45 u46 u47 u48 u49 u50 u51 u52 u53 u54 u55 u56 u57 u58 u59 u60 : Value), j ≤ 9 ∧ At s a j u ∧ (∃ hk : a + j < s.size, s[a + j] = c) ∧ c.toNat < 128 ∧ ¬ (j = 9 ∧ 1 < c.toNat) ∧ x = { tmps := #[.string s, .int .i64 ((a : Int) + (j : Int) + 1), undef, undef, .int .i64 0, .int .i64 0, .nilIface, .int .u64 (u : Int), .int .u8 (c.toNat : Int), .int .u64 (7 * (j : Int)), .int .i64 3, .nilIface, u12, u13, u14, u15, u16, u17, u18, u19, u20, u21, u22, u23, u24, u25, u26, u27, u28, u29, u30, u31, u32, u33, u34, u35, u36, u37, u38, u39, u40, u41, u42, u43, u44, u45, u46, u47, u48, u49, u50, u51, u52, u53, u54, u55, u56, u57, u58, u59, u60], defers := [] }
/-- what holds at each label -/
def J (s : ByteArray) (a : Nat) (w : World) (l : Nat) (x : Act) (wr : World) : Prop :=
  wr = w ∧ match l with
  | 0 => Wrong s a x
  | 1 => More s a x
  | 2 => Last s a x
  | _ => False
/-- a measure -/
def μ (l : Nat) (x : Act) (_ : World) : Nat := match l with
  | 0 => 1
  | 1 => 100 - (intOf (x.tmps.getD 9 undef)).toNat
  | _ => 2

theorem wrong_mk {s : ByteArray} {a : Nat} {p c : Int} {y b z u12 u13 u14 u15 u16 u17 u18 u19 u20 u21 u22 u23 u24 u25 u26 u27 u28 u29 u30 u31 u32 u33 u34 u35 u36 u37 u38 u39 u40 u41 u42 u43 u44 u45 u46 u47 u48 u49 u50 u51 u52 u53 u54 u55 u56 u57 u58 u59 u60 : Value} (hG : G s a = .error c) : Wrong s a { tmps := #[.string s, .int .i64 p, undef, undef, .int .i64 0, .int .i64 0, .nilIface, y, b, z, .int .i64 c, .nilIface, u12, u13, u14, u15, u16, u17, u18, u19, u20, u21, u22, u23, u24, u25, u26, u27, u28, u29, u30, u31, u32, u33, u34, u35, u36, u37, u38, u39, u40, u41, u42, u43, u44, u45, u46, u47, u48, u49, u50, u51, u52, u53, u54, u55, u56, u57, u58, u59, u60], defers := [] } :=
  ⟨p, c, y, b, z, u12, u13, u14, u15, u16, u17, u18, u19, u20, u21, u22, u23, u24, u25, u26, u27, u28, u29, u30, u31, u32, u33, u34, u35, u36, u37, u38, u39, u40, u41, u42, u43, u44, u45, u46, u47, u48, u49, u50, u51, u52, u53, u54, u55, u56, u57, u58, u59, u60, hG, rfl⟩
theorem more_mk {s : ByteArray} {a : Nat} (j u : Nat) {p x sh : Int} {b u12 u13 u14 u15 u16 u17 u18 u19 u20 u21 u22 u23 u24 u25 u26 u27 u28 u29 u30 u31 u32 u33 u34 u35 u36 u37 u38 u39 u40 u41 u42 u43 u44 u45 u46 u47 u48 u49 u50 u51 u52 u53 u54 u55 u56 u57 u58 u59 u60 : Value} (hj : j ≤ 9) (hat : At s a j u) (hp : p = (a : Int) + (j : Int)) (hx : x = (u : Int)) (hs : sh = 7 * (j : Int)) : More s a { tmps := #[.string s, .int .i64 p, undef, undef, .int .i64 0, .int .i64 0, .nilIface, .int .u64 x, b, .int .u64 sh, .int .i64 3, .nilIface, u12, u13, u14, u15, u16, u17, u18, u19, u20, u21, u22, u23, u24, u25, u26, u27, u28, u29, u30, u31, u32, u33, u34, u35, u36, u37, u38, u39, u40, u41, u42, u43, u44, u45, u46, u47, u48, u49, u50, u51, u52, u53, u54, u55, u56, u57, u58, u59, u60], defers := [] } := by
  subst hp hx hs
  exact ⟨j, u, b, u12, u13, u14, u15, u16, u17, u18, u19, u20, u21, u22, u23, u24, u25, u26, u27, u28, u29, u30, u31, u32, u33, u34, u35, u36, u37, u38, u39, u40, u41, u42, u43, u44, u45, u46, u47, u48, u49, u50, u51, u52, u53, u54, u55, u56, u57, u58, u59, u60, hj, hat, rfl⟩
theorem last_mk {s : ByteArray} {a : Nat} (j u : Nat) (c : UInt8) {p x y sh : Int} {u12 u13 u14 u15 u16 u17 u18 u19 u20 u21 u22 u23 u24 u25 u26 u27 u28 u29 u30 u31 u32 u33 u34 u35 u36 u37 u38 u39 u40 u41 u42 u43 u44 u45 u46 u47 u48 u49 u50 u51 u52 u53 u54 u55 u56 u57 u58 u59 u60 : Value} (hj : j ≤ 9) (hat : At s a j u) (hk : ∃ hk : a + j < s.size, s[a + j] = c) (hc : c.toNat < 128) (h9 : ¬ (j = 9 ∧ 1 < c.toNat)) (hp : p = (a : Int) + (j : Int) + 1) (hx : x = (u : Int)) (hy : y = (c.toNat : Int)) (hs : sh = 7 * (j : Int)) : Last s a { tmps := #[.string s, .int .i64 p, undef, undef, .int .i64 0, .int .i64 0, .nilIface, .int .u64 x, .int .u8 y, .int .u64 sh, .int .i64 3, .nilIface, u12, u13, u14, u15, u16, u17, u18, u19, u20, u21, u22, u23, u24, u25, u26, u27, u28, u29, u30, u31, u32, u33, u34, u35, u36, u37, u38, u39, u40, u41, u42, u43, u44, u45, u46, u47, u48, u49, u50, u51, u52, u53, u54, u55, u56, u57, u58, u59, u60], defers := [] } := by
  subst hp hx hy hs
  exact ⟨j, u, c, u12, u13, u14, u15, u16, u17, u18, u19, u20, u21, u22, u23, u24, u25, u26, u27, u28, u29, u30, u31, u32, u33, u34, u35, u36, u37, u38, u39, u40, u41, u42, u43, u44, u45, u46, u47, u48, u49, u50, u51, u52, u53, u54, u55, u56, u57, u58, u59, u60, hj, hat, hk, hc, h9, rfl⟩

theorem or_zero (x : Nat) (h : x < 18446744073709551616) : bits BinOp.or IntKind.u64 0 (x : Int) = ((0 + x * 128 ^ 0 : Nat) : Int) := by
  have e := u64_or_nat 0 x (by omega) h
  simpa using e
theorem or_first (c : UInt8) (h : 128 ≤ c.toNat) : bits BinOp.or IntKind.u64 0 ((c.toNat : Int) - 128) = ((0 + c.toNat % 128 * 128 ^ 0 : Nat) : Int) := by
  have hc := c.toNat_lt
  have e : (c.toNat : Int) - 128 = ((c.toNat % 128 : Nat) : Int) := by omega
  rw [e]
  exact or_zero _ (by omega)
theorem or_add (i u x : Nat) (hu : u < 2 ^ i) (hx : u + x * 2 ^ i < 18446744073709551616) : bits BinOp.or IntKind.u64 (u : Int) ((x : Int) * ((2 ^ i : Nat) : Int)) = ((u + x * 2 ^ i : Nat) : Int) := by
  have e : (x : Int) * ((2 ^ i : Nat) : Int) = ((x * 2 ^ i : Nat) : Int) := by simp
  rw [e, u64_or_nat u (x * 2 ^ i) (by omega) (by omega), Nat.or_comm, nat_join i _ u (Nat.mul_mod_left _ _) hu]
  omega

set_option maxRecDepth 100000 in
set_option maxHeartbeats 4000000 in
theorem read_any (s : ByteArray) (a : Nat) (w : World) (h : s.size ≤ 20000) (hm : (a : Int) ≤ 9223372036854775807) :
    Calls Tryz.prog 58 #[.string s, .int .i64 a] w fun e w' => e = .returned (tup (G s a)) ∧ w = w' := by
  go_enter Tryz.func58, Tryz.ntmps58
  go_wp2_with fail
  refine wp_labels (J s a w) μ ?first ?pass
  case first =>
    go_wp2_with (go_at_call 77; refine (place_ok _ _ _ h (by omega)).mono ?_; rintro e w' ⟨rfl, rfl⟩)
    go_step3
    by_cases hsh : s.size ≤ a
    · have HG := mkHid (G_err h (rd_short (j := 0) (u := 0) hsh))
      have h1 : (s.size : Int) ≤ (a : Int) := by omega
      go_wp2
      go_step3
      show J s a w 0 _ _
      exact ⟨rfl, wrong_mk HG.out⟩
    · have hk : a < s.size := by omega
      have hk' : (a : Int) < (s.size : Int) := by omega
      have hc := (s[a]).toNat_lt
      by_cases hl : (s[a]).toNat < 128
      · go_wp2
        go_step3
        show J s a w 2 _ _
        exact ⟨rfl, last_mk 0 0 s[a] (by omega) (at_zero s a) ⟨hk, rfl⟩ hl (by omega) (by omega) rfl rfl rfl⟩
      · have HM := mkHid (at_more (at_zero s a) hk (by omega) (by simpa using hl))
        go_wp2
        go_step3
        show J s a w 1 _ _
        exact ⟨rfl, more_mk 1 _ (by omega) HM.out (by omega) (or_first s[a] (by omega)) rfl⟩
  case pass =>
    intro l x wr hJ
    obtain ⟨rfl, hJ⟩ := hJ
    match l, hJ with
    | 0, hJ =>
      obtain ⟨p, c, y, b, z, u12, u13, u14, u15, u16, u17, u18, u19, u20, u21, u22, u23, u24, u25, u26, u27, u28, u29, u30, u31, u32, u33, u34, u35, u36, u37, u38, u39, u40, u41, u42, u43, u44, u45, u46, u47, u48, u49, u50, u51, u52, u53, u54, u55, u56, u57, u58, u59, u60, hG, rfl⟩ := hJ
      refine ⟨_, rfl, ?_⟩
      have HG := mkHid hG
      clear hG
      go_wp2
      simp only [Jumps]
      go_ret3
      exact ⟨by rw [HG.out]; rfl, rfl⟩
    | 1, hJ =>
      obtain ⟨j, u, b, u12, u13, u14, u15, u16, u17, u18, u19, u20, u21, u22, u23, u24, u25, u26, u27, u28, u29, u30, u31, u32, u33, u34, u35, u36, u37, u38, u39, u40, u41, u42, u43, u44, u45, u46, u47, u48, u49, u50, u51, u52, u53, u54, u55, u56, u57, u58, u59, u60, hj, hat, rfl⟩ := hJ
      refine ⟨_, rfl, ?_⟩
      have HA := mkHid hat
      clear hat
      by_cases hsh : s.size ≤ a + j
      · have HG := mkHid (G_err h (by rw [← HA.out.2]; exact rd_short hsh))
        have h1 : (s.size : Int) ≤ (a : Int) + (j : Int) := by omega
        go_wp2
        go_step3
        show J s a wr 0 _ _ ∧ _ < _
        exact ⟨⟨rfl, wrong_mk HG.out⟩, by simp [μ, intOf]; omega⟩
      have hk : a + j < s.size := by omega
      have hk' : (a : Int) + (j : Int) < (s.size : Int) := by omega
      have hb := HA.out.1
      have hc := (s[a + j]).toNat_lt
      by_cases h9 : j = 9
      · subst h9
        clear hb
        by_cases hc1 : 1 < (s[a + 9]).toNat
        · have HG := mkHid (G_err h (by rw [← HA.out.2]; exact rd_nine hk hc1))
          go_wp2
          go_step3
          show J s a wr 0 _ _ ∧ _ < _
          exact ⟨⟨rfl, wrong_mk HG.out⟩, by simp [μ, intOf]⟩
        · go_wp2
          go_step3
          show J s a wr 2 _ _ ∧ _ < _
          exact ⟨⟨rfl, last_mk 9 u s[a + 9] (by omega) HA.out ⟨hk, rfl⟩ (by omega) (by omega) (by omega) rfl rfl rfl⟩, by simp [μ, intOf]⟩
      have hs63 : (7 * (j : Int) == 63) = false := by simp; omega
      by_cases hl : (s[a + j]).toNat < 128
      · clear hb
        go_wp2
        go_step3
        show J s a wr 2 _ _ ∧ _ < _
        exact ⟨⟨rfl, last_mk j u s[a + j] (by omega) HA.out ⟨hk, rfl⟩ (by omega) (by omega) (by omega) rfl rfl rfl⟩, by simp [μ, intOf]; omega⟩
      have HM := mkHid (at_more HA.out hk h9 (by omega))
      have hj8 : j = 0 ∨ j = 1 ∨ j = 2 ∨ j = 3 ∨ j = 4 ∨ j = 5 ∨ j = 6 ∨ j = 7 ∨ j = 8 := by omega
      clear hs63
      rcases hj8 with rfl | rfl | rfl | rfl | rfl | rfl | rfl | rfl | rfl
      · obtain rfl : u = 0 := by omega
        have hk0 : a < s.size := hk
        have hk1 : (a : Int) < (s.size : Int) := by omega
        have hl0 : 128 ≤ (s[a]).toNat := by have e := hl; simp only [Nat.add_zero] at e; omega
        have hc0 : (s[a]).toNat < 256 := hc
        have HM0 : Hid (At s a 1 (0 + (s[a]).toNat % 128 * 128 ^ 0)) := HM
        clear HM hb hl hk hk' hc hsh h9
        go_wp2
        go_step3
        show J s a wr 1 _ _ ∧ _ < _
        exact ⟨⟨rfl, more_mk 1 _ (by omega) HM0.out (by omega) (or_first s[a] (by omega)) rfl⟩, by simp [μ, intOf]⟩
      · have hb' : (u : Int) ≤ 127 := by omega
        have E := mkHid (show bits BinOp.or IntKind.u64 (u : Int) ((((s[a + 1]).toNat : Int) - 128) * 128) = ((u + (s[a + 1]).toNat % 128 * 128 ^ 1 : Nat) : Int) by
          have e1 : (((s[a + 1]).toNat : Int) - 128) * 128 = (((s[a + 1]).toNat % 128 : Nat) : Int) * ((2 ^ 7 : Nat) : Int) := by omega
          rw [e1, or_add 7 u _ (by omega) (by omega)])
        clear hb
        go_wp2
        go_step3
        show J s a wr 1 _ _ ∧ _ < _
        exact ⟨⟨rfl, more_mk 2 _ (by omega) HM.out (by omega) E.out rfl⟩, by simp [μ, intOf]⟩
      · have hb' : (u : Int) ≤ 16383 := by omega
        have E := mkHid (show bits BinOp.or IntKind.u64 (u : Int) ((((s[a + 2]).toNat : Int) - 128) * 16384) = ((u + (s[a + 2]).toNat % 128 * 128 ^ 2 : Nat) : Int) by
          have e1 : (((s[a + 2]).toNat : Int) - 128) * 16384 = (((s[a + 2]).toNat % 128 : Nat) : Int) * ((2 ^ 14 : Nat) : Int) := by omega
          rw [e1, or_add 14 u _ (by omega) (by omega)])
        clear hb
        go_wp2
        go_step3
        show J s a wr 1 _ _ ∧ _ < _
        exact ⟨⟨rfl, more_mk 3 _ (by omega) HM.out (by omega) E.out rfl⟩, by simp [μ, intOf]⟩
      · have hb' : (u : Int) ≤ 2097151 := by omega
        have E := mkHid (show bits BinOp.or IntKind.u64 (u : Int) ((((s[a + 3]).toNat : Int) - 128) * 2097152) = ((u + (s[a + 3]).toNat % 128 * 128 ^ 3 : Nat) : Int) by
          have e1 : (((s[a + 3]).toNat : Int) - 128) * 2097152 = (((s[a + 3]).toNat % 128 : Nat) : Int) * ((2 ^ 21 : Nat) : Int) := by omega
          rw [e1, or_add 21 u _ (by omega) (by omega)])
        clear hb
        go_wp2
        go_step3
        show J s a wr 1 _ _ ∧ _ < _
        exact ⟨⟨rfl, more_mk 4 _ (by omega) HM.out (by omega) E.out rfl⟩, by simp [μ, intOf]⟩
      · have hb' : (u : Int) ≤ 268435455 := by omega
        have E := mkHid (show bits BinOp.or IntKind.u64 (u : Int) ((((s[a + 4]).toNat : Int) - 128) * 268435456) = ((u + (s[a + 4]).toNat % 128 * 128 ^ 4 : Nat) : Int) by
          have e1 : (((s[a + 4]).toNat : Int) - 128) * 268435456 = (((s[a + 4]).toNat % 128 : Nat) : Int) * ((2 ^ 28 : Nat) : Int) := by omega
          rw [e1, or_add 28 u _ (by omega) (by omega)])
        clear hb
        go_wp2
        go_step3
        show J s a wr 1 _ _ ∧ _ < _
        exact ⟨⟨rfl, more_mk 5 _ (by omega) HM.out (by omega) E.out rfl⟩, by simp [μ, intOf]⟩
      · have hb' : (u : Int) ≤ 34359738367 := by omega
        have E := mkHid (show bits BinOp.or IntKind.u64 (u : Int) ((((s[a + 5]).toNat : Int) - 128) * 34359738368) = ((u + (s[a + 5]).toNat % 128 * 128 ^ 5 : Nat) : Int) by
          have e1 : (((s[a + 5]).toNat : Int) - 128) * 34359738368 = (((s[a + 5]).toNat % 128 : Nat) : Int) * ((2 ^ 35 : Nat) : Int) := by omega
          rw [e1, or_add 35 u _ (by omega) (by omega)])
        clear hb
        go_wp2
        go_step3
        show J s a wr 1 _ _ ∧ _ < _
        exact ⟨⟨rfl, more_mk 6 _ (by omega) HM.out (by omega) E.out rfl⟩, by simp [μ, intOf]⟩
      · have hb' : (u : Int) ≤ 4398046511103 := by omega
        have E := mkHid (show bits BinOp.or IntKind.u64 (u : Int) ((((s[a + 6]).toNat : Int) - 128) * 4398046511104) = ((u + (s[a + 6]).toNat % 128 * 128 ^ 6 : Nat) : Int) by
          have e1 : (((s[a + 6]).toNat : Int) - 128) * 4398046511104 = (((s[a + 6]).toNat % 128 : Nat) : Int) * ((2 ^ 42 : Nat) : Int) := by omega
          rw [e1, or_add 42 u _ (by omega) (by omega)])
        clear hb
        go_wp2
        go_step3
        show J s a wr 1 _ _ ∧ _ < _
        exact ⟨⟨rfl, more_mk 7 _ (by omega) HM.out (by omega) E.out rfl⟩, by simp [μ, intOf]⟩
      · have hb' : (u : Int) ≤ 562949953421311 := by omega
        have E := mkHid (show bits BinOp.or IntKind.u64 (u : Int) ((((s[a + 7]).toNat : Int) - 128) * 562949953421312) = ((u + (s[a + 7]).toNat % 128 * 128 ^ 7 : Nat) : Int) by
          have e1 : (((s[a + 7]).toNat : Int) - 128) * 562949953421312 = (((s[a + 7]).toNat % 128 : Nat) : Int) * ((2 ^ 49 : Nat) : Int) := by omega
          rw [e1, or_add 49 u _ (by omega) (by omega)])
        clear hb
        go_wp2
        go_step3
        show J s a wr 1 _ _ ∧ _ < _
        exact ⟨⟨rfl, more_mk 8 _ (by omega) HM.out (by omega) E.out rfl⟩, by simp [μ, intOf]⟩
      · have hb' : (u : Int) ≤ 72057594037927935 := by omega
        have E := mkHid (show bits BinOp.or IntKind.u64 (u : Int) ((((s[a + 8]).toNat : Int) - 128) * 72057594037927936) = ((u + (s[a + 8]).toNat % 128 * 128 ^ 8 : Nat) : Int) by
          have e1 : (((s[a + 8]).toNat : Int) - 128) * 72057594037927936 = (((s[a + 8]).toNat % 128 : Nat) : Int) * ((2 ^ 56 : Nat) : Int) := by omega
          rw [e1, or_add 56 u _ (by omega) (by omega)])
        clear hb
        go_wp2
        go_step3
        show J s a wr 1 _ _ ∧ _ < _
        exact ⟨⟨rfl, more_mk 9 _ (by omega) HM.out (by omega) E.out rfl⟩, by simp [μ, intOf]⟩
    | 2, hJ =>
      obtain ⟨j, u, c, u12, u13, u14, u15, u16, u17, u18, u19, u20, u21, u22, u23, u24, u25, u26, u27, u28, u29, u30, u31, u32, u33, u34, u35, u36, u37, u38, u39, u40, u41, u42, u43, u44, u45, u46, u47, u48, u49, u50, u51, u52, u53, u54, u55, u56, u57, u58, u59, u60, hj, hat, hk, hc, h9, rfl⟩ := hJ
      refine ⟨_, rfl, ?_⟩
      have HA := mkHid hat
      clear hat
      obtain ⟨hk, hsc⟩ := hk
      by_cases hz : c.toNat = 0 ∧ 0 < j
      · obtain ⟨hz1, hz2⟩ := hz
        have HG := mkHid (G_err h (by rw [← HA.out.2]; exact rd_zero hk (by rw [hsc]; exact hz1) hz2))
        have hz3 : ((c.toNat : Int) == 0) = true := by simp; omega
        have hz4 : (0 : Int) < 7 * (j : Int) := by omega
        clear hsc hz1
        go_wp2
        go_step3
        show J s a wr 0 _ _ ∧ _ < _
        exact ⟨⟨rfl, wrong_mk HG.out⟩, by simp [μ]⟩
      have HG := mkHid (G_ok h (by rw [← HA.out.2]; exact rd_last hk (by rw [hsc]; exact h9) (by rw [hsc]; exact hc) (by rw [hsc]; exact hz)))
      rw [hsc] at HG
      have hb := HA.out.1
      clear hsc
      have hj9 : j = 0 ∨ j = 1 ∨ j = 2 ∨ j = 3 ∨ j = 4 ∨ j = 5 ∨ j = 6 ∨ j = 7 ∨ j = 8 ∨ j = 9 := by omega
      rcases hj9 with rfl | rfl | rfl | rfl | rfl | rfl | rfl | rfl | rfl | rfl
      · obtain rfl : u = 0 := by omega
        have hcl := c.toNat_lt
        have HU := mkHid (show 0 + c.toNat * 128 ^ 0 < 18446744073709551616 by omega)
        have E := mkHid (or_zero c.toNat (by omega))
        clear hb
        by_cases hz0 : c.toNat = 0
        · have hz' : ((c.toNat : Int) == 0) = true := by simp; omega
          have E0 : bits BinOp.or IntKind.u64 0 0 = ((0 + c.toNat * 128 ^ 0 : Nat) : Int) := by rw [hz0]; exact or_zero 0 (by omega)
          have EE := mkHid E0
          clear E0
          go_wp2_with fail
          rw [EE.out]
          refine (unfold_any _ _ HU.out).mono ?_
          rintro e w' ⟨rfl, rfl⟩
          go_wp2
          simp only [Jumps]
          go_ret3
          exact ⟨by rw [HG.out]; simp [tup, hz0], rfl⟩
        have hz' : ((c.toNat : Int) == 0) = false := by simp; omega
        go_wp2_with fail
        rw [E.out]
        refine (unfold_any _ _ HU.out).mono ?_
        rintro e w' ⟨rfl, rfl⟩
        go_wp2
        simp only [Jumps]
        go_ret3
        exact ⟨by rw [HG.out]; simp [tup]; try omega, rfl⟩
      · have hb' : (u : Int) ≤ 127 := by omega
        have E := mkHid (show bits BinOp.or IntKind.u64 (u : Int) ((c.toNat : Int) * 128) = ((u + c.toNat * 128 ^ 1 : Nat) : Int) by
          have e1 : (c.toNat : Int) * 128 = (c.toNat : Int) * ((2 ^ 7 : Nat) : Int) := by omega
          rw [e1, or_add 7 u _ (by omega) (by omega)])
        have hu64 : u + c.toNat * 128 ^ 1 < 18446744073709551616 := by omega
        have HU := mkHid hu64
        clear hb hu64
        have hz' : ((c.toNat : Int) == 0) = false := by simp; omega
        go_wp2_with fail
        rw [E.out]
        refine (unfold_any _ _ HU.out).mono ?_
        rintro e w' ⟨rfl, rfl⟩
        go_wp2
        simp only [Jumps]
        go_ret3
        exact ⟨by rw [HG.out]; simp [tup]; try omega, rfl⟩
      · have hb' : (u : Int) ≤ 16383 := by omega
        have E := mkHid (show bits BinOp.or IntKind.u64 (u : Int) ((c.toNat : Int) * 16384) = ((u + c.toNat * 128 ^ 2 : Nat) : Int) by
          have e1 : (c.toNat : Int) * 16384 = (c.toNat : Int) * ((2 ^ 14 : Nat) : Int) := by omega
          rw [e1, or_add 14 u _ (by omega) (by omega)])
        have hu64 : u + c.toNat * 128 ^ 2 < 18446744073709551616 := by omega
        have HU := mkHid hu64
        clear hb hu64
        have hz' : ((c.toNat : Int) == 0) = false := by simp; omega
        go_wp2_with fail
        rw [E.out]
        refine (unfold_any _ _ HU.out).mono ?_
        rintro e w' ⟨rfl, rfl⟩
        go_wp2
        simp only [Jumps]
        go_ret3
        exact ⟨by rw [HG.out]; simp [tup]; try omega, rfl⟩
      · have hb' : (u : Int) ≤ 2097151 := by omega
        have E := mkHid (show bits BinOp.or IntKind.u64 (u : Int) ((c.toNat : Int) * 2097152) = ((u + c.toNat * 128 ^ 3 : Nat) : Int) by
          have e1 : (c.toNat : Int) * 2097152 = (c.toNat : Int) * ((2 ^ 21 : Nat) : Int) := by omega
          rw [e1, or_add 21 u _ (by omega) (by omega)])
        have hu64 : u + c.toNat * 128 ^ 3 < 18446744073709551616 := by omega
        have HU := mkHid hu64
        clear hb hu64
        have hz' : ((c.toNat : Int) == 0) = false := by simp; omega
        go_wp2_with fail
        rw [E.out]
        refine (unfold_any _ _ HU.out).mono ?_
        rintro e w' ⟨rfl, rfl⟩
        go_wp2
        simp only [Jumps]
        go_ret3
        exact ⟨by rw [HG.out]; simp [tup]; try omega, rfl⟩
      · have hb' : (u : Int) ≤ 268435455 := by omega
        have E := mkHid (show bits BinOp.or IntKind.u64 (u : Int) ((c.toNat : Int) * 268435456) = ((u + c.toNat * 128 ^ 4 : Nat) : Int) by
          have e1 : (c.toNat : Int) * 268435456 = (c.toNat : Int) * ((2 ^ 28 : Nat) : Int) := by omega
          rw [e1, or_add 28 u _ (by omega) (by omega)])
        have hu64 : u + c.toNat * 128 ^ 4 < 18446744073709551616 := by omega
        have HU := mkHid hu64
        clear hb hu64
        have hz' : ((c.toNat : Int) == 0) = false := by simp; omega
        go_wp2_with fail
        rw [E.out]
        refine (unfold_any _ _ HU.out).mono ?_
        rintro e w' ⟨rfl, rfl⟩
        go_wp2
        simp only [Jumps]
        go_ret3
        exact ⟨by rw [HG.out]; simp [tup]; try omega, rfl⟩
      · have hb' : (u : Int) ≤ 34359738367 := by omega
        have E := mkHid (show bits BinOp.or IntKind.u64 (u : Int) ((c.toNat : Int) * 34359738368) = ((u + c.toNat * 128 ^ 5 : Nat) : Int) by
          have e1 : (c.toNat : Int) * 34359738368 = (c.toNat : Int) * ((2 ^ 35 : Nat) : Int) := by omega
          rw [e1, or_add 35 u _ (by omega) (by omega)])
        have hu64 : u + c.toNat * 128 ^ 5 < 18446744073709551616 := by omega
        have HU := mkHid hu64
        clear hb hu64
        have hz' : ((c.toNat : Int) == 0) = false := by simp; omega
        go_wp2_with fail
        rw [E.out]
        refine (unfold_any _ _ HU.out).mono ?_
        rintro e w' ⟨rfl, rfl⟩
        go_wp2
        simp only [Jumps]
        go_ret3
        exact ⟨by rw [HG.out]; simp [tup]; try omega, rfl⟩
      · have hb' : (u : Int) ≤ 4398046511103 := by omega
        have E := mkHid (show bits BinOp.or IntKind.u64 (u : Int) ((c.toNat : Int) * 4398046511104) = ((u + c.toNat * 128 ^ 6 : Nat) : Int) by
          have e1 : (c.toNat : Int) * 4398046511104 = (c.toNat : Int) * ((2 ^ 42 : Nat) : Int) := by omega
          rw [e1, or_add 42 u _ (by omega) (by omega)])
        have hu64 : u + c.toNat * 128 ^ 6 < 18446744073709551616 := by omega
        have HU := mkHid hu64
        clear hb hu64
        have hz' : ((c.toNat : Int) == 0) = false := by simp; omega
        go_wp2_with fail
        rw [E.out]
        refine (unfold_any _ _ HU.out).mono ?_
        rintro e w' ⟨rfl, rfl⟩
        go_wp2
        simp only [Jumps]
        go_ret3
        exact ⟨by rw [HG.out]; simp [tup]; try omega, rfl⟩
      · have hb' : (u : Int) ≤ 562949953421311 := by omega
        have E := mkHid (show bits BinOp.or IntKind.u64 (u : Int) ((c.toNat : Int) * 562949953421312) = ((u + c.toNat * 128 ^ 7 : Nat) : Int) by
          have e1 : (c.toNat : Int) * 562949953421312 = (c.toNat : Int) * ((2 ^ 49 : Nat) : Int) := by omega
          rw [e1, or_add 49 u _ (by omega) (by omega)])
        have hu64 : u + c.toNat * 128 ^ 7 < 18446744073709551616 := by omega
        have HU := mkHid hu64
        clear hb hu64
        have hz' : ((c.toNat : Int) == 0) = false := by simp; omega
        go_wp2_with fail
        rw [E.out]
        refine (unfold_any _ _ HU.out).mono ?_
        rintro e w' ⟨rfl, rfl⟩
        go_wp2
        simp only [Jumps]
        go_ret3
        exact ⟨by rw [HG.out]; simp [tup]; try omega, rfl⟩
      · have hb' : (u : Int) ≤ 72057594037927935 := by omega
        have E := mkHid (show bits BinOp.or IntKind.u64 (u : Int) ((c.toNat : Int) * 72057594037927936) = ((u + c.toNat * 128 ^ 8 : Nat) : Int) by
          have e1 : (c.toNat : Int) * 72057594037927936 = (c.toNat : Int) * ((2 ^ 56 : Nat) : Int) := by omega
          rw [e1, or_add 56 u _ (by omega) (by omega)])
        have hu64 : u + c.toNat * 128 ^ 8 < 18446744073709551616 := by omega
        have HU := mkHid hu64
        clear hb hu64
        have hz' : ((c.toNat : Int) == 0) = false := by simp; omega
        go_wp2_with fail
        rw [E.out]
        refine (unfold_any _ _ HU.out).mono ?_
        rintro e w' ⟨rfl, rfl⟩
        go_wp2
        simp only [Jumps]
        go_ret3
        exact ⟨by rw [HG.out]; simp [tup]; try omega, rfl⟩
      · have hb' : (u : Int) ≤ 9223372036854775807 := by omega
        have E := mkHid (show bits BinOp.or IntKind.u64 (u : Int) ((c.toNat : Int) * 9223372036854775808) = ((u + c.toNat * 128 ^ 9 : Nat) : Int) by
          have e1 : (c.toNat : Int) * 9223372036854775808 = (c.toNat : Int) * ((2 ^ 63 : Nat) : Int) := by omega
          rw [e1, or_add 63 u _ (by omega) (by omega)])
        have hu64 : u + c.toNat * 128 ^ 9 < 18446744073709551616 := by omega
        have HU := mkHid hu64
        clear hb hu64
        have hz' : ((c.toNat : Int) == 0) = false := by simp; omega
        go_wp2_with fail
        rw [E.out]
        refine (unfold_any _ _ HU.out).mono ?_
        rintro e w' ⟨rfl, rfl⟩
        go_wp2
        simp only [Jumps]
        go_ret3
        exact ⟨by rw [HG.out]; simp [tup]; try omega, rfl⟩
    | _ + 3, hJ => exact hJ.elim

end Go.Proofs.YtmoojhnblakdhaaGreat.num
namespace Go.Proofs.YtmoojhnblakdhaaGreat.num
open Go.RowKit
set_option linter.unusedVariables false

theorem read_all (s : ByteArray) (a : Int) (w : World) (hs : s.size ≤ 1048576) (h1 : -9223372036854775808 ≤ a) (h2 : a ≤ 9223372036854775807) :
    Calls Tryz.prog 58 #[.string s, .int .i64 a] w fun e w' => e = .returned (tup (G s a)) ∧ w = w' := by
  by_cases hb : 20000 < s.size
  · have e : G s a = .error 2 := if_pos hb
    rw [e]
    clear e
    go_enter Tryz.func58, Tryz.ntmps58
    go_wp2_with fail
    refine jump.wp_labels (fun _ _ _ => False) (fun _ _ _ => 0) ?_ (fun _ _ _ hF => hF.elim)
    go_wp2_with (go_at_call 77; refine (place_big _ _ _ hb hs).mono ?_; rintro e w' ⟨rfl, rfl⟩)
    simp only [jump.Jumps]
    go_ret3
    exact ⟨rfl, rfl⟩
  by_cases hn : a < 0
  · have e : G s a = .error 1 := by unfold G; rw [if_neg hb, if_pos hn]
    rw [e]
    clear e
    go_enter Tryz.func58, Tryz.ntmps58
    go_wp2_with fail
    refine jump.wp_labels (fun _ _ _ => False) (fun _ _ _ => 0) ?_ (fun _ _ _ hF => hF.elim)
    go_wp2_with (go_at_call 77; refine (place_neg _ _ _ (by omega) hn).mono ?_; rintro e w' ⟨rfl, rfl⟩)
    simp only [jump.Jumps]
    go_ret3
    exact ⟨rfl, rfl⟩
  · obtain ⟨k, rfl⟩ := Int.eq_ofNat_of_zero_le (show 0 ≤ a by omega)
    exact read_any s k w (by omega) h2
end Go.Proofs.YtmoojhnblakdhaaGreat.num
namespace Go.Proofs.YtmoojhnblakdhaaGreat.num
open Go.RowKit
set_option linter.unusedVariables false

theorem spec_big (s : ByteArray) (a : Int) (w : World) (h : 20000 < s.size) (hs : s.size ≤ 1048576) :
    Calls Tryz.prog 110 #[.string s, .int .i64 a] w fun e w' => e = .returned (out (G s a)) ∧ Below w.heap.size w w' := by
  have e : G s a = .error 2 := if_pos h
  rw [e]
  clear e
  go_enter Tryz.func110, Tryz.ntmps110
  go_wp2
  exact bodyPost_ret (v := .agg #[.int .i64 0, .int .i64 0, .int .i64 2]) (by simp [results, Tryz.results110, go_sem]) rfl ⟨rfl, (Below.refl _ _).alloc (Nat.le_refl _) _⟩
theorem spec_neg (s : ByteArray) (a : Int) (w : World) (h : s.size ≤ 20000) (ha : a < 0) :
    Calls Tryz.prog 110 #[.string s, .int .i64 a] w fun e w' => e = .returned (out (G s a)) ∧ Below w.heap.size w w' := by
  have e : G s a = .error 1 := by unfold G; rw [if_neg (by omega), if_pos ha]
  rw [e]
  clear e
  go_enter Tryz.func110, Tryz.ntmps110
  go_wp2
  exact bodyPost_ret (v := .agg #[.int .i64 0, .int .i64 0, .int .i64 1]) (by simp [results, Tryz.results110, go_sem]) rfl ⟨rfl, (Below.refl _ _).alloc (Nat.le_refl _) _⟩

set_option maxHeartbeats 4000000 in
set_option maxRecDepth 100000 in
theorem spec_any (s : ByteArray) (a : Nat) (w : World) (h : s.size ≤ 20000) (hm : (a : Int) ≤ 9223372036854775807) :
    Calls Tryz.prog 110 #[.string s, .int .i64 a] w fun e w' => e = .returned (out (G s a)) ∧ Below w.heap.size w w' := by
  go_enter Tryz.func110, Tryz.ntmps110
  go_wp2
  go_loop [5, 6] (fun x i => ∃ (j u : Nat), j ≤ 9 ∧ i = .int .i64 (j : Int) ∧ x = .int .u64 (u : Int) ∧ Hid (At s a j u)) (fun _ i => 10 - (intOf i).toNat)
  case atStart => exact ⟨0, 0, by omega, rfl, rfl, mkHid (at_zero s a)⟩
  case round =>
    obtain ⟨j, u, hj, rfl, rfl, hat⟩ := hrel
    by_cases hsh : s.size ≤ a + j
    · have HG : Hid (G s a = .error 4) := mkHid (G_err h (by rw [← hat.out.2]; exact rd_short hsh))
      have h1 : (s.size : Int) - (j : Int) ≤ (a : Int) := by omega
      go_wp2
      exact bodyPost_ret (v := .agg #[.int .i64 0, .int .i64 0, .int .i64 4]) (by simp [results, Tryz.results110, go_sem]) rfl ⟨by rw [HG.out]; rfl, (Below.refl _ _).alloc (Nat.le_refl _) _⟩
    have hk : a + j < s.size := by omega
    have hk' : (a : Int) + (j : Int) < (s.size : Int) := by omega
    have hc := (s[a + j]).toNat_lt
    by_cases h9 : j = 9
    · subst h9
      have hb := hat.out.1
      have hb' : (u : Int) ≤ 9223372036854775807 := by omega
      clear hb
      by_cases hc1 : 1 < (s[a + 9]).toNat
      · have HG : Hid (G s a = .error 3) := mkHid (G_err h (by rw [← hat.out.2]; exact rd_nine hk hc1))
        go_wp2
        exact bodyPost_ret (v := .agg #[.int .i64 0, .int .i64 0, .int .i64 3]) (by simp [results, Tryz.results110, go_sem]) rfl ⟨by rw [HG.out]; rfl, (Below.refl _ _).alloc (Nat.le_refl _) _⟩
      · by_cases hc0 : (s[a + 9]).toNat = 0
        · have HG : Hid (G s a = .error 3) := mkHid (G_err h (by rw [← hat.out.2]; exact rd_zero hk hc0 (by omega)))
          go_wp2
          exact bodyPost_ret (v := .agg #[.int .i64 0, .int .i64 0, .int .i64 3]) (by simp [results, Tryz.results110, go_sem]) rfl ⟨by rw [HG.out]; rfl, (Below.refl _ _).alloc (Nat.le_refl _) _⟩
        · have HG := mkHid (G_ok h (by rw [← hat.out.2]; exact rd_last hk (by omega) (by omega) (by omega)))
          have hc2 : (s[a + 9]).toNat = 1 := by omega
          rw [hc2] at HG
          by_cases hp : ((u : Int) + 9223372036854775808) % 2 = 1
          · have hN : -(((u : Int) + 9223372036854775808) / 2) - 1 = num.unfold (u + 1 * 128 ^ 9) := by unfold num.unfold; rw [if_pos (by omega)]; omega
            have HN := mkHid hN
            have hpar : (((u : Int) + 9223372036854775808) % 2 == 1) = true := by simpa using hp
            clear hN hp
            go_wp2
            exact bodyPost_ret (v := .agg #[.int .i64 (-(((u : Int) + 9223372036854775808) / 2) - 1), .int .i64 ((a : Int) + 9 + 1), .int .i64 0]) (by simp [results, Tryz.results110, go_sem]) rfl ⟨fin_ok HG.out HN.out (by omega), (Below.refl _ _).alloc (Nat.le_refl _) _⟩
          · have hN : ((u : Int) + 9223372036854775808) / 2 = num.unfold (u + 1 * 128 ^ 9) := by unfold num.unfold; rw [if_neg (by omega)]; omega
            have HN := mkHid hN
            have hpar : (((u : Int) + 9223372036854775808) % 2 == 1) = false := by simpa using hp
            clear hN hp
            go_wp2
            exact bodyPost_ret (v := .agg #[.int .i64 (((u : Int) + 9223372036854775808) / 2), .int .i64 ((a : Int) + 9 + 1), .int .i64 0]) (by simp [results, Tryz.results110, go_sem]) rfl ⟨fin_ok HG.out HN.out (by omega), (Below.refl _ _).alloc (Nat.le_refl _) _⟩
    by_cases hz : (s[a + j]).toNat = 0 ∧ 0 < j
    · have HG : Hid (G s a = .error 3) := mkHid (G_err h (by rw [← hat.out.2]; exact rd_zero hk hz.1 hz.2))
      obtain ⟨hz1, hz2⟩ := hz
      have hj8 : j = 1 ∨ j = 2 ∨ j = 3 ∨ j = 4 ∨ j = 5 ∨ j = 6 ∨ j = 7 ∨ j = 8 := by omega
      have hb := hat.out.1
      rcases hj8 with rfl | rfl | rfl | rfl | rfl | rfl | rfl | rfl
      all_goals
        have hb' : (u : Int) ≤ 72057594037927935 := by omega
        clear hb
        go_wp2
        exact bodyPost_ret (v := .agg #[.int .i64 0, .int .i64 0, .int .i64 3]) (by simp [results, Tryz.results110, go_sem]) rfl ⟨by rw [HG.out]; rfl, (Below.refl _ _).alloc (Nat.le_refl _) _⟩
    have hj8 : j = 0 ∨ j = 1 ∨ j = 2 ∨ j = 3 ∨ j = 4 ∨ j = 5 ∨ j = 6 ∨ j = 7 ∨ j = 8 := by omega
    have hb := hat.out.1
    by_cases hl : (s[a + j]).toNat < 128
    · have HG := mkHid (G_ok h (by rw [← hat.out.2]; exact rd_last hk (by omega) hl hz))
      rcases hj8 with rfl | rfl | rfl | rfl | rfl | rfl | rfl | rfl | rfl
      · obtain rfl : u = 0 := by omega
        have hk0 : a < s.size := hk
        have hl0 : (s[a]).toNat < 128 := hl
        have hG0 : Hid (G s a = .ok (num.unfold (s[a]).toNat, (a : Int) + (1 : Nat))) := mkHid (by have e := HG.out; simpa using e)
        have hk1 : (a : Int) < (s.size : Int) := by omega
        clear HG hb hl hk hk' hc hz hsh h9 hat
        by_cases hz0 : (s[a]).toNat = 0
        · have hz1 : (((s[a]).toNat : Int) == 0) = true := by simp; omega
          have HN := mkHid (show (0 : Int) = num.unfold (s[a]).toNat by rw [hz0]; rfl)
          go_wp2
          exact bodyPost_ret (v := .agg #[.int .i64 0, .int .i64 ((a : Int) + 1), .int .i64 0]) (by simp [results, Tryz.results110, go_sem]) rfl ⟨fin_ok hG0.out HN.out (by omega), (Below.refl _ _).alloc (Nat.le_refl _) _⟩
        have hz1 : (((s[a]).toNat : Int) == 0) = false := by simp; omega
        by_cases hp : (((s[a]).toNat : Int) % 128) % 2 = 1
        · have hN : -((((s[a]).toNat : Int) % 128) / 2) - 1 = num.unfold ((s[a]).toNat) := by unfold num.unfold; rw [if_pos (by omega)]; omega
          have HN := mkHid hN
          have hpar : ((((s[a]).toNat : Int) % 128) % 2 == 1) = true := by simpa using hp
          clear hN hp
          go_wp2
          exact bodyPost_ret (v := .agg #[.int .i64 (-((((s[a]).toNat : Int) % 128) / 2) - 1), .int .i64 ((a : Int) + 1), .int .i64 0]) (by simp [results, Tryz.results110, go_sem]) rfl ⟨fin_ok hG0.out HN.out (by omega), (Below.refl _ _).alloc (Nat.le_refl _) _⟩
        · have hN : (((s[a]).toNat : Int) % 128) / 2 = num.unfold ((s[a]).toNat) := by unfold num.unfold; rw [if_neg (by omega)]; omega
          have HN := mkHid hN
          have hpar : ((((s[a]).toNat : Int) % 128) % 2 == 1) = false := by simpa using hp
          clear hN hp
          go_wp2
          exact bodyPost_ret (v := .agg #[.int .i64 ((((s[a]).toNat : Int) % 128) / 2), .int .i64 ((a : Int) + 1), .int .i64 0]) (by simp [results, Tryz.results110, go_sem]) rfl ⟨fin_ok hG0.out HN.out (by omega), (Below.refl _ _).alloc (Nat.le_refl _) _⟩
      · have hb' : (u : Int) ≤ 127 := by omega
        clear hb
        have hz' : (((s[a + 1]).toNat : Int) == 0) = false := by simp; omega
        by_cases hp : ((u : Int) + ((s[a + 1]).toNat : Int) % 128 * 128) % 2 = 1
        · have hN : -(((u : Int) + ((s[a + 1]).toNat : Int) % 128 * 128) / 2) - 1 = num.unfold (u + (s[a + 1]).toNat * 128 ^ 1) := by unfold num.unfold; rw [if_pos (by omega)]; omega
          have HN := mkHid hN
          have hpar : (((u : Int) + ((s[a + 1]).toNat : Int) % 128 * 128) % 2 == 1) = true := by simpa using hp
          clear hN hp
          go_wp2
          exact bodyPost_ret (v := .agg #[.int .i64 (-(((u : Int) + ((s[a + 1]).toNat : Int) % 128 * 128) / 2) - 1), .int .i64 ((a : Int) + 1 + 1), .int .i64 0]) (by simp [results, Tryz.results110, go_sem]) rfl ⟨fin_ok HG.out HN.out (by omega), (Below.refl _ _).alloc (Nat.le_refl _) _⟩
        · have hN : ((u : Int) + ((s[a + 1]).toNat : Int) % 128 * 128) / 2 = num.unfold (u + (s[a + 1]).toNat * 128 ^ 1) := by unfold num.unfold; rw [if_neg (by omega)]; omega
          have HN := mkHid hN
          have hpar : (((u : Int) + ((s[a + 1]).toNat : Int) % 128 * 128) % 2 == 1) = false := by simpa using hp
          clear hN hp
          go_wp2
          exact bodyPost_ret (v := .agg #[.int .i64 (((u : Int) + ((s[a + 1]).toNat : Int) % 128 * 128) / 2), .int .i64 ((a : Int) + 1 + 1), .int .i64 0]) (by simp [results, Tryz.results110, go_sem]) rfl ⟨fin_ok HG.out HN.out (by omega), (Below.refl _ _).alloc (Nat.le_refl _) _⟩
      · have hb' : (u : Int) ≤ 16383 := by omega
        clear hb
        have hz' : (((s[a + 2]).toNat : Int) == 0) = false := by simp; omega
        by_cases hp : ((u : Int) + ((s[a + 2]).toNat : Int) % 128 * 16384) % 2 = 1
        · have hN : -(((u : Int) + ((s[a + 2]).toNat : Int) % 128 * 16384) / 2) - 1 = num.unfold (u + (s[a + 2]).toNat * 128 ^ 2) := by unfold num.unfold; rw [if_pos (by omega)]; omega
          have HN := mkHid hN
          have hpar : (((u : Int) + ((s[a + 2]).toNat : Int) % 128 * 16384) % 2 == 1) = true := by simpa using hp
          clear hN hp
          go_wp2
          exact bodyPost_ret (v := .agg #[.int .i64 (-(((u : Int) + ((s[a + 2]).toNat : Int) % 128 * 16384) / 2) - 1), .int .i64 ((a : Int) + 2 + 1), .int .i64 0]) (by simp [results, Tryz.results110, go_sem]) rfl ⟨fin_ok HG.out HN.out (by omega), (Below.refl _ _).alloc (Nat.le_refl _) _⟩
        · have hN : ((u : Int) + ((s[a + 2]).toNat : Int) % 128 * 16384) / 2 = num.unfold (u + (s[a + 2]).toNat * 128 ^ 2) := by unfold num.unfold; rw [if_neg (by omega)]; omega
          have HN := mkHid hN
          have hpar : (((u : Int) + ((s[a + 2]).toNat : Int) % 128 * 16384) % 2 == 1) = false := by simpa using hp
          clear hN hp
          go_wp2
          exact bodyPost_ret (v := .agg #[.int .i64 (((u : Int) + ((s[a + 2]).toNat : Int) % 128 * 16384) / 2), .int .i64 ((a : Int) + 2 + 1), .int .i64 0]) (by simp [results, Tryz.results110, go_sem]) rfl ⟨fin_ok HG.out HN.out (by omega), (Below.refl _ _).alloc (Nat.le_refl _) _⟩
      · have hb' : (u : Int) ≤ 2097151 := by omega
        clear hb
        have hz' : (((s[a + 3]).toNat : Int) == 0) = false := by simp; omega
        by_cases hp : ((u : Int) + ((s[a + 3]).toNat : Int) % 128 * 2097152) % 2 = 1
        · have hN : -(((u : Int) + ((s[a + 3]).toNat : Int) % 128 * 2097152) / 2) - 1 = num.unfold (u + (s[a + 3]).toNat * 128 ^ 3) := by unfold num.unfold; rw [if_pos (by omega)]; omega
          have HN := mkHid hN
          have hpar : (((u : Int) + ((s[a + 3]).toNat : Int) % 128 * 2097152) % 2 == 1) = true := by simpa using hp
          clear hN hp
          go_wp2
          exact bodyPost_ret (v := .agg #[.int .i64 (-(((u : Int) + ((s[a + 3]).toNat : Int) % 128 * 2097152) / 2) - 1), .int .i64 ((a : Int) + 3 + 1), .int .i64 0]) (by simp [results, Tryz.results110, go_sem]) rfl ⟨fin_ok HG.out HN.out (by omega), (Below.refl _ _).alloc (Nat.le_refl _) _⟩
        · have hN : ((u : Int) + ((s[a + 3]).toNat : Int) % 128 * 2097152) / 2 = num.unfold (u + (s[a + 3]).toNat * 128 ^ 3) := by unfold num.unfold; rw [if_neg (by omega)]; omega
          have HN := mkHid hN
          have hpar : (((u : Int) + ((s[a + 3]).toNat : Int) % 128 * 2097152) % 2 == 1) = false := by simpa using hp
          clear hN hp
          go_wp2
          exact bodyPost_ret (v := .agg #[.int .i64 (((u : Int) + ((s[a + 3]).toNat : Int) % 128 * 2097152) / 2), .int .i64 ((a : Int) + 3 + 1), .int .i64 0]) (by simp [results, Tryz.results110, go_sem]) rfl ⟨fin_ok HG.out HN.out (by omega), (Below.refl _ _).alloc (Nat.le_refl _) _⟩
      · have hb' : (u : Int) ≤ 268435455 := by omega
        clear hb
        have hz' : (((s[a + 4]).toNat : Int) == 0) = false := by simp; omega
        by_cases hp : ((u : Int) + ((s[a + 4]).toNat : Int) % 128 * 268435456) % 2 = 1
        · have hN : -(((u : Int) + ((s[a + 4]).toNat : Int) % 128 * 268435456) / 2) - 1 = num.unfold (u + (s[a + 4]).toNat * 128 ^ 4) := by unfold num.unfold; rw [if_pos (by omega)]; omega
          have HN := mkHid hN
          have hpar : (((u : Int) + ((s[a + 4]).toNat : Int) % 128 * 268435456) % 2 == 1) = true := by simpa using hp
          clear hN hp
          go_wp2
          exact bodyPost_ret (v := .agg #[.int .i64 (-(((u : Int) + ((s[a + 4]).toNat : Int) % 128 * 268435456) / 2) - 1), .int .i64 ((a : Int) + 4 + 1), .int .i64 0]) (by simp [results, Tryz.results110, go_sem]) rfl ⟨fin_ok HG.out HN.out (by omega), (Below.refl _ _).alloc (Nat.le_refl _) _⟩
        · have hN : ((u : Int) + ((s[a + 4]).toNat : Int) % 128 * 268435456) / 2 = num.unfold (u + (s[a + 4]).toNat * 128 ^ 4) := by unfold num.unfold; rw [if_neg (by omega)]; omega
          have HN := mkHid hN
          have hpar : (((u : Int) + ((s[a + 4]).toNat : Int) % 128 * 268435456) % 2 == 1) = false := by simpa using hp
          clear hN hp
          go_wp2
          exact bodyPost_ret (v := .agg #[.int .i64 (((u : Int) + ((s[a + 4]).toNat : Int) % 128 * 268435456) / 2), .int .i64 ((a : Int) + 4 + 1), .int .i64 0]) (by simp [results, Tryz.results110, go_sem]) rfl ⟨fin_ok HG.out HN.out (by omega), (Below.refl _ _).alloc (Nat.le_refl _) _⟩
      · have hb' : (u : Int) ≤ 34359738367 := by omega
        clear hb
        have hz' : (((s[a + 5]).toNat : Int) == 0) = false := by simp; omega
        by_cases hp : ((u : Int) + ((s[a + 5]).toNat : Int) % 128 * 34359738368) % 2 = 1
        · have hN : -(((u : Int) + ((s[a + 5]).toNat : Int) % 128 * 34359738368) / 2) - 1 = num.unfold (u + (s[a + 5]).toNat * 128 ^ 5) := by unfold num.unfold; rw [if_pos (by omega)]; omega
          have HN := mkHid hN
          have hpar : (((u : Int) + ((s[a + 5]).toNat : Int) % 128 * 34359738368) % 2 == 1) = true := by simpa using hp
          clear hN hp
          go_wp2
          exact bodyPost_ret (v := .agg #[.int .i64 (-(((u : Int) + ((s[a + 5]).toNat : Int) % 128 * 34359738368) / 2) - 1), .int .i64 ((a : Int) + 5 + 1), .int .i64 0]) (by simp [results, Tryz.results110, go_sem]) rfl ⟨fin_ok HG.out HN.out (by omega), (Below.refl _ _).alloc (Nat.le_refl _) _⟩
        · have hN : ((u : Int) + ((s[a + 5]).toNat : Int) % 128 * 34359738368) / 2 = num.unfold (u + (s[a + 5]).toNat * 128 ^ 5) := by unfold num.unfold; rw [if_neg (by omega)]; omega
          have HN := mkHid hN
          have hpar : (((u : Int) + ((s[a + 5]).toNat : Int) % 128 * 34359738368) % 2 == 1) = false := by simpa using hp
          clear hN hp
          go_wp2
          exact bodyPost_ret (v := .agg #[.int .i64 (((u : Int) + ((s[a + 5]).toNat : Int) % 128 * 34359738368) / 2), .int .i64 ((a : Int) + 5 + 1), .int .i64 0]) (by simp [results, Tryz.results110, go_sem]) rfl ⟨fin_ok HG.out HN.out (by omega), (Below.refl _ _).alloc (Nat.le_refl _) _⟩
      · have hb' : (u : Int) ≤ 4398046511103 := by omega
        clear hb
        have hz' : (((s[a + 6]).toNat : Int) == 0) = false := by simp; omega
        by_cases hp : ((u : Int) + ((s[a + 6]).toNat : Int) % 128 * 4398046511104) % 2 = 1
        · have hN : -(((u : Int) + ((s[a + 6]).toNat : Int) % 128 * 4398046511104) / 2) - 1 = num.unfold (u + (s[a + 6]).toNat * 128 ^ 6) := by unfold num.unfold; rw [if_pos (by omega)]; omega
          have HN := mkHid hN
          have hpar : (((u : Int) + ((s[a + 6]).toNat : Int) % 128 * 4398046511104) % 2 == 1) = true := by simpa using hp
          clear hN hp
          go_wp2
          exact bodyPost_ret (v := .agg #[.int .i64 (-(((u : Int) + ((s[a + 6]).toNat : Int) % 128 * 4398046511104) / 2) - 1), .int .i64 ((a : Int) + 6 + 1), .int .i64 0]) (by simp [results, Tryz.results110, go_sem]) rfl ⟨fin_ok HG.out HN.out (by omega), (Below.refl _ _).alloc (Nat.le_refl _) _⟩
        · have hN : ((u : Int) + ((s[a + 6]).toNat : Int) % 128 * 4398046511104) / 2 = num.unfold (u + (s[a + 6]).toNat * 128 ^ 6) := by unfold num.unfold; rw [if_neg (by omega)]; omega
          have HN := mkHid hN
          have hpar : (((u : Int) + ((s[a + 6]).toNat : Int) % 128 * 4398046511104) % 2 == 1) = false := by simpa using hp
          clear hN hp
          go_wp2
          exact bodyPost_ret (v := .agg #[.int .i64 (((u : Int) + ((s[a + 6]).toNat : Int) % 128 * 4398046511104) / 2), .int .i64 ((a : Int) + 6 + 1), .int .i64 0]) (by simp [results, Tryz.results110, go_sem]) rfl ⟨fin_ok HG.out HN.out (by omega), (Below.refl _ _).alloc (Nat.le_refl _) _⟩
      · have hb' : (u : Int) ≤ 562949953421311 := by omega
        clear hb
        have hz' : (((s[a + 7]).toNat : Int) == 0) = false := by simp; omega
        by_cases hp : ((u : Int) + ((s[a + 7]).toNat : Int) % 128 * 562949953421312) % 2 = 1
        · have hN : -(((u : Int) + ((s[a + 7]).toNat : Int) % 128 * 562949953421312) / 2) - 1 = num.unfold (u + (s[a + 7]).toNat * 128 ^ 7) := by unfold num.unfold; rw [if_pos (by omega)]; omega
          have HN := mkHid hN
          have hpar : (((u : Int) + ((s[a + 7]).toNat : Int) % 128 * 562949953421312) % 2 == 1) = true := by simpa using hp
          clear hN hp
          go_wp2
          exact bodyPost_ret (v := .agg #[.int .i64 (-(((u : Int) + ((s[a + 7]).toNat : Int) % 128 * 562949953421312) / 2) - 1), .int .i64 ((a : Int) + 7 + 1), .int .i64 0]) (by simp [results, Tryz.results110, go_sem]) rfl ⟨fin_ok HG.out HN.out (by omega), (Below.refl _ _).alloc (Nat.le_refl _) _⟩
        · have hN : ((u : Int) + ((s[a + 7]).toNat : Int) % 128 * 562949953421312) / 2 = num.unfold (u + (s[a + 7]).toNat * 128 ^ 7) := by unfold num.unfold; rw [if_neg (by omega)]; omega
          have HN := mkHid hN
          have hpar : (((u : Int) + ((s[a + 7]).toNat : Int) % 128 * 562949953421312) % 2 == 1) = false := by simpa using hp
          clear hN hp
          go_wp2
          exact bodyPost_ret (v := .agg #[.int .i64 (((u : Int) + ((s[a + 7]).toNat : Int) % 128 * 562949953421312) / 2), .int .i64 ((a : Int) + 7 + 1), .int .i64 0]) (by simp [results, Tryz.results110, go_sem]) rfl ⟨fin_ok HG.out HN.out (by omega), (Below.refl _ _).alloc (Nat.le_refl _) _⟩
      · have hb' : (u : Int) ≤ 72057594037927935 := by omega
        clear hb
        have hz' : (((s[a + 8]).toNat : Int) == 0) = false := by simp; omega
        by_cases hp : ((u : Int) + ((s[a + 8]).toNat : Int) % 128 * 72057594037927936) % 2 = 1
        · have hN : -(((u : Int) + ((s[a + 8]).toNat : Int) % 128 * 72057594037927936) / 2) - 1 = num.unfold (u + (s[a + 8]).toNat * 128 ^ 8) := by unfold num.unfold; rw [if_pos (by omega)]; omega
          have HN := mkHid hN
          have hpar : (((u : Int) + ((s[a + 8]).toNat : Int) % 128 * 72057594037927936) % 2 == 1) = true := by simpa using hp
          clear hN hp
          go_wp2
          exact bodyPost_ret (v := .agg #[.int .i64 (-(((u : Int) + ((s[a + 8]).toNat : Int) % 128 * 72057594037927936) / 2) - 1), .int .i64 ((a : Int) + 8 + 1), .int .i64 0]) (by simp [results, Tryz.results110, go_sem]) rfl ⟨fin_ok HG.out HN.out (by omega), (Below.refl _ _).alloc (Nat.le_refl _) _⟩
        · have hN : ((u : Int) + ((s[a + 8]).toNat : Int) % 128 * 72057594037927936) / 2 = num.unfold (u + (s[a + 8]).toNat * 128 ^ 8) := by unfold num.unfold; rw [if_neg (by omega)]; omega
          have HN := mkHid hN
          have hpar : (((u : Int) + ((s[a + 8]).toNat : Int) % 128 * 72057594037927936) % 2 == 1) = false := by simpa using hp
          clear hN hp
          go_wp2
          exact bodyPost_ret (v := .agg #[.int .i64 (((u : Int) + ((s[a + 8]).toNat : Int) % 128 * 72057594037927936) / 2), .int .i64 ((a : Int) + 8 + 1), .int .i64 0]) (by simp [results, Tryz.results110, go_sem]) rfl ⟨fin_ok HG.out HN.out (by omega), (Below.refl _ _).alloc (Nat.le_refl _) _⟩
    · have R := mkHid (at_more hat.out hk h9 (by omega))
      rcases hj8 with rfl | rfl | rfl | rfl | rfl | rfl | rfl | rfl | rfl
      · obtain rfl : u = 0 := by omega
        have hk0 : a < s.size := hk
        have hl0 : 128 ≤ (s[a]).toNat := by have := hl; simp only [Nat.add_zero] at this; omega
        have hl1 : (s[a]).toNat < 256 := hc
        have R0 : Hid (At s a 1 ((s[a]).toNat % 128)) := mkHid (by have e := R.out; simpa using e)
        have hk1 : (a : Int) < (s.size : Int) := by omega
        clear R hb hl hk hk' hc hz hsh h9 hat
        go_wp2
        exact ⟨⟨1, _, by omega, rfl, by go_num, R0⟩, by simp [intOf]⟩
      · have hb' : (u : Int) ≤ 127 := by omega
        clear hb
        go_wp2
        exact ⟨⟨2, _, by omega, rfl, by go_num, R⟩, by simp [intOf]⟩
      · have hb' : (u : Int) ≤ 16383 := by omega
        clear hb
        go_wp2
        exact ⟨⟨3, _, by omega, rfl, by go_num, R⟩, by simp [intOf]⟩
      · have hb' : (u : Int) ≤ 2097151 := by omega
        clear hb
        go_wp2
        exact ⟨⟨4, _, by omega, rfl, by go_num, R⟩, by simp [intOf]⟩
      · have hb' : (u : Int) ≤ 268435455 := by omega
        clear hb
        go_wp2
        exact ⟨⟨5, _, by omega, rfl, by go_num, R⟩, by simp [intOf]⟩
      · have hb' : (u : Int) ≤ 34359738367 := by omega
        clear hb
        go_wp2
        exact ⟨⟨6, _, by omega, rfl, by go_num, R⟩, by simp [intOf]⟩
      · have hb' : (u : Int) ≤ 4398046511103 := by omega
        clear hb
        go_wp2
        exact ⟨⟨7, _, by omega, rfl, by go_num, R⟩, by simp [intOf]⟩
      · have hb' : (u : Int) ≤ 562949953421311 := by omega
        clear hb
        go_wp2
        exact ⟨⟨8, _, by omega, rfl, by go_num, R⟩, by simp [intOf]⟩
      · have hb' : (u : Int) ≤ 72057594037927935 := by omega
        clear hb
        go_wp2
        exact ⟨⟨9, _, by omega, rfl, by go_num, R⟩, by simp [intOf]⟩

end Go.Proofs.YtmoojhnblakdhaaGreat.num
