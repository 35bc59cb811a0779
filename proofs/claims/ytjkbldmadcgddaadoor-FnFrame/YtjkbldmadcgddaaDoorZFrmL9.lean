/-
  What '==' and '!=' of two FrameOuts that are alike answer. No condition.
  The bytes of a right frame, read back, in plain words. No condition.
  laws.FnFrame answers true at all bytes: a drawn right frame is read back from its bytes; what is read of drawn bytes is told by just these bytes. Condition: the numbers of the rounds are there.
-/
import Derived.Test.YtjkbldmadcgddaaDoorAid
import Derived.Test.YtjkbldmadcgddaaDoorFrmQ
import Derived.Test.YtjkbldmadcgddaaDoorZFrmW
import Derived.Test.YtjkbldmadcgddaaDoorZFrmS
import Derived.Test.YtjkbldmadcgddaaDoorDigI
import Derived.Laws.StructEq
namespace Go.Proofs.YtjkbldmadcgddaaDoor.frm
open Go.RowKit Go.Joins
set_option linter.unusedVariables false

theorem fr_fields : Tryd.prog.underlying 24 = some (.struct (Tryd.prog.fieldsOf 24)) := by kernel_rfl
theorem fr_names : ((Tryd.prog.fieldsOf 24).toList.map fun f => (f.name, f.type, f.offset)) = [("K", 2, 0), ("M", 2, 1), ("Index", 2, 2), ("Size", 2, 3), ("Whole", 9, 4), ("Text", 9, 5)] := by kernel_rfl
theorem fr_held : Tryd.prog.stoodInHeld 24 = false := by kernel_rfl
theorem fo_fields : Tryd.prog.underlying 29 = some (.struct (Tryd.prog.fieldsOf 29)) := by kernel_rfl
theorem fo_names : ((Tryd.prog.fieldsOf 29).toList.map fun f => (f.name, f.type, f.offset)) = [("Frame", 24, 0), ("Code", 2, 6)] := by kernel_rfl
theorem fo_held : Tryd.prog.stoodInHeld 29 = false := by kernel_rfl
theorem fo_guard : Tryd.prog.eqGuardType Tryd.prog.depth 29 = false := by kernel_rfl
abbrev FV (k m i s : Int) (h x : ByteArray) : Array Value := #[.int .i64 k, .int .i64 m, .int .i64 i, .int .i64 s, .string h, .string x]
abbrev OV (k m i s : Int) (h x : ByteArray) (c : Int) : Array Value := #[.int .i64 k, .int .i64 m, .int .i64 i, .int .i64 s, .string h, .string x, .int .i64 c]
theorem fr_parts (k m i s : Int) (h x : ByteArray) (w : World) : (part 2 (FV k m i s h x) 0).run Tryd.prog w = .ok (.int .i64 k) w ∧ (part 2 (FV k m i s h x) 1).run Tryd.prog w = .ok (.int .i64 m) w ∧ (part 2 (FV k m i s h x) 2).run Tryd.prog w = .ok (.int .i64 i) w ∧ (part 2 (FV k m i s h x) 3).run Tryd.prog w = .ok (.int .i64 s) w ∧ (part 9 (FV k m i s h x) 4).run Tryd.prog w = .ok (.string h) w ∧ (part 9 (FV k m i s h x) 5).run Tryd.prog w = .ok (.string x) w := by
  refine ⟨?_, ?_, ?_, ?_, ?_, ?_⟩ <;> simp [go_sem]
theorem fo_parts (k m i s : Int) (h x : ByteArray) (c : Int) (w : World) : (part 24 (OV k m i s h x c) 0).run Tryd.prog w = .ok (.agg (FV k m i s h x)) w ∧ (part 2 (OV k m i s h x c) 6).run Tryd.prog w = .ok (.int .i64 c) w := by
  refine ⟨?_, ?_⟩ <;> simp [go_sem]
theorem fr_same (d : Nat) (k m i s : Int) (h x : ByteArray) (w : World) : (Op.equalIn (d + 2) 24 (.agg (FV k m i s h x)) (.agg (FV k m i s h x))).run Tryd.prog w = .ok true w := by
  rw [run_equalIn_struct (d := d + 1) w _ _ _ fr_fields fr_held]
  have h' := fr_names
  generalize (Tryd.prog.fieldsOf 24).toList = fs at h'
  obtain ⟨f1, l1, rfl, e1, h'⟩ := List.map_eq_cons_iff.1 h'
  obtain ⟨f2, l2, rfl, e2, h'⟩ := List.map_eq_cons_iff.1 h'
  obtain ⟨f3, l3, rfl, e3, h'⟩ := List.map_eq_cons_iff.1 h'
  obtain ⟨f4, l4, rfl, e4, h'⟩ := List.map_eq_cons_iff.1 h'
  obtain ⟨f5, l5, rfl, e5, h'⟩ := List.map_eq_cons_iff.1 h'
  obtain ⟨f6, l6, rfl, e6, h'⟩ := List.map_eq_cons_iff.1 h'
  obtain rfl := List.map_eq_nil_iff.1 h'
  simp at e1 e2 e3 e4 e5 e6
  obtain ⟨n1, t1, o1⟩ := e1
  obtain ⟨n2, t2, o2⟩ := e2
  obtain ⟨n3, t3, o3⟩ := e3
  obtain ⟨n4, t4, o4⟩ := e4
  obtain ⟨n5, t5, o5⟩ := e5
  obtain ⟨n6, t6, o6⟩ := e6
  have q1 : ∀ w, _ := fun w => (fr_parts k m i s h x w).1
  have q2 : ∀ w, _ := fun w => (fr_parts k m i s h x w).2.1
  have q3 : ∀ w, _ := fun w => (fr_parts k m i s h x w).2.2.1
  have q4 : ∀ w, _ := fun w => (fr_parts k m i s h x w).2.2.2.1
  have q5 : ∀ w, _ := fun w => (fr_parts k m i s h x w).2.2.2.2.1
  have q6 : ∀ w, _ := fun w => (fr_parts k m i s h x w).2.2.2.2.2
  have hu : Tryd.prog.underlying 2 = some (.int .i64) := by kernel_rfl
  have hv : Tryd.prog.underlying 9 = some .string := by kernel_rfl
  have hi : ∀ (x y : Int) (w : World), (Op.equalIn (d + 1) 2 (.int .i64 x) (.int .i64 y)).run Tryd.prog w = .ok (x == y) w := fun x y w => run_equalIn_int w d _ _ _ x y hu
  have hs : ∀ (x y : ByteArray) (w : World), (Op.equalIn (d + 1) 9 (.string x) (.string y)).run Tryd.prog w = .ok (x.toList == y.toList) w := fun x y w => run_equalIn_string w d _ x y hv
  simp [Op.eqFields, n1, t1, o1, n2, t2, o2, n3, t3, o3, n4, t4, o4, n5, t5, o5, n6, t6, o6, q1, q2, q3, q4, q5, q6, hi, hs]
theorem fo_same (k m i s : Int) (h x : ByteArray) (c : Int) (w : World) : (Op.equalIn 10000 29 (.agg (OV k m i s h x c)) (.agg (OV k m i s h x c))).run Tryd.prog w = .ok true w := by
  rw [run_equalIn_struct (d := 9999) w _ _ _ fo_fields fo_held]
  have h' := fo_names
  generalize (Tryd.prog.fieldsOf 29).toList = fs at h'
  obtain ⟨f1, l1, rfl, e1, h'⟩ := List.map_eq_cons_iff.1 h'
  obtain ⟨f2, l2, rfl, e2, h'⟩ := List.map_eq_cons_iff.1 h'
  obtain rfl := List.map_eq_nil_iff.1 h'
  simp at e1 e2
  obtain ⟨n1, t1, o1⟩ := e1
  obtain ⟨n2, t2, o2⟩ := e2
  have q1 : ∀ w, _ := fun w => (fo_parts k m i s h x c w).1
  have q2 : ∀ w, _ := fun w => (fo_parts k m i s h x c w).2
  have hu : Tryd.prog.underlying 2 = some (.int .i64) := by kernel_rfl
  have hi : ∀ (x y : Int) (w : World), (Op.equalIn 9999 2 (.int .i64 x) (.int .i64 y)).run Tryd.prog w = .ok (x == y) w := fun x y w => run_equalIn_int w 9998 _ _ _ x y hu
  have hf : ∀ w, (Op.equalIn 9999 24 (.agg (FV k m i s h x)) (.agg (FV k m i s h x))).run Tryd.prog w = .ok true w := fun w => fr_same 9997 k m i s h x w
  simp [Op.eqFields, n1, t1, o1, n2, t2, o2, q1, q2, hi, hf]
theorem fo_eq (k m i s : Int) (h x : ByteArray) (c : Int) (w : World) : (binOp .eql 29 (.agg (OV k m i s h x c)) (.agg (OV k m i s h x c))).run Tryd.prog w = .ok (.bool true) w := by
  rw [run_eql_struct, fo_same]
  rfl
theorem fo_ne (k m i s : Int) (h x : ByteArray) (c : Int) (w : World) : (binOp .neq 29 (.agg (OV k m i s h x c)) (.agg (OV k m i s h x c))).run Tryd.prog w = .ok (.bool false) w := by
  rw [run_neq_struct, fo_same]
  rfl
end Go.Proofs.YtjkbldmadcgddaaDoor.frm
namespace Go.Proofs.YtjkbldmadcgddaaDoor.frm
open Go.RowKit Go.Joins
open Go.Proofs.YtjkbldmadcgddaaDoor.base Go.Proofs.YtjkbldmadcgddaaDoor.blk Go.Proofs.YtjkbldmadcgddaaDoor.aid
open Go.Proofs.YtjkbldmadcgddaaDoor.sha (digest)
open Go.Proofs.YtjkbldmadcgddaaDoor.num (rd G G_ok)
set_option linter.unusedVariables false

theorem pow9 {u j : Nat} (h : u * 128 ^ j < 18446744073709551616) (h9 : j = 9) : u < 2 := by
  subst h9
  have e : (128 : Nat) ^ 9 = 9223372036854775808 := by decide +kernel
  rw [e] at h
  omega
theorem byte_small {u : Nat} (h : u < 256) : (UInt8.ofNat u).toNat = u := by
  rw [UInt8.toNat_ofNat']
  omega
theorem next_le {u j : Nat} (h : u * 128 ^ j < 18446744073709551616) : u / 128 * 128 ^ (j + 1) < 18446744073709551616 := by
  have e : u / 128 * 128 ^ (j + 1) = 128 * (u / 128) * 128 ^ j := by
    rw [Nat.pow_succ, Nat.mul_comm (128 ^ j) 128, ← Nat.mul_assoc, Nat.mul_comm (u / 128) 128]
  have k : 128 * (u / 128) * 128 ^ j ≤ u * 128 ^ j := Nat.mul_le_mul_right _ (Nat.mul_div_le u 128)
  omega

/-- the bytes of a number, read, tell it, whatever stands behind them -/
theorem rd_num : ∀ (u j v : Nat) (rest : List UInt8), u * 128 ^ j < 18446744073709551616 → (0 < j → 0 < u) → rd (num u ++ rest) j v = .ok (v + u * 128 ^ j, j + (num u).length) := by
  intro u
  induction u using Nat.strongRecOn with
  | _ u ih =>
    intro j v rest hb hp
    have h9 := pow9 hb
    rcases Nat.lt_or_ge u 128 with h | h
    · rw [num_small h]
      have e : [UInt8.ofNat u] ++ rest = UInt8.ofNat u :: rest := rfl
      rw [e, rd, byte_small (by omega), if_neg (by omega), if_pos h, if_neg (by omega)]
      rfl
    · rw [num_big h]
      have e : (UInt8.ofNat (u % 128 + 128) :: num (u / 128)) ++ rest = UInt8.ofNat (u % 128 + 128) :: (num (u / 128) ++ rest) := rfl
      rw [e, rd, byte_small (by omega), if_neg (by omega), if_neg (by omega), ih (u / 128) (by omega) (j + 1) _ rest (next_le hb) (by omega)]
      have e1 : (u % 128 + 128) % 128 = u % 128 := by omega
      have e2 : u / 128 * 128 ^ (j + 1) = 128 * (u / 128) * 128 ^ j := by
        rw [Nat.pow_succ, Nat.mul_comm (128 ^ j) 128, ← Nat.mul_assoc, Nat.mul_comm (u / 128) 128]
      have e3 : u % 128 * 128 ^ j + 128 * (u / 128) * 128 ^ j = u * 128 ^ j := by rw [← Nat.add_mul, Nat.mod_add_div]
      rw [e1, e2, Nat.add_assoc, e3]
      simp only [List.length_cons]
      have e4 : j + 1 + (num (u / 128)).length = j + ((num (u / 128)).length + 1) := by omega
      rw [e4]
theorem mid (A B C : ByteArray) : (A ++ B ++ C).extract A.size (A.size + B.size) = B := by
  apply ByteArray.ext
  apply Array.ext'
  have hA : A.data.toList.length = A.size := by rw [Array.length_toList]; rfl
  have hB : B.data.toList.length = B.size := by rw [Array.length_toList]; rfl
  simp only [ByteArray.data_extract, ByteArray.data_append, Array.toList_extract, Array.toList_append, List.extract_eq_take_drop]
  rw [List.append_assoc, ← hA, ← hB, List.drop_left, Nat.add_sub_cancel_left, List.take_left]
theorem front (A B : ByteArray) : (A ++ B).extract 0 A.size = A := by
  have h := mid ⟨#[]⟩ A B
  have e0 : (⟨#[]⟩ : ByteArray).size = 0 := rfl
  rw [e0, Nat.zero_add, sha.nil_app] at h
  exact h
theorem back (A B : ByteArray) : (A ++ B).extract A.size (A ++ B).size = B := by
  have h := mid A B ⟨#[]⟩
  have e : A ++ B ++ (⟨#[]⟩ : ByteArray) = A ++ B := by
    apply ByteArray.ext
    simp
  rw [e] at h
  rw [ByteArray.size_append]
  exact h
/-- a number between two texts is read, with the place behind it -/
theorem G_at (A C : ByteArray) (n : Int) (h0 : 0 ≤ n) (h1 : n ≤ 12000) (hs : (A ++ numB n ++ C).size ≤ 20000) : G (A ++ numB n ++ C) (A.size : Nat) = .ok (n, ((A.size + (numB n).size : Nat) : Int)) := by
  have hA : A.data.toList.length = A.size := by rw [Array.length_toList]; rfl
  have hd : (A ++ numB n ++ C).data.toList.drop A.size = base.num (2 * n.toNat) ++ C.data.toList := by
    simp only [ByteArray.data_append, Array.toList_append]
    rw [List.append_assoc, ← hA, List.drop_left]
    rfl
  have k := rd_num (2 * n.toNat) 0 0 C.data.toList (by simp; omega) (by omega)
  rw [← hd] at k
  have g := G_ok (a := A.size) hs k
  have e : num.unfold (0 + 2 * n.toNat * 128 ^ 0) = n := by
    unfold num.unfold
    simp
    omega
  rw [e] at g
  rw [g]
  have hl : (numB n).size = (base.num (2 * n.toNat)).length := by
    show (base.num (2 * n.toNat)).toArray.size = _
    simp
  rw [hl]
  congr 2
  omega
theorem back_read {k m i z : Int} {h x : ByteArray} (hf : frmB k m i z h x = true) : readF (frameB k m i z h x) = some (k, m, i, z, h, x) := by
  obtain ⟨p1, p2, p3, p4, p5, p6, p7, p8, p9, p10, _⟩ := frmB_parts hf
  have hx := shard_small (k := k) (n := z) p1 p7 p8
  have hh : h.size = 32 := by omega
  have b1 := numB_len (k := k) (by omega)
  have b2 := numB_len (k := m) (by omega)
  have b3 := numB_len (k := i) (by omega)
  have b4 := numB_len (k := z) (by omega)
  have s0 : (⟨#[70]⟩ : ByteArray).size = 1 := rfl
  have hd0 : (headB k m i z h ++ x).size ≤ 20000 := by unfold headB; simp only [ByteArray.size_append]; omega
  have hd := digest_len hd0
  have hsz : (frameB k m i z h x).size ≤ 20000 := by unfold frameB headB; simp only [ByteArray.size_append]; unfold headB at hd; omega
  have g1 : G (frameB k m i z h x) ((1 : Nat) : Int) = .ok (k, ((1 + (numB k).size : Nat) : Int)) := by
    have e : frameB k m i z h x = ⟨#[70]⟩ ++ numB k ++ (numB m ++ numB i ++ numB z ++ h ++ digest (headB k m i z h ++ x) ++ x) := by unfold frameB headB; simp only [ByteArray.append_assoc]
    rw [e] at hsz ⊢
    exact G_at _ _ k (by omega) (by omega) hsz
  have g2 : G (frameB k m i z h x) ((1 + (numB k).size : Nat) : Int) = .ok (m, ((1 + (numB k).size + (numB m).size : Nat) : Int)) := by
    have e : frameB k m i z h x = (⟨#[70]⟩ ++ numB k) ++ numB m ++ (numB i ++ numB z ++ h ++ digest (headB k m i z h ++ x) ++ x) := by unfold frameB headB; simp only [ByteArray.append_assoc]
    rw [e] at hsz ⊢
    have g := G_at _ _ m (by omega) (by omega) hsz
    rw [ByteArray.size_append, s0] at g
    exact g
  have g3 : G (frameB k m i z h x) ((1 + (numB k).size + (numB m).size : Nat) : Int) = .ok (i, ((1 + (numB k).size + (numB m).size + (numB i).size : Nat) : Int)) := by
    have e : frameB k m i z h x = (⟨#[70]⟩ ++ numB k ++ numB m) ++ numB i ++ (numB z ++ h ++ digest (headB k m i z h ++ x) ++ x) := by unfold frameB headB; simp only [ByteArray.append_assoc]
    rw [e] at hsz ⊢
    have g := G_at _ _ i (by omega) (by omega) hsz
    rw [ByteArray.size_append, ByteArray.size_append, s0] at g
    exact g
  have g4 : G (frameB k m i z h x) ((1 + (numB k).size + (numB m).size + (numB i).size : Nat) : Int) = .ok (z, ((1 + (numB k).size + (numB m).size + (numB i).size + (numB z).size : Nat) : Int)) := by
    have e : frameB k m i z h x = (⟨#[70]⟩ ++ numB k ++ numB m ++ numB i) ++ numB z ++ (h ++ digest (headB k m i z h ++ x) ++ x) := by unfold frameB headB; simp only [ByteArray.append_assoc]
    rw [e] at hsz ⊢
    have g := G_at _ _ z (by omega) (by omega) hsz
    rw [ByteArray.size_append, ByteArray.size_append, ByteArray.size_append, s0] at g
    exact g
  have hr : rdA (frameB k m i z h x) 4 1 [] = some ([k, m, i, z], 1 + (numB k).size + (numB m).size + (numB i).size + (numB z).size) := by
    rw [rdA_ok g1, rdA_ok g2, rdA_ok g3, rdA_ok g4]
    rfl
  have hp : (⟨#[70]⟩ ++ numB k ++ numB m ++ numB i ++ numB z : ByteArray).size = 1 + (numB k).size + (numB m).size + (numB i).size + (numB z).size := by simp only [ByteArray.size_append]; rfl
  have hhs : (headB k m i z h).size = 1 + (numB k).size + (numB m).size + (numB i).size + (numB z).size + 32 := by unfold headB; rw [ByteArray.size_append, hp, hh]
  have e1 : (frameB k m i z h x).extract (1 + (numB k).size + (numB m).size + (numB i).size + (numB z).size) (1 + (numB k).size + (numB m).size + (numB i).size + (numB z).size + 32) = h := by
    have q := mid (⟨#[70]⟩ ++ numB k ++ numB m ++ numB i ++ numB z) h (digest (headB k m i z h ++ x) ++ x)
    rw [hp, hh] at q
    have e : frameB k m i z h x = ⟨#[70]⟩ ++ numB k ++ numB m ++ numB i ++ numB z ++ h ++ (digest (headB k m i z h ++ x) ++ x) := by unfold frameB headB; simp only [ByteArray.append_assoc]
    rw [e]
    exact q
  have e2 : (frameB k m i z h x).extract (1 + (numB k).size + (numB m).size + (numB i).size + (numB z).size + 64) (frameB k m i z h x).size = x := by
    have q := back (headB k m i z h ++ digest (headB k m i z h ++ x)) x
    rw [ByteArray.size_append, hhs, hd] at q
    exact q
  have e3 : (frameB k m i z h x).extract 0 (1 + (numB k).size + (numB m).size + (numB i).size + (numB z).size + 32) = headB k m i z h := by
    have q := front (headB k m i z h) (digest (headB k m i z h ++ x) ++ x)
    rw [hhs, ← ByteArray.append_assoc] at q
    exact q
  have e4 : (frameB k m i z h x).extract (1 + (numB k).size + (numB m).size + (numB i).size + (numB z).size + 32) (1 + (numB k).size + (numB m).size + (numB i).size + (numB z).size + 64) = digest (headB k m i z h ++ x) := by
    have q := mid (headB k m i z h) (digest (headB k m i z h ++ x)) x
    rw [hhs, hd] at q
    exact q
  have hsx : (frameB k m i z h x).size = 1 + (numB k).size + (numB m).size + (numB i).size + (numB z).size + 64 + x.size := by unfold frameB; rw [ByteArray.size_append, ByteArray.size_append, hhs, hd]
  have h70 : (frameB k m i z h x).data.toList[0]? = some 70 := by
    have e : frameB k m i z h x = ⟨#[70]⟩ ++ (numB k ++ numB m ++ numB i ++ numB z ++ h ++ digest (headB k m i z h ++ x) ++ x) := by unfold frameB headB; simp only [ByteArray.append_assoc]
    rw [e]
    simp only [ByteArray.data_append, Array.toList_append]
    rfl
  unfold readF
  rw [if_neg (fun q => q.elim (fun q => by omega) (fun q => q h70)), hr]
  simp only
  rw [if_neg (by omega), e1, e2, e3, e4, if_pos ⟨hf, rfl⟩]
end Go.Proofs.YtjkbldmadcgddaaDoor.frm
namespace Go.Proofs.YtjkbldmadcgddaaDoor.fnframe
open Go.RowKit Go.Joins
open Go.Proofs.YtjkbldmadcgddaaDoor.base Go.Proofs.YtjkbldmadcgddaaDoor.blk Go.Proofs.YtjkbldmadcgddaaDoor.aid
open Go.Proofs.YtjkbldmadcgddaaDoor.frm
open Go.Proofs.YtjkbldmadcgddaaDoor.sha (GV)
open Go.Proofs.YtjkbldmadcgddaaDoor.draw (Row)
set_option linter.unusedVariables false
attribute [local go_sem ↓] fo_eq fo_ne
attribute [local go_sem] Oper.semAt_some fo_guard

theorem outF_back {k m i s : Int} {h x : ByteArray} (hf : frmB k m i s h x = true) : outF (fbytes k m i s h x) = .agg #[.int .i64 k, .int .i64 m, .int .i64 i, .int .i64 s, .string h, .string x, .int .i64 0] := by
  have h1 := draw.fbytes_len k m i s h x
  have h2 : fbytes k m i s h x = frameB k m i s h x := by unfold frm.fbytes; rw [if_pos hf]
  unfold frm.outF
  rw [if_neg (by omega), h2, back_read hf]
theorem fbytes_ne {k m i s : Int} {h x : ByteArray} (hf : frmB k m i s h x = true) : 0 < (fbytes k m i s h x).size := by
  unfold frm.fbytes
  rw [if_pos hf]
  unfold frm.frameB frm.headB
  have s0 : (⟨#[70]⟩ : ByteArray).size = 1 := rfl
  simp only [ByteArray.size_append, s0]
  omega
theorem outF_cases (u : ByteArray) : ∃ k m i s h x c, outF u = .agg #[.int .i64 k, .int .i64 m, .int .i64 i, .int .i64 s, .string h, .string x, .int .i64 c] ∧ (c = 0 → fbytes k m i s h x = u ∧ h.size ≤ 20000 ∧ x.size ≤ 20000) := by
  unfold frm.outF
  split
  · exact ⟨_, _, _, _, _, _, _, rfl, fun e => by cases e⟩
  · rename_i hu
    cases hr : readF u with
    | none => exact ⟨_, _, _, _, _, _, _, rfl, fun e => by cases e⟩
    | some o =>
      obtain ⟨k, m, i, s, h, x⟩ := o
      have h1 := readF_bytes hr
      refine ⟨_, _, _, _, _, _, _, rfl, fun _ => ⟨h1, ?_, ?_⟩⟩
      · unfold readF at hr
        split at hr
        · cases hr
        · split at hr
          · split at hr
            · cases hr
            · split at hr
              · cases hr
                simp
                omega
              · cases hr
          · cases hr
      · unfold readF at hr
        split at hr
        · cases hr
        · split at hr
          · split at hr
            · cases hr
            · split at hr
              · cases hr
                simp
                omega
              · cases hr
          · cases hr
theorem empty_ne {t : ByteArray} (h : 0 < t.size) : (t.toList == []) = false := by
  rw [ByteArray.toList_eq]
  have h1 : t.data.size = t.size := rfl
  cases hd : t.data.toList with
  | nil =>
    have : t.data.toList.length = 0 := by rw [hd]; rfl
    rw [Array.length_toList] at this
    omega
  | cons a r => rfl

set_option maxRecDepth 100000 in
set_option maxHeartbeats 4000000 in
theorem walk_in (a : Option Addr) (len cap : Nat) (b : Option Addr) (lenb capb : Nat) (w : World) (hG : GV w) (hl : len ≤ 1048576) (hr : Row w a len) (hlb : lenb ≤ 1048576) (hrb : Row w b lenb) :
    Calls Tryd.prog 3 #[.slice a len cap, .slice b lenb capb] w fun e w' => e = .returned (.bool true) ∧ Below w.heap.size w w' := by
  have hli : (len : Int) ≤ 1048576 := by omega
  have hlbi : (lenb : Int) ≤ 1048576 := by omega
  have HD := mkHid (draw.drawFrameBytes_any a len cap w hl hr)
  have HE := mkHid (fun wx (h : Row wx b lenb) => draw.drawFrameRead_any b lenb capb wx hlb h)
  have HR := mkHid hrb
  have HG := mkHid (fun wx (hb : Below w.heap.size w wx) => hG.below hb hG.lt)
  clear hl hr hlb hrb hG
  go_enter Tryd.func3, Tryd.ntmps3
  go_wp2_with fail
  refine HD.out.mono ?_
  rintro e w1 ⟨k, m, i, s, h, x, rfl, hh, hx, hb1⟩
  have K1 := mkHid (And.intro (hb1.alloc hb1.size (.cells #[.int .i64 k, .int .i64 m, .int .i64 i, .int .i64 s, .string h, .string x] 24)) (And.intro ((HR.out.below hb1).below (below_alloc1 w1 (.cells #[.int .i64 k, .int .i64 m, .int .i64 i, .int .i64 s, .string h, .string x] 24))) (blk_new w1 (.cells #[.int .i64 k, .int .i64 m, .int .i64 i, .int .i64 s, .string h, .string x] 24) w1.heap.size rfl)))
  clear hb1 HD HR
  have HBI := mkHid (fun wx (hb : Below w.heap.size w wx) => bytesI_any k m i s h x wx (by omega) (by omega) digI.digest_any (HG.out wx hb))
  have HBS := mkHid (fun wx => bytesS_any k m i s h x wx (by omega) (by omega))
  have HRi := mkHid (fun wx => frmI_any k m i s h x wx (by omega) (by omega))
  have htl := draw.fbytes_len k m i s h x
  have HRd := mkHid (fun wx (hb : Below w.heap.size w wx) => readI2_any (fbytes k m i s h x) wx (by omega) digI.digest_any (HG.out wx hb))
  obtain ⟨c0, c1, c2, c3, c4, c5⟩ := cel6 K1.out.2.2
  go_wp2_with fail
  refine (HBI.out _ K1.out.1).mono ?_
  rintro e w2 ⟨rfl, hb⟩
  have K2 := mkHid (And.intro (K1.out.1.trans (hb.mono K1.out.1.size)) (And.intro (K1.out.2.1.below hb) (blk_below K1.out.2.2 hb)))
  clear hb K1 HBI c0 c1 c2 c3 c4 c5
  obtain ⟨c0, c1, c2, c3, c4, c5⟩ := cel6 K2.out.2.2
  go_wp2_with fail
  refine (HBS.out _).mono ?_
  rintro e w3 ⟨rfl, hb⟩
  have K3 := mkHid (And.intro (K2.out.1.trans (hb.mono K2.out.1.size)) (And.intro (K2.out.2.1.below hb) (blk_below K2.out.2.2 hb)))
  clear hb K2 HBS c0 c1 c2 c3 c4 c5
  obtain ⟨c0, c1, c2, c3, c4, c5⟩ := cel6 K3.out.2.2
  have hee : (!(fbytes k m i s h x).toList == (fbytes k m i s h x).toList) = false := by simp
  cases hf : frmB k m i s h x with
  | false =>
    have et : fbytes k m i s h x = ⟨#[]⟩ := by unfold frm.fbytes; rw [hf]; rfl
    rw [hf] at HRi
    rw [et] at hee HRd ⊢
    clear et hf htl HRd
    go_wp2_with fail
    refine (HRi.out _).mono ?_
    rintro e w4 ⟨rfl, hb⟩
    have K4 := mkHid (And.intro (K3.out.1.trans (hb.mono K3.out.1.size)) (K3.out.2.1.below hb))
    clear hb K3 HRi c0 c1 c2 c3 c4 c5
    go_wp2_with fail
    go_quiet (fail)
    go_wp2_with fail
    refine (HE.out _ (by first | exact K4.out.2 | exact K4.out.2.below ⟨rfl, rfl, rfl, Nat.le_refl _, fun _ _ => rfl⟩)).mono ?_
    rintro e w5 ⟨u, rfl, hu, hb⟩
    have K5 := mkHid (K4.out.1.trans ((re (w := w4) hb rfl rfl rfl rfl).mono K4.out.1.size))
    clear hb K4 HE
    obtain ⟨k2, m2, i2, s2, h2, x2, c2, e2, hc2⟩ := outF_cases u
    have HR1 := mkHid (fun wx (hb : Below w.heap.size w wx) => readI2_any u wx (by omega) digI.digest_any (HG.out wx hb))
    have HR2 := mkHid (fun wx => readS_any u wx (by omega))
    rw [e2] at HR1 HR2
    clear e2
    go_wp2_with fail
    refine (HR1.out _ K5.out).mono ?_
    rintro e w6 ⟨rfl, hb⟩
    have K6 := mkHid (And.intro ((K5.out.trans (hb.mono K5.out.size)).alloc (K5.out.trans (hb.mono K5.out.size)).size (.cells #[.int .i64 k2, .int .i64 m2, .int .i64 i2, .int .i64 s2, .string h2, .string x2, .int .i64 c2] 29)) (blk_new w6 (.cells #[.int .i64 k2, .int .i64 m2, .int .i64 i2, .int .i64 s2, .string h2, .string x2, .int .i64 c2] 29) w6.heap.size rfl))
    obtain ⟨c0, c1, c2', c3, c4, c5, c6⟩ := cel7 K6.out.2
    clear hb K5 HR1
    by_cases hc : c2 = 0
    · subst hc
      have HB2 := mkHid (fun wx (hb : Below w.heap.size w wx) => bytesI_any k2 m2 i2 s2 h2 x2 wx (by have := (hc2 rfl).2.1; omega) (by have := (hc2 rfl).2.2; omega) digI.digest_any (HG.out wx hb))
      rw [(hc2 rfl).1] at HB2
      have huu : (u.toList == u.toList) = true := by simp
      clear hc2 HG
      go_wp2_with fail
      generalize w6.alloc (.cells #[.int .i64 k2, .int .i64 m2, .int .i64 i2, .int .i64 s2, .string h2, .string x2, .int .i64 0] 29) = V at *
      go_region_held3 (fun w' => w'.cell? ⟨w6.heap.size, 0, none⟩ = some (.int .i64 k2) ∧ w'.cell? ⟨w6.heap.size, 1, none⟩ = some (.int .i64 m2) ∧ w'.cell? ⟨w6.heap.size, 2, none⟩ = some (.int .i64 i2) ∧ w'.cell? ⟨w6.heap.size, 3, none⟩ = some (.int .i64 s2) ∧ w'.cell? ⟨w6.heap.size, 4, none⟩ = some (.string h2) ∧ w'.cell? ⟨w6.heap.size, 5, none⟩ = some (.string x2) ∧ w'.cell? ⟨w6.heap.size, 6, none⟩ = some (.int .i64 0)) (go_keep)
        ((first
          | (go_at_call 11; refine Calls.mono (HR2.out _) ?_; rintro e w7 ⟨rfl, hb⟩; have r7 := re (w := V) hb rfl rfl rfl rfl; have K7 := mkHid (And.intro (K6.out.1.trans (r7.mono K6.out.1.size)) (blk_below K6.out.2 r7)); obtain ⟨d0, d1, d2, d3, d4, d5, d6⟩ := cel7 K7.out.2; clear hb r7)
          | (go_at_call 6; refine Calls.mono (HB2.out _ (by first | exact K7.out.1 | exact K7.out.1.drew)) ?_; rintro e w8 ⟨rfl, hb⟩; have r8 := re (w := w7) hb rfl rfl rfl rfl; have K8 := mkHid (And.intro (K7.out.1.trans (r8.mono K7.out.1.size)) (blk_below K7.out.2 r8)); obtain ⟨g0, g1, g2, g3, g4, g5, g6⟩ := cel7 K8.out.2; clear hb r8)))
      go_wp2
      go_ret
      exact ⟨rfl, by first | exact K8.out.1 | exact K8.out.1.drew⟩
    · have hcn : (c2 != 0) = true := by simpa using hc
      have hcn2 : (c2 == 0) = false := by simpa using hc
      clear hc2 HG hc
      go_wp2_with fail
      generalize w6.alloc (.cells #[.int .i64 k2, .int .i64 m2, .int .i64 i2, .int .i64 s2, .string h2, .string x2, .int .i64 c2] 29) = V at *
      refine wp_region_held_drew (S := fun w' => w'.cell? ⟨w6.heap.size, 0, none⟩ = some (.int .i64 k2) ∧ w'.cell? ⟨w6.heap.size, 1, none⟩ = some (.int .i64 m2) ∧ w'.cell? ⟨w6.heap.size, 2, none⟩ = some (.int .i64 i2) ∧ w'.cell? ⟨w6.heap.size, 3, none⟩ = some (.int .i64 s2) ∧ w'.cell? ⟨w6.heap.size, 4, none⟩ = some (.string h2) ∧ w'.cell? ⟨w6.heap.size, 5, none⟩ = some (.string x2) ∧ w'.cell? ⟨w6.heap.size, 6, none⟩ = some (.int .i64 c2)) (by kernel_rfl) (by exact ⟨c0, c1, c2', c3, c4, c5, c6⟩) (fun hHeld => ?_)
      refine wpAnyH_take (i := 0) (oi := Oper.mk _ _ _ _ _ _) (v := ?_) rfl (by kernel_rfl) (by kernel_rfl) (by kernel_rfl) (fun _ _ _ h => h) (Or.inl ⟨by rfl, ?_⟩) (by assumption) ?_
      rotate_left
      · intro w hSw
        try dsimp only at hSw
        go_simp
        all_goals with_reducible rfl
      try simp only [Act.put, List.setIfInBounds_toArray, List.set_cons_zero, List.set_cons_succ]
      refine wpAnyH_take (i := 1) (oi := Oper.mk _ _ _ _ _ _) (v := ?_) rfl (by kernel_rfl) (by kernel_rfl) (by kernel_rfl) (fun _ _ _ h => h) (Or.inl ⟨by rfl, ?_⟩) (by assumption) ?_
      rotate_left
      · intro w hSw
        try dsimp only at hSw
        go_simp
        all_goals with_reducible rfl
      try simp only [Act.put, List.setIfInBounds_toArray, List.set_cons_zero, List.set_cons_succ]
      refine wpAnyH_ready (rs := [2]) (by kernel_rfl) (by simp) ?_
      refine AllReadyH.cons (o := Oper.mk _ _ _ _ _ _) rfl (fun K hK => ?_) AllReadyH.nil
      go_simp
      refine Calls.mono (HR2.out _) ?_
      rintro e w7 ⟨rfl, hb⟩
      have r7 := re (w := V) hb rfl rfl rfl rfl
      have K7 := mkHid (And.intro (K6.out.1.trans (r7.mono K6.out.1.size)) (blk_below K6.out.2 r7))
      obtain ⟨d0, d1, d2, d3, d4, d5, d6⟩ := cel7 K7.out.2
      clear hb r7
      show K _ _
      refine hK.out _ _ ⟨d0, d1, d2, d3, d4, d5, d6⟩ (fun hHeld => ?_)
      clear hK K
      try simp only [Act.put, List.setIfInBounds_toArray, List.set_cons_zero, List.set_cons_succ]
      refine wpAnyH_take (i := 3) (oi := Oper.mk _ _ _ _ _ _) (v := ?_) rfl (by kernel_rfl) (by kernel_rfl) (by kernel_rfl) (fun _ _ _ h => h) (Or.inl ⟨by rfl, ?_⟩) (by assumption) ?_
      rotate_left
      · intro w hSw
        try dsimp only at hSw
        go_simp
        all_goals with_reducible rfl
      try simp only [Act.put, List.setIfInBounds_toArray, List.set_cons_zero, List.set_cons_succ]
      refine wpAnyH_take (i := 4) (oi := Oper.mk _ _ _ _ _ _) (v := ?_) rfl (by kernel_rfl) (by kernel_rfl) (by kernel_rfl) (fun _ _ _ h => h) (Or.inl ⟨by rfl, ?_⟩) (by assumption) ?_
      rotate_left
      · intro w hSw
        try dsimp only at hSw
        go_simp
        all_goals with_reducible rfl
      try simp only [Act.put, List.setIfInBounds_toArray, List.set_cons_zero, List.set_cons_succ]
      refine wpAnyH_take (i := 5) (oi := Oper.mk _ _ _ _ _ _) (v := ?_) rfl (by kernel_rfl) (by kernel_rfl) (by kernel_rfl) (fun _ _ _ h => h) (Or.inl ⟨by rfl, ?_⟩) (by assumption) ?_
      rotate_left
      · intro w hSw
        try dsimp only at hSw
        go_simp
        all_goals with_reducible rfl
      try simp only [Act.put, List.setIfInBounds_toArray, List.set_cons_zero, List.set_cons_succ]
      refine wpAnyH_take (i := 6) (oi := Oper.mk _ _ _ _ _ _) (v := ?_) rfl (by kernel_rfl) (by kernel_rfl) (by kernel_rfl) (fun _ _ _ h => h) (Or.inl ⟨by rfl, ?_⟩) (by assumption) ?_
      rotate_left
      · intro w hSw
        try dsimp only at hSw
        go_simp
        all_goals with_reducible rfl
      try simp only [Act.put, List.setIfInBounds_toArray, List.set_cons_zero, List.set_cons_succ]
      refine wpAnyH_take (i := 7) (oi := Oper.mk _ _ _ _ _ _) (v := ?_) rfl (by kernel_rfl) (by kernel_rfl) (by kernel_rfl) (fun _ _ _ h => h) (Or.inl ⟨by rfl, ?_⟩) (by assumption) ?_
      rotate_left
      · intro w hSw
        try dsimp only at hSw
        go_simp
        all_goals with_reducible rfl
      try simp only [Act.put, List.setIfInBounds_toArray, List.set_cons_zero, List.set_cons_succ]
      refine wpAnyH_take (i := 8) (oi := Oper.mk _ _ _ _ _ _) (v := ?_) rfl (by kernel_rfl) (by kernel_rfl) (by kernel_rfl) (fun _ _ _ h => h) (Or.inl ⟨by rfl, ?_⟩) (by assumption) ?_
      rotate_left
      · intro w hSw
        try dsimp only at hSw
        go_simp
        all_goals with_reducible rfl
      try simp only [Act.put, List.setIfInBounds_toArray, List.set_cons_zero, List.set_cons_succ]
      refine wpAnyH_take (i := 9) (oi := Oper.mk _ _ _ _ _ _) (v := undef) rfl (by kernel_rfl) (by kernel_rfl) (by kernel_rfl) (fun _ _ _ h => h) (Or.inr ⟨by rfl, rfl⟩) (by assumption) ?_
      try simp only [Act.put, List.setIfInBounds_toArray, List.set_cons_zero, List.set_cons_succ]
      refine wpAnyH_take (i := 10) (oi := Oper.mk _ _ _ _ _ _) (v := undef) rfl (by kernel_rfl) (by kernel_rfl) (by kernel_rfl) (fun _ _ _ h => h) (Or.inr ⟨by rfl, rfl⟩) (by assumption) ?_
      try simp only [Act.put, List.setIfInBounds_toArray, List.set_cons_zero, List.set_cons_succ]
      refine wpAnyH_take (i := 11) (oi := Oper.mk _ _ _ _ _ _) (v := undef) rfl (by kernel_rfl) (by kernel_rfl) (by kernel_rfl) (fun _ _ _ h => h) (Or.inr ⟨by rfl, rfl⟩) (by assumption) ?_
      try simp only [Act.put, List.setIfInBounds_toArray, List.set_cons_zero, List.set_cons_succ]
      refine wpAnyH_take (i := 12) (oi := Oper.mk _ _ _ _ _ _) (v := undef) rfl (by kernel_rfl) (by kernel_rfl) (by kernel_rfl) (fun _ _ _ h => h) (Or.inr ⟨by rfl, rfl⟩) (by assumption) ?_
      try simp only [Act.put, List.setIfInBounds_toArray, List.set_cons_zero, List.set_cons_succ]
      refine wpAnyH_take (i := 13) (oi := Oper.mk _ _ _ _ _ _) (v := undef) rfl (by kernel_rfl) (by kernel_rfl) (by kernel_rfl) (fun _ _ _ h => h) (Or.inr ⟨by rfl, rfl⟩) (by assumption) ?_
      try simp only [Act.put, List.setIfInBounds_toArray, List.set_cons_zero, List.set_cons_succ]
      refine wpAnyH_take (i := 14) (oi := Oper.mk _ _ _ _ _ _) (v := ?_) rfl (by kernel_rfl) (by kernel_rfl) (by kernel_rfl) (fun _ _ _ h => h) (Or.inl ⟨by rfl, ?_⟩) (by assumption) ?_
      rotate_left
      · intro w hSw
        try dsimp only at hSw
        go_simp
        all_goals with_reducible rfl
      try simp only [Act.put, List.setIfInBounds_toArray, List.set_cons_zero, List.set_cons_succ]
      refine wpAnyH_take (i := 15) (oi := Oper.mk _ _ _ _ _ _) (v := ?_) rfl (by kernel_rfl) (by kernel_rfl) (by kernel_rfl) (fun _ _ _ h => h) (Or.inl ⟨by rfl, ?_⟩) (by assumption) ?_
      rotate_left
      · intro w hSw
        try dsimp only at hSw
        go_simp
        all_goals with_reducible rfl
      try simp only [Act.put, List.setIfInBounds_toArray, List.set_cons_zero, List.set_cons_succ]
      refine wpAnyH_take (i := 16) (oi := Oper.mk _ _ _ _ _ _) (v := ?_) rfl (by kernel_rfl) (by kernel_rfl) (by kernel_rfl) (fun _ _ _ h => h) (Or.inl ⟨by rfl, ?_⟩) (by assumption) ?_
      rotate_left
      · intro w hSw
        try dsimp only at hSw
        go_simp
        all_goals with_reducible rfl
      try simp only [Act.put, List.setIfInBounds_toArray, List.set_cons_zero, List.set_cons_succ]
      refine wpAnyH_done (by kernel_rfl) ?_ _
      go_wp2
      go_ret
      exact ⟨rfl, by first | exact K7.out.1 | exact K7.out.1.drew⟩
  | true =>
    have ht0 := empty_ne (fbytes_ne hf)
    have hob := outF_back hf
    rw [hf] at HRi
    rw [hob] at HRd
    generalize fbytes k m i s h x = t at *
    clear hob hf
    go_wp2_with fail
    refine (HRi.out _).mono ?_
    rintro e w4 ⟨rfl, hb⟩
    have K4 := mkHid (And.intro (K3.out.1.trans (hb.mono K3.out.1.size)) (And.intro (K3.out.2.1.below hb) (blk_below K3.out.2.2 hb)))
    clear hb K3 HRi c0 c1 c2 c3 c4 c5
    obtain ⟨c0, c1, c2, c3, c4, c5⟩ := cel6 K4.out.2.2
    go_wp2_with fail
    go_region_held3 (fun w' => w'.cell? ⟨w1.heap.size, 0, none⟩ = some (.int .i64 k) ∧ w'.cell? ⟨w1.heap.size, 1, none⟩ = some (.int .i64 m) ∧ w'.cell? ⟨w1.heap.size, 2, none⟩ = some (.int .i64 i) ∧ w'.cell? ⟨w1.heap.size, 3, none⟩ = some (.int .i64 s) ∧ w'.cell? ⟨w1.heap.size, 4, none⟩ = some (.string h) ∧ w'.cell? ⟨w1.heap.size, 5, none⟩ = some (.string x)) (go_keep)
      ((go_at_call 9; refine Calls.mono (HRd.out _ (by first | exact K4.out.1 | exact K4.out.1.drew)) ?_; rintro e w41 ⟨rfl, hb⟩; have r4 := re (w := w4) hb rfl rfl rfl rfl; have K41 := mkHid (And.intro (K4.out.1.trans (r4.mono K4.out.1.size)) (And.intro (K4.out.2.1.below r4) (blk_below K4.out.2.2 r4))); obtain ⟨d0, d1, d2, d3, d4, d5⟩ := cel6 K41.out.2.2; clear hb r4))
    clear d0 d1 d2 d3 d4 d5 c0 c1 c2 c3 c4 c5 K4 HRd
    go_wp2_with fail
    refine (HE.out _ (by first | exact K41.out.2.1 | exact K41.out.2.1.below ⟨rfl, rfl, rfl, Nat.le_refl _, fun _ _ => rfl⟩)).mono ?_
    rintro e w5 ⟨u, rfl, hu, hb⟩
    have K5 := mkHid (K41.out.1.trans ((re (w := w41) hb rfl rfl rfl rfl).mono K41.out.1.size))
    clear hb K41 HE
    obtain ⟨k2, m2, i2, s2, h2, x2, c2, e2, hc2⟩ := outF_cases u
    have HR1 := mkHid (fun wx (hb : Below w.heap.size w wx) => readI2_any u wx (by omega) digI.digest_any (HG.out wx hb))
    have HR2 := mkHid (fun wx => readS_any u wx (by omega))
    rw [e2] at HR1 HR2
    clear e2
    go_wp2_with fail
    refine (HR1.out _ K5.out).mono ?_
    rintro e w6 ⟨rfl, hb⟩
    have K6 := mkHid (And.intro ((K5.out.trans (hb.mono K5.out.size)).alloc (K5.out.trans (hb.mono K5.out.size)).size (.cells #[.int .i64 k2, .int .i64 m2, .int .i64 i2, .int .i64 s2, .string h2, .string x2, .int .i64 c2] 29)) (blk_new w6 (.cells #[.int .i64 k2, .int .i64 m2, .int .i64 i2, .int .i64 s2, .string h2, .string x2, .int .i64 c2] 29) w6.heap.size rfl))
    obtain ⟨c0, c1, c2', c3, c4, c5, c6⟩ := cel7 K6.out.2
    clear hb K5 HR1
    by_cases hc : c2 = 0
    · subst hc
      have HB2 := mkHid (fun wx (hb : Below w.heap.size w wx) => bytesI_any k2 m2 i2 s2 h2 x2 wx (by have := (hc2 rfl).2.1; omega) (by have := (hc2 rfl).2.2; omega) digI.digest_any (HG.out wx hb))
      rw [(hc2 rfl).1] at HB2
      have huu : (u.toList == u.toList) = true := by simp
      clear hc2 HG
      go_wp2_with fail
      generalize w6.alloc (.cells #[.int .i64 k2, .int .i64 m2, .int .i64 i2, .int .i64 s2, .string h2, .string x2, .int .i64 0] 29) = V at *
      go_region_held3 (fun w' => w'.cell? ⟨w6.heap.size, 0, none⟩ = some (.int .i64 k2) ∧ w'.cell? ⟨w6.heap.size, 1, none⟩ = some (.int .i64 m2) ∧ w'.cell? ⟨w6.heap.size, 2, none⟩ = some (.int .i64 i2) ∧ w'.cell? ⟨w6.heap.size, 3, none⟩ = some (.int .i64 s2) ∧ w'.cell? ⟨w6.heap.size, 4, none⟩ = some (.string h2) ∧ w'.cell? ⟨w6.heap.size, 5, none⟩ = some (.string x2) ∧ w'.cell? ⟨w6.heap.size, 6, none⟩ = some (.int .i64 0)) (go_keep)
        ((first
          | (go_at_call 11; refine Calls.mono (HR2.out _) ?_; rintro e w7 ⟨rfl, hb⟩; have r7 := re (w := V) hb rfl rfl rfl rfl; have K7 := mkHid (And.intro (K6.out.1.trans (r7.mono K6.out.1.size)) (blk_below K6.out.2 r7)); obtain ⟨d0, d1, d2, d3, d4, d5, d6⟩ := cel7 K7.out.2; clear hb r7)
          | (go_at_call 6; refine Calls.mono (HB2.out _ (by first | exact K7.out.1 | exact K7.out.1.drew)) ?_; rintro e w8 ⟨rfl, hb⟩; have r8 := re (w := w7) hb rfl rfl rfl rfl; have K8 := mkHid (And.intro (K7.out.1.trans (r8.mono K7.out.1.size)) (blk_below K7.out.2 r8)); obtain ⟨g0, g1, g2, g3, g4, g5, g6⟩ := cel7 K8.out.2; clear hb r8)))
      go_wp2
      go_ret
      exact ⟨rfl, by first | exact K8.out.1 | exact K8.out.1.drew⟩
    · have hcn : (c2 != 0) = true := by simpa using hc
      have hcn2 : (c2 == 0) = false := by simpa using hc
      clear hc2 HG hc
      go_wp2_with fail
      generalize w6.alloc (.cells #[.int .i64 k2, .int .i64 m2, .int .i64 i2, .int .i64 s2, .string h2, .string x2, .int .i64 c2] 29) = V at *
      refine wp_region_held_drew (S := fun w' => w'.cell? ⟨w6.heap.size, 0, none⟩ = some (.int .i64 k2) ∧ w'.cell? ⟨w6.heap.size, 1, none⟩ = some (.int .i64 m2) ∧ w'.cell? ⟨w6.heap.size, 2, none⟩ = some (.int .i64 i2) ∧ w'.cell? ⟨w6.heap.size, 3, none⟩ = some (.int .i64 s2) ∧ w'.cell? ⟨w6.heap.size, 4, none⟩ = some (.string h2) ∧ w'.cell? ⟨w6.heap.size, 5, none⟩ = some (.string x2) ∧ w'.cell? ⟨w6.heap.size, 6, none⟩ = some (.int .i64 c2)) (by kernel_rfl) (by exact ⟨c0, c1, c2', c3, c4, c5, c6⟩) (fun hHeld => ?_)
      refine wpAnyH_take (i := 0) (oi := Oper.mk _ _ _ _ _ _) (v := ?_) rfl (by kernel_rfl) (by kernel_rfl) (by kernel_rfl) (fun _ _ _ h => h) (Or.inl ⟨by rfl, ?_⟩) (by assumption) ?_
      rotate_left
      · intro w hSw
        try dsimp only at hSw
        go_simp
        all_goals with_reducible rfl
      try simp only [Act.put, List.setIfInBounds_toArray, List.set_cons_zero, List.set_cons_succ]
      refine wpAnyH_take (i := 1) (oi := Oper.mk _ _ _ _ _ _) (v := ?_) rfl (by kernel_rfl) (by kernel_rfl) (by kernel_rfl) (fun _ _ _ h => h) (Or.inl ⟨by rfl, ?_⟩) (by assumption) ?_
      rotate_left
      · intro w hSw
        try dsimp only at hSw
        go_simp
        all_goals with_reducible rfl
      try simp only [Act.put, List.setIfInBounds_toArray, List.set_cons_zero, List.set_cons_succ]
      refine wpAnyH_ready (rs := [2]) (by kernel_rfl) (by simp) ?_
      refine AllReadyH.cons (o := Oper.mk _ _ _ _ _ _) rfl (fun K hK => ?_) AllReadyH.nil
      go_simp
      refine Calls.mono (HR2.out _) ?_
      rintro e w7 ⟨rfl, hb⟩
      have r7 := re (w := V) hb rfl rfl rfl rfl
      have K7 := mkHid (And.intro (K6.out.1.trans (r7.mono K6.out.1.size)) (blk_below K6.out.2 r7))
      obtain ⟨d0, d1, d2, d3, d4, d5, d6⟩ := cel7 K7.out.2
      clear hb r7
      show K _ _
      refine hK.out _ _ ⟨d0, d1, d2, d3, d4, d5, d6⟩ (fun hHeld => ?_)
      clear hK K
      try simp only [Act.put, List.setIfInBounds_toArray, List.set_cons_zero, List.set_cons_succ]
      refine wpAnyH_take (i := 3) (oi := Oper.mk _ _ _ _ _ _) (v := ?_) rfl (by kernel_rfl) (by kernel_rfl) (by kernel_rfl) (fun _ _ _ h => h) (Or.inl ⟨by rfl, ?_⟩) (by assumption) ?_
      rotate_left
      · intro w hSw
        try dsimp only at hSw
        go_simp
        all_goals with_reducible rfl
      try simp only [Act.put, List.setIfInBounds_toArray, List.set_cons_zero, List.set_cons_succ]
      refine wpAnyH_take (i := 4) (oi := Oper.mk _ _ _ _ _ _) (v := ?_) rfl (by kernel_rfl) (by kernel_rfl) (by kernel_rfl) (fun _ _ _ h => h) (Or.inl ⟨by rfl, ?_⟩) (by assumption) ?_
      rotate_left
      · intro w hSw
        try dsimp only at hSw
        go_simp
        all_goals with_reducible rfl
      try simp only [Act.put, List.setIfInBounds_toArray, List.set_cons_zero, List.set_cons_succ]
      refine wpAnyH_take (i := 5) (oi := Oper.mk _ _ _ _ _ _) (v := ?_) rfl (by kernel_rfl) (by kernel_rfl) (by kernel_rfl) (fun _ _ _ h => h) (Or.inl ⟨by rfl, ?_⟩) (by assumption) ?_
      rotate_left
      · intro w hSw
        try dsimp only at hSw
        go_simp
        all_goals with_reducible rfl
      try simp only [Act.put, List.setIfInBounds_toArray, List.set_cons_zero, List.set_cons_succ]
      refine wpAnyH_take (i := 6) (oi := Oper.mk _ _ _ _ _ _) (v := ?_) rfl (by kernel_rfl) (by kernel_rfl) (by kernel_rfl) (fun _ _ _ h => h) (Or.inl ⟨by rfl, ?_⟩) (by assumption) ?_
      rotate_left
      · intro w hSw
        try dsimp only at hSw
        go_simp
        all_goals with_reducible rfl
      try simp only [Act.put, List.setIfInBounds_toArray, List.set_cons_zero, List.set_cons_succ]
      refine wpAnyH_take (i := 7) (oi := Oper.mk _ _ _ _ _ _) (v := ?_) rfl (by kernel_rfl) (by kernel_rfl) (by kernel_rfl) (fun _ _ _ h => h) (Or.inl ⟨by rfl, ?_⟩) (by assumption) ?_
      rotate_left
      · intro w hSw
        try dsimp only at hSw
        go_simp
        all_goals with_reducible rfl
      try simp only [Act.put, List.setIfInBounds_toArray, List.set_cons_zero, List.set_cons_succ]
      refine wpAnyH_take (i := 8) (oi := Oper.mk _ _ _ _ _ _) (v := ?_) rfl (by kernel_rfl) (by kernel_rfl) (by kernel_rfl) (fun _ _ _ h => h) (Or.inl ⟨by rfl, ?_⟩) (by assumption) ?_
      rotate_left
      · intro w hSw
        try dsimp only at hSw
        go_simp
        all_goals with_reducible rfl
      try simp only [Act.put, List.setIfInBounds_toArray, List.set_cons_zero, List.set_cons_succ]
      refine wpAnyH_take (i := 9) (oi := Oper.mk _ _ _ _ _ _) (v := undef) rfl (by kernel_rfl) (by kernel_rfl) (by kernel_rfl) (fun _ _ _ h => h) (Or.inr ⟨by rfl, rfl⟩) (by assumption) ?_
      try simp only [Act.put, List.setIfInBounds_toArray, List.set_cons_zero, List.set_cons_succ]
      refine wpAnyH_take (i := 10) (oi := Oper.mk _ _ _ _ _ _) (v := undef) rfl (by kernel_rfl) (by kernel_rfl) (by kernel_rfl) (fun _ _ _ h => h) (Or.inr ⟨by rfl, rfl⟩) (by assumption) ?_
      try simp only [Act.put, List.setIfInBounds_toArray, List.set_cons_zero, List.set_cons_succ]
      refine wpAnyH_take (i := 11) (oi := Oper.mk _ _ _ _ _ _) (v := undef) rfl (by kernel_rfl) (by kernel_rfl) (by kernel_rfl) (fun _ _ _ h => h) (Or.inr ⟨by rfl, rfl⟩) (by assumption) ?_
      try simp only [Act.put, List.setIfInBounds_toArray, List.set_cons_zero, List.set_cons_succ]
      refine wpAnyH_take (i := 12) (oi := Oper.mk _ _ _ _ _ _) (v := undef) rfl (by kernel_rfl) (by kernel_rfl) (by kernel_rfl) (fun _ _ _ h => h) (Or.inr ⟨by rfl, rfl⟩) (by assumption) ?_
      try simp only [Act.put, List.setIfInBounds_toArray, List.set_cons_zero, List.set_cons_succ]
      refine wpAnyH_take (i := 13) (oi := Oper.mk _ _ _ _ _ _) (v := undef) rfl (by kernel_rfl) (by kernel_rfl) (by kernel_rfl) (fun _ _ _ h => h) (Or.inr ⟨by rfl, rfl⟩) (by assumption) ?_
      try simp only [Act.put, List.setIfInBounds_toArray, List.set_cons_zero, List.set_cons_succ]
      refine wpAnyH_take (i := 14) (oi := Oper.mk _ _ _ _ _ _) (v := ?_) rfl (by kernel_rfl) (by kernel_rfl) (by kernel_rfl) (fun _ _ _ h => h) (Or.inl ⟨by rfl, ?_⟩) (by assumption) ?_
      rotate_left
      · intro w hSw
        try dsimp only at hSw
        go_simp
        all_goals with_reducible rfl
      try simp only [Act.put, List.setIfInBounds_toArray, List.set_cons_zero, List.set_cons_succ]
      refine wpAnyH_take (i := 15) (oi := Oper.mk _ _ _ _ _ _) (v := ?_) rfl (by kernel_rfl) (by kernel_rfl) (by kernel_rfl) (fun _ _ _ h => h) (Or.inl ⟨by rfl, ?_⟩) (by assumption) ?_
      rotate_left
      · intro w hSw
        try dsimp only at hSw
        go_simp
        all_goals with_reducible rfl
      try simp only [Act.put, List.setIfInBounds_toArray, List.set_cons_zero, List.set_cons_succ]
      refine wpAnyH_take (i := 16) (oi := Oper.mk _ _ _ _ _ _) (v := ?_) rfl (by kernel_rfl) (by kernel_rfl) (by kernel_rfl) (fun _ _ _ h => h) (Or.inl ⟨by rfl, ?_⟩) (by assumption) ?_
      rotate_left
      · intro w hSw
        try dsimp only at hSw
        go_simp
        all_goals with_reducible rfl
      try simp only [Act.put, List.setIfInBounds_toArray, List.set_cons_zero, List.set_cons_succ]
      refine wpAnyH_done (by kernel_rfl) ?_ _
      go_wp2
      go_ret
      exact ⟨rfl, by first | exact K7.out.1 | exact K7.out.1.drew⟩
theorem walk (a : Option Addr) (len cap : Nat) (b : Option Addr) (lenb capb : Nat) (w : World) (hG : GV w) (hl : (len : Int) ≤ 9223372036854775807) (hr : Row w a len) (hlb : (lenb : Int) ≤ 9223372036854775807) (hrb : Row w b lenb) :
    Calls Tryd.prog 3 #[.slice a len cap, .slice b lenb capb] w fun e w' => e = .returned (.bool true) ∧ Below w.heap.size w w' := by
  by_cases h0 : 1048576 < (len : Int)
  · clear hr hrb hG
    go_enter Tryd.func3, Tryd.ntmps3
    go_wp2
    go_ret
    exact ⟨rfl, Below.refl _ _⟩
  by_cases h1 : 1048576 < (lenb : Int)
  · have h0' : (len : Int) ≤ 1048576 := by omega
    clear hr hrb hG
    go_enter Tryd.func3, Tryd.ntmps3
    go_wp2
    go_ret
    exact ⟨rfl, Below.refl _ _⟩
  exact walk_in a len cap b lenb capb w hG (by omega) hr (by omega) hrb
end Go.Proofs.YtjkbldmadcgddaaDoor.fnframe
