/-
  A digest is the same, however the text is taken in parts: in plain numbers. No condition.
-/
import Derived.Test.YtaepdmeghfbngaaDoorDigS
namespace Go.Proofs.YtaepdmeghfbngaaDoor.sha
open Go.RowKit Go.Joins
open Go.Proofs.YtaepdmeghfbngaaDoor.base Go.Proofs.YtaepdmeghfbngaaDoor.word Go.Proofs.YtaepdmeghfbngaaDoor.ints Go.Proofs.YtaepdmeghfbngaaDoor.blk
set_option linter.unusedVariables false

theorem bt_extract (s : ByteArray) (a b i : Nat) (hb : b ≤ s.size) (hi : a + i < b) : Go.PlainAid.bt (s.extract a b) i = Go.PlainAid.bt s (a + i) := by
  unfold Go.PlainAid.bt
  rw [dif_pos (by simp; omega), dif_pos (by omega)]
  congr 2
  simp [ByteArray.getElem_eq_getElem_data]
theorem bt_left (p q : ByteArray) (i : Nat) (h : i < p.size) : Go.PlainAid.bt (p ++ q) i = Go.PlainAid.bt p i := by
  unfold Go.PlainAid.bt
  rw [dif_pos (by simp; omega), dif_pos h]
  congr 2
  simp [ByteArray.getElem_eq_getElem_data]
  exact Array.getElem_append_left h
theorem wordAt_congr {s t : ByteArray} {i : Nat} (h : ∀ j, j < 64 → Go.PlainAid.bt s j = Go.PlainAid.bt t j) (hi : i < 16) : wordAt s i = wordAt t i := by
  unfold wordAt b8
  rw [h _ (by omega), h _ (by omega), h _ (by omega), h _ (by omega)]
theorem W_congr {f g : Nat → Int} (h : ∀ i, i < 16 → f i = g i) : ∀ i, W f i = W g i := by
  intro i
  induction i using Nat.strongRecOn with
  | _ i ih =>
    by_cases hi : i < 16
    · rw [W_low _ hi, W_low _ hi, h i hi]
    · rw [W_next f (by omega), W_next g (by omega), ih (i - 16) (by omega), ih (i - 15) (by omega), ih (i - 7) (by omega), ih (i - 2) (by omega)]
theorem rounds_congr {f g : Nat → Int} (h : ∀ i, i < 16 → f i = g i) (r : Regs) : ∀ i, rounds f r i = rounds g r i := by
  intro i
  induction i with
  | zero => rfl
  | succ i ih => rw [rounds, rounds, ih, W_congr h]
theorem block_congr {z z' f g : Nat → Int} (hz : ∀ i, i < 8 → z i = z' i) (h : ∀ i, i < 16 → f i = g i) : ∀ i, i < 8 → block z f i = block z' g i := by
  intro i hi
  have hr : regs z = regs z' := by
    unfold regs
    rw [hz 0 (by omega), hz 1 (by omega), hz 2 (by omega), hz 3 (by omega), hz 4 (by omega), hz 5 (by omega), hz 6 (by omega), hz 7 (by omega)]
  unfold block
  rw [hz i hi, hr, rounds_congr h]

theorem after_congr {z z' : Nat → Int} (hz : ∀ i, i < 8 → z i = z' i) (s t : ByteArray) (n : Nat) (h : ∀ j, j < 64 * n → Go.PlainAid.bt s j = Go.PlainAid.bt t j) (hs : 64 * n ≤ s.size) (ht : 64 * n ≤ t.size) : ∀ i, i < 8 → after z s n i = after z' t n i := by
  induction n with
  | zero => exact hz
  | succ n ih =>
    intro i hi
    rw [after, after]
    refine block_congr (ih (fun j hj => h j (by omega)) (by omega) (by omega)) (fun k hk => wordAt_congr (fun j hj => ?_) hk) i hi
    rw [bt_extract _ _ _ _ (by omega) (by omega), bt_extract _ _ _ _ (by omega) (by omega), h _ (by omega)]

theorem after_add (z : Nat → Int) (s : ByteArray) (m : Nat) (hs : 64 * m ≤ s.size) : ∀ k, 64 * (m + k) ≤ s.size → ∀ i, i < 8 → after z s (m + k) i = after (after z s m) (s.extract (64 * m) s.size) k i := by
  intro k
  induction k with
  | zero => intro _ i hi; rfl
  | succ k ih =>
    intro hk i hi
    rw [← Nat.add_assoc, after, after]
    refine block_congr (ih (by omega)) (fun q hq => wordAt_congr (fun j hj => ?_) hq) i hi
    rw [bt_extract _ _ _ _ (by omega) (by omega), bt_extract _ _ _ _ (by simp; omega) (by omega), bt_extract _ _ _ _ (by omega) (by omega)]
    congr 1
    omega

/-- the numbers behind a text -/
def stOf (p : ByteArray) : List Int := list8 (after start p (p.size / 64))
theorem fn_list8 (f : Nat → Int) (i : Nat) (hi : i < 8) : fn (list8 f) i = f i := by
  unfold fn list8
  simp [List.getD, hi]
theorem list8_congr {f g : Nat → Int} (h : ∀ i, i < 8 → f i = g i) : list8 f = list8 g := by
  unfold list8
  apply List.map_congr_left
  intro i hi
  exact h i (by simpa using hi)

theorem rest_app (p q : ByteArray) : rest p ++ q = (p ++ q).extract (64 * (p.size / 64)) (p ++ q).size := by
  unfold rest
  apply ByteArray.ext
  simp
  have hp : p.data.size = p.size := rfl
  have hq : q.data.size = q.size := rfl
  have e0 : 64 * (p.size / 64) - p.size = 0 := by omega
  have e1 : p.data.extract (64 * (p.size / 64)) (p.size + q.size) = p.data.extract (64 * (p.size / 64)) p.size := by
    apply Array.ext
    · simp
    · intro i h1 h2; simp
  have e2 : q.data.extract 0 q.size = q.data := by
    apply Array.ext
    · simp
    · intro i h1 h2; simp
  rw [e0, e1, e2]

theorem st_app (p q : ByteArray) : list8 (after (fn (stOf p)) (rest p ++ q) ((rest p ++ q).size / 64)) = stOf (p ++ q) := by
  have hs : (p ++ q).size = p.size + q.size := by simp
  have hr : (rest p ++ q).size = p.size % 64 + q.size := by simp [rest_size]
  have hn : (p ++ q).size / 64 = p.size / 64 + (rest p ++ q).size / 64 := by rw [hs, hr]; omega
  unfold stOf
  refine list8_congr (fun i hi => ?_)
  rw [hn, after_add start (p ++ q) (p.size / 64) (by omega) _ (by omega) i hi, ← rest_app]
  refine after_congr (fun j hj => ?_) _ _ _ (fun j hj => rfl) (by omega) (by omega) i hi
  rw [fn_list8 _ j hj]
  exact after_congr (fun k hk => rfl) p (p ++ q) _ (fun k hk => (bt_left p q k (by omega)).symm) (by omega) (by omega) j hj

theorem ext_ext (s : ByteArray) (a b m : Nat) : (s.extract a (a + m)).extract b m = s.extract (a + b) (a + m) := by
  apply ByteArray.ext
  apply Array.ext
  · simp
  · intro i h1 h2
    simp [Nat.add_assoc]
theorem rest_rest (p q : ByteArray) : rest (rest p ++ q) = rest (p ++ q) := by
  have hs : (p ++ q).size = p.size + q.size := by simp
  have hr : (rest p ++ q).size = p.size % 64 + q.size := by simp [rest_size]
  have hn : 64 * ((p ++ q).size / 64) = 64 * (p.size / 64) + 64 * ((rest p ++ q).size / 64) := by rw [hs, hr]; omega
  show (rest p ++ q).extract (64 * ((rest p ++ q).size / 64)) (rest p ++ q).size = (p ++ q).extract (64 * ((p ++ q).size / 64)) (p ++ q).size
  have hsz : (p ++ q).size = 64 * (p.size / 64) + (rest p ++ q).size := by rw [hs, hr]; omega
  rw [hn]
  generalize (rest p ++ q).size = m at *
  rw [rest_app, hsz]
  exact ext_ext _ _ _ _

theorem A_u32 (a b : Int) : u32B (A a b) = true := by
  have := A_bd a b
  unfold u32B
  simp
  omega
theorem start_u32 : ∀ i, i < 8 → u32B (start i) = true := by decide
theorem after_u32 (s : ByteArray) : ∀ n i, i < 8 → u32B (after start s n i) = true := by
  intro n
  cases n with
  | zero => exact start_u32
  | succ n => intro i hi; exact A_u32 _ _
theorem st_right (p : ByteArray) (hp : (p.size : Int) ≤ 1099511627776) : hRight (stOf p) (rest p) p.size = true := by
  unfold hRight
  have h1 : (stOf p).all u32B = true := by
    unfold stOf list8
    rw [List.all_eq_true]
    intro z hz
    rw [List.mem_map] at hz
    obtain ⟨i, hi, rfl⟩ := hz
    exact after_u32 p _ i (by simpa using hi)
  rw [h1]
  simp [rest_size, stOf, list8_len]
  omega

theorem more_parts (p q : ByteArray) (hq : q.size ≤ 20000) (h : (p.size : Int) + q.size ≤ 1099511627776) : moreH (stOf p) (rest p) p.size q = (stOf (p ++ q), rest (p ++ q), ((p ++ q).size : Int)) := by
  unfold moreH
  rw [if_neg (by omega), if_neg (by rw [st_right p (by omega)]; simp; omega), st_app, rest_rest]
  simp
theorem digL_congr {f g : Nat → Int} : ∀ k, (∀ i, i < k → f i = g i) → digL f k = digL g k := by
  intro k
  induction k with
  | zero => intro _; rfl
  | succ k ih => intro h; rw [← digL_next, ← digL_next, ih (fun i hi => h i (by omega)), h k (by omega)]
theorem dig_congr {z z' : Nat → Int} (hz : ∀ i, i < 8 → z i = z' i) (r : ByteArray) (size : Int) : dig z r size = dig z' r size := by
  unfold dig
  have h : ∀ i, i < 8 → after z (r ++ ⟨(tail size).toArray⟩) ((r ++ (⟨(tail size).toArray⟩ : ByteArray)).size / 64) i = after z' (r ++ ⟨(tail size).toArray⟩) ((r ++ (⟨(tail size).toArray⟩ : ByteArray)).size / 64) i :=
    after_congr hz _ _ _ (fun j hj => rfl) (by omega) (by omega)
  rw [digL_congr 8 h]
theorem end_parts (p : ByteArray) (hp : p.size ≤ 20000) : endH (stOf p) (rest p) p.size = digest p := by
  unfold endH digest
  rw [if_pos (st_right p (by omega)), if_neg (by omega)]
  exact dig_congr (fun i hi => fn_list8 _ i hi) _ _
theorem start_parts : (startL, (⟨#[]⟩ : ByteArray), (0 : Int)) = (stOf ⟨#[]⟩, rest ⟨#[]⟩, (((⟨#[]⟩ : ByteArray).size : Nat) : Int)) := by rfl
end Go.Proofs.YtaepdmeghfbngaaDoor.sha
